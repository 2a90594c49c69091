import PyProof.Rows.All
import Wide.All
import OpenK.AllK
import Wide.FinOn
import Lean
import PyProof.EqAt
import PyProof.EqKinds
import PyProof.TupleCall
import PyProof.FactsAll.range
import PySem.Challenge.RW_plait_k64_legal
set_option Elab.async false
set_option linter.all false
set_option maxRecDepth 100000
namespace PySem.W.Fast
def tw2117277381718179028:=0
def tw4899062358618559625:=0
def tw12608918198260809049:=0
def tw16587136161099931849:=0
def tw15759956201149061210:=0
def tw5618230981688562834:=0
def tw1514286278298015419:=0
def tw3998920921768200738:=0
def tw1488257266686841629:=0
def tw18161979200602494504:=0
def tw6806718192093961406:=0
def tw10171577346724637993:=0
def tw11342063905517261204:=0
def tw7792451954960883613:=0
def tw10799158106116820780:=0
def tw3604405549021710338:=0
def tw11147792822874426192:=0
def tw3982538838800262859:=0
def tw11571250375547281685:=0
def tw1898400341757897383:=0
def tw18175118855403322956:=0
def tw16623834879479719133:=0
def tw2902075682415229047:=0
def tw1820512242095076457:=0
def tw535326314860432494:=0
def tw14156454409751965912:=0
def tw656251800957609397:=0
def tw17074627601535663952:=0
def tw8886146760875183297:=0
def tw8559288628839182086:=0
def tw9669458107888812372:=0
def tw15777658122208501011:=0
def tw10373606581215952993:=0
def tw17484706252341675100:=0
def tw13568562895311238808:=0
def tw4961139946857133846:=0
def tw2610862256316629077:=0
def tw1832963755549297338:=0
def tw6201569187593722289:=0
def tw3695495727141239472:=0
def tw739875656245039650:=0
def tw9582441300231089332:=0
def tw17124792849763560463:=0
def tw9609591752293134823:=0
def tw1515433710545756140:=0
def tw6360339436539627049:=0
def tw11336247327170167785:=0
def tw8922578297557959286:=0
def tw11710832845460696083:=0
def tw17735417744803370116:=0
def tw7957639543045785957:=0
def tw6768438170226520360:=0
def tw9871059288864421806:=0
def tw6944612756778168409:=0
def tw6328881477084267484:=0
def tw8537666154257963398:=0
def tw14650716123712803297:=0
def tw13537384207179154748:=0
def tw7577216070674269815:=0
def tw2640301967710235221:=0
def tw12845641925457807152:=0
def tw10239215604803218118:=0
def tw2161224994033385313:=0
def tw2274653440632975934:=0
def tw8333663410934498158:=0
def tw9244130709401741930:=0
def tw8405305189972172960:=0
def tw2824217625975653057:=0
def tw13671623421135018136:=0
def tw2307646753068460172:=0
def tw11866797091009569865:=0
def tw4013967311428854102:=0
def tw8557385044511937487:=0
def tw5443329820046100714:=0
def tw16808134946197223816:=0
def tw12088377762131998744:=0
def tw15729074814517079895:=0
def tw3324401936491420856:=0
def tw17040401580405033316:=0
def tw6115427564696208170:=0
def tw6737025033014782057:=0
def tw10770172020174272160:=0
def tw12866227665447425940:=0
def tw1574120415407556212:=0
def tw6175629427129434817:=0
def tw12333860659763381484:=0
def tw2509909309093845298:=0
def tw5213526705060010121:=0
def tw13203417759148840099:=0
def tw8729149919974000495:=0
def tw11517000976434254377:=0
def tw3581263930892155989:=0
def tw10742846982322216016:=0
def tw15512480024564689341:=0
def tw2852027034277503594:=0
def tw8281436548473502276:=0
def tw131015473752428824:=0
def tw18331113844849618953:=0
def tw5468982882239349361:=0
def tw8750566790083702587:=0
def tw531265534961858836:=0
def tw1893310338498511701:=0
def tw991250849226659087:=0
def tw16336816591801066575:=0
def tw15773664423456933142:=0
def tw6818442346264122191:=0
def tw11799339968417717776:=0
def tw1360954933405283609:=0
def tw9775876823602163890:=0
def tw2938910570296386971:=0
def tw10826363013412021833:=0
def tw11884117985729926736:=0
def tw10896108509902246711:=0
def tw5700204868159542752:=0
def tw16296549883896218152:=0
def tw13554164742143881279:=0
def tw6894265287670691197:=0
def tw1345001893798254443:=0
def tw13351491124445020005:=0
def tw9456837183804115524:=0
def tw4304829212400117135:=0
def tw1850800588313790305:=0
def tw17475740506022301161:=0
def tw10224936211426000753:=0
def tw8875768594349771104:=0
def tw5575780712261321705:=0
def tw4420412223597821754:=0
def tw9596324469883775314:=0
def tw15804380715126687609:=0
def tw12977273738941133160:=0
def tw14091078710856206336:=0
def tw16920457280498260437:=0
def tw4955832456051381404:=0
def tw13902294076633065021:=0
def tw7314124197313227847:=0
def tw849204336706216911:=0
def tw8430793313696480588:=0
def tw18277366982220641086:=0
def tw14967652469273728083:=0
def tw14611367102815995163:=0
def tw8286993776083672269:=0
def tw519330400183962320:=0
def tw3424649897592094007:=0
def tw12473176120727187665:=0
def tw12007208419906487778:=0
def tw7906083200637525760:=0
def tw2327653965471711249:=0
def tw4670664378233762108:=0
def tw7531280636786318354:=0
def tw11866714747575527558:=0
def tw2376215832025909442:=0
def tw9391884161764360911:=0
def tw15318769115775979176:=0
def tw7839285093989081811:=0
def tw7252373742746972340:=0
def tw5775382013173992013:=0
def tw15226579548122387557:=0
def tw10731819171011801017:=0
def tw13382514936221426559:=0
def tw7309466255420361919:=0
def tw2575818124540723176:=0
def tw14517977196886402734:=0
def tw17113581131756312853:=0
def tw15535595295686488528:=0
def tw14187643966254327339:=0
def tw3258798536419723410:=0
def tw14943325111731736398:=0
def tw12391090340309006479:=0
def tw8340068957737387187:=0
def tw10631025188526315271:=0
def tw10831416956474090250:=0
def tw10470185642210971627:=0
def tw5559714067050481614:=0
def tw9992718635311577582:=0
def tw4980655709454755530:=0
def tw3722536836743012286:=0
def tw3089433903857152253:=0
def tw1789706462495731689:=0
def tw11262006163664555692:=0
def tw10566512839875152097:=0
def tw10262509050975818646:=0
def tw12999507027627775402:=0
def tw16847392186186680949:=0
def tw15894212222322797386:=0
def tw5773833231377636781:=0
def tw18435336589000931194:=0
def tw6069685463404465859:=0
def tw13294951401982596729:=0
def tw9419130867495397772:=0
def tw7372873184842791769:=0
def tw10984185306909163:=0
def tw1572302347550767328:=0
def tw15633992975748138611:=0
def tw12140996256554114340:=0
def tw10839583290980506549:=0
def tw18122945991843261219:=0
def tw14095396125907459695:=0
def tw3515661418632239503:=0
def tw3258164661173987404:=0
def tw17608602024389635922:=0
def tw744621025060137144:=0
def tw15538680758897568841:=0
def tw11655299506447997118:=0
def tw17333308014331129956:=0
def tw14837859602447756193:=0
def tw4656365135056239366:=0
def tw1247796268905837702:=0
def tw7253536626450921123:=0
def tw9044887951536037407:=0
def tw16097298844932216267:=0
def tw14205430221160233767:=0
def tw11591247506782958224:=0
def tw5486647724693796770:=0
def tw6894670351748571164:=0
def tw2003798306230426359:=0
def tw12767192173711480874:=0
def tw9017037327054160217:=0
def tw9754804287540177992:=0
def tw8894335868372278516:=0
def tw11363861467637452119:=0
def tw6481267470943287707:=0
def tw17231712619117800075:=0
def tw519473100957137940:=0
def tw15158464307524094891:=0
def tw10794127190634252203:=0
def tw13595356147135490945:=0
def tw2827321650526477781:=0
def tw17097951179119200781:=0
def tw10124722832213710915:=0
def tw5657031391132063307:=0
def tw11745967837208750063:=0
def tw8331129127766017353:=0
def tw13440420739379735515:=0
def tw16720707734604454405:=0
def tw6457670665458785412:=0
def tw8961797903172171154:=0
def tw15159101814845966559:=0
def tw7127676994516759973:=0
def tw2843367376485325336:=0
def tw16007427115754785256:=0
def tw12331513226521076115:=0
def tw9618071415741101580:=0
def tw6697329963981309056:=0
def tw14151638032951145219:=0
def tw7396005561149408715:=0
def tw13556278016316578858:=0
def tw4799239162232352545:=0
def tw2851508489328622249:=0
def tw16446878562330005222:=0
def tw5671773017104616554:=0
def tw8484896504544390715:=0
def tw16644282405477730452:=0
def tw6530953106387248414:=0
def tw5365988336975891156:=0
def tw6947907369631897950:=0
def tw2462614731969789614:=0
def tw16564667056588682183:=0
def tw1479262740332841739:=0
def tw4159470335718246386:=0
def tw5521930980066353106:=0
def tw13275063215949234010:=0
def tw13076433085372044601:=0
def tw6885724928200002062:=0
def tw6533431933913599060:=0
def tw258906771458011232:=0
def tw6208874140385957404:=0
def tw2843779724755922143:=0
def tw10975151500151146720:=0
def tw17600278840281688666:=0
def tw162882499745936518:=0
def tw12861151458623952394:=0
def tw9857890028970650788:=0
def tw9616496188587968504:=0
def tw9449631126931833041:=0
def tw9369477135854523226:=0
def tw9188041070494858684:=0
def tw9116732922972299760:=0
def tw9091557470308957879:=0
def tw8887976726812411318:=0
def tw8715424300112903995:=0
def tw8656187685638092316:=0
def tw840827976094974804:=0
def tw8320857422040477895:=0
def tw8133418097760218721:=0
def tw7743672239923657615:=0
def tw7736032642815493795:=0
def tw7589540217550353269:=0
def tw74289093862253514:=0
def tw7427589733326305258:=0
def tw7151245439779100652:=0
def tw7062427969189556511:=0
def tw7032216505401402312:=0
def tw6983558224859635458:=0
def tw6949045737530505488:=0
def tw6408136782195794661:=0
def tw6267329794883927070:=0
def tw5964662195009570133:=0
def tw5807938608070888278:=0
def tw5773287720203359831:=0
def tw5747793299771438617:=0
def tw5723358491019606216:=0
def tw5721291530066822793:=0
def tw5260405373549626053:=0
def tw5242305852675115605:=0
def tw5201163362225455881:=0
def tw4852883949067108753:=0
def tw421707937136919457:=0
def tw3588188859764142267:=0
def tw3480067563127750768:=0
def tw2916633322334635150:=0
def tw2889785079936565073:=0
def tw2848064834597090425:=0
def tw2790369681709538900:=0
def tw2725114141382552713:=0
def tw2682119120391149513:=0
def tw2627076386763164488:=0
def tw2560329337456296273:=0
def tw237895810393370627:=0
def tw2361995985801031139:=0
def tw2142716212205612950:=0
def tw202229787022067557:=0
def tw1900735652317591452:=0
def tw18391124939590111415:=0
def tw18198792781393331606:=0
def tw1816962547129253956:=0
def tw18160507495969613380:=0
def tw18021869579220066075:=0
def tw17460415883901687704:=0
def tw16992886676096250813:=0
def tw169481536324103569:=0
def tw1684638905411108404:=0
def tw16669441646654023664:=0
def tw16501159135906640614:=0
def tw16350259689363622304:=0
def tw16301460116244926518:=0
def tw16200255119768809239:=0
def tw16096137483032267383:=0
def tw15816728705153591032:=0
def tw15764830740829126467:=0
def tw15537381050877527079:=0
def tw15476386542220295278:=0
def tw15457894918104782132:=0
def tw15348179143933415234:=0
def tw15003080287220075899:=0
def tw14925047823323505023:=0
def tw14858558498913304791:=0
def tw14444613820376873106:=0
def tw14441263643911745857:=0
def tw14321946647110890063:=0
def tw14110475754275708238:=0
def tw13918527954078787477:=0
def tw13732138020163438200:=0
def tw13622535930599883688:=0
def tw13590704892782589590:=0
def tw13529657133140365684:=0
def tw13300299166858922190:=0
def tw13285812865488978357:=0
def tw12860276083424228538:=0
def tw12454186542644252808:=0
def tw1240838105210282976:=0
def tw12181018107519225143:=0
def tw11998545049286241279:=0
def tw11951587737664037610:=0
def tw11736025101827698155:=0
def tw11655851030866842184:=0
def tw11258814485081226345:=0
def tw1116337516890380163:=0
def tw11074215885882439425:=0
def tw11004292024880790276:=0
def tw10911453638618840202:=0
def tw10541178967883395899:=0
def tw10504050058050387471:=0
def tw10466752862116211051:=0
def tw10318286628885056372:=0
def tw10293291033921191247:=0
end PySem.W.Fast
set_option maxHeartbeats 4000000
abbrev QLs:=List (List Int)
abbrev QPs:=List (Int×Int)
abbrev QDr:=QLs×QPs
noncomputable section
section
set_option autoImplicit true
variable {M L B δ ρ ι ε α0 α1 α2 α3 α4 α5:Type}{K:PySem.W.Frag}{aa:List (PySem.Addr×PySem.Obj)}{E Q:PySem.Value->PySem.Shared->Prop}{s:PySem.Shared}{A:PySem.Around}{w:PySem.World}{P prog:PySem.Program}{mg:PySem.Str->Option PySem.Value}{R:PySem.Result->PySem.Shared->Prop}{a b p q y z d I S Lqz:PySem.Addr}{x:PySem.Str}{pos:PySem.Pos}{h' base:PySem.Heap}{n k j:Nat}{e tg:PySem.Expr}{u:PySem.Value}{us its:List PySem.Value}{ns:List Int}{as:List M}{es bf elts:List PySem.Expr}{caps:List (Nat×PySem.Str)}{ps N names:List PySem.Str}{F:M->L->Prop}{fd:PySem.FuncData}{scope:PySem.Scope}
namespace L2
open PySem PySem.Spec PyProof.Rows
abbrev Key:=Sum Int Str
def G5:Key->Value->Bool
 | .inl k,v=>Value.isInt k v
 | .inr x,v=>Value.isStrOf x v
def AU (w:World):Key->Int
 | .inl k=>hashInt k
 | .inr x=>hashStr w x
theorem Yv:∀{k:Key}{v:Value},G5 k v=true->(∃i t,k=Sum.inl i/\v=Value.int i t)∨(∃x t,k=Sum.inr x/\v=Value.str x t)
 | .inl i,v,h=>by
  obtain⟨t,e⟩:=Value.isInt_shape (k:=i) (v:=v) h
  exact .inl ⟨i,t,rfl,e⟩
 | .inr x,v,h=>by
  obtain⟨t,e⟩:=Value.isStrOf_shape (x:=x) (v:=v) h
  exact .inr ⟨x,t,rfl,e⟩
theorem MG (i:Int)(t:Tok):G5 (.inl i) (.int i t)=true:=by simp[G5,Value.isInt]
theorem MR (x:Str)(t:Tok):G5 (.inr x) (.str x t)=true:=by simp[G5,Value.isStrOf]
theorem S7 (a b:Int):decide ((Sum.inl a:Key)=Sum.inl b)=(a==b):=by
 by_cases e:a=b
 ·subst e;simp
 ·have h:¬(Sum.inl a:Key)=Sum.inl b:=λq=>e (Sum.inl.inj q)
  rw[decide_eq_false h]
  exact(beq_eq_false_iff_ne.mpr e).symm
theorem TV (a b:Str):decide ((Sum.inr a:Key)=Sum.inr b)=decide (a=b):=by
 by_cases e:a=b
 ·subst e;simp
 ·have h:¬(Sum.inr a:Key)=Sum.inr b:=λq=>e (Sum.inr.inj q)
  rw[decide_eq_false h,decide_eq_false e]
theorem TR (a:Int)(b:Str):decide ((Sum.inl a:Key)=Sum.inr b)=false:=decide_eq_false (λq=>nomatch q)
theorem SQ (a:Str)(b:Int):decide ((Sum.inr a:Key)=Sum.inl b)=false:=decide_eq_false (λq=>nomatch q)
def Yw (prog:Program)(w:World):PySem.KeyKind prog w Key where
 is:=G5
 hash:=AU w
 inj:=λv a b ha hb=>by
  rcases Yv ha with⟨i,t,rfl,rfl⟩ | ⟨x,t,rfl,rfl⟩
  ·rcases Yv hb with⟨j,u,rfl,e⟩ | ⟨y,u,rfl,e⟩
   ·injection e with e1 _;rw[e1]
   ·exact nomatch e
  ·rcases Yv hb with⟨j,u,rfl,e⟩ | ⟨y,u,rfl,e⟩
   ·exact nomatch e
   ·injection e with e1 _;rw[e1]
 byValue:=λk v h=>by
  rcases Yv h with⟨i,t,rfl,rfl⟩ | ⟨x,t,rfl,rfl⟩<;> rfl
 pyHash:=λhv h=>by
  rcases Yv hv with⟨i,t,rfl,rfl⟩ | ⟨x,t,rfl,rfl⟩
  ·exact wpAny_pyHash_int h
  ·exact wpAny_pyHash_str h
 eqBool:=λhu hv h=>by
  rcases Yv hu with⟨i,t,rfl,rfl⟩ | ⟨x,t,rfl,rfl⟩
  ·rcases Yv hv with⟨j,u,rfl,rfl⟩ | ⟨y,u,rfl,rfl⟩
   ·rw[S7] at h;exact wpAny_eqBool_int h
   ·rw[TR] at h;exact SeqAt.EqAt.int_str i t y u _ _ _ _ h
  ·rcases Yv hv with⟨j,u,rfl,rfl⟩ | ⟨y,u,rfl,rfl⟩
   ·rw[SQ] at h;exact SeqAt.EqAt.str_int x t j u _ _ _ _ h
   ·rw[TV] at h;exact wpAny_eqBool_str h
 «strs»:=λk x t v h=>by
  rcases Yv h with⟨i,u,rfl,e⟩ | ⟨y,u,rfl,e⟩
  ·exact nomatch e
  ·injection e with e1 _
   subst e1
   cases v<;> rfl
theorem Ee (prog:Program)(w:World)(i:Int)(t:Tok):(Yw prog w).is (.inl i) (.int i t)=true:=MG i t
theorem Ek (prog:Program)(w:World)(x:Str)(t:Tok):(Yw prog w).is (.inr x) (.str x t)=true:=MR x t
inductive V where
 |non |bl (b:Bool) |int (i:Int) |str (x:Str) |byt (b:Array UInt8) |flt (b:UInt64) |ref (a:Addr) |ty (n:String)
 deriving DecidableEq
def XZ:V->Value->Prop
 | .non,u=>u=Value.none
 | .bl b,u=>u=Value.bool b
 | .int i,u=>∃ t,u=Value.int i t
 | .str x,u=>∃ t,u=Value.str x t
 | .byt b,u=>∃ t,u=Value.bytes b t
 | .flt b,u=>∃ t,u=Value.float b t
 | .ref a,u=>u=Value.ref a
 | .ty n,u=>u=Value.type n
abbrev X9:List V->List Value->Prop:=Paired XZ
theorem X9.length (r:X9 xs us):xs.length=us.length:=Paired.length r
theorem X9.get:∀{xs:List V}{us:List Value}{i:Nat}{x:V},X9 xs us->xs[i]?=some x->∃u,us[i]?=some u/\XZ x u
 |_,_,_,_, .nil,e=>by simp at e
 |_,_,0,_, .cons r _,e=>by simp at e;subst e;exact⟨_,rfl,r⟩
 |_,_,i+1,x, .cons _ t,e=>by
  obtain⟨u,h1,h2⟩:=X9.get (i:=i) (x:=x) t (by simpa using e)
  exact⟨u,by simpa using h1,h2⟩
theorem X9.set {x:V}(r:XZ x u):∀{xs:List V}{us:List Value} (i:Nat),X9 xs us->X9 (xs.set i x) (us.set i u)
 |_,_,_, .nil=>.nil
 |_,_,0, .cons _ t=>.cons r t
 |_,_,i+1, .cons q t=>.cons q (X9.set r i t)
theorem X9.append:∀{xs ys:List V}{us ws:List Value},X9 xs us->X9 ys ws->X9 (xs++ys) (us++ws):=λp s=>by
 induction p with
 |nil=>exact s
 |cons r _ ih=>exact .cons r ih
theorem X9.take:∀{xs:List V}{us:List Value} (n:Nat),X9 xs us->X9 (xs.take n) (us.take n)
 |_,_,0,_=>.nil
 |_,_,_+1, .nil=>.nil
 |_,_,n+1, .cons r t=>.cons r (X9.take n t)
theorem X9.drop:∀{xs:List V}{us:List Value} (n:Nat),X9 xs us->X9 (xs.drop n) (us.drop n)
 |_,_,0,r=>r
 |_,_,_+1, .nil=>.nil
 |_,_,n+1, .cons _ t=>X9.drop n t
def Ih:Option V->Option Value->Prop
 |some v,some u=>XZ v u
 |none,none=>True
 |_,_=>False
def KV:List (κ×V)->List (κ×Value)->Prop:=Paired λ(p:κ×V) (q:κ×Value)=>p.1=q.1/\XZ p.2 q.2
def kV:Key->V
 | .inl i=>.int i
 | .inr x=>.str x
inductive HO where
 /-- a list -/
 |lst (xs:List V)
 /-- a tuple (never changes) -/
 |tup (xs:List V)
 /-- a dict whose f8 are ints and texts; one whose f8 are tuples of ints and texts (dm empty one is both) -/
 |dK (kvs:List (Key×V)) |dT (kvs:List (List Key×V))
 /-- a set of ints: its members, its size -/
 |set (S:Int->Bool) (n:Nat)
 /-- an instance of dm class at C, its dict at dx, its attributes -/
 |ins (C dx:Addr) (fs:List (Str×V))
 /-- dm dict of dm instance at x -/
 |own (x:Addr)
 /-- dm dict of an exception -/
 |xd (fs:List (Str×V))
 /-- a bound method, f of x -/
 |met (f x:Addr)
 /-- a range object lo, lo + 1, .. below hi -/
 |rng (lo hi:Int)
 /-- a thing that is known to dm object (dm script; a dict while a cZ walks it): read, never written while it is so -/
 |frz (o:Obj) (u:HO)
 /-- a code object's table -/
 |tbl (ps:Array Value)
 /-- any other thing, by what is true of its one object (a def of one's own: SetO a S n:=HO.ext λh=>..) -/
 |ext (φ:Heap->Prop)
abbrev Hp:=Addr->Option HO
def upd (H:Hp)(a:Addr)(o:HO):Hp:=λb=>if b=a then some o else H b
theorem Yg:upd H a o a=some o:=by unfold upd;rw[if_pos rfl]
theorem X8 (h:b≠a):upd H a o b=H b:=by unfold upd;rw[if_neg h]
theorem W8 {H:Hp}{o u:HO}(h:H a=some o)(h':H b=some u)(d:o≠u):a≠b:=by
 intro e;subst e;rw[h] at h';exact d (Option.some.inj h')
theorem YD {H:Hp}{o:HO}(h:H a=some o)(h':H b=none):a≠b:=by
 intro e;subst e;rw[h] at h';cases h'
def VV (h:Heap)(a:Addr)(items:Array Value):Prop:=∃ o,h.get? a=some o/\(o.cls= .type "tuple" /\o.dict=none)/\∃n,o.data= .seq items n
theorem VV.t (x:VV h a items):IsTup h a items:=let ⟨o,ho,c,r⟩:=x;⟨o,ho,c.1,r⟩
theorem VV.new (h:Heap)(items:Array Value):VV (h.push {cls:=.type "tuple",data:=.seq items}) h.objs.size items:=⟨_,Heap.get?_push_size _ rfl,⟨rfl,rfl⟩,_,rfl⟩
section
variable (P:Program)(w:World)
def YG (H:Hp)(h:Heap)(a:Addr):HO->Prop
 | .lst xs=>xs.length<=sizeLine/\∃(its:List Value) (n:Nat),X9 xs its/\h.get? a=some {cls:=.type "list",data:=.seq its.toArray n}
 | .tup xs=>xs.length<=sizeLine/\∃its:List Value,X9 xs its/\VV h a its.toArray
 | .dK kvs=>kvs.length<=sizeLine/\(a==sysModules)=false/\∃vs,KV kvs vs/\h.DictOf (Yw P w) a vs
 | .dT kvs=>kvs.length<=sizeLine/\(a==sysModules)=false/\∃xs:List (List Key×Addr×Value),
   Paired (λ(p:List Key×V) (q:List Key×Addr×Value)=>p.1=q.1/\H q.2.1=some (.tup (p.1.map kV))/\XZ p.2 q.2.2) kvs xs/\
   ∃o es ep,h.get? a=some o/\o.ExactDict/\o.data= .dict es ep/\es.toList=xs.map (entryOfKey (tupleKind (Yw P w)))/\(xs.map (·.1)).Nodup
 | .set S n=>h.SetOf (intKind P w) a S n
 | .ins C dx fs=>H dx=some (.own a)/\fs.length<=1000/\dx≠a/\h.get? a=some (W.instObj C dx)/\
   ∃mA,h.Ns1 dx mA/\(∀f,Ih (fs.lookup f) (mA f))/\PySem.Within mA (fs.map (·.1))
 | .own _=>∃ o,h.get? a=some o
 | .xd fs=>∃ mA,h.Ns1 a mA/\∀f,Ih (fs.lookup f) (mA f)
 | .rng lo hi=>∃ t u v,h.get? a=some {cls:=.type "range",data:=.fields #[.int lo t, .int hi u, .int 1 v]}
 | .frz o u=>h.get? a=some o/\YG H h a u
 | .tbl ps=>h.get? a=some {cls:=.none,data:=.fields ps}
 | .met f x=>h.get? a=some (W.methodObj (.ref f) (.ref x))
 | .ext φ=>φ h/\(∃o,h.get? a=some o)/\∀h1 h2:Heap,φ h1->(∀o,h1.get? a=some o->h2.get? a=some o)->φ h2
def HOk (H:Hp)(h:Heap):Prop:=∀ a o,H a=some o->YG P w H h a o
end
section
variable {H H':Hp}{h:Heap}{o:HO}
theorem YG.lt (x:YG P w H h a o):a<h.objs.size:=by
 cases o with
 |lst xs=>obtain⟨_,_,_,_,e⟩:=x;exact Heap.lt_size e
 |tup xs=>obtain⟨_,_,_,p⟩:=x;exact p.t.lt
 |dK kvs=>obtain⟨_,_,_,_,o,_,_,e,_⟩:=x;exact Heap.lt_size e
 |dT kvs=>obtain⟨_,_,_,_,o,_,_,e,_⟩:=x;exact Heap.lt_size e
 |set S n=>obtain⟨o,_,_,_,e,_⟩:=x;exact Heap.lt_size e
 |ins C dx fs=>obtain⟨_,_,_,e,_⟩:=x;exact Heap.lt_size e
 |own y=>obtain⟨_,e⟩:=x;exact Heap.lt_size e
 |xd fs=>obtain⟨_,⟨_,_,_,e,_⟩,_⟩:=x;exact Heap.lt_size e
 |rng lo hi=>obtain⟨_,_,_,e⟩:=x;exact Heap.lt_size e
 |frz ob u=>obtain⟨e,_⟩:=x;exact Heap.lt_size e
 |tbl ps=>exact Heap.lt_size (show h.get? a=some _ from x)
 |met f y=>exact Heap.lt_size (show h.get? a=some _ from x)
 |ext φ=>obtain⟨_,⟨_,e⟩,_⟩:=x;exact Heap.lt_size e
theorem Paired.mapP:∀{l₁:List M}{l₂:List L},Paired F l₁ l₂->(∀a b,F a b->G a b)->Paired G l₁ l₂:=λp f=>by
 induction p with
 |nil=>exact .nil
 |cons r _ ih=>exact .cons (f _ _ r) ih
theorem YG.stay (x:YG P w H h a o)(k:∀b u,(b=a∨H b=some (.own a))->h.get? b=some u->h'.get? b=some u)
  (ho:∀b,H b=some (.own a)->H' b=some (.own a))(ht:∀b xs,H b=some (.tup xs)->H' b=some (.tup xs)):YG P w H' h' a o:=by
 induction o with
 |lst xs=>obtain⟨z,its,n,r,e⟩:=x;exact⟨z,its,n,r,k _ _ (.inl rfl) e⟩
 |tup xs=>obtain⟨z,its,r,ob,e,c⟩:=x;exact⟨z,its,r,ob,k _ _ (.inl rfl) e,c⟩
 |dK kvs=>obtain⟨z,y,vs,r,ob,es,ep,e,c⟩:=x;exact⟨z,y,vs,r,ob,es,ep,k _ _ (.inl rfl) e,c⟩
 |dT kvs=>
  obtain⟨z,y,xs,r,ob,es,ep,e,c⟩:=x
  exact⟨z,y,xs,Paired.mapP r λp q z=>⟨z.1,ht _ _ z.2.1,z.2.2⟩,ob,es,ep,k _ _ (.inl rfl) e,c⟩
 |set S n=>obtain⟨ob,es,ep,t,e,c⟩:=x;exact⟨ob,es,ep,t,k _ _ (.inl rfl) e,c⟩
 |ins C dx fs=>
  obtain⟨d,z,ne,e,mA,⟨od,es,ep,e2,c⟩,r⟩:=x
  exact⟨ho _ d,z,ne,k _ _ (.inl rfl) e,mA,⟨od,es,ep,k _ _ (.inr d) e2,c⟩,r⟩
 |own y=>obtain⟨ob,e⟩:=x;exact⟨ob,k _ _ (.inl rfl) e⟩
 |xd fs=>obtain⟨mA,⟨od,es,ep,e,c⟩,r⟩:=x;exact⟨mA,⟨od,es,ep,k _ _ (.inl rfl) e,c⟩,r⟩
 |rng lo hi=>obtain⟨t,u,v,e⟩:=x;exact⟨t,u,v,k _ _ (.inl rfl) e⟩
 |frz ob u ih=>obtain⟨e,q⟩:=x;exact⟨k _ _ (.inl rfl) e,ih q⟩
 |tbl ps=>
  have e:h.get? a=some {cls:=.none,data:=.fields ps}:=x
  show h'.get? a=some {cls:=.none,data:=.fields ps}
  exact k a _ (.inl rfl) e
 |met f y=>
  have e:h.get? a=some (W.methodObj (.ref f) (.ref y)):=x
  show h'.get? a=some (W.methodObj (.ref f) (.ref y))
  exact k a _ (.inl rfl) e
 |ext φ=>obtain⟨p,⟨o,e⟩,st⟩:=x;exact⟨st _ _ p λo q=>k _ _ (.inl rfl) q,⟨o,k _ _ (.inl rfl) e⟩,st⟩
theorem HOk.lt (x:HOk P w H h)(e:H a=some o):a<h.objs.size:=(x a o e).lt
theorem HOk.fresh (x:HOk P w H h)(e:h.objs.size<=a):H a=none:=by
 cases q:H a with
 |none=>rfl
 |some u=>exact absurd (Nat.lt_of_lt_of_le (x.lt q) e) (Nat.lt_irrefl _)
theorem HOk.kept (x:HOk P w H h)(k:∀b u,h.get? b=some u->h'.get? b=some u):HOk P w H h':=λa o e=>
 (x a o e).stay (λb u _ q=>k b u q) (λ_ q=>q) λ_ _ q=>q
theorem HOk.laid (x:HOk P w H h)(k:∀b u,h.get? b=some u->h'.get? b=some u)(hp:h.objs.size<=a)(new:YG P w (upd H a o) h' a o):HOk P w (upd H a o) h':=λb u e=>by
 have hn:=x.fresh hp
 by_cases hb:b=a
 ·subst hb;rw[Yg] at e;cases e;exact new
 ·rw[X8 hb] at e
  exact(x b u e).stay (λc v _ q=>k c v q) (λc q=>by rw[X8 (YD q hn)];exact q) λc xs q=>by rw[X8 (YD q hn)];exact q
end
def Rd (H:Hp)(a:Addr)(u:HO):Prop:=H a=some u∨∃o,H a=some (.frz o u)
theorem Rd.ok {u:HO}(r:Rd H a u)(x:HOk P w H h):YG P w H h a u:=by
 rcases r with r | ⟨o,r⟩
 ·exact x a u r
 ·obtain⟨_,q⟩:=x a _ r
  exact q
def Mut:Option HO->Prop
 |some (.lst _)=>True
 |some (.dK _)=>True
 |some (.dT _)=>True
 |some (.set _ _)=>True
 |some (.ins _ _ _)=>True
 |some (.ext _)=>True
 |_=>False
section
variable {H:Hp}{h:Heap}{x e:Addr}{o':HO}
theorem HOk.write (ok:HOk P w H h)(mu:Mut (H x))(he:e=x∨H e=some (.own x))(k:∀b u,b≠e->h.get? b=some u->h'.get? b=some u)(gO:∃u,h'.get? e=some u)
  (new:YG P w (upd H x o') h' x o'):HOk P w (upd H x o') h':=λb u q=>by
 have ic:∀c y,H c=some (.own y)->c≠x:=λc y r z=>by subst z;rw[r] at mu;exact mu
 have ntup:∀c xs,H c=some (.tup xs)->c≠x:=λc xs r z=>by subst z;rw[r] at mu;exact mu
 by_cases hb:b=x
 ·subst hb;rw[Yg] at q;cases q;exact new
 ·rw[X8 hb] at q
  by_cases f9:b=e
  ·have q':H b=some (.own x):=by
    rcases he with z |z
    ·exact absurd (f9.trans z) hb
    ·rw[f9];exact z
   rw[q] at q';cases q'
   obtain⟨v,hv⟩:=gO
   exact⟨v,by rw[f9];exact hv⟩
  ·refine(ok b u q).stay (λc v hc r=>k c v ?_ r) (λc r=>by rw[X8 (ic c b r)];exact r) λc xs r=>by rw[X8 (ntup c xs r)];exact r
   rcases hc with rfl |hc
   ·exact f9
   ·rintro rfl
    rcases he with z |z
    ·exact ic c b hc z
    ·rw[hc] at z;cases z;exact hb rfl
end
structure Un (fs ex:List Addr)(H H':Hp)(h h':Heap):Prop where
 keep:∀b o,h.get? b=some o->H b=none->b∉fs->b∉ex->h'.get? b=some o
 slot:∀b o,h.get? b=some o->H b=none->b∈fs->b∉ex->∃sl,h'.get? b=some {o with slots:=sl}
 free:∀b o,h.get? b=some o->H b=none->b∉ex->H' b=none
 there:∀b o,h.get? b=some o->b∉ex->∃o',h'.get? b=some o'
 tups:∀b xs,H b=some (.tup xs)->H' b=some (.tup xs)
 frzs:∀b o u,H b=some (.frz o u)->H' b=some (.frz o u)
 tbls:∀b ps,H b=some (.tbl ps)->∃more,H' b=some (.tbl (ps++more))
section
variable {fs fs' ex ex':List Addr}{H H1 H2:Hp}{h h1 h2:Heap}{x e:Addr}{o:HO}
theorem Un.any (u:Un fs ex H H1 h h1)(q:h.get? b=some ob)(n:H b=none)(hx:b∉ex):∃sl,h1.get? b=some {ob with slots:=sl}:=by
 by_cases hb:b∈fs
 ·exact u.slot b ob q n hb hx
 ·exact⟨ob.slots,u.keep b ob q n hb hx⟩
theorem Un.kept (k:∀b u,h.get? b=some u->h'.get? b=some u):Un fs ex H H h h':=
 ⟨λb ob q _ _ _=>k b ob q,λb ob q _ _ _=>⟨ob.slots,k b ob q⟩,λ_ _ _ n _=>n,λb ob q _=>⟨ob,k b ob q⟩,λ_ _ q=>q,λ_ _ _ q=>q,λ_ ps q=>⟨#[],by rw[q];simp⟩⟩
theorem Un.refl:Un fs ex H H h h:=Un.kept λ_ _ q=>q
theorem Un.laid (k:∀b u,h.get? b=some u->h'.get? b=some u)(hp:h.objs.size<=a)(hn:H a=none):Un fs ex H (upd H a o) h h' where
 keep:=λb u q _ _ _=>k b u q
 slot:=λb u q _ _ _=>⟨u.slots,k b u q⟩
 free:=λb u q n _=>by rw[X8 (Nat.ne_of_lt (Nat.lt_of_lt_of_le (Heap.lt_size q) hp))];exact n
 there:=λb u q _=>⟨u,k b u q⟩
 tups:=λb xs q=>by rw[X8 (YD q hn)];exact q
 frzs:=λb u xs q=>by rw[X8 (YD q hn)];exact q
 tbls:=λb ps q=>⟨#[],by rw[X8 (YD q hn),q];simp⟩
theorem Un.write (mu:Mut (H x))(he:e=x∨H e=some (.own x))(k:∀b u,b≠e->h.get? b=some u->h'.get? b=some u)(gO:∃u,h'.get? e=some u):Un fs ex H (upd H x o) h h':=by
 have hx:∀b,H b=none->b≠x:=λb n z=>by subst z;rw[n] at mu;exact mu
 have hb:∀b,H b=none->b≠e:=λb n z=>by
  subst z
  rcases he with r |r
  ·exact hx b n r
  ·rw[n] at r;cases r
 have hm:∀b u,H b=some u->¬Mut (some u)->b≠x:=λb u q nm z=>by subst z;rw[q] at mu;exact nm mu
 refine⟨λb u q n _ _=>k b u (hb b n) q,λb u q n _ _=>⟨u.slots,k b u (hb b n) q⟩,λb u q n _=>by rw[X8 (hx b n)];exact n,λb u q _=>?_,
  λb xs q=>by rw[X8 (hm b _ q λz=>z)];exact q,λb u xs q=>by rw[X8 (hm b _ q λz=>z)];exact q,λb ps q=>⟨#[],by rw[X8 (hm b _ q λz=>z),q];simp⟩⟩
 by_cases f9:b=e
 ·subst f9;exact gO
 ·exact⟨u,k b u f9 q⟩
end
def trk (h:Heap)(H:Hp):List Addr:=(List.range h.objs.size).filter λa=>(H a).isSome
def M3 (h:Heap)(H:Hp):Heap:=PySem.W.hideAll h (trk h H)
theorem MK (h:Heap)(H:Hp):(M3 h H).objs.size=h.objs.size:=PySem.W.hideAll_size _ _
theorem EN (e:h.get? b=some o)(n:H b=none):(M3 h H).get? b=some o:=
 PySem.W.hideAll_get _ e λhm=>by
  have q:(H b).isSome=true:=(List.mem_filter.mp hm).2
  rw[n] at q;simp at q
theorem Im (e:(M3 h H).get? b=some o):h.get? b=some o/\H b=none:=by
 have e':h.get? b=some o:=PySem.W.of_hideAll (trk h H) e
 refine⟨e',?_⟩
 cases q:H b with
 |none=>rfl
 |some x=>
  have hm:b∈trk h H:=List.mem_filter.mpr ⟨List.mem_range.mpr (Heap.lt_size e'),by simp[q]⟩
  have z:(M3 h H).get? b=none:=PySem.W.hideAll_none (trk h H) hm
  rw[z] at e;cases e
def RF (g h:Heap)(Lqz:Addr):List (Addr×Obj):=(List.range h.objs.size).filterMap λa=>if a=Lqz∨(g.get? a).isSome=true then none else(h.get? a).map λo=>(a,o)
def QB (g h:Heap)(Lqz d:Addr):List (Addr×Obj):=(RF g h Lqz).filter λp=>decide (p.1≠d)
structure Mod (K:W.Frag)(mg:Str->Option Value)(base:Heap):Prop where
 kin:K.In base
 glob:base.Ns mainGlobals mg
 blt:∃mb,base.Ns builtinsNs mb/\∀x:Str,x≠ "__name__" ->mb x=bootBuiltins x
 nolimit:base.NoLimit
structure Cx where
 prog:Program
 w:World
 K:W.Frag
 mg:Str->Option Value
 base:Heap
 A:Around
 N:List Str
 s₀:Shared
 H₀:Hp
 env:Env
 outer:List Env
 stack:List Env
 ex:List Addr
 fn:Str->Bool
 calm:Bool
 pn:List (Addr×Obj)
 xe:Value->Shared->Prop
def frs (l:List Env):List Addr:=l.filterMap (·.frame)
abbrev Cx.fs (X:Cx):List Addr:=frs X.outer
def Vis (sc:Scope)(x:Str):Prop:=sc.names.lookup x=some .local∨sc.names.lookup x=some .cell∨sc.names.lookup x=some .free
def Loc (sc:Scope)(x:Str):Prop:=sc.names.lookup x=some .local∨sc.names.lookup x=some .cell
def AN (env:Env)(h:Heap)(m:Str->Option Value)(x:Str)(u:Value):Prop:=
 (env.kindOf x=some .local/\m x=some u)∨((env.kindOf x=some .cell∨env.kindOf x=some .free)/\∃c,env.cells.lookup x=some c/\h.IsCell c (some u))
structure Cx.Ok (X:Cx):Prop where
 mod:Mod X.K X.mg X.base
 kind:X.env.scope.kind= .function
 glob:X.env.globals=mainGlobals
 blt:X.env.builtins=builtinsNs
 above:X.s₀.heap.objs.size<=X.env.locals
 inj:∀x y c,X.env.cells.lookup x=some c->X.env.cells.lookup y=some c->x=y
 has:∀x,(X.env.kindOf x=some .cell∨X.env.kindOf x=some .free)->∃c,X.env.cells.lookup x=some c
 cab:∀x c,X.fn x=true->X.env.cells.lookup x=some c->X.s₀.heap.objs.size<=c
 hd:X.calm=true->X.A.handled=none
 frames:X.A.frames=some X.stack
 stk:X.stack=X.outer∨(X.stack=X.env::X.outer/\X.env.frame=some X.env.locals)
 exf:∀b∈X.ex,b≠X.env.locals/\∀x c,X.env.cells.lookup x=some c->c≠b
 bs:∀b o,X.base.get? b=some o->X.s₀.heap.get? b=some o/\X.H₀ b=none
 bsz:X.base.objs.size<=X.s₀.heap.objs.size
 noex:∀b o,X.base.get? b=some o->b∉X.ex
 exfs:∀b∈X.ex,b∉X.fs
 funs:X.s₀.heap.FunFrames X.base X.outer
 frf:∀b∈X.fs,X.H₀ b=none
structure Inv (X:Cx)(aa:List (Addr×Obj))(U:List (Option V))(H:Hp)(s:Shared):Prop where
 ok:X.Ok
 os:s.os=X.s₀.os
 bare:AllBare s.gens
 base:Un X.fs X.ex X.H₀ H X.s₀.heap s.heap
 loc:∃m,s.heap.Ns X.env.locals m/\∀(i:Nat) (x:Str) (v:V),X.N[i]?=some x->U[i]?=some (some v)->Vis X.env.scope x->∃u,XZ v u/\AN X.env s.heap m x u
 cell:∀x c,X.env.cells.lookup x=some c->∃v,s.heap.IsCell c v
 free:H X.env.locals=none
 freeC:∀x c,X.env.cells.lookup x=some c->H c=none
 pin:∀p∈X.pn++aa,s.heap.get? p.1=some p.2/\H p.1=none/\p.1≠X.env.locals/\p.1∉X.fs/\∀v,p.2.data≠ .cell v
 hok:HOk X.prog X.w H s.heap
 len:U.length=X.N.length
section
variable {X:Cx}{U:List (Option V)}{H H':Hp}
theorem Cx.Ok.nofr (ok:X.Ok)(e:X.base.get? b=some o):b∉X.fs:=λhb=>by
 have:=(ok.funs.mem hb).1
 rw[e] at this;cases this
theorem Inv.bs (I:Inv X aa U H s):∀b o,X.base.get? b=some o->s.heap.get? b=some o/\H b=none:=λb o e=>
 ⟨I.base.keep b o (I.ok.bs b o e).1 (I.ok.bs b o e).2 (I.ok.nofr e) (I.ok.noex b o e),I.base.free b o (I.ok.bs b o e).1 (I.ok.bs b o e).2 (I.ok.noex b o e)⟩
theorem Inv.bk (I:Inv X aa U H s):∀b o,X.base.get? b=some o->s.heap.get? b=some o:=λb o e=>(I.bs b o e).1
theorem Inv.mod (I:Inv X aa U H s):Mod X.K X.mg X.base:=I.ok.mod
theorem Inv.kIn (I:Inv X aa U H s):X.K.In s.heap:=I.ok.mod.kin.keeps I.bk
theorem Inv.lt (I:Inv X aa U H s):X.env.locals<s.heap.objs.size:=let ⟨_,hn,_⟩:=I.loc;hn.lt
theorem Inv.sz (I:Inv X aa U H s):X.s₀.heap.objs.size<=s.heap.objs.size:=Nat.le_trans I.ok.above (Nat.le_of_lt I.lt)
theorem Inv.nofs (I:Inv X aa U H s)(h:s.heap.objs.size<=a):a∉X.fs:=λhb=>by
 obtain⟨_,o,ho,_⟩:=I.ok.funs.mem hb
 exact absurd (Nat.lt_of_lt_of_le (Heap.lt_size ho) (Nat.le_trans I.sz h)) (Nat.lt_irrefl _)
theorem Inv.cne (I:Inv X aa U H s):∀x c,X.env.cells.lookup x=some c->c≠X.env.locals:=λx c e z=>by
 obtain⟨v,o,ho,hd⟩:=I.cell x c e
 obtain⟨m,⟨o',es,ep,cv,hd',_⟩,_⟩:=I.loc
 rw[z,cv] at ho;cases ho;rw[hd'] at hd;cases hd
theorem Inv.funs (I:Inv X aa U H s):s.heap.FunFrames X.base X.outer:=by
 have all:∀(l:List Env),(∀b∈frs l,b∈X.fs)->X.s₀.heap.FunFrames X.base l->s.heap.FunFrames X.base l:=by
  intro l
  induction l with
  |nil=>intro _ _;trivial
  |cons env r ih=>
   intro hs hl
   obtain⟨hk,⟨Lqz,o,hf,hn,ho,hd⟩,hr⟩:=hl
   have hL:Lqz∈X.fs:=hs Lqz (by unfold frs;rw[List.filterMap_cons,hf];exact List.mem_cons_self)
   obtain⟨sl,e⟩:=I.base.slot Lqz o ho (I.ok.frf Lqz hL) hL λz=>I.ok.exfs Lqz z hL
   exact⟨hk,⟨Lqz,_,hf,hn,e,hd⟩,ih (λb hb=>hs b (by unfold frs;rw[List.filterMap_cons,hf];exact List.mem_cons_of_mem _ hb)) hr⟩
 exact all X.outer (λ_ hb=>hb) I.ok.funs
theorem Inv.stack (I:Inv X aa U H s):s.heap.FunFrames X.base X.stack:=by
 rcases I.ok.stk with e | ⟨e,hf⟩
 ·rw[e];exact I.funs
 ·rw[e]
  obtain⟨m,hn,_⟩:=I.loc
  refine .cons (by rw[I.ok.kind];decide) hf hn ?_ I.funs
  exact Heap.get?_none_of_le (Nat.le_trans I.ok.bsz I.ok.above)
theorem Inv.stkSub (I:Inv X aa U H s):∀b∈frs X.stack,b∈X.env.locals::X.fs:=λb hb=>by
 rcases I.ok.stk with e | ⟨e,hf⟩
 ·rw[e] at hb;exact List.mem_cons_of_mem _ hb
 ·rw[e] at hb
  unfold frs at hb
  rw[List.filterMap_cons,hf] at hb
  exact hb
theorem Inv.stkFree (I:Inv X aa U H s):∀b∈frs X.stack,H b=none:=λb hb=>by
 rcases List.mem_cons.mp (I.stkSub b hb) with e |hb
 ·rw[e];exact I.free
 ·obtain⟨_,o,ho,_⟩:=I.ok.funs.mem hb
  exact I.base.free b o ho (I.ok.frf b hb) λz=>I.ok.exfs b z hb
theorem Inv.step {g':Array GenState}{t':Nat}{d':Drawn}{ch:List Addr}(I:Inv X aa U H s)
  (cT:∀b∈ch,(b∈X.ex∨X.s₀.heap.objs.size<=b)/\b≠X.env.locals/\(∀x c,X.env.cells.lookup x=some c->c≠b)/\∀p∈X.pn++aa,p.1≠b)
  (keep:∀b o,b≠X.env.locals->b∉X.fs->b∉ch->s.heap.get? b=some o->H b=none->h'.get? b=some o)
  (slot:∀b o,b≠X.env.locals->b∈X.fs->b∉ch->s.heap.get? b=some o->H b=none->∃sl,h'.get? b=some {o with slots:=sl})(free:∀b o,b∉ch->s.heap.get? b=some o->H b=none->H' b=none)
  (there:∀b o,b∉ch->s.heap.get? b=some o->∃o',h'.get? b=some o')
  (tups:∀b xs,H b=some (.tup xs)->H' b=some (.tup xs))(frzs:∀b o u,H b=some (.frz o u)->H' b=some (.frz o u))(tbls:∀b ps,H b=some (.tbl ps)->∃more,H' b=some (.tbl (ps++more)))
  (ns:∀m,s.heap.Ns X.env.locals m->h'.Ns X.env.locals m)(hok:HOk X.prog X.w H' h')(hg:AllBare g'):
  Inv X aa U H' {s with heap:=h',gens:=g',drawn:=d',toks:=t'}:=by
 have neL:∀b o,X.s₀.heap.get? b=some o->b≠X.env.locals:=λb o e=>Nat.ne_of_lt (Nat.lt_of_lt_of_le (Heap.lt_size e) I.ok.above)
 have neC:∀b o,X.s₀.heap.get? b=some o->b∉X.ex->b∉ch:=λb o e hx hb=>by
  rcases(cT b hb).1 with z |z
  ·exact hx z
  ·exact absurd (Nat.lt_of_lt_of_le (Heap.lt_size e) z) (Nat.lt_irrefl _)
 have fv:∀x c,X.env.cells.lookup x=some c->∀v,s.heap.IsCell c v->h'.IsCell c v:=λx c e v ⟨o,ho,hd⟩=>by
  have fw:c∉ch:=λz=>(cT c z).2.2.1 x c e rfl
  by_cases hc:c∈X.fs
  ·obtain⟨sl,q⟩:=slot c o (I.cne x c e) hc fw ho (I.freeC x c e)
   exact⟨_,q,hd⟩
  ·exact⟨o,keep c o (I.cne x c e) hc fw ho (I.freeC x c e),hd⟩
 refine⟨I.ok,I.os,hg,⟨λb o e n hb hx=>?_,λb o e n hb hx=>?_,λb o e n hx=>?_,λb o e hx=>?_,λb xs e=>tups b xs (I.base.tups b xs e),λb o xs e=>frzs b o xs (I.base.frzs b o xs e),λb ps e=>?_⟩,?_,λx c e=>?_,?_,λx c e=>?_,λp hp=>?_,hok,I.len⟩
 ·exact keep b o (neL b o e) hb (neC b o e hx) (I.base.keep b o e n hb hx) (I.base.free b o e n hx)
 ·obtain⟨sl,e1⟩:=I.base.slot b o e n hb hx
  obtain⟨sl',e2⟩:=slot b _ (neL b o e) hb (neC b o e hx) e1 (I.base.free b o e n hx)
  exact⟨sl',e2⟩
 ·obtain⟨o',e1⟩:=I.base.there b o e hx
  exact free b o' (neC b o e hx) e1 (I.base.free b o e n hx)
 ·obtain⟨o',e1⟩:=I.base.there b o e hx
  exact there b o' (neC b o e hx) e1
 ·obtain⟨m1,e1⟩:=I.base.tbls b ps e
  obtain⟨m2,e2⟩:=tbls b _ e1
  exact⟨m1++m2,by rw[e2,Array.append_assoc]⟩
 ·obtain⟨m,hn,hl⟩:=I.loc
  refine⟨m,ns m hn,λi x v e1 e2 e3=>?_⟩
  obtain⟨u,r,l⟩:=hl i x v e1 e2 e3
  refine⟨u,r,?_⟩
  rcases l with l | ⟨k,c,e,z⟩
  ·exact .inl l
  ·exact .inr ⟨k,c,e,fv x c e _ z⟩
 ·obtain⟨v,z⟩:=I.cell x c e
  exact⟨v,fv x c e v z⟩
 ·obtain⟨m,⟨o,_,_,ho,_⟩,_⟩:=I.loc
  exact free _ o (λz=>(cT _ z).2.1 rfl) ho I.free
 ·obtain⟨v,o,ho,hd⟩:=I.cell x c e
  exact free c o (λz=>(cT c z).2.2.1 x c e rfl) ho (I.freeC x c e)
 ·obtain⟨e,n,ne,nf,d⟩:=I.pin p hp
  have fw:p.1∉ch:=λz=>(cT p.1 z).2.2.2 p hp rfl
  exact⟨keep p.1 p.2 ne nf fw e n,free p.1 p.2 fw e n,ne,nf,d⟩
theorem Inv.un {t':Nat}(I:Inv X aa U H s)(u:Un X.fs [] H H' s.heap h')(hok:HOk X.prog X.w H' h'):Inv X aa U H' {s with heap:=h',toks:=t'}:=by
 obtain⟨m,⟨o,es,ep,ho,r⟩,_⟩:=id I.loc
 obtain⟨sl,hL⟩:=u.any ho I.free (by simp)
 exact I.step (g':=s.gens) (d':=s.drawn) (ch:=[]) (λ_ z=>nomatch z) (λb o _ hb _ e n=>u.keep b o e n hb (by simp)) (λb o _ hb _ e n=>u.slot b o e n hb (by simp)) (λb o _ e n=>u.free b o e n (by simp)) (λb o _ e=>u.there b o e (by simp)) u.tups u.frzs u.tbls (λm' hm=>by
  obtain⟨o',c6,ep',cv,r'⟩:=hm
  rw[ho] at cv;cases cv
  exact⟨_,c6,ep',hL,r'⟩) hok I.bare
theorem Inv.call {g':Array GenState}{t':Nat}{d':Drawn}{ch:List Addr}(I:Inv X aa U H s)(u:Un (frs X.stack) ch H H' s.heap h')(hok:HOk X.prog X.w H' h')(hg:AllBare g')
  (cT:∀b∈ch,(b∈X.ex∨X.s₀.heap.objs.size<=b)/\b≠X.env.locals/\(∀x c,X.env.cells.lookup x=some c->c≠b)/\∀p∈X.pn++aa,p.1≠b):
  Inv X aa U H' {s with heap:=h',gens:=g',drawn:=d',toks:=t'}:=by
 obtain⟨m,⟨o,es,ep,ho,r⟩,_⟩:=id I.loc
 obtain⟨sl,hL⟩:=u.any ho I.free λz=>(cT _ z).2.1 rfl
 exact I.step (ch:=ch) cT (λb o hL hb hc e n=>u.keep b o e n (λz=>(List.mem_cons.mp (I.stkSub b z)).elim hL hb) hc) (λb o _ _ hc e n=>u.any e n hc) (λb o hc e n=>u.free b o e n hc) (λb o hc e=>u.there b o e hc) u.tups u.frzs u.tbls (λm' hm=>by
  obtain⟨o',c6,ep',cv,r'⟩:=hm
  rw[ho] at cv;cases cv
  exact⟨_,c6,ep',hL,r'⟩) hok hg
theorem Inv.turned {t':Nat}{it:Addr}(I:Inv X aa U H s)(k:∀b o,b≠it->s.heap.get? b=some o->h'.get? b=some o)(hn:H it=none)(hL:it≠X.env.locals)
  (h1:it∈X.ex∨X.s₀.heap.objs.size<=it)(h2:∀x c,X.env.cells.lookup x=some c->c≠it)(h3:∀p∈X.pn++aa,p.1≠it):Inv X aa U H {s with heap:=h',toks:=t'}:=by
 have nit:∀b u,H b=some u->b≠it:=λb u e z=>by rw[z,hn] at e;cases e
 refine I.step (g':=s.gens) (d':=s.drawn) (ch:=[it]) (λb hb=>?_) (λb o _ _ hc e _=>k b o (λz=>hc (by simp[z])) e) (λb o _ _ hc e _=>⟨o.slots,k b o (λz=>hc (by simp[z])) e⟩) (λ_ _ _ _ n=>n)
  (λb o hc e=>⟨o,k b o (λz=>hc (by simp[z])) e⟩) (λ_ _ e=>e) (λ_ _ _ e=>e) (λb ps e=>⟨#[],by rw[e];simp⟩) (λm hm=>?_) (λb u e=>?_) I.bare
 ·have e:b=it:=by simpa using hb
  subst e
  exact⟨h1,hL,h2,h3⟩
 ·obtain⟨o,es,ep,ho,r⟩:=hm
  exact⟨o,es,ep,k _ o (Ne.symm hL) ho,r⟩
 ·refine(I.hok b u e).stay (λc v hc q=>k c v ?_ q) (λ_ q=>q) λ_ _ q=>q
  rcases hc with z |z
  ·rw[z];exact nit b u e
  ·exact nit c _ z
theorem Inv.tok (I:Inv X aa U H s)(t:Nat):Inv X aa U H {s with toks:=t}:=I.un (h':=s.heap) (t':=t) Un.refl I.hok
theorem Inv.kept {t':Nat}(I:Inv X aa U H s)(k:∀b u,s.heap.get? b=some u->h'.get? b=some u):Inv X aa U H {s with heap:=h',toks:=t'}:=I.un (Un.kept k) (I.hok.kept k)
theorem Inv.laid {t':Nat}(I:Inv X aa U H s)(k:∀b u,s.heap.get? b=some u->h'.get? b=some u)(hp:s.heap.objs.size<=a)(new:YG X.prog X.w (upd H a o) h' a o):
  Inv X aa U (upd H a o) {s with heap:=h',toks:=t'}:=I.un (Un.laid k hp (I.hok.fresh hp)) (I.hok.laid k hp new)
theorem Inv.write {x e:Addr}{t':Nat}(I:Inv X aa U H s)(mu:Mut (H x))(he:e=x∨H e=some (.own x))(k:∀b u,b≠e->s.heap.get? b=some u->h'.get? b=some u)(gO:∃u,h'.get? e=some u)
  (new:YG X.prog X.w (upd H x o) h' x o):Inv X aa U (upd H x o) {s with heap:=h',toks:=t'}:=I.un (Un.write mu he k gO) (I.hok.write mu he k gO new)
theorem Inv.weak (I:Inv X aa U H s)(hl:U'.length=U.length)(w:∀(i:Nat) v,U'[i]?=some (some v)->U[i]?=some (some v)):Inv X aa U' H s:=
 ⟨I.ok,I.os,I.bare,I.base,let ⟨m,hn,hl'⟩:=I.loc;⟨m,hn,λi x v e1 e2 e3=>hl' i x v e1 (w i v e2) e3⟩,I.cell,I.free,I.freeC,I.pin,I.hok,hl.trans I.len⟩
theorem Inv.pins_of (I:Inv X aa U H s)(h:∀p∈pins',s.heap.get? p.1=some p.2/\H p.1=none/\p.1≠X.env.locals/\p.1∉X.fs/\∀v,p.2.data≠ .cell v):Inv X pins' U H s:=
 ⟨I.ok,I.os,I.bare,I.base,I.loc,I.cell,I.free,I.freeC,λp hp=>(List.mem_append.mp hp).elim (λz=>I.pin p (List.mem_append_left _ z)) (h p),I.hok,I.len⟩
theorem EK (hN:N.Nodup)(a:N[i]?=some x)(b:N[j]?=some x):i=j:=by
 obtain⟨h1,e1⟩:=List.getElem?_eq_some_iff.mp a
 obtain⟨h2,e2⟩:=List.getElem?_eq_some_iff.mp b
 exact(List.getElem_inj hN).mp (e1.trans e2.symm)
theorem Bz {Q:Unit->Shared->Prop}(I:Inv X aa U H s)(hN:X.N.Nodup)(hi:X.N[i]?=some x)(hx:Loc X.env.scope x)(r:XZ v u)
  (h:∀s',Inv X aa (U.set i (some v)) H s'->(∃a,Heap.SameBut a s.heap s'.heap/\(a=X.env.locals∨X.env.cells.lookup x=some a))->Q () s')(hf:X.fn x=true∨X.env.scope.names.lookup x=some .local:=by first |exact .inl rfl |exact .inr rfl |assumption):wpAny Mqz A (storeName X.env x u) Q E s:=by
 obtain⟨m,hn,hl⟩:=id I.loc
 have hcls:(X.env.scope.kind== .class || (X.env.scope.kind== .module&&X.env.locals !=X.env.globals))=false:=by rw[I.ok.kind];rfl
 have hiσ:i<U.length:=by rw[I.len];exact(List.getElem?_eq_some_iff.mp hi).1
 have cne:=I.cne
 have cw:∀{a:Addr}{h':Heap},(∃o,s.heap.get? a=some o/\H a=none)->Heap.SameBut a s.heap h'->HOk X.prog X.w H h':=fun {a h'} ha hs b ob e=>by
  obtain⟨_,_,cp⟩:=ha
  refine(I.hok b ob e).stay (λc w' hc q=>(hs.2 c ?_).trans q) (λ_ q=>q) λ_ _ q=>q
  rintro rfl
  rcases hc with rfl |hc
  ·rw[cp] at e;cases e
  ·rw[cp] at hc;cases hc
 rcases hx with hk |hk
 ·refine wpAny_storeName_local hk hn (λh' hn' hs=>?_) hcls
  obtain⟨oL,_,_,ie,_⟩:=id hn
  refine h _ ⟨I.ok,I.os,I.bare,⟨λb o e n hb hx=>?_,λb o e n hb hx=>?_,I.base.free,λb o e hx=>?_,I.base.tups,I.base.frzs,I.base.tbls⟩,⟨_,hn',λj y v' e1 e2 e3=>?_⟩,λy c e=>?_,I.free,I.freeC,λp hp=>?_,cw ⟨oL,ie,I.free⟩ hs,by simpa using I.len⟩ ⟨_,hs, .inl rfl⟩
  ·exact(hs.2 b (Nat.ne_of_lt (Nat.lt_of_lt_of_le (Heap.lt_size e) I.ok.above))).trans (I.base.keep b o e n hb hx)
  ·obtain⟨sl,e1⟩:=I.base.slot b o e n hb hx
   exact⟨sl,(hs.2 b (Nat.ne_of_lt (Nat.lt_of_lt_of_le (Heap.lt_size e) I.ok.above))).trans e1⟩
  ·obtain⟨o',e1⟩:=I.base.there b o e hx
   exact⟨o',(hs.2 b (Nat.ne_of_lt (Nat.lt_of_lt_of_le (Heap.lt_size e) I.ok.above))).trans e1⟩
  ·by_cases hj:j=i
   ·subst hj
    rw[hi] at e1;cases e1
    rw[List.getElem?_set_self hiσ] at e2
    cases e2
    exact⟨u,r, .inl ⟨hk,by simp⟩⟩
   ·rw[List.getElem?_set_ne (Ne.symm hj)] at e2
    obtain⟨u',r',q⟩:=hl j y v' e1 e2 e3
    refine⟨u',r',?_⟩
    rcases q with⟨k,e⟩ | ⟨k,c,e,z⟩
    ·refine .inl ⟨k,?_⟩
     have:y≠x:=λe=>hj (EK hN e1 (e▸hi))
     simp[this,e]
    ·exact .inr ⟨k,c,e,z.sameBut hs (cne y c e)⟩
  ·obtain⟨w',z⟩:=I.cell y c e
   exact⟨w',z.sameBut hs (cne y c e)⟩
  ·obtain⟨e,n,ne,nf,d⟩:=I.pin p hp
   exact⟨(hs.2 p.1 ne).trans e,n,ne,nf,d⟩
 ·have eX:X.fn x=true:=by
   rcases hf with z |z
   ·exact z
   ·rw[z] at hk;cases hk
  obtain⟨c,hc⟩:=I.ok.has x (.inl hk)
  obtain⟨w',z⟩:=I.cell x c hc
  refine wpAny_storeName_cell I.ok.kind hk hc z (λh' dn hs=>?_)
  obtain⟨oc,hoc,hocd⟩:=id z
  refine h {s with heap:=h'} ⟨I.ok,I.os,I.bare,⟨λb o e n hb hx=>?_,λb o e n hb hx=>?_,I.base.free,λb o e hx=>?_,I.base.tups,I.base.frzs,I.base.tbls⟩,⟨m,hn.sameBut hs (Ne.symm (cne x c hc)),λj y v' e1 e2 e3=>?_⟩,λy c' e=>?_,I.free,I.freeC,λp hp=>?_,cw ⟨oc,hoc,I.freeC x c hc⟩ hs,by simpa using I.len⟩ ⟨c,hs, .inr hc⟩
  ·exact(hs.2 b (Nat.ne_of_lt (Nat.lt_of_lt_of_le (Heap.lt_size e) (I.ok.cab x c eX hc)))).trans (I.base.keep b o e n hb hx)
  ·obtain⟨sl,e1⟩:=I.base.slot b o e n hb hx
   exact⟨sl,(hs.2 b (Nat.ne_of_lt (Nat.lt_of_lt_of_le (Heap.lt_size e) (I.ok.cab x c eX hc)))).trans e1⟩
  ·obtain⟨o',e1⟩:=I.base.there b o e hx
   exact⟨o',(hs.2 b (Nat.ne_of_lt (Nat.lt_of_lt_of_le (Heap.lt_size e) (I.ok.cab x c eX hc)))).trans e1⟩
  ·by_cases hj:j=i
   ·subst hj
    rw[hi] at e1;cases e1
    rw[List.getElem?_set_self hiσ] at e2
    cases e2
    exact⟨u,r, .inr ⟨.inl hk,c,hc,dn⟩⟩
   ·rw[List.getElem?_set_ne (Ne.symm hj)] at e2
    obtain⟨u',r',q⟩:=hl j y v' e1 e2 e3
    refine⟨u',r',?_⟩
    rcases q with q | ⟨k,c',e,z'⟩
    ·exact .inl q
    ·refine .inr ⟨k,c',e,z'.sameBut hs ?_⟩
     rintro rfl
     exact hj (EK hN e1 (I.ok.inj _ _ _ e hc▸hi))
  ·by_cases hcc:c'=c
   ·subst hcc;exact⟨_,dn⟩
   ·obtain⟨w2,z2⟩:=I.cell y c' e
    exact⟨w2,z2.sameBut hs hcc⟩
  ·obtain⟨e,n,ne,nf,d⟩:=I.pin p hp
   refine⟨(hs.2 p.1 ?_).trans e,n,ne,nf,d⟩
   intro q
   rw[q,hoc] at e
   have q':oc=p.2:=Option.some.inj e
   exact d w' (by rw[←q'];exact hocd)
theorem Ql {Q:Unit->Shared->Prop}(I:Inv X aa U H s)(hN:X.N.Nodup)(hi:X.N[i]?=some x)(hx:Loc X.env.scope x)(r:XZ v u)
  (h:∀s',Inv X aa (U.set i (some v)) H s'->Q () s')(hf:X.fn x=true∨X.env.scope.names.lookup x=some .local:=by first |exact .inl rfl |exact .inr rfl |assumption):wpAny Mqz A (storeName X.env x u) Q E s:=
 Bz I hN hi hx r (λs' I' _=>h s' I') hf
theorem Inv.call' (I:Inv X aa U H s)(ho:s'.os=s.os)(u:Un (frs X.stack) ch H H' s.heap s'.heap)(hok:HOk X.prog X.w H' s'.heap)(hg:AllBare s'.gens)
  (cT:∀b∈ch,(b∈X.ex∨X.s₀.heap.objs.size<=b)/\b≠X.env.locals/\(∀x c,X.env.cells.lookup x=some c->c≠b)/\∀p∈X.pn++aa,p.1≠b):Inv X aa U H' s':=by
 obtain⟨h',g',d',t',o'⟩:=s'
 have e:o'=s.os:=ho
 subst e
 exact I.call (g':=g') (t':=t') (d':=d') u hok hg cT
end
abbrev XK:=Value->Option Addr->Hp->Prop
abbrev St:=List (Option V)
abbrev VK:=V->Hp->Prop
abbrev TE:=St->Hp->VK->Prop
abbrev TT:=St->Hp->(Bool->Hp->Prop)->Prop
abbrev TA:=St->Hp->(List V->Hp->Prop)->Prop
structure Ends where
 nx:St->Hp->Prop
 rt:VK
 bk:St->Hp->Prop:=λ_ _=>False
 ct:St->Hp->Prop:=λ_ _=>False
abbrev TS:=Ends->St->Hp->Prop
def EP (X:Cx)(aa:List (Addr×Obj))(U:St)(Q:VK)(u:Value)(s':Shared):Prop:=∃ v H',Inv X aa U H' s'/\XZ v u/\Q v H'
def TP (X:Cx)(aa:List (Addr×Obj))(U:St)(Q:Bool->Hp->Prop)(b:Bool)(s':Shared):Prop:=∃ H',Inv X aa U H' s'/\Q b H'
def AP (X:Cx)(aa:List (Addr×Obj))(U:St)(Q:List V->Hp->Prop)(us:List Value)(s':Shared):Prop:=∃ vs H',Inv X aa U H' s'/\X9 vs us/\Q vs H'
def SP (X:Cx)(aa:List (Addr×Obj))(D:Ends)(f:Flow)(s':Shared):Prop:=
 match f with
 | .next=>∃ U' H',Inv X aa U' H' s'/\D.nx U' H'
 | .brk=>∃ U' H',Inv X aa U' H' s'/\D.bk U' H'
 | .cont=>∃ U' H',Inv X aa U' H' s'/\D.ct U' H'
 | .ret u=>∃ v U' H',Inv X aa U' H' s'/\XZ v u/\D.rt v H'
def PE (X:Cx)(e:Expr)(t:TE):Prop:=
 ∀(aa:List (Addr×Obj)) (s:Shared) (U:St) (H:Hp) (Q:VK),Inv X aa U H s->t U H Q->wpAny (model X.prog X.w) X.A (eval e X.env) (EP X aa U Q) X.xe s
def PT (X:Cx)(e:Expr)(t:TT):Prop:=
 ∀(aa:List (Addr×Obj)) (s:Shared) (U:St) (H:Hp) (Q:Bool->Hp->Prop),Inv X aa U H s->t U H Q->wpAny (model X.prog X.w) X.A (isTrue e X.env (eval e X.env)) (TP X aa U Q) X.xe s
def PW (X:Cx)(e:Expr)(t:TT):Prop:=
 ∀(dq:Sem Value) (aa:List (Addr×Obj)) (s:Shared) (U:St) (H:Hp) (Q:Bool->Hp->Prop),Inv X aa U H s->t U H Q->wpAny (model X.prog X.w) X.A (isTrue e X.env dq) (TP X aa U Q) X.xe s
theorem PW.pt (h:PW X e t):PT X e t:=h _
def PA (X:Cx)(es:List Expr)(t:TA):Prop:=
 ∀(pos:Pos) (aa:List (Addr×Obj)) (s:Shared) (U:St) (H:Hp) (Q:List V->Hp->Prop),Inv X aa U H s->t U H Q->wpAny (model X.prog X.w) X.A (spliced (backTo pos (starEach es X.env))) (AP X aa U Q) X.xe s
def PS (X:Cx)(st:Stmt)(t:TS):Prop:=
 ∀(aa:List (Addr×Obj)) (s:Shared) (U:St) (H:Hp) (D:Ends),Inv X aa U H s->t D U H->wpAny (model X.prog X.w) X.A (exec st X.env) (SP X aa D) X.xe s
def PSs (X:Cx)(st:List Stmt)(t:TS):Prop:=
 ∀(aa:List (Addr×Obj)) (s:Shared) (U:St) (H:Hp) (D:Ends),Inv X aa U H s->t D U H->wpAny (model X.prog X.w) X.A (execs st X.env) (SP X aa D) X.xe s
theorem thn {Q:M->Shared->Prop}(h:wpAny Mqz A t Q E s)(hQ:∀a s,Q a s->Q' a s):wpAny Mqz A t Q' E s:=wpAny_mono h hQ λ_ _ x=>x
end L2
variable {H H' H1 H2:L2.Hp}{X:L2.Cx}{U:L2.St}{ta tb tc td te:L2.TE}{xs:List L2.V}{kvs:List (L2.Key×L2.V)}{D:L2.Ends}{Fd:L2.Ends->L->L2.Hp->Prop}
namespace L2
open PySem PySem.Spec PyProof.Rows
section
def Ji (i:Nat):TE:=λU H Q=>∃ v,U[i]?=some (some v)/\Q v H
def tC (v:V):TE:=λ_ H Q=>Q v H
theorem SO (hN:X.N[i]?=some x)(hv:Vis X.env.scope x)(hd:(x==("__debug__":Str))=false:=by decide)(dG:(x==("__classdict__":Str))=false:=by decide):PE X (.Name x pos) (Ji i):=by
 intro aa s U H Q I h
 obtain⟨v,e,h⟩:=h
 obtain⟨m,hn,hl⟩:=I.loc
 obtain⟨u,r,l⟩:=hl i x v hN e hv
 have fin:EP X aa U Q u s:=⟨v,H,I,r,h⟩
 rcases l with⟨hk,hm⟩ | ⟨hk,c,hc,dr⟩
 ·exact wpAny_Name (wpAny_loadName_local I.ok.kind hk hn hm fin) hd
 ·rcases hk with hk |hk
  ·exact wpAny_Name (wpAny_loadName_cell I.ok.kind hk hc dr fin) hd
  ·exact wpAny_Name (wpAny_loadName_free I.ok.kind hk hc dr fin dG) hd
theorem Xc {i j pos}:PE X (.Constant (.int i) j pos) (tC (.int i)):=λ_ _ _ H _ I h=>wpAny_Constant_int ⟨.int i,H,I.tok _,⟨_,rfl⟩,h⟩
theorem Y2 {b j pos}:PE X (.Constant (.bool b) j pos) (tC (.bl b)):=λ_ _ _ H _ I h=>Constant_bool ⟨.bl b,H,I,rfl,h⟩
theorem U2 {j pos}:PE X (.Constant .none j pos) (tC .non):=λ_ _ _ H _ I h=>Constant_none ⟨.non,H,I,rfl,h⟩
theorem Xx {x j pos}:PE X (.Constant (.str x) j pos) (tC (.str x)):=λ_ _ _ H _ I h=>Calls.Constant_str ⟨.str x,H,I.tok _,⟨_,rfl⟩,h⟩
def Gl (X:Cx)(x:Str):Prop:=X.env.kindOf x=some .globalImplicit
theorem GV (I:Inv X aa U H s)(hg:Gl X x)(hm:X.mg x=some u)(h:Q u s)
  (hd:(x==("__debug__":Str))=false:=by decide):wpAny (model X.prog X.w) X.A (eval (.Name x pos) X.env) Q E s:=
 Calls.Name_function_global I.ok.kind hg (Calls.loadGlobal_global (by rw[I.ok.glob];exact I.mod.glob.keeps I.bk) hm h) hd
theorem U9 (I:Inv X aa U H s)(hg:Gl X x)(hm:X.mg x=none)(hv:bootBuiltins x=some u)(h:Q u s)
  (hn:x≠ "__name__":=by decide)(hd:(x==("__debug__":Str))=false:=by decide):wpAny (model X.prog X.w) X.A (eval (.Name x pos) X.env) Q E s:=by
 obtain⟨mb,h1,h2⟩:=I.mod.blt
 exact Calls.Name_function_global I.ok.kind hg (Calls.loadGlobal_builtin (by rw[I.ok.glob];exact I.mod.glob.keeps I.bk) hm (by rw[I.ok.blt];exact h1.keeps I.bk) ((h2 x hn).trans hv) h) hd
theorem R3 (hg:Gl X x)(hm:X.mg x=some u)(r:XZ v u)(hd:(x==("__debug__":Str))=false:=by decide):PE X (.Name x pos) (tC v):=
 λ_ _ _ H _ I h=>GV I hg hm ⟨v,H,I,r,h⟩ hd
theorem Qu (hg:Gl X x)(hm:X.mg x=none)(hv:bootBuiltins x=some u)(r:XZ v u)(hn:x≠ "__name__":=by decide)(hd:(x==("__debug__":Str))=false:=by decide):PE X (.Name x pos) (tC v):=
 λ_ _ _ H _ I h=>U9 I hg hm hv ⟨v,H,I,r,h⟩ hn hd
variable {a b:Expr}
def PC (X:Cx)(op:CmpOp)(a b:Expr)(t:TE):Prop:=
 ∀(aa:List (Addr×Obj)) (s:Shared) (U:St) (H:Hp) (Q:VK),Inv X aa U H s->t U H Q->
  wpAny (model X.prog X.w) X.A (eval a X.env) (λv s₁=>wpAny (model X.prog X.w) X.A (eval b X.env) (λu s₂=>wpAny (model X.prog X.w) X.A (compareOp op v u) (EP X aa U Q) X.xe s₂) X.xe s₁) X.xe s
theorem Hc (b:Expr)(h:op≠ .In)(h2:op≠ .NotIn):behindInMarks op b=false:=by
 have e1:(op==CmpOp.In)=false:=by cases op<;> first |rfl |exact absurd rfl h
 have e2:(op==CmpOp.NotIn)=false:=by cases op<;> first |rfl |exact absurd rfl h2
 cases b<;> simp[behindInMarks,e1,e2]
def tB (t:TE):TT:=λU H Q=>t U H λx H1=>∃ c,x= .bl c/\Q c H1
theorem Ik (h:PC X op a b t)(h1:behindInMarks op b=false:=by first |exact Hc _ (by decide) (by decide) |rfl):PE X (.Compare a [op] [b] pos) t:=λaa s U H Q I hw=>wpAny_Compare1 (h aa s U H Q I hw) h1
theorem Vl (h:PC X op a b t)(h1:behindInMarks op b=false:=by first |exact Hc _ (by decide) (by decide) |rfl):PT X (.Compare a [op] [b] pos) (tB t):=by
 intro aa s U H Q I hw
 refine wpAny_isTrue_Compare1 (thn (h aa s U H _ I hw) λv s1 h1=>thn h1 λu s2 h2=>thn h2 λc s3 r9=>?_) h1
 obtain⟨x,H1,I1,r1,q1⟩:=r9
 obtain⟨d,rfl,q⟩:=q1
 cases r1
 exact wpAny_truthy_bool ⟨H1,I1,q⟩
theorem Yx (h:PE X e t)(he:∀dq,isTrue e X.env dq=(do let v ←dq;standAt e.pos;holding [v] (truthy v)):=by intro _;rfl):PT X e (tB t):=by
 intro aa s U H Q I hw
 refine isTrue_plain (thn (h aa s U H _ I hw) λv s1 r9=>?_) (he _)
 obtain⟨x,H1,I1,r1,q1⟩:=r9
 obtain⟨d,rfl,q⟩:=q1
 cases r1
 exact wpAny_truthy_bool ⟨H1,I1,q⟩
variable {tA tB':TT}{QB:List Expr}
def W2 (t u:TT):TT:=λU H Q=>t U H λc H1=>if c=true then u U H1 Q else Q false H1
def tOr (t u:TT):TT:=λU H Q=>t U H λc H1=>if c=true then Q true H1 else u U H1 Q
def W6 (t:TT):TT:=λU H Q=>t U H λc H1=>Q (!c) H1
theorem VO (ha:PT X a tA):PW X (.BoolOp .And [a] pos) tA:=by
 intro wh aa s U H Q I h
 refine isTrue_and (thn (ha aa s U H Q I h) λc s1 e=>?_)
 cases c with
 |true=>exact isTrue_and_nil e
 |false=>exact e
theorem Zl (ha:PT X a tA):PW X (.BoolOp .Or [a] pos) tA:=by
 intro wh aa s U H Q I h
 refine isTrue_or (thn (ha aa s U H Q I h) λc s1 e=>?_)
 cases c with
 |false=>exact isTrue_or_nil e
 |true=>exact e
theorem U4 (ha:PT X a tA)(hb:PW X (.BoolOp .And (b::QB) pos) tB'):PW X (.BoolOp .And (a::b::QB) pos) (W2 tA tB'):=by
 intro wh aa s U H Q I h
 refine isTrue_and (thn (ha aa s U H _ I h) λc s1 r9=>?_)
 obtain⟨H1,I1,q1⟩:=r9
 cases c with
 |true=>exact hb wh aa s1 U H1 Q I1 q1
 |false=>exact⟨H1,I1,q1⟩
theorem Zv (ha:PT X a tA)(hb:PW X (.BoolOp .Or (b::QB) pos) tB'):PW X (.BoolOp .Or (a::b::QB) pos) (tOr tA tB'):=by
 intro wh aa s U H Q I h
 refine isTrue_or (thn (ha aa s U H _ I h) λc s1 r9=>?_)
 obtain⟨H1,I1,q1⟩:=r9
 cases c with
 |true=>exact⟨H1,I1,q1⟩
 |false=>exact hb wh aa s1 U H1 Q I1 q1
theorem Zq (ha:PT X a tA):PT X (.UnaryOp .Not a pos) (W6 tA):=by
 intro aa s U H Q I h
 exact isTrue_not (ha aa s U H (λc H1=>Q (!c) H1) I h)
def O0 (ta tb:TE):TE:=λU H Q=>ta U H λx H1=>∃ c,x= .bl c/\if c=true then tb U H1 Q else Q (.bl false) H1
def WH (ta tb:TE):TE:=λU H Q=>ta U H λx H1=>∃ c,x= .bl c/\if c=true then Q (.bl true) H1 else tb U H1 Q
def Rl (ta:TE):TE:=λU H Q=>ta U H λx H1=>∃ c,x= .bl c/\Q (.bl (!c)) H1
theorem Qg {op}(h:PE X a t):PE X (.BoolOp op [a] pos) t:=λaa s U H Q I hw=>BoolOp_one (h aa s U H Q I hw)
theorem Qi (ha:PE X a ta)(hb:PE X (.BoolOp .And (b::QB) pos) tb):PE X (.BoolOp .And (a::b::QB) pos) (O0 ta tb):=by
 intro aa s U H Q I h
 refine BoolOp_and (thn (ha aa s U H _ I h) λv s1 r9=>?_)
 obtain⟨x,H1,I1,r1,q1⟩:=r9
 obtain⟨c,rfl,q1⟩:=q1
 cases r1
 refine wpAny_truthy_bool ?_
 cases c with
 |true=>exact hb aa s1 U H1 Q I1 q1
 |false=>exact⟨.bl false,H1,I1,rfl,q1⟩
theorem Ac (ha:PE X a ta)(hb:PE X (.BoolOp .Or (b::QB) pos) tb):PE X (.BoolOp .Or (a::b::QB) pos) (WH ta tb):=by
 intro aa s U H Q I h
 refine BoolOp_or (thn (ha aa s U H _ I h) λv s1 r9=>?_)
 obtain⟨x,H1,I1,r1,q1⟩:=r9
 obtain⟨c,rfl,q1⟩:=q1
 cases r1
 refine wpAny_truthy_bool ?_
 cases c with
 |false=>exact hb aa s1 U H1 Q I1 q1
 |true=>exact⟨.bl true,H1,I1,rfl,q1⟩
theorem OQ (ha:PE X a ta):PE X (.UnaryOp .Not a pos) (Rl ta):=by
 intro aa s U H Q I h
 refine UnaryOp_ (thn (ha aa s U H _ I h) λv s1 r9=>?_)
 obtain⟨x,H1,I1,r1,q1⟩:=r9
 obtain⟨c,rfl,q1⟩:=q1
 cases r1
 exact not_of (wpAny_truthy_bool ⟨.bl (!c),H1,I1,rfl,q1⟩)
def tIf (t:TT)(ta tb:TE):TE:=λU H Q=>t U H λc H1=>if c=true then ta U H1 Q else tb U H1 Q
theorem J6 (hc:PT X c tA)(ha:PE X a ta)(hb:PE X b tb):PE X (.IfExp c a b pos) (tIf tA ta tb):=by
 intro aa s U H Q I h
 refine wpAny_IfExp (thn (hc aa s U H _ I h) λd s1 r9=>?_)
 obtain⟨H1,I1,q1⟩:=r9
 cases d with
 |true=>exact ha aa s1 U H1 Q I1 q1
 |false=>exact hb aa s1 U H1 Q I1 q1
end
def SqL (K:W.Frag)(H:Hp)(a:Addr)(xs:List V):Prop:=
 Rd H a (.lst xs)∨
  ∃(o:Obj) (its:Array Value) (n:Nat),K.lookup a=some o/\o.cls= .type "list" /\o.dict=none/\o.data= .seq its n/\its.size<=sizeLine/\X9 xs its.toList
def SqT (K:W.Frag)(H:Hp)(a:Addr)(xs:List V):Prop:=
 Rd H a (.tup xs)∨
  ∃(o:Obj) (its:Array Value) (n:Nat),K.lookup a=some o/\o.cls= .type "tuple" /\o.data= .seq its n/\its.size<=sizeLine/\X9 xs its.toList
def AK:Value->Option V
 | .none=>some .non
 | .bool b=>some (.bl b)
 | .int i _=>some (.int i)
 | .str x _=>some (.str x)
 | .bytes b _=>some (.byt b)
 | .float b _=>some (.flt b)
 | .ref a=>some (.ref a)
 | .type n=>some (.ty n)
 |_=>none
theorem XZ.abs {x:V}(r:XZ x u):AK u=some x:=by
 cases x with
 |non=>cases r;rfl
 |bl _=>cases r;rfl
 |int _=>obtain⟨t,rfl⟩:=r;rfl
 |str _=>obtain⟨t,rfl⟩:=r;rfl
 |byt _=>obtain⟨t,rfl⟩:=r;rfl
 |flt _=>obtain⟨t,rfl⟩:=r;rfl
 |ref _=>cases r;rfl
 |ty _=>cases r;rfl
theorem XZ.inj {x y:V}(r:XZ x u)(q:XZ y u):x=y:=Option.some.inj (r.abs.symm.trans q.abs)
theorem X9.inj:∀{xs ys:List V}{us:List Value},X9 xs us->X9 ys us->xs=ys:=fun {xs ys us} p=>by
 induction p generalizing ys with
 |nil=>intro q;cases q;rfl
 |cons r _ ih=>intro q;cases q with |cons r' t'=>rw[r.inj r',ih t']
section
variable {ys:List V}
theorem SqL.of (h:H a=some (.lst xs)):SqL K H a xs:=.inl (.inl h)
theorem SqT.of (h:H a=some (.tup xs)):SqT K H a xs:=.inl (.inl h)
theorem Inv.list (I:Inv X aa U H s)(h:SqL X.K H a xs):∃its:List Value,X9 xs its/\PlainL s.heap a its.toArray/\xs.length<=sizeLine:=by
 rcases h with h | ⟨o,its,n,hk,hc,hd,hs,hz,r⟩
 ·obtain⟨z,its,n,r,e⟩:=h.ok I.hok
  exact⟨its,r,⟨_,n,e,rfl,rfl,rfl⟩,z⟩
 ·refine⟨its.toList,r,⟨o,n,I.kIn a o hk,hc,hd,by simpa using hs⟩,?_⟩
  have e:=r.length
  simp only[Array.length_toList] at e
  omega
theorem Inv.tuple (I:Inv X aa U H s)(h:SqT X.K H a xs):∃its:List Value,X9 xs its/\IsTup s.heap a its.toArray/\xs.length<=sizeLine:=by
 rcases h with h | ⟨o,its,n,hk,hc,hs,hz,r⟩
 ·obtain⟨z,its,r,p⟩:=h.ok I.hok
  exact⟨its,r,p.t,z⟩
 ·refine⟨its.toList,r,⟨o,I.kIn a o hk,hc,n,by simpa using hs⟩,?_⟩
  have e:=r.length
  simp only[Array.length_toList] at e
  omega
theorem Inv.list_inj (I:Inv X aa U H s)(h:SqL X.K H a xs)(h':SqL X.K H a ys):xs=ys:=by
 obtain⟨its,r,⟨o,n,e,_,_,d⟩,_⟩:=I.list h
 obtain⟨its',r',⟨o',n',e',_,_,d'⟩,_⟩:=I.list h'
 rw[e] at e';cases e'
 rw[d] at d'
 injection d' with d1 _
 have:its=its':=by simpa using congrArg Array.toList d1
 subst this
 exact r.inj r'
theorem Inv.tuple_inj (I:Inv X aa U H s)(h:SqT X.K H a xs)(h':SqT X.K H a ys):xs=ys:=by
 obtain⟨its,r,⟨o,e,_,n,d⟩,_⟩:=I.tuple h
 obtain⟨its',r',⟨o',e',_,n',d'⟩,_⟩:=I.tuple h'
 rw[e] at e';cases e'
 rw[d] at d'
 injection d' with d1 _
 have:its=its':=by simpa using congrArg Array.toList d1
 subst this
 exact r.inj r'
end
abbrev Cx.wish (X:Cx)(E:Value->Shared->Prop):Cx:={X with xe:=E}
abbrev Cx.nox (X:Cx):Cx:=X.wish λ_ _=>False
theorem Cx.Ok.wish (ok:X.Ok)(E:Value->Shared->Prop):(X.wish E).Ok:=
 ⟨ok.mod,ok.kind,ok.glob,ok.blt,ok.above,ok.inj,ok.has,ok.cab,ok.hd,ok.frames,ok.stk,ok.exf,ok.bs,ok.bsz,ok.noex,ok.exfs,ok.funs,ok.frf⟩
theorem Cx.Ok.unwish (ok:(X.wish E).Ok):X.Ok:=
 ⟨ok.mod,ok.kind,ok.glob,ok.blt,ok.above,ok.inj,ok.has,ok.cab,ok.hd,ok.frames,ok.stk,ok.exf,ok.bs,ok.bsz,ok.noex,ok.exfs,ok.funs,ok.frf⟩
section
theorem Inv.wish (I:Inv X aa U H s)(E:Value->Shared->Prop):Inv (X.wish E) aa U H s:=⟨I.ok.wish E,I.os,I.bare,I.base,I.loc,I.cell,I.free,I.freeC,I.pin,I.hok,I.len⟩
theorem Inv.unwish (I:Inv (X.wish E) aa U H s):Inv X aa U H s:=⟨I.ok.unwish,I.os,I.bare,I.base,I.loc,I.cell,I.free,I.freeC,I.pin,I.hok,I.len⟩
theorem SP.unwish (h:SP (X.wish E) aa D f s'):SP X aa D f s':=by
 cases f with
 |next=>obtain⟨U',H',I,q⟩:=h;exact⟨U',H',I.unwish,q⟩
 |brk=>obtain⟨U',H',I,q⟩:=h;exact⟨U',H',I.unwish,q⟩
 |cont=>obtain⟨U',H',I,q⟩:=h;exact⟨U',H',I.unwish,q⟩
 |ret u=>obtain⟨v,U',H',I,r,q⟩:=h;exact⟨v,U',H',I.unwish,r,q⟩
theorem PSs.nox {st:List Stmt}{t:TS}(h:PSs X.nox st t):PSs X st t:=λaa s U H D I hw=>
 wpAny_mono (h aa s U H D (I.wish _) hw) (λ_ _ q=>q.unwish) λ_ _ z=>False.elim z
end
section
variable {st:Stmt}{QB:List Stmt}{t u:TS}
def DE:TS:=λD U H=>D.nx U H
def Zn (t u:TS):TS:=λD U H=>t {D with nx:=u D} U H
theorem Xe:PSs X [] DE:=λ_ _ U H _ I h=>wpAny_execs_nil ⟨U,H,I,h⟩
theorem Xb (h1:PS X st t)(h2:PSs X QB u):PSs X (st::QB) (Zn t u):=by
 intro aa s U H D I h
 refine wpAny_execs_cons (thn (h1 aa s U H {D with nx:=u D} I h) λf s1 q=>?_)
 cases f with
 |next=>
  obtain⟨U',H',I',q⟩:=q
  exact h2 aa s1 U' H' D I' q
 |ret v=>exact q
 |brk=>exact q
 |cont=>exact q
theorem Inv.quiet (I:Inv X aa U H s):interactive X.env=false:=by simp[interactive,I.ok.kind]
def Fe (te:TE):TS:=λD U H=>te U H λ_ H1=>D.nx U H1
theorem XY (he:PE X e te)(hs:swapsWith e none pos.line X.env=pure false:=by rfl):PS X (.Expr e pos) (Fe te):=by
 intro aa s U H D I h
 exact wpAny_Expr_any (thn (he aa s U H _ I h) λv s1 r9=>by obtain⟨x,H1,I1,r1,q1⟩:=r9;exact⟨U,H1,I1,q1⟩) I.quiet hs
def Ww (te:TE):TS:=λD U H=>te U H D.rt
theorem Xo (he:PE X e te):PS X (.Return (some e) pos) (Ww te):=by
 intro aa s U H D I h
 exact wpAny_Return_some (thn (he aa s U H _ I h) λv s1 r9=>by obtain⟨x,H1,I1,r1,q1⟩:=r9;exact⟨x,U,H1,I1,r1,q1⟩)
def R1 (c:TT)(t u:TS):TS:=λD U H=>c U H λb H1=>if b=true then t D U H1 else u D U H1
theorem XA {a b:List Stmt}{tc:TT}(hc:PT X c tc)(ha:PSs X a t)(hb:PSs X b u):PS X (.If c a b pos) (R1 tc t u):=by
 intro aa s U H D I h
 refine wpAny_If (thn (hc aa s U H _ I h) λd s1 r9=>?_)
 obtain⟨H1,I1,q1⟩:=r9
 cases d with
 |true=>exact ha aa s1 U H1 D I1 q1
 |false=>exact hb aa s1 U H1 D I1 q1
end
abbrev TG:=V->St->Hp->(St->Hp->Prop)->Prop
abbrev TGs:=List V->St->Hp->(St->Hp->Prop)->Prop
def PG (X:Cx)(cx:Expr)(t:TG):Prop:=
 ∀(aa:List (Addr×Obj)) (s:Shared) (U:St) (H:Hp) (v:V) (u:Value) (Q:St->Hp->Prop),Inv X aa U H s->XZ v u->t v U H Q->
  wpAny (model X.prog X.w) X.A (assign cx X.env u) (λ_ s'=>∃ U' H',Inv X aa U' H' s'/\Q U' H') X.xe s
def PGs (X:Cx)(ts:List Expr)(t:TGs):Prop:=
 ∀(aa:List (Addr×Obj)) (s:Shared) (U:St) (H:Hp) (vs:List V) (us:List Value) (Q:St->Hp->Prop),Inv X aa U H s->X9 vs us->t vs U H Q->
  wpAny (model X.prog X.w) X.A (assignInOrder ((assignEach ts X.env).map (·.2)) us) (λ_ s'=>∃ U' H',Inv X aa U' H' s'/\Q U' H') X.xe s
abbrev Af:=V->V->V->Hp->(Hp->Prop)->Prop
def Ai (X:Cx)(t:Af):Prop:=
 ∀(aa:List (Addr×Obj)) (s:Shared) (U:St) (H:Hp) (o i v:V) (ov iv u:Value) (Q:Hp->Prop),Inv X aa U H s->XZ o ov->XZ i iv->XZ v u->t o i v H Q->
  wpAny (model X.prog X.w) X.A (setItem ov iv u) (λ_ s'=>∃ H',Inv X aa U H' s'/\Q H') X.xe s
section
def X4 (i:Nat):TG:=λv U H Q=>Q (U.set i (some v)) H
theorem Yk (hN:X.N.Nodup)(hi:X.N[i]?=some x)(hx:Loc X.env.scope x)(hf:X.fn x=true∨X.env.scope.names.lookup x=some .local:=by first |exact .inl rfl |exact .inr rfl |assumption):PG X (.Name x pos) (X4 i):=by
 intro aa s U H v u Q I r h
 exact wpAny_assign_Name (Ql I hN hi hx r (λs' I'=>⟨_,H,I',h⟩) hf)
def IK:TGs:=λvs U H Q=>vs=[]/\Q U H
def YH (t:TG)(u:TGs):TGs:=λvs U H Q=>∃ v r,vs=v::r/\t v U H λU' H'=>u r U' H' Q
theorem YT:PGs X [] IK:=by
 intro aa s U H vs us Q I r h
 obtain⟨e,h⟩:=h
 subst e
 cases r
 exact assignInOrder_nil ⟨U,H,I,h⟩
theorem Xq {u:TGs}(h1:PG X e t)(h2:PGs X es u)
  (hs:(assignEach (e::es) X.env).map (·.2)=assign e X.env::(assignEach es X.env).map (·.2):=by rfl):PGs X (e::es) (YH t u):=by
 intro aa s U H vs us Q I r h
 obtain⟨v,vr,e1,h⟩:=h
 subst e1
 cases r with
 |cons r rr=>
  rw[hs]
  refine assignInOrder_cons (thn (h1 aa s U H _ _ _ I r h) λ_ s1 r9=>?_)
  obtain⟨σ1,H1,I1,q1⟩:=r9
  exact h2 aa s1 σ1 H1 _ _ Q I1 rr q1
def Ii (K:W.Frag)(n:Nat)(t:TGs):TG:=λv U H Q=>∃ a xs,v= .ref a/\SqT K H a xs/\xs.length=n/\t xs U H Q
theorem ZT (hc:X.calm=true)(h:PGs X es t)
  (hn:(assignEach es X.env).length=n:=by rfl)(dZ:(assignEach es X.env).findIdx? (·.1)=none:=by rfl):PG X (.Tuple es k pos) (Ii X.K n t):=by
 intro aa s U H v u Q I r hw
 obtain⟨a,xs,e1,hq,hl,hw⟩:=hw
 subst e1
 cases r
 obtain⟨its,rv,ht,hz⟩:=I.tuple hq
 refine assign_Tuple_tuple (I.ok.hd hc) ht (by simp[hn, ←hl,rv.length]) dZ λh' hx=>?_
 have I1:Inv X aa U H {s with heap:=h'}:=I.kept (t':=s.toks) λb o e=>hx b o (Nat.ne_of_lt (Heap.lt_size e)) e
 exact h aa _ U H xs _ Q I1 (by simpa using rv) hw
def Sx (to ti:TE)(t:Af):TG:=λv U H Q=>to U H λo H1=>ti U H1 λi H2=>t o i v H2 λH3=>Q U H3
theorem Zo (ho:PE X o to)(hi:PE X i ti)(hs:Ai X t)
  (ha:∀v,assign (.Subscript o i pos) X.env v=(do
   let ov ←holding [v] (eval o X.env)
   let iv ←holding [v,ov] (eval i X.env)
   standAt pos
   holding [v,ov,iv] (setItem ov iv v)
   release [v,ov,iv] []):=by intro _;rfl):PG X (.Subscript o i pos) (Sx to ti t):=by
 intro aa s U H v u Q I r h
 rw[ha]
 refine wpAny_bind (wpAny_holding (thn (ho aa s U H _ I h) λov s1 r9=>?_))
 obtain⟨x,H1,I1,r1,q1⟩:=r9
 refine wpAny_bind (wpAny_holding (thn (hi aa s1 U H1 _ I1 q1) λiv s2 r9=>?_))
 obtain⟨y,H2,I2,r2,q2⟩:=r9
 refine wpAny_bind (wpAny_standAt (wpAny_bind (wpAny_holding (thn (hs aa s2 U H2 x y v ov iv u _ I2 r1 r2 r q2) λ_ s3 r9=>?_))))
 obtain⟨H3,I3,q3⟩:=r9
 exact wpAny_release ⟨U,H3,I3,q3⟩
def G7 (te:TE)(g:TG):TS:=λD U H=>te U H λx H1=>g x U H1 D.nx
theorem Yt (he:PE X e te)(hg:PG X tg g)(hs:swapsWithSole [tg] e pos.line X.env=pure false:=by rfl)(hw:swappedStores [tg] e X.env=pure none:=by rfl)
  (h1:(assignEach [tg] X.env).map (·.2)=[assign tg X.env]:=by rfl):PS X (.Assign [tg] e pos) (G7 te g):=by
 intro aa s U H D I h
 refine wpAny_Assign_stores (thn (he aa s U H _ I h) λv s1 r9=>?_) hs hw
 obtain⟨x,H1,I1,r1,q1⟩:=r9
 rw[h1]
 exact thn (hg aa s1 U H1 x v _ I1 r1 q1) λ_ s2 q=>q
theorem JT (hN:X.N.Nodup)(hi:X.N[i]?=some x)(hx:Loc X.env.scope x)(he:PE X e te)(hs:swapsWith e (some (.Name x cK)) pos.line X.env=pure false:=by rfl)(hf:X.fn x=true∨X.env.scope.names.lookup x=some .local:=by first |exact .inl rfl |exact .inr rfl |assumption):
  PS X (.Assign [.Name x cK] e pos) (G7 te (X4 i)):=by
 intro aa s U H D I h
 refine wpAny_Assign_Name (thn (he aa s U H _ I h) λv s1 r9=>?_) hs
 obtain⟨y,H1,I1,r1,q1⟩:=r9
 exact Ql I1 hN hi hx r1 (λs2 I2=>⟨_,H1,I2,q1⟩) hf
def Av (i j:Nat)(ta:TA):TS:=λD U H=>ta U H λvs H1=>∃ v w,vs=[v,w]/\D.nx ((U.set i (some v)).set j (some w)) H1
theorem ON {y:Str}{a b:Expr}{ta:TA}{kt k2 pt2}(hc:X.calm=true)(hN:X.N.Nodup)(hi:X.N[i]?=some x)(hj:X.N[j]?=some y)(b9:i≠j)
  (hx:X.env.scope.names.lookup x=some .local)(hy:X.env.scope.names.lookup y=some .local)(ha:PA X [a,b] ta)
  (hw:swappedStores [.Tuple [.Name x px, .Name y py] kt pt] (.Tuple [a,b] k2 pt2) X.env=pure (some [x,y]))
  (hs:swapsWithSole [.Tuple [.Name x px, .Name y py] kt pt] (.Tuple [a,b] k2 pt2) pos.line X.env=pure false:=by rfl):
  PS X (.Assign [.Tuple [.Name x px, .Name y py] kt pt] (.Tuple [a,b] k2 pt2) pos) (Av i j ta):=by
 intro aa s U H D I h
 rw[exec_Assign_arm]
 refine wpAny_bind (wpAny_standAt ?_)
 rw[hs]
 refine wpAny_bind (wpAny_pure ?_)
 rw[if_neg (by decide)]
 refine wpAny_bind (Tuple_ (thn (ha _ aa s U H _ I h) λus s1 r9=>?_))
 obtain⟨vs,H1,I1,r1,q1⟩:=r9
 obtain⟨v,w,e1,q1⟩:=q1
 subst e1
 obtain⟨u1,u2,rfl,rv,cy⟩:∃u1 u2,us=[u1,u2]/\XZ v u1/\XZ w u2:=by
  cases r1 with
  |cons p q=>
   cases q with
   |cons p' q'=>
    cases q'
    exact⟨_,_,rfl,p,p'⟩
 refine wpAny_newObj_type ?_ (by show 2<=sizeLine;decide)
 have I2:Inv X aa U H1 {s1 with heap:=s1.heap.push {cls:=.type "tuple",data:=.seq [u1,u2].toArray}}:=I1.kept (t':=s1.toks) λb o e=>Heap.get?_push_of_some _ e
 rw[hw]
 refine wpAny_bind (wpAny_pure ?_)
 show wpAny (model X.prog X.w) X.A (do rule "assign.swapped-stores";let items ←unpackItems (.ref s1.heap.objs.size) 2 none;assignInOrder [λv=>bindName X.env y v,λv=>bindName X.env x v] items.reverse;pure Flow.next) _ _ _
 refine wpAny_bind (wpAny_rule (wpAny_bind (unpackItems_tuple (items:=#[u1,u2]) (I.ok.hd hc) (IsTup.new s1.heap _) λh' fz=>?_)))
 have I3:=I2.kept (h':=h') (t':=s1.toks) λb o e=>fz b o (Nat.ne_of_lt (Heap.lt_size e)) e
 show wpAny _ _ (assignInOrder [λv=>bindName X.env y v,λv=>bindName X.env x v] [u2,u1] >>= λ_=>pure Flow.next) _ _ _
 refine wpAny_bind (assignInOrder_cons (wpAny_bindName (Ql I3 hN hj (.inl hy) cy (λs2 I4=>?_) (.inr hy))))
 refine assignInOrder_cons (wpAny_bindName (Ql I4 hN hi (.inl hx) rv (λs3 I5=>assignInOrder_nil (wpAny_pure ?_)) (.inr hx)))
 rw[List.set_comm _ _ (Ne.symm b9)] at I5
 exact⟨_,H1,I5,q1⟩
end
section
def L5 (c:TT)(tb:TS):TS:=λD U H=>∃ W:Nat->St->Hp->Prop,(∃m,W m U H)/\∀m U H,W m U H->
 c U H λb H1=>if b=true then ∃N:St->Hp->Prop,(∀U' H',N U' H'->∃m',m'<m/\W m' U' H')/\tb {D with nx:=N,ct:=N,bk:=D.nx} U H1 else D.nx U H1
theorem DS {tc:TT}{tb:TS}(hp:PassesOwn (model X.prog X.w) X.A X.env X.xe)(hc:PT X c tc)(hb:PSs X body tb):PS X (.While c body [] pos) (L5 tc tb):=by
 intro aa s U H D I h
 obtain⟨W,⟨m0,w0⟩,turn⟩:=h
 refine wpAny_While (codeAny_whileLoop (λn s'=>∃ U' H',Inv X aa U' H' s'/\W n U' H') ?_ m0 ⟨U,H,I,w0⟩)
 rintro n s1 ⟨σ1,H1,I1,w1⟩
 refine wpAny_passesOwn hp (thn (hc aa s1 σ1 H1 _ I1 (turn n σ1 H1 w1)) λb s2 r9=>?_)
 obtain⟨H2,I2,q2⟩:=r9
 cases b with
 |true=>
  obtain⟨N,hN,q2⟩:=q2
  rw[if_pos rfl]
  refine wpAny_passesOwn hp (thn (hb aa s2 σ1 H2 _ I2 q2) λf s3 q3=>?_)
  cases f with
  |next=>
   obtain⟨σ3,H3,I3,n3⟩:=q3
   obtain⟨m',hm,w3⟩:=hN σ3 H3 n3
   exact⟨m',hm,σ3,H3,I3,w3⟩
  |cont=>
   obtain⟨σ3,H3,I3,n3⟩:=q3
   obtain⟨m',hm,w3⟩:=hN σ3 H3 n3
   exact⟨m',hm,σ3,H3,I3,w3⟩
  |brk=>exact q3
  |ret v=>exact q3
 |false=>
  rw[if_neg Bool.false_ne_true]
  exact wpAny_execs_nil ⟨σ1,H2,I2,q2⟩
end
structure It where
 go:Nat->Hp->Prop
 yld:Nat->Hp->V->Hp->Prop
 stop:Nat->Hp->Prop
def Ht (X:Cx)(aa:List (Addr×Obj))(H:Hp)(b:Addr):Prop:=
 H b=none/\b≠X.env.locals/\b∉X.fs/\(b∈X.ex∨X.s₀.heap.objs.size<=b)/\(∀x c,X.env.cells.lookup x=some c->c≠b)/\∀p∈X.pn++aa,p.1≠b
theorem Inv.fpOk (I:Inv X aa U H s)(hb:s.heap.objs.size<=b)(hn:H' b=none):Ht X aa H' b:=by
 refine⟨hn,Nat.ne_of_gt (Nat.lt_of_lt_of_le I.lt hb),I.nofs hb, .inr (Nat.le_trans I.sz hb),λx c e z=>?_,λp hp z=>?_⟩
 ·obtain⟨v,q⟩:=I.cell x c e
  exact absurd (Nat.lt_of_lt_of_le q.lt (by rw[z];exact hb)) (Nat.lt_irrefl _)
 ·exact absurd (Nat.lt_of_lt_of_le (Heap.lt_size (I.pin p hp).1) (by rw[z];exact hb)) (Nat.lt_irrefl _)
structure Turn (P:Program)(w:World)(K:W.Frag)(tg:Expr)(J:It)(fp:List Addr)(it:Addr)(tn:Nat->Heap->Prop):Prop where
 mem:it∈fp
 obj:∀i h,tn i h->∀b∈fp,∃o,h.get? b=some o/\∀v,o.data≠ .cell v
 keep:∀i h h',tn i h->(∀b∈fp,∀o,h.get? b=some o->h'.get? b=some o)->tn i h'
 item:∀(X:Cx),X.prog=P->X.w=w->X.K=K->X.calm=true->∀(i:Nat) (aa:List (Addr×Obj)) (s:Shared) (U:St) (H:Hp) (E:Value->Shared->Prop),Inv X aa U H s->(∀b∈fp,Ht X aa H b)->tn i s.heap->J.go i H->
  wpAny (model P w) X.A (pyNext (.ref it)) (λr s1=>∃ u,r=some u/\
   wpAny (model P w) X.A (letOwnedTupleGo tg (.ref it) u) (λ_ s2=>∃ x H',Inv X aa U H' s2/\XZ x u/\J.yld i H x H'/\tn (i+1) s2.heap/\∀b∈fp,H' b=none) E s1) E s
 done:∀(X:Cx),X.prog=P->X.w=w->X.K=K->X.calm=true->∀(i:Nat) (aa:List (Addr×Obj)) (s:Shared) (U:St) (H:Hp) (E:Value->Shared->Prop),Inv X aa U H s->(∀b∈fp,Ht X aa H b)->tn i s.heap->J.stop i H->
  wpAny (model P w) X.A (pyNext (.ref it)) (λr s1=>r=none/\Inv X aa U H s1) E s
 self:∀(A:Around) (i:Nat) (s:Shared) (Q:Value->Shared->Prop) (E:Value->Shared->Prop),tn i s.heap->Q (.ref it) s->wpAny (model P w) A (pyIter (.ref it)) Q E s
abbrev TI:=St->Hp->(It->Hp->Prop)->Prop
def PIE (X:Cx)(aa:List (Addr×Obj))(U:St)(tg:Expr)(R:It->Hp->Prop)(gb:Value)(s2:Shared):Prop:=
 ∃(it:Addr) (fp:List Addr) (tn:Nat->Heap->Prop) (J:It) (H':Hp),gb= .ref it/\Inv X aa U H' s2/\Turn X.prog X.w X.K tg J fp it tn/\tn 0 s2.heap/\(∀b∈fp,Ht X aa H' b)/\R J H'
def PI (X:Cx)(tg iter:Expr)(wi:TI):Prop:=
 ∀(aa:List (Addr×Obj)) (s:Shared) (U:St) (H:Hp) (R:It->Hp->Prop),Inv X aa U H s->wi U H R->
  wpAny (model X.prog X.w) X.A (eval iter X.env) (λv s1=>wpAny (model X.prog X.w) X.A (pyIter v) (PIE X aa U tg R) X.xe s1) X.xe s
theorem Sk {n:String}{Q:Unit->Shared->Prop}(ho:s.heap.get? it=some o)(hc:o.cls= .type n)(hd:o.data= .fields vs)
    (hn: ["enumerate","zip","dict_itemiterator","dict_reverseitemiterator","odict_iterator","itertools.zip_longest","itertools.pairwise"].contains n=false)(hQ:Q () s):wpAny Mqz A (letOwnedTupleGo tg (.ref it) u) Q E s:=by
  unfold letOwnedTupleGo
  cases tg<;> first
    |exact wpAny_pure hQ
    | (cases u<;> first
        |exact wpAny_pure hQ
        | (refine wpAny_bind (wpAny_load ho ?_)
           rw[hc,hd]
           show wpAny Mqz A (if(["enumerate","zip","dict_itemiterator","dict_reverseitemiterator","odict_iterator","itertools.zip_longest","itertools.pairwise"].contains n&&vs[0]?==some (rawInt _))=true then _ else _) Q E s
           rw[if_neg (by intro h;rw[hn,Bool.false_and] at h;cases h)]
           exact wpAny_pure hQ))
def Itl (K:W.Frag)(a:Addr):It:=
 ⟨λi H=>∃ xs x,SqL K H a xs/\xs[i]?=some x,λi H x H'=>H'=H/\∀xs,SqL K H a xs->xs[i]?=some x,λi H=>∃ xs,SqL K H a xs/\xs.length<=i⟩
def Itt (K:W.Frag)(a:Addr):It:=
 ⟨λi H=>∃ xs x,SqT K H a xs/\xs[i]?=some x,λi H x H'=>H'=H/\∀xs,SqT K H a xs->xs[i]?=some x,λi H=>∃ xs,SqT K H a xs/\xs.length<=i⟩
def Itr (lo:Int)(n:Nat):It:=⟨λi _=>i<n,λi H x H'=>H'=H/\x= .int (lo+i),λi _=>n<=i⟩
theorem Mg (a it:Addr):Turn P w K tg (Itl K a) [it] it (λi h=>h.IsListIter it a i) where
 mem:=by simp
 obj:=λi h st b hb=>by
  have e:b=it:=by simpa using hb
  subst e
  obtain⟨o,e,c,d⟩:=st
  exact⟨o,e,λv z=>by rw[d] at z;cases z⟩
 keep:=λi h h' st k=>st.at λo e=>k it (by simp) o e
 item:=by
  intro X hP hw hK hc i aa s U H E I hf st hg
  subst hP hw hK
  obtain⟨xs,x,hq,hx⟩:=hg
  obtain⟨its,rv,p,hz⟩:=I.list hq
  obtain⟨u,hu,ru⟩:=rv.get hx
  obtain⟨f0,f1,f2,f3,f4,f5⟩:=hf it (by simp)
  refine wpAny_pyNext_list_item st p.isList (x:=u) (by simpa using hu) λh' fA sb=>?_
  have I1:Inv X aa U H {s with heap:=h'}:=I.turned (t':=s.toks) (λb o hb e=>(sb.2 b hb).trans e) f0 f1 f3 f4 f5
  obtain⟨o,e,c,d⟩:=id fA
  exact⟨u,rfl,Sk (s:={s with heap:=h'}) e c d (by decide) ⟨x,H,I1,ru,⟨rfl,λys hy=>by rw[I.list_inj hy hq];exact hx⟩,fA,λb hb=>(hf b hb).1⟩⟩
 done:=by
  intro X hP hw hK hc i aa s U H E I hf st hg
  subst hP hw hK
  obtain⟨xs,hq,hx⟩:=hg
  obtain⟨its,rv,p,hz⟩:=I.list hq
  obtain⟨f0,f1,f2,f3,f4,f5⟩:=hf it (by simp)
  have hl:=rv.length
  exact wpAny_pyNext_list_end (I.ok.hd hc) st p.isList (by simp;omega) λh' eb=>⟨rfl,I.turned (t':=s.toks) (λb o hb e=>eb b o hb e) f0 f1 f3 f4 f5⟩
 self:=λ_ _ _ _ _ st h=>wpAny_pyIter_listiter st h
theorem HV (a it:Addr):Turn P w K tg (Itt K a) [it] it (λi h=>h.IsTupleIter it a i) where
 mem:=by simp
 obj:=λi h st b hb=>by
  have e:b=it:=by simpa using hb
  subst e
  obtain⟨o,e,c,d⟩:=st
  exact⟨o,e,λv z=>by rw[d] at z;cases z⟩
 keep:=λi h h' st k=>st.at λo e=>k it (by simp) o e
 item:=by
  intro X hP hw hK hc i aa s U H E I hf st hg
  subst hP hw hK
  obtain⟨xs,x,hq,hx⟩:=hg
  obtain⟨its,rv,p,hz⟩:=I.tuple hq
  obtain⟨u,hu,ru⟩:=rv.get hx
  obtain⟨f0,f1,f2,f3,f4,f5⟩:=hf it (by simp)
  refine wpAny_pyNext_tuple_item st (show s.heap.IsTuple a its.toArray from p) (x:=u) (by simpa using hu) λh' fA sb=>?_
  have I1:Inv X aa U H {s with heap:=h'}:=I.turned (t':=s.toks) (λb o hb e=>(sb.2 b hb).trans e) f0 f1 f3 f4 f5
  obtain⟨o,e,c,d⟩:=id fA
  exact⟨u,rfl,Sk (s:={s with heap:=h'}) e c d (by decide) ⟨x,H,I1,ru,⟨rfl,λys hy=>by rw[I.tuple_inj hy hq];exact hx⟩,fA,λb hb=>(hf b hb).1⟩⟩
 done:=by
  intro X hP hw hK hc i aa s U H E I hf st hg
  subst hP hw hK
  obtain⟨xs,hq,hx⟩:=hg
  obtain⟨its,rv,p,hz⟩:=I.tuple hq
  obtain⟨f0,f1,f2,f3,f4,f5⟩:=hf it (by simp)
  have hl:=rv.length
  exact wpAny_pyNext_tuple_end (I.ok.hd hc) st (show s.heap.IsTuple a its.toArray from p) (by simp;omega) λh' eb=>⟨rfl,I.turned (t':=s.toks) (λb o hb e=>eb b o hb e) f0 f1 f3 f4 f5⟩
 self:=λ_ _ _ _ _ st h=>wpAny_pyIter_tupleiter st h
theorem HM (it:Addr)(lo:Int)(n:Nat):Turn P w K tg (Itr lo n) [it] it (λi h=>IsRangeIter h it (lo+(i:Nat)*1) ((n:Int)-(i:Nat)) 1) where
 mem:=by simp
 obj:=λi h st b hb=>by
  have e:b=it:=by simpa using hb
  subst e
  exact⟨_,st,λv z=>by
   have z':Data.fields _=Data.cell v:=z
   cases z'⟩
 keep:=λi h h' st k=>k it (by simp) _ st
 item:=by
  intro X hP hw hK hc i aa s U H E I hf st hg
  subst hP hw hK
  obtain⟨f0,f1,f2,f3,f4,f5⟩:=hf it (by simp)
  have W:=Walks.range (prog:=X.prog) (w:=X.w) (I.ok.hd hc) it lo 1 n
  refine W.item i s _ _ hg st λv h' tk hv fA kk=>?_
  obtain⟨t,rfl⟩:=hv
  have I1:Inv X aa U H {s with heap:=h',toks:=tk}:=I.turned (λb o hb e=>kk b o (by simpa using hb) e) f0 f1 f3 f4 f5
  refine⟨_,rfl,Sk (s:={s with heap:=h',toks:=tk}) (n:="range_iterator") fA rfl rfl (by decide) ⟨.int (lo+i),H,I1,⟨t,?_⟩,⟨rfl,rfl⟩,fA,λb hb=>(hf b hb).1⟩⟩
  rw[Int.mul_one]
 done:=by
  intro X hP hw hK hc i aa s U H E I hf st hg
  subst hP hw hK
  obtain⟨f0,f1,f2,f3,f4,f5⟩:=hf it (by simp)
  exact wpAny_pyNext_range_end (I.ok.hd hc) st (by have:n<=i:=hg;omega) λh' eb=>⟨rfl,I.turned (t':=s.toks) (λb o hb e=>eb b o hb e) f0 f1 f3 f4 f5⟩
 self:=λ_ _ _ _ _ st h=>wpAny_pyIter_rangeiter st h
section
def HU (K:W.Frag)(tl:TE):TI:=λU H R=>tl U H λx H1=>∃ a,x= .ref a/\(∃xs,SqL K H1 a xs)/\R (Itl K a) H1
def Wq (K:W.Frag)(tl:TE):TI:=λU H R=>tl U H λx H1=>∃ a,x= .ref a/\(∃xs,SqT K H1 a xs)/\R (Itt K a) H1
theorem O6 (hl:PE X l tl):PI X tg l (HU X.K tl):=by
 intro aa s U H R I h
 refine thn (hl aa s U H _ I h) λv s1 r9=>?_
 obtain⟨x,H1,I1,r1,q1⟩:=r9
 obtain⟨a,e,⟨xs,hq⟩,q⟩:=q1
 subst e
 cases r1
 obtain⟨its,rv,p,hz⟩:=I1.list hq
 refine wpAny_pyIter_list p.isList ?_
 refine⟨s1.heap.objs.size,[s1.heap.objs.size],_,_,H1,rfl,I1.kept (t':=s1.toks) λb o e=>Heap.get?_push_of_some _ e,Mg a _,⟨_,Heap.get?_push_size _ rfl,rfl,rfl⟩,λb hb=>?_,q⟩
 have e:b=s1.heap.objs.size:=by simpa using hb
 subst e
 exact I1.fpOk (Nat.le_refl _) (I1.hok.fresh (Nat.le_refl _))
theorem Tv (hl:PE X l tl):PI X tg l (Wq X.K tl):=by
 intro aa s U H R I h
 refine thn (hl aa s U H _ I h) λv s1 r9=>?_
 obtain⟨x,H1,I1,r1,q1⟩:=r9
 obtain⟨a,e,⟨xs,hq⟩,q⟩:=q1
 subst e
 cases r1
 obtain⟨its,rv,p,hz⟩:=I1.tuple hq
 refine wpAny_pyIter_tuple (show s1.heap.IsTuple a its.toArray from p) ?_
 refine⟨s1.heap.objs.size,[s1.heap.objs.size],_,_,H1,rfl,I1.kept (t':=s1.toks) λb o e=>Heap.get?_push_of_some _ e,HV a _,⟨_,Heap.get?_push_size _ rfl,rfl,rfl⟩,λb hb=>?_,q⟩
 have e:b=s1.heap.objs.size:=by simpa using hb
 subst e
 exact I1.fpOk (Nat.le_refl _) (I1.hok.fresh (Nat.le_refl _))
theorem NC {R:It->Hp->Prop}{lo hi:Int}{t u v:Tok}{tk:Nat}(I:Inv X aa U H s)(h1: -(2^62)<=lo)(h2:lo<2^62)(h3: -(2^62)<=hi)(h4:hi<2^62)
  (q:R (Itr lo (hi-lo).toNat) H):wpAny (model X.prog X.w) X.A (pyIter (.ref s.heap.objs.size)) (PIE X aa U tg R) E {s with heap:=s.heap.push {cls:=.type "range",data:=.fields #[.int lo t, .int hi u, .int 1 v]},toks:=tk}:=by
 refine wpAny_pyIter_range (IsRange.new ..) (small_one h1 h2 h3 h4) ?_
 have I1:Inv X aa U H {s with heap:=s.heap.push {cls:=.type "range",data:=.fields #[.int lo t, .int hi u, .int 1 v]},toks:=tk}:=I.kept λb o e=>Heap.get?_push_of_some _ e
 refine⟨(s.heap.push {cls:=.type "range",data:=.fields #[.int lo t, .int hi u, .int 1 v]}).objs.size,[(s.heap.push {cls:=.type "range",data:=.fields #[.int lo t, .int hi u, .int 1 v]}).objs.size],_,_,H,rfl,
  I1.kept (t':=tk) λb o e=>Heap.get?_push_of_some _ e,HM _ lo (hi-lo).toNat,?_,λb hb=>?_,q⟩
 ·have e1:lo+((0:Nat):Int)*1=lo:=by simp
  have e2:(((hi-lo).toNat:Nat):Int)-((0:Nat):Int)=Builtin.Range.rangeSize lo hi 1:=by rw[rangeSize_one];split<;> omega
  show IsRangeIter _ _ (lo+((0:Nat):Int)*1) ((((hi-lo).toNat:Nat):Int)-((0:Nat):Int)) 1
  rw[e1,e2]
  exact Heap.get?_push_size _ rfl
 ·have e:b=(s.heap.push {cls:= .type "range",data:= .fields #[.int lo t, .int hi u, .int 1 v]}).objs.size:=by simpa using hb
  subst e
  exact I1.fpOk (Nat.le_refl _) (I1.hok.fresh (Nat.le_refl _))
def Po (ta:TA):TI:=λU H R=>ta U H λvs H1=>∃ j:Int,vs=[.int j]/\ -(2^62)<=j/\j<2^62/\R (Itr 0 j.toNat) H1
theorem Yy {a:Expr}{ta:TA}{p:Pos}(hg:Gl X "range")(hm:X.mg "range" =none)(ha:PA X [a] ta)(hs:starEach [a] X.env=[(false,eval a X.env)]:=by rfl):PI X tg (.Call (.Name "range" p) [a] [] pos) (Po ta):=by
 intro aa s U H R I h
 refine Call_ (U9 I hg hm boot_range (callWith_type1 (thn (ha pos aa s U H _ I h) λus s1 r9=>?_) hs rfl))
 obtain⟨vs,H1,I1,r1,q1⟩:=r9
 obtain⟨j,e,q1,q2,q⟩:=q1
 subst e
 cases r1 with
 |cons r rr=>
  cases rr
  obtain⟨t,rfl⟩:=r
  exact call_range_1 (NC I1 (by omega) (by omega) q1 q2 (by simpa using q))
def M5 (wi:TI)(g:TG)(tb:TS):TS:=λD U H=>wi U H λJ H1=>∃ W:Nat->Nat->St->Hp->Prop,(∃m,W 0 m U H1)/\∀i m U H,W i m U H->
 (J.stop i H/\D.nx U H)∨(J.go i H/\∃N:St->Hp->Prop,(∀U' H',N U' H'->∃m',m'<m/\W (i+1) m' U' H')/\∀x H',J.yld i H x H'->g x U H' λσ2 H2=>tb {D with nx:=N,ct:=N,bk:=D.nx} σ2 H2)
def Cq (fp:List Addr)(h:Heap):List (Addr×Obj):=fp.filterMap λb=>(h.get? b).map λo=>(b,o)
theorem UV (hb:b∈fp)(e:h.get? b=some o):(b,o)∈Cq fp h:=List.mem_filterMap.mpr ⟨b,hb,by rw[e];rfl⟩
theorem Ip {p:Addr×Obj}(hp:p∈Cq fp h):p.1∈fp/\h.get? p.1=some p.2:=by
 obtain⟨b,hb,e⟩:=List.mem_filterMap.mp hp
 cases q:h.get? b with
 |none=>rw[q] at e;cases e
 |some o=>
  rw[q] at e
  have e':(b,o)=p:=Option.some.inj e
  subst e'
  exact⟨hb,q⟩
theorem Inv.pinned (I:Inv X aa U H s)(hf:∀b∈fp,Ht X aa H b)(ho:∀b∈fp,∃o,s.heap.get? b=some o/\∀v,o.data≠ .cell v):Inv X (aa++Cq fp s.heap) U H s:=
 I.pins_of λp hp=>(List.mem_append.mp hp).elim (λz=>I.pin p (List.mem_append_right _ z)) λz=>by
  obtain⟨hb,e⟩:=Ip z
  obtain⟨f0,f1,f2,_⟩:=hf p.1 hb
  obtain⟨o,e',d⟩:=ho p.1 hb
  rw[e] at e';cases e'
  exact⟨e,f0,f1,f2,d⟩
theorem Inv.unpinned (I:Inv X (aa++pl) U H s):Inv X aa U H s:=I.pins_of λp hp=>I.pin p (List.mem_append_right _ (List.mem_append_left _ hp))
theorem TB {tb:TS}(hp:PassesOwn (model X.prog X.w) X.A X.env X.xe)(hc:X.calm=true)(hi:PI X tg iter wi)(hg:PG X tg g)(hb:PSs X body tb)
  (hs:∀x,foldedSetIterable iter X.env x=pure x:=by intro _;rfl):PS X (.For tg iter body [] pos) (M5 wi g tb):=by
 intro aa s U H D I h
 refine wpAny_For (thn (hi aa s U H _ I h) λv s1 h1=>thn h1 λgb s2 h2=>?_) hs
 obtain⟨it,fp,tn,J,H2,e,I2,T,st2,f2,W,⟨m0,w0⟩,turn⟩:=h2
 subst e
 -- what stays true of dm iterator's objects through dm cZ
 have gc:∀{H':Hp},(∀b∈fp,H' b=none)->∀b∈fp,Ht X aa H' b:=λhn b hb=>⟨hn b hb,(f2 b hb).2⟩
 refine codeAny_forLoop_any (λn s'=>∃ i U' H',Inv X aa U' H' s'/\tn i s'.heap/\(∀b∈fp,H' b=none)/\W i n U' H') ?_ m0 ⟨0,U,H2,I2,st2,λb hb=>(f2 b hb).1,w0⟩
 rintro n s3 ⟨i,σ3,H3,I3,st3,fr3,w3⟩
 rcases turn i n σ3 H3 w3 with⟨stop,qn⟩ | ⟨go,N,hN,step⟩
 ·refine wpAny_passesOwn hp (thn (T.done X rfl rfl rfl hc i aa s3 σ3 H3 X.xe I3 (gc fr3) st3 stop) λr s4 r9=>?_)
  obtain⟨hr,I4⟩:=r9
  subst hr
  exact wpAny_execs_nil ⟨σ3,H3,I4,qn⟩
 ·refine wpAny_passesOwn hp (thn (T.item X rfl rfl rfl hc i aa s3 σ3 H3 X.xe I3 (gc fr3) st3 go) λr s4 r9=>?_)
  obtain⟨u,hr,h4⟩:=r9
  subst hr
  refine wpAny_passesOwn hp (thn h4 λ_ s5 r9=>?_)
  obtain⟨x,H5,I5,r5,y5,st5,fr5⟩:=r9
  have I5':=I5.pinned (gc fr5) (T.obj _ _ st5)
  refine wpAny_passesOwn hp (thn (hg _ s5 σ3 H5 x u _ I5' r5 (step x H5 y5)) λ_ s6 r9=>?_)
  obtain⟨σ6,H6,I6,q6⟩:=r9
  refine wpAny_passesOwn hp (thn (hb _ s6 σ6 H6 _ I6 q6) λf s7 q7=>?_)
  have again:∀{σ7:St}{H7:Hp},Inv X (aa++Cq fp s5.heap) σ7 H7 s7->N σ7 H7->∃m,m<n/\∃i U' H',Inv X aa U' H' s7/\tn i s7.heap/\(∀b∈fp,H' b=none)/\W i m U' H':=fun {σ7 H7} I7 n7=>by
   obtain⟨m',hm,w7⟩:=hN σ7 H7 n7
   refine⟨m',hm,i+1,σ7,H7,I7.unpinned,T.keep _ _ _ st5 λb hb o e=>(I7.pin (b,o) (List.mem_append_right _ (List.mem_append_right _ (UV hb e)))).1,λb hb=>?_,w7⟩
   obtain⟨o,e,d⟩:=T.obj _ _ st5 b hb
   exact(I7.pin (b,o) (List.mem_append_right _ (List.mem_append_right _ (UV hb e)))).2.1
  cases f with
  |next=>obtain⟨σ7,H7,I7,n7⟩:=q7;exact again I7 n7
  |cont=>obtain⟨σ7,H7,I7,n7⟩:=q7;exact again I7 n7
  |brk=>obtain⟨σ7,H7,I7,q7⟩:=q7;exact⟨σ7,H7,I7.unpinned,q7⟩
  |ret v=>obtain⟨x7,σ7,H7,I7,r7,q7⟩:=q7;exact⟨x7,σ7,H7,I7.unpinned,r7,q7⟩
end
abbrev R2:=V->V->Hp->VK->Prop
def OpR (X:Cx)(f:Value->Value->Sem Value)(r:R2):Prop:=
 ∀(aa:List (Addr×Obj)) (s:Shared) (U:St) (H:Hp) (x y:V) (v u:Value) (Q:VK),Inv X aa U H s->XZ x v->XZ y u->r x y H Q->
  wpAny (model X.prog X.w) X.A (f v u) (EP X aa U Q) X.xe s
def UnR (X:Cx)(f:Value->Sem Value)(r:V->Hp->VK->Prop):Prop:=
 ∀(aa:List (Addr×Obj)) (s:Shared) (U:St) (H:Hp) (x:V) (v:Value) (Q:VK),Inv X aa U H s->XZ x v->r x H Q->
  wpAny (model X.prog X.w) X.A (f v) (EP X aa U Q) X.xe s
def ZX (X:Cx)(f:Value)(r:List V->Hp->VK->Prop):Prop:=
 ∀(aa:List (Addr×Obj)) (s:Shared) (U:St) (H:Hp) (xs:List V) (us:List Value) (Q:VK),Inv X aa U H s->X9 xs us->r xs H Q->
  wpAny (model X.prog X.w) X.A (call f us) (EP X aa U Q) X.xe s
def tOp (r:R2)(ta tb:TE):TE:=λU H Q=>ta U H λx H1=>tb U H1 λy H2=>r x y H2 Q
def tUn (r:V->Hp->VK->Prop)(ta:TE):TE:=λU H Q=>ta U H λx H1=>r x H1 Q
def rI (C:Int->Int->Prop)(g:Int->Int->V):R2:=λx y H Q=>∃ i j,x= .int i/\y= .int j/\C i j/\Q (g i j) H
def rI0 (g:Int->Int->V):R2:=λx y H Q=>∃ i j,x= .int i/\y= .int j/\Q (g i j) H
def rU (g:Int->V):V->Hp->VK->Prop:=λx H Q=>∃ i,x= .int i/\Q (g i) H
section
variable {a b c:Expr}
theorem WO (ha:PE X a ta)(hb:PE X b tb){R:V->V->Hp->Prop}(I:Inv X aa U H s)
  (h:ta U H λx H1=>tb U H1 λy H2=>R x y H2){f:Value->Value->Sem Value}
  (hf:∀v u s2 x y H2,Inv X aa U H2 s2->XZ x v->XZ y u->R x y H2->wpAny (model X.prog X.w) X.A (f v u) Q X.xe s2):
  wpAny (model X.prog X.w) X.A (eval a X.env) (λv s₁=>wpAny (model X.prog X.w) X.A (eval b X.env) (λu s₂=>wpAny (model X.prog X.w) X.A (f v u) Q X.xe s₂) X.xe s₁) X.xe s:=by
 refine thn (ha aa s U H _ I h) λv s1 r9=>?_
 obtain⟨x,H1,I1,r1,q1⟩:=r9
 refine thn (hb aa s1 U H1 _ I1 q1) λu s2 r9=>?_
 obtain⟨y,H2,I2,r2,q2⟩:=r9
 exact hf v u s2 x y H2 I2 r1 r2 q2
theorem Xk (ho:OpR X (binaryOp op) r)(ha:PE X a ta)(hb:PE X b tb):PE X (.BinOp a op b pos) (tOp r ta tb):=by
 intro aa s U H Q I h
 exact wpAny_BinOp (WO ha hb I h λv u s2 x y H2 I2 rx ry q=>ho aa s2 U H2 x y v u Q I2 rx ry q)
theorem Yj (ho:UnR X (unaryOp op) r)(ha:PE X a ta):PE X (.UnaryOp op a pos) (tUn r ta):=by
 intro aa s U H Q I h
 exact UnaryOp_ (thn (ha aa s U H _ I h) λv s1 r9=>by obtain⟨x,H1,I1,r1,q1⟩:=r9;exact ho aa s1 U H1 x v Q I1 r1 q1)
theorem opI {f:Value->Value->Sem Value}{C:Int->Int->Prop}{g:Int->Int->Int}
  (rule:∀(i j:Int) (t u:Tok) (s:Shared) (Q:Value->Shared->Prop) (E:Value->Shared->Prop),C i j->Q (.int (g i j) s.toks) {s with toks:=s.toks+1}->wpAny (model X.prog X.w) X.A (f (.int i t) (.int j u)) Q E s):
  OpR X f (rI C λi j=>.int (g i j)):=by
 intro aa s U H x y v u Q I rx ry h
 obtain⟨i,j,rfl,rfl,hc,q⟩:=h
 obtain⟨t,rfl⟩:=rx
 obtain⟨t',rfl⟩:=ry
 exact rule i j t t' s _ _ hc ⟨.int (g i j),H,I.tok _,⟨_,rfl⟩,q⟩
theorem As {f:Value->Value->Sem Value}{g:Int->Int->Int}
  (rule:∀(i j:Int) (t u:Tok) (s:Shared) (Q:Value->Shared->Prop) (E:Value->Shared->Prop),Q (.int (g i j) s.toks) {s with toks:=s.toks+1}->wpAny (model X.prog X.w) X.A (f (.int i t) (.int j u)) Q E s):
  OpR X f (rI0 λi j=>.int (g i j)):=by
 intro aa s U H x y v u Q I rx ry h
 obtain⟨i,j,rfl,rfl,q⟩:=h
 obtain⟨t,rfl⟩:=rx
 obtain⟨t',rfl⟩:=ry
 exact rule i j t t' s _ _ ⟨.int (g i j),H,I.tok _,⟨_,rfl⟩,q⟩
theorem Wm {f:Value->Value->Sem Value}{g:Int->Int->Bool}
  (rule:∀(i j:Int) (t u:Tok) (s:Shared) (Q:Value->Shared->Prop) (E:Value->Shared->Prop),Q (.bool (g i j)) s->wpAny (model X.prog X.w) X.A (f (.int i t) (.int j u)) Q E s):
  OpR X f (rI0 λi j=>.bl (g i j)):=by
 intro aa s U H x y v u Q I rx ry h
 obtain⟨i,j,rfl,rfl,q⟩:=h
 obtain⟨t,rfl⟩:=rx
 obtain⟨t',rfl⟩:=ry
 exact rule i j t t' s _ _ ⟨.bl (g i j),H,I,rfl,q⟩
def WW (i j:Int):Prop:=0<=j/\j<=1000000/\i.natAbs<2^64
def TU (i j:Int):Prop:=(-(2^64)<i/\i<2^64)∨(-(2^64)<j/\j<2^64)
theorem TU.ok {j:Int}(h:TU i j):IntMulOk i j:=by
 rcases h with⟨h1,h2⟩ | ⟨h1,h2⟩
 ·exact .of_left (intBits_le_64 h1 h2)
 ·exact .of_right (intBits_le_64 h1 h2)
theorem Xy:OpR X (binaryOp .Add) (rI0 λi j=>.int (i+j)):=As λ_ _ _ _ _ _ _ q=>add_int q
theorem Zp:OpR X (binaryOp .Sub) (rI0 λi j=>.int (i-j)):=As λ_ _ _ _ _ _ _ q=>sub_int q
theorem XT:OpR X (binaryOp .Mult) (rI TU λi j=>.int (i*j)):=opI λ_ _ _ _ _ _ _ hc q=>mul_int q hc.ok
theorem X0:OpR X (binaryOp .Mod) (rI (λ_ j=>0<j) λi j=>.int (i % j)):=opI λi j _ _ _ _ _ hc q=>by
 have h1:(0:Int)<j:=hc
 exact mod_int' (by omega) (by rw[Int.fmod_eq_emod_of_nonneg i (by omega)];exact q)
theorem U8:OpR X (binaryOp .Pow) (rI WW λi j=>.int (i^j.toNat)):=opI λ_ _ _ _ _ _ _ hc q=>pow_int_small hc.1 hc.2.1 hc.2.2 q
theorem unI {f:Value->Sem Value}{g:Int->Int}
  (rule:∀(i:Int) (t:Tok) (s:Shared) (Q:Value->Shared->Prop) (E:Value->Shared->Prop),Q (.int (g i) s.toks) {s with toks:=s.toks+1}->wpAny (model X.prog X.w) X.A (f (.int i t)) Q E s):
  UnR X f (rU λi=>.int (g i)):=by
 intro aa s U H x v Q I rx h
 obtain⟨i,rfl,q⟩:=h
 obtain⟨t,rfl⟩:=rx
 exact rule i t s _ _ ⟨.int (g i),H,I.tok _,⟨_,rfl⟩,q⟩
theorem XJ:UnR X (unaryOp .USub) (rU λi=>.int (-i)):=unI λ_ _ _ _ _ q=>neg_int q
end
def WN:V->V->Bool
 | .non, .non=>true | .non, .int _=>true | .int _, .non=>true | .non, .bl _=>true | .bl _, .non=>true | .non, .str _=>true | .str _, .non=>true
 | .int _, .int _=>true | .bl _, .bl _=>true | .str _, .str _=>true | .byt _, .byt _=>true
 | .int _, .str _=>true | .str _, .int _=>true | .bl _, .str _=>true | .str _, .bl _=>true
 |_,_=>false
def rEq:R2:=λx y H Q=>WN x y=true/\Q (.bl (decide (x=y))) H
def rNe:R2:=λx y H Q=>WN x y=true/\Q (.bl (!decide (x=y))) H
theorem LI {j:Int}:decide (V.int i=V.int j)=(i==j):=by
 rw[Bool.eq_iff_iff]
 simp
theorem OV {j:Bool}:decide (V.bl i=V.bl j)=(i==j):=by
 rw[Bool.eq_iff_iff]
 simp
theorem Iz {j:Str}:decide (V.str i=V.str j)=(i==j):=by
 rw[Bool.eq_iff_iff]
 simp
theorem Iv {j:Array UInt8}:decide (V.byt i=V.byt j)=(i.toList==j.toList):=by
 rw[Bool.eq_iff_iff]
 cases i
 cases j
 simp
section
variable {a b c:Expr}
theorem X7 {Q:VK}{k:Bool}(I:Inv X aa U H s)(q:Q (.bl k) H)(e:k=k'):EP X aa U Q (.bool k') s:=by
 subst e
 exact⟨.bl k,H,I,rfl,q⟩
theorem XO:OpR X (compareOp .Eq) rEq:=by
 intro aa s U H x y v u Q I rx ry h
 obtain⟨hs,q⟩:=h
 cases x with
 |non=>
  cases rx
  cases y with
  |non=>cases ry;exact PySem.EqNone.eq_none_none (X7 I q (by simp))
  |bl j=>cases ry;exact PySem.EqNone.eq_none_bool (X7 I q (by simp))
  |int j=>obtain⟨t',rfl⟩:=ry;exact PySem.EqNone.eq_none_int (X7 I q (by simp))
  |str j=>obtain⟨t',rfl⟩:=ry;exact PySem.EqNone.eq_none_str (X7 I q (by simp))
  |_=>exact absurd (show false=true from hs) Bool.false_ne_true
 |bl i=>
  cases rx
  cases y with
  |non=>cases ry;exact PySem.EqNone.eq_bool_none (X7 I q (by simp))
  |bl j=>cases ry;exact eq_bool (X7 I q OV)
  |str j=>obtain⟨t',rfl⟩:=ry;exact PySem.EqMixed.eq_bool_str (X7 I q (by simp))
  |_=>exact absurd (show false=true from hs) Bool.false_ne_true
 |int i=>
  obtain⟨t,rfl⟩:=rx
  cases y with
  |non=>cases ry;exact PySem.EqNone.eq_int_none (X7 I q (by simp))
  |int j=>obtain⟨t',rfl⟩:=ry;exact eq_int (X7 I q LI)
  |str j=>obtain⟨t',rfl⟩:=ry;exact PySem.EqMixed.eq_int_str (X7 I q (by simp))
  |_=>exact absurd (show false=true from hs) Bool.false_ne_true
 |str i=>
  obtain⟨t,rfl⟩:=rx
  cases y with
  |non=>cases ry;exact PySem.EqNone.eq_str_none (X7 I q (by simp))
  |bl j=>cases ry;exact PySem.EqMixed.eq_str_bool (X7 I q (by simp))
  |int j=>obtain⟨t',rfl⟩:=ry;exact PySem.EqMixed.eq_str_int (X7 I q (by simp))
  |str j=>obtain⟨t',rfl⟩:=ry;exact eq_str (X7 I q Iz)
  |_=>exact absurd (show false=true from hs) Bool.false_ne_true
 |byt i=>
  obtain⟨t,rfl⟩:=rx
  cases y with
  |byt j=>obtain⟨t',rfl⟩:=ry;exact PySem.W.eq_bytes (X7 I q Iv)
  |_=>exact absurd (show false=true from hs) Bool.false_ne_true
 |_=>cases y<;> exact absurd (show false=true from hs) Bool.false_ne_true
theorem BV:OpR X (compareOp .NotEq) rNe:=by
 intro aa s U H x y v u Q I rx ry h
 obtain⟨hs,q⟩:=h
 cases x with
 |non=>
  cases rx
  cases y with
  |non=>cases ry;exact PySem.EqNone.ne_none_none (X7 I q (by simp))
  |bl j=>cases ry;exact PySem.EqNone.ne_none_bool (X7 I q (by simp))
  |int j=>obtain⟨t',rfl⟩:=ry;exact PySem.EqNone.ne_none_int (X7 I q (by simp))
  |str j=>obtain⟨t',rfl⟩:=ry;exact PySem.EqNone.ne_none_str (X7 I q (by simp))
  |_=>exact absurd (show false=true from hs) Bool.false_ne_true
 |bl i=>
  cases rx
  cases y with
  |non=>cases ry;exact PySem.EqNone.ne_bool_none (X7 I q (by simp))
  |bl j=>cases ry;exact ne_bool (X7 I q (congrArg not OV))
  |str j=>obtain⟨t',rfl⟩:=ry;exact PySem.EqMixed.ne_bool_str (X7 I q (by simp))
  |_=>exact absurd (show false=true from hs) Bool.false_ne_true
 |int i=>
  obtain⟨t,rfl⟩:=rx
  cases y with
  |non=>cases ry;exact PySem.EqNone.ne_int_none (X7 I q (by simp))
  |int j=>obtain⟨t',rfl⟩:=ry;exact ne_int (X7 I q (congrArg not LI))
  |str j=>obtain⟨t',rfl⟩:=ry;exact PySem.EqMixed.ne_int_str (X7 I q (by simp))
  |_=>exact absurd (show false=true from hs) Bool.false_ne_true
 |str i=>
  obtain⟨t,rfl⟩:=rx
  cases y with
  |non=>cases ry;exact PySem.EqNone.ne_str_none (X7 I q (by simp))
  |bl j=>cases ry;exact PySem.EqMixed.ne_str_bool (X7 I q (by simp))
  |int j=>obtain⟨t',rfl⟩:=ry;exact PySem.EqMixed.ne_str_int (X7 I q (by simp))
  |str j=>obtain⟨t',rfl⟩:=ry;exact ne_str (X7 I q (congrArg not Iz))
  |_=>exact absurd (show false=true from hs) Bool.false_ne_true
 |byt i=>
  obtain⟨t,rfl⟩:=rx
  cases y with
  |byt j=>obtain⟨t',rfl⟩:=ry;exact PySem.W.ne_bytes (X7 I q (congrArg not Iv))
  |_=>exact absurd (show false=true from hs) Bool.false_ne_true
 |_=>cases y<;> exact absurd (show false=true from hs) Bool.false_ne_true
theorem Js:OpR X (compareOp .Lt) (rI0 λi j=>.bl (decide (i<j))):=Wm λ_ _ _ _ _ _ _ q=>lt_int q
theorem Hs:OpR X (compareOp .LtE) (rI0 λi j=>.bl (decide (i<=j))):=Wm λ_ _ _ _ _ _ _ q=>le_int q
theorem UB:OpR X (compareOp .Gt) (rI0 λi j=>.bl (decide (j<i))):=Wm λ_ _ _ _ _ _ _ q=>gt_int q
theorem W3:OpR X (compareOp .GtE) (rI0 λi j=>.bl (decide (j<=i))):=Wm λ_ _ _ _ _ _ _ q=>ge_int q
theorem MV:OpR X (compareOp .Is) (λx y H Q=>y= .non/\Q (.bl (decide (x= .non))) H):=by
 intro aa s U H x y v u Q I rx ry h
 obtain⟨rfl,q⟩:=h
 cases ry
 refine is_none_gen (X7 I q ?_)
 cases x<;> first
  | (cases rx;rfl)
  | (obtain⟨t,rfl⟩:=rx;rfl)
theorem BH:OpR X (compareOp .IsNot) (λx y H Q=>y= .non/\Q (.bl (!decide (x= .non))) H):=by
 intro aa s U H x y v u Q I rx ry h
 obtain⟨rfl,q⟩:=h
 cases ry
 refine isnot_none_gen (X7 I q ?_)
 cases x<;> first
  | (cases rx;rfl)
  | (obtain⟨t,rfl⟩:=rx;rfl)
theorem Xm (b:Expr)(h:op≠ .In:=by decide)(h2:op≠ .NotIn:=by decide):behindInMarks op b=false:=by
 have e1:(op==CmpOp.In)=false:=by cases op<;> first |rfl |exact absurd rfl h
 have e2:(op==CmpOp.NotIn)=false:=by cases op<;> first |rfl |exact absurd rfl h2
 cases b<;> simp[behindInMarks,e1,e2]
theorem XI (ho:OpR X (compareOp op) r)(ha:PE X a ta)(hb:PE X b tb)(hm:behindInMarks op b=false):PE X (.Compare a [op] [b] pos) (tOp r ta tb):=by
 intro aa s U H Q I h
 exact wpAny_Compare1 (WO ha hb I h λv u s2 x y H2 I2 rx ry q=>ho aa s2 U H2 x y v u Q I2 rx ry q) hm
def Nd (t:TE):TT:=λU H Q=>t U H λx H'=>∃ k,x= .bl k/\Q k H'
theorem Xj (ho:OpR X (compareOp op) r)(ha:PE X a ta)(hb:PE X b tb)(hm:behindInMarks op b=false):PT X (.Compare a [op] [b] pos) (Nd (tOp r ta tb)):=by
 intro aa s U H Q I h
 refine wpAny_isTrue_Compare1 (thn (ha aa s U H _ I h) λv s1 ⟨x,H1,I1,r1,q1⟩=>thn (hb aa s1 U H1 _ I1 q1) λu s2 ⟨y,H2,I2,r2,q2⟩=>
  thn (ho aa s2 U H2 x y v u _ I2 r1 r2 q2) λc s3 ⟨z,H3,I3,r3,k,e,q3⟩=>?_) hm
 subst e
 cases r3
 exact wpAny_truthy_bool ⟨H3,I3,q3⟩
def Lv (r r':R2)(ta tb tc:TE):TE:=λU H Q=>ta U H λx H1=>tb U H1 λy H2=>r x y H2 λz H3=>∃ k,z= .bl k/\
 (if k=true then tc U H3 λw' H4=>r' y w' H4 Q else Q (.bl false) H3)
theorem Ha (ho:OpR X (compareOp op) r)(cv:OpR X (compareOp ig) r')(ha:PE X a ta)(hb:PE X b tb)(hc:PE X c tc)
  (hm:lastMarks [op,ig] [b,c]=false:=by with_unfolding_all rfl):PE X (.Compare a [op,ig] [b,c] pos) (Lv r r' ta tb tc):=by
 intro aa s U H Q I h
 refine Compare_chain (thn (ha aa s U H _ I h) λv s1 ⟨x,H1,I1,r1,q1⟩=>chain_link (thn (hb aa s1 U H1 _ I1 q1) λu s2 ⟨y,H2,I2,r2,q2⟩=>
  thn (ho aa s2 U H2 x y v u _ I2 r1 r2 q2) λd s3 ⟨z,H3,I3,r3,k,e,q3⟩=>?_)) hm
 subst e
 cases r3
 refine wpAny_truthy_bool ?_
 cases k with
 |false=>exact ite_ff ⟨.bl false,H3,I3,rfl,q3⟩
 |true=>exact ite_tt (chain_last (thn (hc aa s3 U H3 _ I3 q3) λw' s4 r9=>by obtain⟨z',H4,I4,r4,q4⟩:=r9;exact cv aa s4 U H4 y z' u w' Q I4 r2 r4 q4))
theorem EI (ho:OpR X (compareOp op) r)(cv:OpR X (compareOp ig) r')(ha:PE X a ta)(hb:PE X b tb)(hc:PE X c tc)
  (hm:lastMarks [op,ig] [b,c]=false:=by with_unfolding_all rfl):PT X (.Compare a [op,ig] [b,c] pos) (Nd (Lv r r' ta tb tc)):=by
 intro aa s U H Q I h
 refine isTrue_chain (thn (ha aa s U H _ I h) λv s1 ⟨x,H1,I1,r1,q1⟩=>test_link (thn (hb aa s1 U H1 _ I1 q1) λu s2 ⟨y,H2,I2,r2,q2⟩=>
  thn (ho aa s2 U H2 x y v u _ I2 r1 r2 q2) λd s3 ⟨z,H3,I3,r3,k,e,q3⟩=>?_)) hm
 subst e
 cases r3
 refine wpAny_truthy_bool ?_
 cases k with
 |false=>
  obtain⟨k',e',q'⟩:=q3
  cases e'
  exact ite_ff ⟨H3,I3,q'⟩
 |true=>
  refine ite_tt (test_last (thn (hc aa s3 U H3 _ I3 q3) λw' s4 ⟨z',H4,I4,r4,q4⟩=>thn (cv aa s4 U H4 y z' u w' _ I4 r2 r4 q4) λd' s5 r9=>?_))
  obtain⟨z2,H5,I5,r5,k2,e2,q5⟩:=r9
  subst e2
  cases r5
  exact wpAny_truthy_bool ⟨H5,I5,q5⟩
theorem E5:(sizeLine:Nat)<2^63:=by rw[sizeLine_eq];decide
theorem Vg {x:V}(r:X9 [x] us):∃u,us=[u]/\XZ x u:=by
 cases r with
 |cons r1 r2=>cases r2;exact⟨_,rfl,r1⟩
theorem Wl {x y:V}(r:X9 [x,y] us):∃u w',us=[u,w']/\XZ x u/\XZ y w':=by
 cases r with
 |cons r1 r2=>
  cases r2 with
  |cons r3 r4=>cases r4;exact⟨_,_,rfl,r1,r3⟩
theorem Nb:ZX X (.builtin "abs") (λxs H Q=>∃ i,xs=[.int i]/\Q (.int (if i<0 then-i else i)) H):=by
 intro aa s U H xs us Q I r h
 obtain⟨i,rfl,q⟩:=h
 obtain⟨u,rfl,t,rfl⟩:=Vg r
 exact call_abs_int λu tk=>⟨.int (if i<0 then-i else i),H,I.tok _,⟨_,rfl⟩,q⟩
theorem Li (hc:X.calm=true):ZX X (.builtin "max") (λxs H Q=>∃ i j,xs=[.int i, .int j]/\Q (.int (if j > i then j else i)) H):=by
 intro aa s U H xs us Q I r h
 obtain⟨i,j,rfl,q⟩:=h
 obtain⟨u,w',rfl,⟨t,rfl⟩,⟨t',rfl⟩⟩:=Wl r
 refine max_two_ints (I.ok.hd hc) λh' tk k=>⟨_,H,I.kept k,?_,q⟩
 by_cases hj:j > i
 ·rw[if_pos hj,if_pos hj];exact⟨_,rfl⟩
 ·rw[if_neg hj,if_neg hj];exact⟨_,rfl⟩
theorem LH (hc:X.calm=true):ZX X (.builtin "min") (λxs H Q=>∃ i j,xs=[.int i, .int j]/\Q (.int (if j<i then j else i)) H):=by
 intro aa s U H xs us Q I r h
 obtain⟨i,j,rfl,q⟩:=h
 obtain⟨u,w',rfl,⟨t,rfl⟩,⟨t',rfl⟩⟩:=Wl r
 refine min_two_ints (I.ok.hd hc) λh' tk k=>⟨_,H,I.kept k,?_,q⟩
 by_cases hj:j<i
 ·rw[if_pos hj,if_pos hj];exact⟨_,rfl⟩
 ·rw[if_neg hj,if_neg hj];exact⟨_,rfl⟩
theorem QD:ZX X (.type "int") (λxs H Q=>(∃i,xs=[.int i]/\Q (.int i) H)∨∃k,xs=[.bl k]/\Q (.int (if k then 1 else 0)) H):=by
 intro aa s U H xs us Q I r h
 rcases h with⟨i,rfl,q⟩ | ⟨k,rfl,q⟩
 ·obtain⟨u,rfl,t,rfl⟩:=Vg r
  exact call_int_int ⟨.int i,H,I,⟨_,rfl⟩,q⟩
 ·obtain⟨u,rfl,r1⟩:=Vg r
  cases r1
  exact call_int_bool ⟨.int (if k then 1 else 0),H,I.tok _,⟨_,rfl⟩,q⟩
end
structure ObjM (h:Heap)(x dx C:Addr)(mA:Str->Option Value):Prop where
 obj:h.get? x=some (W.instObj C dx)
 ns:h.Ns1 dx mA
 ne:dx≠x
theorem Mc {h:Heap}{dx:Addr}{mA:Str->Option Value}(n:h.Ns1 dx mA):∃od,h.get? dx=some od/\∀name,W.lookIn name od=some (mA name):=by
 obtain⟨o,es,ep,ho,hd,hk,_,hm⟩:=n
 refine⟨o,ho,λname=>?_⟩
 have e:=hm name
 unfold nsFind findBy at e
 rw[←Array.find?_toList] at e
 unfold W.lookIn
 rw[hd]
 dsimp only
 split
 ·rename_i y q
  rw[q] at e
  exact congrArg some e
 ·rename_i q
  rw[q] at e
  have a:es.toList.any (·.refKey)=false:=by
   rw[List.any_eq_false]
   intro y hy
   obtain⟨z,t,gd⟩:=hk y (Array.mem_toList_iff.mp hy)
   simp[DictEntry.refKey,gd]
  have a':¬es.toList.any (·.refKey)=true:=by rw[a];exact Bool.false_ne_true
  rw[if_neg a']
  exact congrArg some e
theorem ObjM.look {x:Addr}(I:ObjM h x dx C mA):∃od,PySem.W.InstAt h x (W.instObj C dx) C (some od)/\∀name,W.lookIn name od=some (mA name):=
 let ⟨od,ho,hl⟩:=Mc I.ns
 ⟨od,⟨I.obj,rfl,rfl,ho⟩,hl⟩
section
variable {x dx C f:Addr}{mA:Str->Option Value}{name:Str}{v:Value}
end
theorem Ih.some_of (r:Ih (some v) o):∃u,o=some u/\XZ v u:=by
 cases o with
 |none=>exact(show False from r).elim
 |some u=>exact⟨u,rfl,r⟩
section
variable {h:Heap}{C dx:Addr}{fs fs':List (Str×V)}
theorem Ri (hok:HOk P w H h)(e:H a=some (.ins C dx fs)):∃mA,ObjM h a dx C mA/\(∀f,Ih (fs.lookup f) (mA f))/\PySem.Within mA (fs.map (·.1))/\fs.length<=1000/\H dx=some (.own a):=by
 obtain⟨d,z,ne,ob,mA,n,r,q⟩:=(show YG P w H h a (.ins C dx fs) from hok a _ e)
 exact⟨mA,⟨ob,n,ne⟩,r,q,z,d⟩
end
structure Cls (K:W.Frag)(C:Addr):Prop where
 pg:W.plainGet K C Str.empty=true
 hd:PySem.W.hasDictIn K C=true
 po:PySem.W.plainOver K C=true
 sa:W.findIn K (.ref C) "__setattr__" =some (some (.builtin "object.__setattr__"))
theorem Cls.get (c:Cls K C)(f:Str):W.plainGet K C f=true:=c.pg
section
variable {C dx:Addr}{fs:List (Str×V)}{f:Str}{v:V}
end
section
variable {o value:Expr}{f:Str}{cK tpos:Pos}{tv:TE}
end
section
variable {c:Value}{b:Bool}
inductive TyOf (K:W.Frag)(H:Hp):V->Value->Prop where
 |non:TyOf K H .non (.type "NoneType")
 |bl (x:Bool):TyOf K H (.bl x) (.type "bool")
 |int (i:Int):TyOf K H (.int i) (.type "int")
 |str (x:Str):TyOf K H (.str x) (.type "str")
 |flt (x:UInt64):TyOf K H (.flt x) (.type "float")
 |lst {a:Addr}{xs:List V} (e:H a=some (.lst xs)):TyOf K H (.ref a) (.type "list")
 |frz {a:Addr}{o:Obj}{xs:List V} (e:H a=some (.frz o (.lst xs))):TyOf K H (.ref a) (.type "list")
 |tup {a:Addr}{xs:List V} (e:H a=some (.tup xs)):TyOf K H (.ref a) (.type "tuple")
 |dK {a:Addr}{kvs:List (Key×V)} (e:H a=some (.dK kvs)):TyOf K H (.ref a) (.type "dict")
 |dT {a:Addr}{kvs:List (List Key×V)} (e:H a=some (.dT kvs)):TyOf K H (.ref a) (.type "dict")
 |ins {a C dx:Addr}{fs:List (Str×V)} (e:H a=some (.ins C dx fs)) (cl:Cls K C) (ha:W.findIn K (.ref C) "__class__" =some (some (.builtin "object.__class__")))
   (hn:PySem.W.specialIn K (.builtin "object.__class__") "__get__" =some (some (.builtin "getset_descriptor.__get__"))) (htk:PySem.W.takesIn K (.builtin "object.__class__")=some true)
   (hm:PySem.W.mroIn K C (.type "object")=some true):TyOf K H (.ref a) (.ref C)
theorem Lz {x:V}(I:Inv X aa U H s)(rx:XZ x u)(ty:TyOf X.K H x t)(e:W.kitOne X.K t c=some b)(h:∀tk,Q (.bool b) {s with toks:=tk}):
  wpAny (model X.prog X.w) A (call (.builtin "isinstance") [u,c]) Q E s:=by
 cases ty with
 |non=>cases(show u=Value.none from rx);exact W.kia_one PySem.W.kitx_none I.kIn True.intro e (λz=>nomatch z) h
 |bl y=>cases(show u=Value.bool y from rx);exact W.kia_one PySem.W.kitx_bool I.kIn True.intro e (λz=>nomatch z) h
 |int i=>obtain⟨t,q⟩:=(show ∃t,u=Value.int i t from rx);cases q;exact W.kia_one PySem.W.kitx_int I.kIn True.intro e (λz=>nomatch z) h
 |str y=>obtain⟨t,q⟩:=(show ∃t,u=Value.str y t from rx);cases q;exact W.kia_one PySem.W.kitx_str I.kIn True.intro e (λz=>nomatch z) h
 |flt y=>obtain⟨t,q⟩:=(show ∃t,u=Value.float y t from rx);cases q;exact W.kia_one PySem.W.kitx_float I.kIn True.intro e (λz=>nomatch z) h
 | @lst a xs ea=>
  cases(show u=Value.ref a from rx)
  obtain⟨_,_,n,_,h1⟩:=(show YG X.prog X.w H s.heap a (.lst xs) from I.hok a _ ea)
  exact W.kia_one PySem.W.kitx_list I.kIn ⟨_,h1,rfl⟩ e (λz=>nomatch z) h
 | @frz a ob xs ea=>
  cases(show u=Value.ref a from rx)
  obtain⟨_,_,_,n,_,h1⟩:=(show YG X.prog X.w H s.heap a (.frz ob (.lst xs)) from I.hok a _ ea)
  exact W.kia_one PySem.W.kitx_list I.kIn ⟨_,h1,rfl⟩ e (λz=>nomatch z) h
 | @tup a xs ea=>
  cases(show u=Value.ref a from rx)
  obtain⟨_,_,_,p⟩:=(show YG X.prog X.w H s.heap a (.tup xs) from I.hok a _ ea)
  obtain⟨o,h1,h2,_⟩:=p
  exact W.kia_one PySem.W.kitx_tuple I.kIn ⟨o,h1,h2.1⟩ e (λz=>nomatch z) h
 | @dK a kvs ea=>
  cases(show u=Value.ref a from rx)
  obtain⟨_,_,vs,_,p⟩:=(show YG X.prog X.w H s.heap a (.dK kvs) from I.hok a _ ea)
  obtain⟨o,es,ep,h1,h2,_⟩:=p
  exact W.kia_one PySem.W.kitx_dict I.kIn ⟨o,h1,h2.1⟩ e (λz=>nomatch z) h
 | @dT a kvs ea=>
  cases(show u=Value.ref a from rx)
  obtain⟨_,_,xs,_,o,es,ep,h1,h2,_⟩:=(show YG X.prog X.w H s.heap a (.dT kvs) from I.hok a _ ea)
  exact W.kia_one PySem.W.kitx_dict I.kIn ⟨o,h1,h2.1⟩ e (λz=>nomatch z) h
 | @ins a C dx fs ea cl ha hn htk hm=>
  cases(show u=Value.ref a from rx)
  obtain⟨mA,O,_⟩:=Ri I.hok ea
  obtain⟨od,J,_⟩:=O.look
  exact W.kia_one (PySem.W.kitx_own (cl.get _) cl.hd ha hn htk hm) I.kIn J e (λz=>nomatch z) h
end
structure Room (k:Nat)(A:Around):Prop where
 hd:A.handled=none
 dp:A.depth+3*k+5<recursionLimit
 un:A.units+16*k+200<cLine
theorem Room.mono (r:Room k A)(h:j<=k):Room j A:=⟨r.hd,by have:=r.dp;omega,by have:=r.un;omega⟩
theorem Room.deeper (r:Room (k+1) A)(env:Env):Room k (A.deeper env):=
 ⟨r.hd,by have:=r.dp;show A.depth+1+3*k+5<_;omega,by have:=r.un;show A.units+3+16*k+200<_;omega⟩
theorem Room.depth (r:Room k A):A.depth<recursionLimit:=by have:=r.dp;omega
theorem Room.units (r:Room k A):A.units+64<cLine:=by have:=r.un;omega
def YE:TA:=λ_ H Q=>Q [] H
def Xr (ta:TE)(tr:TA):TA:=λU H Q=>ta U H λx H1=>tr U H1 λxs H2=>Q (x::xs) H2
section
variable {t:TA}
theorem Xd:PA X [] YE:=λ_ _ _ _ H Q I h=>Calls.spliced_nil ⟨[],H,I, .nil,h⟩
theorem Xa (ha:PE X e te)(hr:PA X es t)(hs:starEach (e::es) X.env=(false,eval e X.env)::starEach es X.env:=by rfl):PA X (e::es) (Xr te t):=by
 intro pos aa s U H Q I h
 rw[hs]
 show wpAny _ _ (spliced ((false,eval e X.env)::backTo pos (starEach es X.env))) _ _ s
 refine Calls.spliced_cons (thn (ha aa s U H _ I h) λu s1 r9=>?_)
 obtain⟨x,H1,I1,r1,q1⟩:=r9
 exact thn (hr pos aa s1 U H1 _ I1 q1) λus s2 r9=>by obtain⟨xs,H2,I2,r2,q2⟩:=r9;exact⟨x::xs,H2,I2, .cons r1 r2,q2⟩
def SA (t:TA):TE:=λU H Q=>t U H λxs H1=>xs.length<=sizeLine/\∀p,H1 p=none->Q (.ref p) (upd H1 p (.tup xs))
def M6 (t:TA):TE:=λU H Q=>t U H λxs H1=>xs.length<=sizeLine/\∀p,H1 p=none->Q (.ref p) (upd H1 p (.lst xs))
theorem XH {x1}(h:PA X es t):PE X (.Tuple es x1 pos) (SA t):=by
 intro aa s U H Q I hq
 refine wpAny_Tuple_spliced (thn (h pos aa s U H _ I hq) λus s1 ⟨xs,H1,I1,r,z,q⟩=>⟨by rw[←r.length];exact z,?_⟩)
 have hf:H1 s1.heap.objs.size=none:=I1.hok.fresh (Nat.le_refl _)
 refine⟨.ref s1.heap.objs.size,upd H1 s1.heap.objs.size (.tup xs),I1.laid (t':=s1.toks) (λb u e=>Heap.get?_push_of_some _ e) (Nat.le_refl _) ?_,rfl,q _ hf⟩
 exact⟨z,us,r,⟨_,Heap.get?_push_size _ rfl,⟨rfl,rfl⟩,_,rfl⟩⟩
theorem XC (h:PA X es t):PE X (.List es pos) (M6 t):=by
 intro aa s U H Q I hq
 refine wpAny_List_spliced (thn (h pos aa s U H _ I hq) λus s1 ⟨xs,H1,I1,r,z,q⟩=>⟨by rw[←r.length];exact z,?_⟩)
 have hf:H1 s1.heap.objs.size=none:=I1.hok.fresh (Nat.le_refl _)
 refine⟨.ref s1.heap.objs.size,upd H1 s1.heap.objs.size (.lst xs),I1.laid (t':=s1.toks) (λb u e=>Heap.get?_push_of_some _ e) (Nat.le_refl _) ?_,rfl,q _ hf⟩
 exact⟨z,us,0,r,Heap.get?_push_size _ rfl⟩
end
abbrev Sp:=List V->Hp->VK->XK->Prop
abbrev CXT:=List Env->Hp->Shared->XK->Value->Shared->Prop
structure Env0 (P:Program)(w:World)(K:W.Frag)(mg:Str->Option Value)(base:Heap)(A:Around)(outer:List Env)(s:Shared)(H:Hp):Prop where
 frames:A.frames=some outer
 mod:Mod K mg base
 bs:∀b o,base.get? b=some o->s.heap.get? b=some o/\H b=none
 bsz:base.objs.size<=s.heap.objs.size
 funs:s.heap.FunFrames base outer
 frf:∀b∈frs outer,H b=none
 hok:HOk P w H s.heap
 bare:AllBare s.gens
def CE (outer:List Env)(P:Program)(w:World)(H:Hp)(s:Shared)(Q:VK)(u:Value)(s':Shared):Prop:=
 ∃v H',s'.os=s.os/\AllBare s'.gens/\Un (frs outer) [] H H' s.heap s'.heap/\HOk P w H' s'.heap/\XZ v u/\Q v H'
def CR (CX:CXT)(outer:List Env)(P:Program)(w:World)(H:Hp)(s:Shared)(Q:VK)(E:XK)(r:Result)(s':Shared):Prop:=
 match r with
 | .ok (.ret u)=>CE outer P w H s Q u s'
 | .ok _=>False
 | .error e=>CX outer H s E e s'
structure FnOk (P:Program)(w:World)(K:W.Frag)(mg:Str->Option Value)(base:Heap)(CX:CXT)(k:Nat)(f:Addr)(fd:FuncData)(ps:List Str)(sp:Sp):Prop where
 len:∀vs H Q E,sp vs H Q E->vs.length=ps.length
 run:∀(A:Around) (outer:List Env) (s:Shared) (H:Hp) (args:Args) (us:List Value) (vs:List V) (Q:VK) (E:XK),Room k A->Env0 P w K mg base A outer s H->BindsTo s fd args (ps.zip us)->X9 vs us->sp vs H Q E->
  codeAny (model P w) A (.call (.ref f) args) (CR CX outer P w H s Q E) s
section
variable {s':Shared}
theorem Inv.env0 (I:Inv X aa U H s):Env0 X.prog X.w X.K X.mg X.base X.A X.stack s H:=
 ⟨I.ok.frames,I.ok.mod,I.bs,Nat.le_trans I.ok.bsz I.sz,I.stack,I.stkFree,I.hok,I.bare⟩
theorem Inv.after {Q:VK}(I:Inv X aa U H s)(h:CE X.stack X.prog X.w H s Q u s'):EP X aa U Q u s':=by
 obtain⟨v,H',os,bare,un,hok,r,q⟩:=h
 obtain⟨hh,g,d,t,os'⟩:=s'
 obtain rfl:os'=s.os:=os
 exact⟨v,H',I.call (h':=hh) (g':=g) (d':=d) (t':=t) (ch:=[]) un hok bare (λb z=>absurd z (by simp)),r,q⟩
end
def Qy (sp:Sp)(fB:List V)(E:XK)(t:TA):TE:=λU H Q=>t U H λvs H1=>sp (vs++fB) H1 Q E
def Bo (K:W.Frag)(fd:FuncData)(ps:List Str)(ds:List Value):Prop:=
 ∀(s:Shared) (us:List Value),K.In s.heap->(us++ds).length=ps.length->BindsTo s fd ⟨us,[]⟩ (ps.zip (us++ds))
theorem Bo.all (h:∀us:List Value,us.length=ps.length->bindArgs fd ⟨us,[]⟩=pure (ps.zip us)):Bo K fd ps []:=λs us _ hl=>by
 rw[List.append_nil] at hl⊢
 exact .of_eq (h us hl)
def Fw (CX:CXT)(X:Cx)(E:XK):Prop:=∀ (aa:List (Addr×Obj)) (U:St) (H:Hp) (s:Shared) (e:Value) (s':Shared),Inv X aa U H s->CX X.stack H s E e s'->X.xe e s'
section
variable {CX:CXT}{f C:Addr}{sp:Sp}{fB:List V}{ds:List Value}{E:XK}{m:Str}{p aJ:Pos}{o:Expr}{t:TA}
theorem Wa {Q:VK}(F:FnOk X.prog X.w X.K X.mg X.base CX k f fd ps sp)(hr:Room k X.A)(hb:Bo X.K fd ps ds)(hd:X9 fB ds)(hx:Fw CX X E)
  (I:Inv X aa U H s)(r:X9 vs us)(h:sp (vs++fB) H Q E):wpAny (model X.prog X.w) X.A (call (.ref f) us) (EP X aa U Q) X.xe s:=by
 have r2:X9 (vs++fB) (us++ds):=r.append hd
 have hl:(us++ds).length=ps.length:=by rw[←r2.length];exact F.len _ _ _ _ h
 refine wpAny_call (codeAny_mono (F.run X.A X.stack s H ⟨us,[]⟩ (us++ds) (vs++fB) Q E hr I.env0 (hb s us I.kIn hl) r2 h) λr s' hq=>?_)
 cases r with
 |error e=>exact hx aa U H s e s' I hq
 |ok fl=>
  cases fl with
  |ret u=>exact I.after hq
  |next=>exact False.elim hq
  |brk=>exact False.elim hq
  |cont=>exact False.elim hq
theorem Le (F:FnOk X.prog X.w X.K X.mg X.base CX k f fd ps sp)(hr:Room k X.A)(hg:Gl X x)(hm:X.mg x=some (.ref f))(hk:W.keepIn X.K (.ref f)=true)(hb:Bo X.K fd ps ds)(hd:X9 fB ds)(hx:Fw CX X E)
  (ha:PA X (e::es) t)(c7:(x==("__debug__":Str))=false:=by decide)(he:starEach (e::es) X.env=(false,eval e X.env)::starEach es X.env:=by rfl)(hpl:(backTo pos (starEach es X.env)).any (·.1)=false:=by rfl):
  PE X (.Call (.Name x p) (e::es) [] pos) (Qy sp fB E t):=by
 intro aa s U H Q I h
 refine wpAny_Call_Name_kw (GV I hg hm ?_ c7)
 refine PySem.W.callWith_K (h₀:=X.base) I.ok.mod.kin hk (thn (ha pos aa s U H _ I h) λus s1 ⟨vs,H1,I1,r,q⟩=>⟨I1.kIn,?_⟩) he hpl
 exact Wa F hr hb hd hx I1 r q
end
section
variable {CX:CXT}{f C:Addr}{ks:List Str}{sp:Sp}{E:XK}{m:Str}{p aJ kpos:Pos}{o:Expr}{kws:List Keyword}{t tk:TA}{nm:Option Str}
variable {g:List Value->List Value->List Value}{gV:List V->List V->List V}
end
structure FnScope (N P:List Str)(sc:Scope):Prop where
 kind:sc.kind= .function:=by rfl
 co:sc.isCoroutine=false:=by rfl
 gen:sc.isGenerator=false:=by rfl
 nd:N.Nodup:=by decide+kernel
 pre:N.take P.length=P:=by rfl
 par:∀x∈P,sc.names.lookup x=some .local∨sc.names.lookup x=some .cell:=by decide+kernel
 nofree:∀y∈sc.names,y.2≠ .free:=by decide+kernel
theorem Bb {kindOf:Str->Option NameKind}:∀{binds:List (Str×Value)}{m:Str->Option Value},(∀v,(x,v)∉binds)->bindL kindOf binds m x=m x
 | [],_,_=>rfl
 | (n,v)::r,m,h=>by
  unfold bindL
  rw[Bb λw hw=>h w (List.mem_cons_of_mem _ hw)]
  split
  ·have:x≠n:=by rintro rfl;exact h v List.mem_cons_self
   simp[this]
  ·rfl
theorem Bn {kindOf:Str->Option NameKind}:∀{binds:List (Str×Value)}{m:Str->Option Value},(∀v,(x,v)∉binds)->bindC kindOf binds m x=m x
 | [],_,_=>rfl
 | (n,v)::r,m,h=>by
  unfold bindC
  rw[Bn λw hw=>h w (List.mem_cons_of_mem _ hw)]
  split
  ·rfl
  ·have:x≠n:=by rintro rfl;exact h v List.mem_cons_self
   simp[this]
theorem Bj {kindOf:Str->Option NameKind}{v:Value}:∀{P:List Str}{vs:List Value}{i:Nat}{m:Str->Option Value},P.Nodup->P[i]?=some x->vs[i]?=some v->kindOf x=some .local->
  bindL kindOf (P.zip vs) m x=some v
 | [],_,_,_,_,h,_,_=>by simp at h
 |_::_,[],_,_,_,_,h,_=>by simp at h
 |p::P,w::vs,0,m,nd,h1,h2,hk=>by
  simp at h1 h2;subst h1;subst h2
  show bindL kindOf ((p,w)::P.zip vs) m p=_
  unfold bindL
  rw[Bb λv hv=>(List.nodup_cons.mp nd).1 (List.of_mem_zip hv).1,if_pos hk]
  simp
 |p::P,w::vs,i+1,m,nd,h1,h2,hk=>by
  show bindL kindOf ((p,w)::P.zip vs) m x=_
  unfold bindL
  exact Bj (i:=i) (List.nodup_cons.mp nd).2 (by simpa using h1) (by simpa using h2) hk
theorem CH {kindOf:Str->Option NameKind}{v:Value}:∀{P:List Str}{vs:List Value}{i:Nat}{m:Str->Option Value},P.Nodup->P[i]?=some x->vs[i]?=some v->kindOf x≠some .local->
  bindC kindOf (P.zip vs) m x=some v
 | [],_,_,_,_,h,_,_=>by simp at h
 |_::_,[],_,_,_,_,h,_=>by simp at h
 |p::P,w::vs,0,m,nd,h1,h2,hk=>by
  simp at h1 h2;subst h1;subst h2
  show bindC kindOf ((p,w)::P.zip vs) m p=_
  unfold bindC
  rw[Bn λv hv=>(List.nodup_cons.mp nd).1 (List.of_mem_zip hv).1,if_neg hk]
  simp
 |p::P,w::vs,i+1,m,nd,h1,h2,hk=>by
  show bindC kindOf ((p,w)::P.zip vs) m x=_
  unfold bindC
  exact CH (i:=i) (List.nodup_cons.mp nd).2 (by simpa using h1) (by simpa using h2) hk
def Kh (N:List Str)(vs:List V):St:=vs.map some++List.replicate (N.length-vs.length) none
def Ca (CX:CXT)(P:Program)(w:World)(K:W.Frag)(mg:Str->Option Value)(base:Heap)(N:List Str)(qual:Str)(scope:Scope)(f:Addr)(cd:Value)(A:Around)(outer:List Env)(s:Shared)(H:Hp)(E:XK):Cx where
 prog:=P
 w:=w
 K:=K
 mg:=mg
 base:=base
 A:=A.deeper (envOfC qual scope s.heap.objs.size f cd)
 N:=N
 s₀:=s
 H₀:=H
 env:=envOfC qual scope s.heap.objs.size f cd
 outer:=outer
 stack:=envOfC qual scope s.heap.objs.size f cd::outer
 ex:=[]
 calm:=true
 fn:=λ_=>true
 pn:=[]
 xe:=λe s'=>wpAny (model P w) (A.deeper (envOfC qual scope s.heap.objs.size f cd)) (leaving (envOfC qual scope s.heap.objs.size f cd) e) (λ_ s''=>CX outer H s E e s'') (λe' s''=>CX outer H s E e' s'') s'
theorem E8 {sc:Scope}(h:sc.names.lookup x=some .cell):∃c,(cellsFrom n sc.names []).lookup x=some c:=by
 have q:=PySem.W.cellsFrom_some sc.names n [] (.inl h)
 exact Option.isSome_iff_exists.mp q
theorem La {CX:CXT}{qual:Str}{f:Addr}{cd:Value}{outer:List Env}{s1:Shared}{E:XK}{vs:List V}
  (S:FnScope N ps scope)(hd:A.handled=none)(e0:Env0 P w K mg base A outer s H)(hl:vs.length=ps.length)(r:X9 vs us)
  (x:InCallC s s.heap.objs.size (bindL (envOfC qual scope s.heap.objs.size f cd).kindOf (ps.zip us) λ_=>none) (cellsFrom (s.heap.objs.size+1) scope.names []) (bindC (envOfC qual scope s.heap.objs.size f cd).kindOf (ps.zip us) λ_=>none) s1):
  Inv (Ca CX P w K mg base N qual scope f cd A outer s H E) [] (Kh N vs) H s1:=by
 have hpl:ps.length<=N.length:=by have:=congrArg List.length S.pre;rw[List.length_take] at this;omega
 obtain⟨h1,tk,rfl,hk⟩:=x.done
 have ii:∀b:Addr,b∉(Ca CX P w K mg base N qual scope f cd A outer s H E).ex:=λb z=>absurd (show b∈([]:List Addr) from z) (by simp)
 refine⟨⟨e0.mod,S.kind,rfl,rfl,Nat.le_refl _,λy z c h1 h2=>?_,λy hy=>?_,λy c _ h=>?_,λ_=>hd,Around.frames_deeper e0.frames, .inr ⟨rfl,rfl⟩,λb z=>absurd z (ii b),e0.bs,e0.bsz,λb _ _=>ii b,λb z=>absurd z (ii b),e0.funs,e0.frf⟩,
  rfl,e0.bare,Un.kept hk,⟨_,x.toInCall.ns,λi y v h1 h2 h3=>?_⟩,λy c h=>⟨_,x.cell y c h⟩,e0.hok.fresh (Nat.le_refl _),λy c h=>?_,λp hp=>absurd (show p∈([]:List (Addr×Obj)) from hp) (by simp),e0.hok.kept hk,?_⟩
 ·exact name_of_addr x.apart (mem_of_lookup h1) (mem_of_lookup h2)
 ·have hy:scope.names.lookup y=some .cell∨scope.names.lookup y=some .free:=hy
  rcases hy with hy |hy
  ·exact E8 hy
  ·exact absurd rfl (S.nofree _ (mem_of_lookup hy))
 ·exact Nat.le_of_lt (x.above y c (mem_of_lookup h))
 ·have hi:i<vs.length:=by
   unfold Kh at h2
   by_cases hi:i<vs.length
   ·exact hi
   ·rw[List.getElem?_append_right (by simpa using hi)] at h2
    rw[List.getElem?_replicate] at h2
    split at h2<;> cases h2
  have ha:vs[i]?=some v:=by
   unfold Kh at h2
   rw[List.getElem?_append_left (by simpa using hi),List.getElem?_map] at h2
   cases e:vs[i]? with
   |none=>rw[e] at h2;cases h2
   |some a=>rw[e] at h2;cases h2;rfl
  obtain⟨u,hu,rv⟩:=r.get ha
  have hp:ps[i]?=some y:=by
   rw[←S.pre,List.getElem?_take_of_lt (by omega)];exact h1
  have ndP:ps.Nodup:=by rw[←S.pre];exact S.nd.sublist (List.take_sublist _ _)
  refine⟨u,rv,?_⟩
  rcases S.par y (List.mem_of_getElem? hp) with k |k
  ·exact .inl ⟨k,Bj ndP hp hu k⟩
  ·obtain⟨c,e⟩:=E8 (n:=s.heap.objs.size+1) k
   refine .inr ⟨.inl k,c,e,?_⟩
   have q:=x.cell y c e
   rw[CH ndP hp hu (by show scope.names.lookup y≠_;rw[k];decide)] at q
   exact q
 ·exact e0.hok.fresh (Nat.le_of_lt (x.above y c (mem_of_lookup h)))
 ·unfold Kh
  show _=N.length
  rw[List.length_append,List.length_map,List.length_replicate]
  omega
theorem T9 {CX:CXT}{f:Addr}{name qual:Str}{params:Arguments}{body:List Stmt}{dV kV doc pm ah ct oc:Value}{an od:Option Addr}
  {cz:Array (Option Value)}{sp:Sp}(lk:K.lookup f=some ⟨oc,od, .func (W.fnOf name qual params body scope dV kV doc pm an ah ct),cz⟩)(dG:W.codeIn K ah qual=true)(S:FnScope N ps scope)
  (len:∀vs H Q E,sp vs H Q E->vs.length=ps.length)
  (bQ:∀(A:Around) (outer:List Env) (s:Shared) (H:Hp) (vs:List V) (Q:VK) (E:XK),Room k (A.deeper (envOfC qual scope s.heap.objs.size f ah))->sp vs H Q E->
   ∃t,PSs (Ca CX P w K mg base N qual scope f ah A outer s H E) body t/\t {nx:=λ_ H'=>Q .non H',rt:=Q} (Kh N vs) H):
  FnOk P w K mg base CX (k+1) f (W.fnOf name qual params body scope dV kV doc pm an ah ct) ps sp:=by
 refine⟨len,λA outer s H args us vs Q E hr e0 hb r cA=>?_⟩
 have hl:=len _ _ _ _ cA
 have KX:K.In s.heap:=e0.mod.kin.keeps λb o e=>(e0.bs b o e).1
 have lim:s.heap.NoLimit:=e0.mod.nolimit.keeps λb o e=>(e0.bs b o e).1
 have ez:∀y∈ps.zip us,scope.names.lookup y.1=some .local∨(scope.names.lookup y.1=some .cell/\((cellsFrom (s.heap.objs.size+1) scope.names []).lookup y.1).isSome=true):=λ⟨n,v⟩ hy=>by
  rcases S.par n (List.of_mem_zip hy).1 with q |q
  ·exact .inl q
  ·exact .inr ⟨q,PySem.W.cellsFrom_some _ _ _ (.inl q)⟩
 refine codeAny_call_function hr.depth (KX _ _ lk) rfl S.co S.gen rfl (PySem.W.codeRec_of KX dG) (hb _ _ _ _ ?_)
 refine wpAny_newFunctionEnv_cells S.kind ez λenv he s1 x=>?_
 subst he
 refine⟨lim.keeps x.toInCall.keep,codeAny_func ?_⟩
 obtain⟨t,ht,hq⟩:=bQ A outer s H vs Q E (hr.deeper _) cA
 have I:Inv (Ca CX P w K mg base N qual scope f ah A outer s H E) [] (Kh N vs) H s1:=La S hr.hd e0 hl r x
 refine wpAny_mono (ht [] s1 (Kh N vs) H _ I hq) (λfl s' hs=>?_) λe s' hs=>hs
 have fin:∀{U':St}{H':Hp}{v:V}{u:Value},Inv (Ca CX P w K mg base N qual scope f ah A outer s H E) [] U' H' s'->XZ v u->Q v H'->CE outer P w H s Q u s':=
  fun {U' H' v u} J rv q=>⟨v,H',J.os,J.bare,J.base,J.hok,rv,q⟩
 cases fl with
 |ret u=>
  obtain⟨v,U',H',J,rv,q⟩:=hs
  exact fin J rv q
 |next=>
  obtain⟨U',H',J,q⟩:=hs
  exact fin (v:=V.non) (u:=Value.none) J rfl q
 |brk=>
  obtain⟨_,_,_,q⟩:=hs
  exact False.elim q
 |cont=>
  obtain⟨_,_,_,q⟩:=hs
  exact False.elim q
section
variable {p:Pos}{t:TA}{id T:String}{r:List V->Hp->VK->Prop}
def tCB (r:List V->Hp->VK->Prop)(t:TA):TE:=λU H Q=>t U H λvs H1=>r vs H1 Q
theorem Xt (hc:ZX X (.builtin id) r)(hg:Gl X x)(hm:X.mg x=none)(hv:bootBuiltins x=some (.builtin id))(ha:PA X (e::es) t)(hn:x≠ "__name__":=by decide)(c7:(x==("__debug__":Str))=false:=by decide)
  (he:starEach (e::es) X.env=(false,eval e X.env)::starEach es X.env:=by rfl)(hpl:(backTo pos (starEach es X.env)).any (·.1)=false:=by rfl):PE X (.Call (.Name x p) (e::es) [] pos) (tCB r t):=by
 intro aa s U H Q I h
 refine wpAny_Call_Name_kw (U9 I hg hm hv ?_ hn c7)
 exact callWith_builtin1 (thn (ha pos aa s U H _ I h) λus s1 r9=>by obtain⟨vs,H1,I1,r1,q1⟩:=r9;exact hc aa s1 U H1 vs us Q I1 r1 q1) he hpl
theorem XD (hc:ZX X (.type T) r)(hg:Gl X x)(hm:X.mg x=none)(hv:bootBuiltins x=some (.type T))(ha:PA X (e::es) t)(hn:x≠ "__name__":=by decide)(c7:(x==("__debug__":Str))=false:=by decide)
  (he:starEach (e::es) X.env=(false,eval e X.env)::starEach es X.env:=by rfl)(hpl:(backTo pos (starEach es X.env)).any (·.1)=false:=by rfl):PE X (.Call (.Name x p) (e::es) [] pos) (tCB r t):=by
 intro aa s U H Q I h
 refine wpAny_Call_Name_kw (U9 I hg hm hv ?_ hn c7)
 exact callWith_type1 (thn (ha pos aa s U H _ I h) λus s1 r9=>by obtain⟨vs,H1,I1,r1,q1⟩:=r9;exact hc aa s1 U H1 vs us Q I1 r1 q1) he hpl
end
end L2
namespace HT
open PySem PyProof.Rows
section
open PySem.SeqAt
open PySem.AutoSeq1 (wpAny_loadPart')
open PySem.MeetsSeq PySem.MeetsSeq2 PySem.MeetsSeq3
end
section
theorem cat_tup (ht:IsTup s.heap t vs.toArray)(hb:IsTup s.heap b ws.toArray)(hv:vs≠ [])
  (h1:ws=[]->Q (.ref t) s)(h2:ws≠ []->Q (.ref s.heap.objs.size) {s with heap:=s.heap.push {cls:=.type "tuple",data:=.seq (vs++ws).toArray}})
  (hsz:vs.length+ws.length<=sizeLine):wpAny (model prog w) A (binaryOp .Add (.ref t) (.ref b)) Q E s:=by
 obtain⟨⟨cls,dd,data,sl⟩,ho,hc,n,hd⟩:=id ht
 obtain⟨⟨cls2,dd2,data2,gP⟩,ca,cU,n2,cb⟩:=id hb
 simp only at hc hd cU cb
 subst hc hd cU cb
 have e:vs.toArray++ws.toArray=(vs++ws).toArray:=by simp
 by_cases hw:ws=[]
 ·exact concat_meets ⟨_,ho,rfl⟩ ⟨_,ca,rfl⟩ noFill_tuple_add seq_tuple_add PySem.F.slot_tuple_add PySem.F.entry_tuple_add (PySem.F.args_tuple_add_2 _ _)
   (tuple_addW1 t b vs.toArray ws.toArray n n2 dd dd2 sl gP (by simpa using hv) (by simp[hw])) ⟨ho,ca,h1 hw⟩
 ·refine concat_meets ⟨_,ho,rfl⟩ ⟨_,ca,rfl⟩ noFill_tuple_add seq_tuple_add PySem.F.slot_tuple_add PySem.F.entry_tuple_add (PySem.F.args_tuple_add_2 _ _)
   (tuple_addW2 t b vs.toArray ws.toArray n n2 dd dd2 sl gP (by simpa using hv) (by simpa using hw) (by rw[List.size_toArray,List.size_toArray];exact hsz)) ⟨ho,ca,?_⟩
  rw[e]
  exact h2 hw
def sIx (n d:Nat):Option Int->Nat
 |none=>d
 |some v=>if v<0 then(v+(n:Int)).toNat else min v.toNat n
theorem sIx_none (n d:Nat):sIx n d none=d:=rfl
theorem sIx_nat (n d k:Nat):sIx n d (some (k:Int))=min k n:=by
 show(if(k:Int)<0 then((k:Int)+(n:Int)).toNat else min (k:Int).toNat n)=min k n
 rw[if_neg (by omega),Int.toNat_natCast]
theorem sIx_le (n d:Nat)(hd:d<=n)(o:Option Int):sIx n d o<=n:=by
 cases o with
 |none=>exact hd
 |some v=>
  show(if v<0 then(v+(n:Int)).toNat else min v.toNat n)<=n
  by_cases hv:v<0
  ·rw[if_pos hv];omega
  ·rw[if_neg hv];exact Nat.min_le_right _ _
theorem I9 (v:Int)(n d:Nat):(if v<0 then max (v+(n:Int)) 0 else min v (n:Int))=((sIx n d (some v):Nat):Int):=by
 show(if v<0 then max (v+(n:Int)) 0 else min v (n:Int))=(((if v<0 then(v+(n:Int)).toNat else min v.toNat n):Nat):Int)
 by_cases hv:v<0
 ·simp only[if_pos hv];omega
 ·simp only[if_neg hv];omega
theorem HF (lo hi:Option Int)(n:Nat):Builtin.Slice.sliceAdjust lo hi 1 (n:Int)=(((sIx n 0 lo:Nat):Int),((sIx n n hi:Nat):Int)):=by
 have h1:¬((1:Int)<0):=by omega
 unfold Builtin.Slice.sliceAdjust
 simp only[h1,if_false]
 refine Prod.ext ?_ ?_
 ·cases lo with
  |none=>rfl
  |some v=>exact I9 v n 0
 ·cases hi with
  |none=>rfl
  |some v=>exact I9 v n n
theorem Ic (i j:Nat):Builtin.Slice.slicePlaces (i:Int) (j:Int) 1=j-i:=by
 unfold Builtin.Slice.slicePlaces
 have h1:(1:Int) > 0:=by omega
 simp only[h1,if_true,Int.ediv_one]
 split<;> omega
theorem FD {Q:Option Int->Shared->Prop}(p:IsPart v o)(h:Q o s):wpAny (model prog w) A (Builtin.Slice.slicePartIndex v) Q E s:=by
 cases p with
 |none=>exact slicePart_none h
 |int i t=>exact slicePart_int h
theorem Ki {sl:Addr}{vl vu:Value}{lo hi:Option Int}{Q:Int×Int×Nat->Shared->Prop}(hs:s.heap.IsSliceOf sl vl vu .none)(pl:IsPart vl lo)(pu:IsPart vu hi)
  (h:Q (((sIx n 0 lo:Nat):Int),1,sIx n n hi-sIx n 0 lo) s):wpAny (model prog w) A (Builtin.Slice.sliceApplied (.ref sl) (pure (n:Int))) Q E s:=by
 obtain⟨os,d6,eY,fC⟩:=id hs
 unfold Builtin.Slice.sliceApplied Builtin.Slice.sliceFields
 refine wpAny_bind (wpAny_bind (wpAny_field d6 fC (x:=vl) rfl (wpAny_bind (wpAny_field d6 fC (x:=vu) rfl (wpAny_bind (wpAny_field d6 fC (x:=.none) rfl (wpAny_pure ?_)))))))
 refine wpAny_bind (slicePart_none ?_)
 show wpAny _ _ (if((1:Int)==0)=true then _ else _) _ _ s
 rw[if_neg (by decide)]
 refine wpAny_bind (FD pl (wpAny_bind (FD pu (wpAny_bind (wpAny_pure ?_)))))
 show wpAny _ _ (match Builtin.Slice.sliceAdjust lo hi 1 (n:Int) with | (lo,hi)=>pure (lo,(1:Int),Builtin.Slice.slicePlaces lo hi 1)) _ _ s
 rw[HF lo hi n]
 show wpAny _ _ (pure (((sIx n 0 lo:Nat):Int),(1:Int),Builtin.Slice.slicePlaces ((sIx n 0 lo:Nat):Int) ((sIx n n hi:Nat):Int) 1)) _ _ s
 rw[Ic]
 exact wpAny_pure h
theorem NV (xs:Array Value)(i k:Nat):((List.range k).filterMap λ(m:Nat)=>xs[((i:Int)+(m:Int)*1).toNat]?).toArray=((xs.toList.drop i).take k).toArray:=by
 have e:(λ(m:Nat)=>xs[((i:Int)+(m:Int)*1).toNat]?)=λm=>xs[i+m]?:=by
  funext m
  have:((i:Int)+(m:Int)*1).toNat=i+m:=by omega
  rw[this]
 rw[e]
 have:=pick_run xs i k
 rw[List.filterMap_map] at this
 have e2:((λx=>xs[x]?)∘λx=>i+x)=λm=>xs[i+m]?:=rfl
 rw[e2] at this
 rw[this]
theorem getItem_tuple_cut {t sl:Addr}{items:Array Value}{vl vu:Value}{lo hi:Option Int}(ht:IsTup s.heap t items)(hs:s.heap.IsSliceOf sl vl vu .none)(pl:IsPart vl lo)(pu:IsPart vu hi)
  (hw:¬(sIx items.size 0 lo=0/\sIx items.size items.size hi=items.size))
  (h:Q (.ref s.heap.objs.size) {s with heap:=s.heap.push {cls:=.type "tuple",data:=.seq ((items.toList.drop (sIx items.size 0 lo)).take (sIx items.size items.size hi-sIx items.size 0 lo)).toArray}})
  (hsz:items.size<=sizeLine):wpAny (model prog w) A (getItem (.ref t) (.ref sl)) Q E s:=by
 have dt:sizeOk (.seq ((items.toList.drop (sIx items.size 0 lo)).take (sIx items.size items.size hi-sIx items.size 0 lo)).toArray):=by
  show((items.toList.drop (sIx items.size 0 lo)).take (sIx items.size items.size hi-sIx items.size 0 lo)).toArray.size<=sizeLine
  rw[List.size_toArray,List.length_take,List.length_drop,Array.length_toList]
  omega
 have hj:sIx items.size items.size hi<=items.size:=sIx_le _ _ (Nat.le_refl _) hi
 obtain⟨os,d6,eY,fC⟩:=id hs
 have hTs:s.TypeIs (.ref sl) "slice":=⟨os,d6,eY⟩
 unfold getItem
 try with_reducible refine wpAny_holding ?_
 first |refine wpAny_bind (wpAny_pure ?_) |skip
 refine wpAny_bind (wpAny_sequenceKey ht.typeIs (by decide) ?_)
 refine wpAny_bind (wpAny_callSpecial?_slot (name:=Str.ofString "__getitem__") ht.typeIs PyProof.Rows.slot_tuple_getitem
  (wpAny_call_entry PyProof.Rows.slot_tuple_getitem ht.typeIs entry_tuple_getitem ?_ (args_tuple_getitem _ _)))
 show wpAny _ _ (Builtin.Tuple.tupleItemsOf (.ref t) >>= _) _ _ s
 refine wpAny_bind (tupleItemsOf_ ht ?_)
 refine wpAny_bind (wpAny_typeOf hTs ?_)
 rw[if_pos (by decide)]
 refine wpAny_bind (Ki hs pl pu ?_)
 have hno:¬((((sIx items.size 0 lo:Nat):Int)==0&&(1:Int)==1&&(sIx items.size items.size hi-sIx items.size 0 lo)==items.size)=true):=by
  intro q
  rw[Bool.and_eq_true,Bool.and_eq_true] at q
  have q1:((sIx items.size 0 lo:Nat):Int)=0:=eq_of_beq q.1.1
  have q2:sIx items.size items.size hi-sIx items.size 0 lo=items.size:=eq_of_beq q.2
  exact hw ⟨by omega,by omega⟩
 show wpAny _ _ (if(((sIx items.size 0 lo:Nat):Int)==0&&(1:Int)==1&&(sIx items.size items.size hi-sIx items.size 0 lo)==items.size)=true then _ else _) _ _ s
 rw[if_neg hno,NV]
 first
  |exact wpAny_bind (m:=Builtin.Tuple.tupleExact _) (wpAny_newObj_type (wpAny_pure ⟨_,rfl,wpAny_pure h⟩) dt)
  |exact wpAny_bind (m:=Builtin.Tuple.tupleExact _) (wpAny_newObj_type (wpAny_bind (wpAny_pure (wpAny_pure ⟨_,rfl,wpAny_pure h⟩))) dt)
  |exact wpAny_bind (wpAny_bind (m:=Builtin.Tuple.tupleExact _) (wpAny_newObj_type (wpAny_pure (wpAny_pure ⟨_,rfl,wpAny_pure h⟩)) dt))
  |exact wpAny_bind (wpAny_bind (m:=Builtin.Tuple.tupleExact _) (wpAny_newObj_type (wpAny_pure ⟨_,rfl,wpAny_pure h⟩) dt))
end
end HT
namespace L2
open PySem PySem.Spec PyProof.Rows
abbrev TO:=St->Hp->(Option Int->Hp->Prop)->Prop
def PO (X:Cx)(e:Option Expr)(t:TO):Prop:=
 ∀(aa:List (Addr×Obj)) (s:Shared) (U:St) (H:Hp) (Q:Option Int->Hp->Prop),Inv X aa U H s->t U H Q->
  wpAny (model X.prog X.w) X.A (evalPart e X.env) (λu s'=>∃ o H',Inv X aa U H' s'/\IsPart u o/\Q o H') X.xe s
def B5:TO:=λ_ H Q=>Q none H
def RZ (t:TE):TO:=λU H Q=>t U H λx H1=>∃ i,x= .int i/\Q (some i) H1
section
variable {lo hi:Option Expr}{tl th:TO}{p2:Pos}
theorem XV:PO X none B5:=by
 intro aa s U H Q I h
 rw[evalPart_none]
 exact wpAny_pure ⟨none,H,I, .none,h⟩
theorem XE (h:PE X e te):PO X (some e) (RZ te):=by
 intro aa s U H Q I hw
 rw[evalPart_some]
 refine thn (h aa s U H _ I hw) λu s1 r9=>?_
 obtain⟨x,H1,I1,r1,q1⟩:=r9
 obtain⟨i,rfl,q⟩:=q1
 obtain⟨t,rfl⟩:=r1
 exact⟨some i,H1,I1, .int i t,q⟩
def SlR (X:Cx)(r:V->Option Int->Option Int->Hp->VK->Prop):Prop:=
 ∀(aa:List (Addr×Obj)) (s:Shared) (U:St) (H:Hp) (x:V) (v vl vu:Value) (lo hi:Option Int) (sl:Addr) (Q:VK),Inv X aa U H s->XZ x v->s.heap.IsSliceOf sl vl vu .none->IsPart vl lo->IsPart vu hi->r x lo hi H Q->
  ∃T id,typeLookup (.type T) "__getitem__" =pure (some (.builtin id))/\s.TypeIs v T/\wpAny (model X.prog X.w) X.A (getItem v (.ref sl)) (EP X aa U Q) X.xe s
def tSl (r:V->Option Int->Option Int->Hp->VK->Prop)(te:TE)(tl th:TO):TE:=λU H Q=>te U H λx H1=>tl U H1 λl H2=>th U H2 λu H3=>r x l u H3 Q
theorem XB (hr:SlR X r)(he:PE X e te)(hl:PO X lo tl)(hu:PO X hi th):PE X (.Subscript e (.Slice lo hi none p2) pos) (tSl r te tl th):=by
 intro aa s U H Q I h
 refine Subscript_ (thn (he aa s U H _ I h) λv s1 r9=>?_)
 obtain⟨x,H1,I1,r1,q1⟩:=r9
 refine wpAny_Slice (thn (hl aa s1 U H1 _ I1 q1) λvl s2 ⟨l,H2,I2,pl,q2⟩=>thn (hu aa s2 U H2 _ I2 q2) λvu s3 r9=>?_)
 obtain⟨u,H3,I3,pu,q3⟩:=r9
 rw[evalPart_none]
 refine wpAny_pure ?_
 have I4:Inv X aa U H3 {s3 with heap:=s3.heap.push {cls:=.type "slice",data:=.fields #[vl,vu, .none]}}:=I3.kept (t':=s3.toks) λb ob q=>Heap.get?_push_of_some _ q
 obtain⟨T,id,hT,ht,hg⟩:=hr aa {s3 with heap:=s3.heap.push {cls:=.type "slice",data:=.fields #[vl,vu, .none]}} U H3 x v vl vu l u s3.heap.objs.size Q I4 r1 (Heap.IsSliceOf.new ..) pl pu q3
 show wpAny (model X.prog X.w) X.A (subscriptTail e (.Slice lo hi none p2) v (.ref s3.heap.objs.size)) (EP X aa U Q) X.xe {s3 with heap:=s3.heap.push {cls:=.type "slice",data:=.fields #[vl,vu, .none]}}
 exact tail_any (ops:=[.ref s3.heap.objs.size,v]) ht hT hg (by with_unfolding_all rfl)
def Om (xs:List V)(lo hi:Option Int):List V:=(xs.drop (HT.sIx xs.length 0 lo)).take (HT.sIx xs.length xs.length hi-HT.sIx xs.length 0 lo)
theorem Go (xs:List V)(lo hi:Option Int):(Om xs lo hi).length<=xs.length:=by
 unfold Om
 rw[List.length_take,List.length_drop]
 omega
def Ws (K:W.Frag):V->Option Int->Option Int->Hp->VK->Prop:=λx lo hi H Q=>∃ a xs,x= .ref a/\SqT K H a xs/\
 ¬(HT.sIx xs.length 0 lo=0/\HT.sIx xs.length xs.length hi=xs.length)/\∀p,H p=none->Q (.ref p) (upd H p (.tup (Om xs lo hi)))
theorem S4:SlR X (Ws X.K):=by
 intro aa s U H x v vl vu lo hi sl Q I rx hs pl pu h
 obtain⟨a,xs,rfl,hx,hw,q⟩:=h
 cases rx
 obtain⟨its,r,ht,hz⟩:=I.tuple hx
 have ag:its.toArray.size=xs.length:=by rw[List.size_toArray];exact r.length.symm
 refine⟨"tuple",_,PyProof.Rows.slot_tuple_getitem.lookup,ht.typeIs,?_⟩
 refine HT.getItem_tuple_cut ht hs pl pu (by rw[ag];exact hw) ?_ (by rw[ag];exact hz)
 rw[ag]
 refine⟨.ref s.heap.objs.size,_,I.laid (t':=s.toks) (o:=.tup (Om xs lo hi)) (λb ob q=>Heap.get?_push_of_some _ q) (Nat.le_refl _) ?_,rfl,q _ (I.hok.fresh (Nat.le_refl _))⟩
 exact⟨Nat.le_trans (Go xs lo hi) hz,_,(r.drop (HT.sIx xs.length 0 lo)).take (HT.sIx xs.length xs.length hi-HT.sIx xs.length 0 lo),VV.new _ _⟩
def WQ (K:W.Frag):R2:=λx y H Q=>∃ a b xs ys,x= .ref a/\y= .ref b/\SqT K H a xs/\SqT K H b ys/\xs≠ []/\xs.length+ys.length<=sizeLine/\
 (ys=[]->Q (.ref a) H)/\(ys≠ []->∀p,H p=none->Q (.ref p) (upd H p (.tup (xs++ys))))
theorem X9.nil_iff (r:X9 xs us):us=[]↔xs=[]:=by
 cases r with
 |nil=>simp
 |cons _ _=>simp
theorem R5:OpR X (binaryOp .Add) (WQ X.K):=by
 intro aa s U H x y v u Q I rx ry h
 obtain⟨a,b,xs,ys,rfl,rfl,ha,hb,hx,hz,q1,q2⟩:=h
 cases rx
 cases ry
 obtain⟨its,r1,p1,_⟩:=I.tuple ha
 obtain⟨aB,r2,p2,_⟩:=I.tuple hb
 refine HT.cat_tup p1 p2 (λz=>hx (r1.nil_iff.mp z)) (λz=>⟨.ref a,H,I,rfl,q1 (r2.nil_iff.mp z)⟩) (λz=>?_) (by rw[←r1.length, ←r2.length];exact hz)
 refine⟨.ref s.heap.objs.size,_,I.laid (t':=s.toks) (o:=.tup (xs++ys)) (λb ob q=>Heap.get?_push_of_some _ q) (Nat.le_refl _) ?_,rfl,q2 (λw=>z (r2.nil_iff.mpr w)) _ (I.hok.fresh (Nat.le_refl _))⟩
 exact⟨by rw[List.length_append];exact hz,_,r1.append r2,VV.new _ _⟩
end
def ixN (n:Nat)(i:Int):Option Nat:=if 0<=i then(if i<n then some i.toNat else none) else if-(n:Int)<=i then some (i+n).toNat else none
def atI (xs:List M)(i:Int):Option M:=(ixN xs.length i).bind λj=>xs[j]?
theorem Mm (h:ixN n i=some j):seqIndex? i n=some j/\j<n/\ -(n:Int)<=i/\i<n:=by
 unfold ixN at h
 by_cases h0:0<=i
 ·rw[if_pos h0] at h
  by_cases h1:i<n
  ·rw[if_pos h1] at h
   have e:i.toNat=j:=Option.some.inj h
   exact⟨by rw[seqIndex_of h0 h1,e],by omega,by omega,h1⟩
  ·rw[if_neg h1] at h;cases h
 ·rw[if_neg h0] at h
  by_cases h1: -(n:Int)<=i
  ·rw[if_pos h1] at h
   have e:(i+n).toNat=j:=Option.some.inj h
   exact⟨by rw[seqIndex_neg (by omega) h1,e],by omega,h1,by omega⟩
  ·rw[if_neg h1] at h;cases h
theorem LL {xs:List M}(h:atI xs i=some v):∃j,seqIndex? i xs.length=some j/\xs[j]?=some v/\j<xs.length/\ -(xs.length:Int)<=i/\i<xs.length:=by
 unfold atI at h
 cases e:ixN xs.length i with
 |none=>rw[e] at h;cases h
 |some j=>
  rw[e] at h
  obtain⟨h1,h2,h3,h4⟩:=Mm e
  exact⟨j,h1,h,h2,h3,h4⟩
def IZ (b:Expr):Prop:=∀ o i,subscripted b false o i=operate [o,i] (getItem o i)
def IxR (X:Cx)(r:R2):Prop:=
 ∀(value slice:Expr) (aa:List (Addr×Obj)) (s:Shared) (U:St) (H:Hp) (x y:V) (v u:Value) (Q:VK),Inv X aa U H s->XZ x v->XZ y u->r x y H Q->
  subscripted slice false v u=operate [v,u] (getItem v u)->wpAny (model X.prog X.w) X.A (subscriptTail value slice v u) (EP X aa U Q) X.xe s
def MtR (X:Cx)(id:String)(r:V->List V->Hp->VK->Prop):Prop:=
 ∀(aa:List (Addr×Obj)) (s:Shared) (U:St) (H:Hp) (x:V) (xs:List V) (v:Value) (us:List Value) (Q:VK),Inv X aa U H s->XZ x v->X9 xs us->r x xs H Q->
  wpAny (model X.prog X.w) X.A (call (.builtin id) (v::us)) (EP X aa U Q) X.xe s
section
variable {a b:Expr}
theorem VN (hr:IxR X r)(ha:PE X a ta)(hb:PE X b tb)(hs:IZ b):PE X (.Subscript a b pos) (tOp r ta tb):=by
 intro aa s U H Q I h
 exact Subscript_ (WO ha hb I h λv u s2 x y H2 I2 rx ry q=>hr a b aa s2 U H2 x y v u Q I2 rx ry q (hs _ _))
def HJ (K:W.Frag):R2:=λx y H Q=>∃ p xs i v,x= .ref p/\y= .int i/\SqL K H p xs/\atI xs i=some v/\Q v H
def B7 (K:W.Frag):R2:=λx y H Q=>∃ p xs i v,x= .ref p/\y= .int i/\SqT K H p xs/\atI xs i=some v/\Q v H
theorem Pa:IxR X (HJ X.K):=by
 intro value slice aa s U H x y v u Q I rx ry h hs
 obtain⟨p,xs,i,z,rfl,rfl,hq,he,q⟩:=h
 cases rx
 obtain⟨t,rfl⟩:=ry
 obtain⟨its,r,pl,hz⟩:=I.list hq
 obtain⟨j,h1,h2,h3,h4,h5⟩:=LL he
 obtain⟨w,ew,cy⟩:=r.get h2
 have hl:=r.length
 have hn:=E5
 have fin:EP X aa U Q w s:=⟨z,H,I,cy,q⟩
 by_cases h0:0<=i
 ·have hj:i.toNat=j:=by
   rw[seqIndex_of h0 h5] at h1
   exact Option.some.inj h1
  exact item_listR pl.isList h0 (by omega) (by rw[hj];simpa using ew) fin hs
 ·have hj:(i+(its.toArray.size:Int)).toNat=j:=by
   rw[seqIndex_neg (by omega) h4] at h1
   rw[List.size_toArray, ←hl]
   exact Option.some.inj h1
  exact subscriptTail_builtinR (x:=w) pl.isList.typeIs slot_list_getitem.lookup
   (wpAny_getItem_list_neg (Q:=λr s'=>r=w/\EP X aa U Q r s') pl.isList (by omega) (by rw[List.size_toArray]<;> omega) (by omega) (by rw[hj];simpa using ew) ⟨rfl,fin⟩) hs
theorem SK:IxR X (B7 X.K):=by
 intro value slice aa s U H x y v u Q I rx ry h hs
 obtain⟨p,xs,i,z,rfl,rfl,hq,he,q⟩:=h
 cases rx
 obtain⟨t,rfl⟩:=ry
 obtain⟨its,r,pl,hz⟩:=I.tuple hq
 obtain⟨j,h1,h2,h3,h4,h5⟩:=LL he
 obtain⟨w,ew,cy⟩:=r.get h2
 have hl:=r.length
 have hn:=E5
 have fin:EP X aa U Q w s:=⟨z,H,I,cy,q⟩
 exact subscriptTail_builtinR (x:=w) pl.typeIs slot_tuple_getitem.lookup
  (getItem_tuple (j:=j) (Q:=λr s'=>r=w/\EP X aa U Q r s') pl (by omega) (by omega) (by rw[List.size_toArray, ←hl];exact h1) (by simpa using ew) ⟨rfl,fin⟩) hs
theorem HH (its:List Value)(n j:Nat)(u:Value):Obj.mapSeq (·.setIfInBounds j u) {cls:=.type "list",data:=.seq its.toArray n}={cls:=.type "list",data:=.seq (its.set j u).toArray n}:=by
 simp[Obj.mapSeq]
theorem Inv.lst (I:Inv X aa U H s)(h:H p=some (.lst xs)):
  ∃(its:List Value) (n:Nat),X9 xs its/\s.heap.get? p=some {cls:=.type "list",data:=.seq its.toArray n}/\xs.length<=sizeLine:=by
 obtain⟨z,its,n,r,e⟩:=I.hok p _ h
 exact⟨its,n,r,e,z⟩
theorem Inv.lstUpd (I:Inv X aa U H s)(h:H p=some (.lst xs))
  (ho:s.heap.get? p=some {cls:=.type "list",data:=.seq its.toArray n})(hf:f {cls:=.type "list",data:=.seq its.toArray n}={cls:=.type "list",data:=.seq its'.toArray n'})(r:X9 ys its')(hz:ys.length<=sizeLine)(t:Nat):
  Inv X aa U (upd H p (.lst ys)) {s with heap:=s.heap.update p f,toks:=t}:=by
 have e:(s.heap.update p f).get? p=some {cls:=.type "list",data:=.seq its'.toArray n'}:=by
  rw[Heap.get?_update_self f ho (by rw[hf]<;> rfl),hf]
 refine I.write (x:=p) (e:=p) (by rw[h];trivial) (.inl rfl) (λb u hb q=>(Heap.get?_update_other _ _ (Ne.symm hb)).trans q) ⟨_,e⟩ ?_
 exact⟨hz,its',n',r,e⟩
def HK:V->V->V->Hp->(Hp->Prop)->Prop:=λo i v H Q=>∃ p xs k j,o= .ref p/\i= .int k/\H p=some (.lst xs)/\ixN xs.length k=some j/\Q (upd H p (.lst (xs.set j v)))
theorem Yc:Ai X HK:=by
 intro aa s U H o i v ov iv u Q I ro ri rv h
 obtain⟨p,xs,k,j,rfl,rfl,hp,hj,q⟩:=h
 cases ro
 obtain⟨t,rfl⟩:=ri
 obtain⟨its,n,r,ho,hz⟩:=I.lst hp
 obtain⟨h1,h2,h3,h4⟩:=Mm hj
 have hl:=r.length
 have hn:=E5
 have I':Inv X aa U (upd H p (.lst (xs.set j v))) {s with heap:=s.heap.update p (Obj.mapSeq (·.setIfInBounds j u))}:=
  I.lstUpd hp ho (HH its n j u) (r.set rv j) (by rw[List.length_set];exact hz) s.toks
 by_cases h0:0<=k
 ·have hk:k.toNat=j:=by
   rw[seqIndex_of h0 h4] at h1
   exact Option.some.inj h1
  exact PySem.W.ki_setAt ho h0 (by omega) (by rw[List.size_toArray, ←hl];exact h4) (by rw[hk];exact⟨_,I',q⟩)
 ·have hk:(k+(its.toArray.size:Int)).toNat=j:=by
   rw[seqIndex_neg (by omega) h3] at h1
   rw[List.size_toArray, ←hl]
   exact Option.some.inj h1
  exact PySem.W.ki_setBack ho (by omega) (by rw[List.size_toArray, ←hl];exact h3) (by omega) (by rw[hk];exact⟨_,I',q⟩)
theorem U6 (lo hi:Option Int)(n:Nat):(sliceBounds lo hi none n).1=((HT.sIx n 0 lo:Nat):Int)/\(sliceBounds lo hi none n).2.1=((HT.sIx n n hi:Nat):Int)/\(sliceBounds lo hi none n).2.2=1:=by
 refine⟨?_,?_,rfl⟩
 ·cases lo with
  |none=>simp[sliceBounds,HT.sIx]
  |some i=>
   simp only[sliceBounds,HT.sIx,Option.getD_none,show(1:Int) > 0 by decide,if_true]
   by_cases h:i<0
   ·simp only[h,if_true]<;> omega
   ·simp only[h,if_false]<;> omega
 ·cases hi with
  |none=>simp[sliceBounds,HT.sIx]
  |some i=>
   simp only[sliceBounds,HT.sIx,Option.getD_none,show(1:Int) > 0 by decide,if_true]
   by_cases h:i<0
   ·simp only[h,if_true]<;> omega
   ·simp only[h,if_false]<;> omega
theorem DP (its:List Value)(lo hi:Option Int):slicePick its.toArray lo hi none=((its.drop (HT.sIx its.length 0 lo)).take (HT.sIx its.length its.length hi-HT.sIx its.length 0 lo)).toArray:=by
 obtain⟨h1,h2,h3⟩:=U6 lo hi its.toArray.size
 unfold slicePick
 rw[h1,h2,h3]
 simp only[sliceRange_one,pick_run,List.size_toArray]<;> rfl
def S3 (K:W.Frag):V->Option Int->Option Int->Hp->VK->Prop:=λx lo hi H Q=>∃ a xs,x= .ref a/\SqL K H a xs/\∀p,H p=none->Q (.ref p) (upd H p (.lst (Om xs lo hi)))
theorem Sq:SlR X (S3 X.K):=by
 intro aa s U H x v vl vu lo hi sl Q I rx hs pl pu h
 obtain⟨a,xs,rfl,hx,q⟩:=h
 cases rx
 obtain⟨its,r,ht,hz⟩:=I.list hx
 have ag:=r.length
 refine⟨"list",_,slot_list_getitem.lookup,ht.isList.typeIs,?_⟩
 refine wpAny_getItem_list_slice ht.isList hs pl pu .none (by simp) ?_ (by rw[List.size_toArray]<;> omega)
 rw[DP, ←ag]
 refine⟨.ref s.heap.objs.size,_,I.laid (t':=s.toks) (o:=.lst (Om xs lo hi)) (λb ob q=>Heap.get?_push_of_some _ q) (Nat.le_refl _) ?_,rfl,q _ (I.hok.fresh (Nat.le_refl _))⟩
 exact⟨Nat.le_trans (Go xs lo hi) hz,_,0,(r.drop (HT.sIx xs.length 0 lo)).take (HT.sIx xs.length xs.length hi-HT.sIx xs.length 0 lo),Heap.get?_push_size _ rfl⟩
def G4:V->Bool
 | .non=>true
 | .bl _=>true
 | .int _=>true
 | .str _=>true
 |_=>false
def eqV:V->V->Bool
 | .non, .non=>true
 | .bl a, .bl b=>a==b
 | .bl a, .int b=>(if a then 1 else 0)==b
 | .int a, .bl b=>a==(if b then 1 else 0)
 | .int a, .int b=>a==b
 | .str a, .str b=>a==b
 |_,_=>false
theorem T0 {y x:V}(ry:XZ y u)(rx:XZ x v)(fy:G4 y=true)(fx:G4 x=true):SeqAt.EqAt A s u v (eqV y x):=by
 cases y with
 |non=>
  cases ry
  cases x with
  |non=>cases rx;exact SeqAt.EqAt.same _
  |bl b=>cases rx;exact SeqAt.EqAt.none_bool b
  |int b=>obtain⟨t,rfl⟩:=rx;exact SeqAt.EqAt.none_int b t
  |str b=>obtain⟨t,rfl⟩:=rx;exact SeqAt.EqAt.none_str b t
  |_=>exact absurd (show false=true from fx) Bool.false_ne_true
 |bl a=>
  cases ry
  cases x with
  |non=>cases rx;exact SeqAt.EqAt.bool_none a
  |bl b=>cases rx;exact SeqAt.EqAt.bool_bool a b
  |int b=>obtain⟨t,rfl⟩:=rx;exact SeqAt.EqAt.bool_int a b t
  |str b=>obtain⟨t,rfl⟩:=rx;exact SeqAt.EqAt.bool_str a b t
  |_=>exact absurd (show false=true from fx) Bool.false_ne_true
 |int a=>
  obtain⟨t',rfl⟩:=ry
  cases x with
  |non=>cases rx;exact SeqAt.EqAt.int_none a t'
  |bl b=>cases rx;exact SeqAt.EqAt.int_bool a t' b
  |int b=>obtain⟨t,rfl⟩:=rx;exact SeqAt.EqAt.int_int a t' b t
  |str b=>obtain⟨t,rfl⟩:=rx;exact SeqAt.EqAt.int_str a t' b t
  |_=>exact absurd (show false=true from fx) Bool.false_ne_true
 |str a=>
  obtain⟨t',rfl⟩:=ry
  cases x with
  |non=>cases rx;exact SeqAt.EqAt.str_none a t'
  |bl b=>cases rx;exact SeqAt.EqAt.str_bool a t' b
  |int b=>obtain⟨t,rfl⟩:=rx;exact SeqAt.EqAt.str_int a t' b t
  |str b=>obtain⟨t,rfl⟩:=rx;exact SeqAt.EqAt.str_str a t' b t
  |_=>exact absurd (show false=true from fx) Bool.false_ne_true
 |_=>exact absurd (show false=true from fy) Bool.false_ne_true
def eqU (x:V)(u:Value):Bool:=match u with
 | .none=>eqV .non x
 | .bool b=>eqV (.bl b) x
 | .int i _=>eqV (.int i) x
 | .str z _=>eqV (.str z) x
 |_=>false
theorem OX {x y:V}(r:XZ y u)(f:G4 y=true):eqU x u=eqV y x:=by
 cases y with
 |non=>cases r;rfl
 |bl b=>cases r;rfl
 |int i=>obtain⟨t,rfl⟩:=r;rfl
 |str z=>obtain⟨t,rfl⟩:=r;rfl
 |_=>exact absurd (show false=true from f) Bool.false_ne_true
theorem Ga {x:V}:∀{xs:List V}{us:List Value},X9 xs us->xs.all G4=true->us.any (eqU x)=xs.any λy=>eqV y x
 |_,_, .nil,_=>rfl
 |y::xs,u::us, .cons r t,f=>by
  rw[List.all_cons,Bool.and_eq_true] at f
  rw[List.any_cons,List.any_cons,OX r f.1,Ga t f.2]
theorem V8 {x:V}(rx:XZ x v)(fx:G4 x=true):∀{xs:List V}{us:List Value},X9 xs us->xs.all G4=true->∀u∈us,SeqAt.EqAt A s u v (eqU x u)
 |_,_, .nil,_=>λu hu=>by cases hu
 |y::xs,u::us, .cons r t,f=>λu' hu=>by
  rw[List.all_cons,Bool.and_eq_true] at f
  rcases List.mem_cons.mp hu with rfl |hu
  ·rw[OX r f.1];exact T0 r rx f.1 fx
  ·exact V8 rx fx t f.2 u' hu
def inV (x:V)(xs:List V):Bool:=xs.any λy=>eqV y x
def rIn (K:W.Frag)(neg:Bool):R2:=λx y H Q=>∃ p xs,y= .ref p/\(SqL K H p xs∨SqT K H p xs)/\G4 x=true/\xs.all G4=true/\Q (.bl (if neg then !inV x xs else inV x xs)) H
theorem KR:OpR X (compareOp .In) (rIn X.K false):=by
 intro aa s U H x y v u Q I rx ry h
 obtain⟨p,xs,rfl,hq,fx,fs,q⟩:=h
 cases ry
 rcases hq with hq |hq
 ·obtain⟨its,r,pl,hz⟩:=I.list hq
  refine SeqAt.in_listAt (eqU x) pl.isList (λw hw=>V8 rx fx r fs w (by simpa using hw)) ⟨.bl _,H,I,rfl,?_⟩
  rw[show its.toArray.any (eqU x)=its.any (eqU x) by simp,Ga r fs]
  exact q
 ·obtain⟨its,r,pl,hz⟩:=I.tuple hq
  refine SeqAt.in_tupleAt (eqU x) pl (λw hw=>V8 rx fx r fs w (by simpa using hw)) ⟨.bl _,H,I,rfl,?_⟩
  rw[show its.toArray.any (eqU x)=its.any (eqU x) by simp,Ga r fs]
  exact q
theorem JF:OpR X (compareOp .NotIn) (rIn X.K true):=by
 intro aa s U H x y v u Q I rx ry h
 obtain⟨p,xs,rfl,hq,fx,fs,q⟩:=h
 cases ry
 rcases hq with hq |hq
 ·obtain⟨its,r,pl,hz⟩:=I.list hq
  refine SeqAt.notIn_listAt (eqU x) pl.isList (λw hw=>V8 rx fx r fs w (by simpa using hw)) ⟨.bl _,H,I,rfl,?_⟩
  rw[show its.toArray.any (eqU x)=its.any (eqU x) by simp,Ga r fs]
  exact q
 ·obtain⟨its,r,pl,hz⟩:=I.tuple hq
  refine SeqAt.notIn_tupleAt (eqU x) pl (λw hw=>V8 rx fx r fs w (by simpa using hw)) ⟨.bl _,H,I,rfl,?_⟩
  rw[show its.toArray.any (eqU x)=its.any (eqU x) by simp,Ga r fs]
  exact q
theorem CZ:ZX X (.builtin "len") (λxs H Q=>∃ p ys,xs=[.ref p]/\(SqL X.K H p ys∨SqT X.K H p ys)/\Q (.int ys.length) H):=by
 intro aa s U H xs us Q I r h
 obtain⟨p,ys,rfl,hq,q⟩:=h
 obtain⟨u,rfl,rx⟩:=Vg r
 cases rx
 have hn:=E5
 rcases hq with hq |hq
 ·obtain⟨its,r',pl,hz⟩:=I.list hq
  have ag:=r'.length
  exact Calls.call_len_list pl.isList (by simp only[List.size_toArray]<;> omega) ⟨.int ys.length,H,I.tok _,⟨s.toks+1,by rw[List.size_toArray,ag]⟩,q⟩
 ·obtain⟨its,r',pl,hz⟩:=I.tuple hq
  have ag:=r'.length
  exact len_tuple pl (by simp only[List.size_toArray]<;> omega) ⟨.int ys.length,H,I.tok _,⟨s.toks+1,by rw[List.size_toArray,ag]⟩,q⟩
theorem By:ZX X (.type "list") (λxs H Q=>∃ p ys,xs=[.ref p]/\(SqL X.K H p ys∨SqT X.K H p ys)/\∀l,H l=none->Q (.ref l) (upd H l (.lst ys))):=by
 intro aa s U H xs us Q I r h
 obtain⟨p,ys,rfl,hq,q⟩:=h
 obtain⟨u,rfl,rx⟩:=Vg r
 cases rx
 have fin:∀(its:List Value),X9 ys its->ys.length<=sizeLine->∀(h':Heap) (c':Nat),(∀b o',s.heap.get? b=some o'->h'.get? b=some o')->
   h'.get? s.heap.objs.size=some {cls:=.type "list",dict:=none,data:=.seq its.toArray c',slots:=#[]}->EP X aa U Q (.ref s.heap.objs.size) {s with heap:=h'}:=λits r' hz h' c' kp e=>
  ⟨.ref s.heap.objs.size,_,I.laid (t':=s.toks) kp (Nat.le_refl _) (show YG X.prog X.w _ h' _ (.lst ys) from⟨hz,its,c',r',e⟩),rfl,q _ (I.hok.fresh (Nat.le_refl _))⟩
 rcases hq with hq |hq
 ·obtain⟨its,r',pl,hz⟩:=I.list hq
  have ag:=r'.length
  obtain⟨o,ho,hc,n,hd⟩:=pl.isList
  exact call_list_seq p (.inl rfl) ho hc hd (λh' c' kp e=>fin its r' hz h' c' kp e) (by simp only[List.size_toArray]<;> omega)
 ·obtain⟨its,r',pl,hz⟩:=I.tuple hq
  have ag:=r'.length
  obtain⟨o,ho,hc,n,hd⟩:=pl
  exact call_list_seq p (.inr rfl) ho hc hd (λh' c' kp e=>fin its r' hz h' c' kp e) (by simp only[List.size_toArray]<;> omega)
theorem FR:ZX X (.type "tuple") (λxs H Q=>∃ p ys,xs=[.ref p]/\((SqL X.K H p ys/\∀l,H l=none->Q (.ref l) (upd H l (.tup ys)))∨(SqT X.K H p ys/\Q (.ref p) H))):=by
 intro aa s U H xs us Q I r h
 obtain⟨p,ys,rfl,h⟩:=h
 obtain⟨u,rfl,rx⟩:=Vg r
 cases rx
 rcases h with⟨hq,q⟩ | ⟨hq,q⟩
 ·obtain⟨its,r',pl,hz⟩:=I.list hq
  have ag:=r'.length
  refine call_tuple_list pl.isList (λh' kp=>?_) (by simp only[List.size_toArray]<;> omega)
  have I1:Inv X aa U H {s with heap:=h'}:=I.kept (t':=s.toks) kp
  have I2:Inv X aa U (upd H h'.objs.size (.tup ys)) {s with heap:=h'.push {cls:=.type "tuple",data:=.seq its.toArray}}:=
   I1.laid (t':=s.toks) (λb o e=>Heap.get?_push_of_some _ e) (Nat.le_refl _) (show YG X.prog X.w _ _ _ (.tup ys) from⟨hz,its,r',VV.new _ _⟩)
  exact⟨.ref h'.objs.size,_,I2,rfl,q _ (I1.hok.fresh (Nat.le_refl _))⟩
 ·obtain⟨its,r',pl,hz⟩:=I.tuple hq
  exact call_tuple_same pl ⟨.ref p,H,I,rfl,q⟩
def tyV (K:W.Frag)(T:String)(x:V)(H:Hp):Prop:=match x with
 | .str _=>T= "str"
 | .int _=>T= "int"
 | .ref p=>(T= "list" /\∃xs,SqL K H p xs)∨(T= "tuple" /\∃o,K.lookup p=some o/\o.cls= .type "tuple" /\o.dict=none)∨
   (T= "dict" /\((∃kvs,H p=some (.dK kvs))∨∃kvs,H p=some (.dT kvs)))∨(T= "set" /\∃S n,H p=some (.set S n))
 |_=>False
theorem SG {x:V}(I:Inv X aa U H s)(r:XZ x v)(ty:tyV X.K T x H):
  s.TypeIs v T/\∀a,v= .ref a->∃ob,s.heap.get? a=some ob/\ob.dict=none:=by
 cases x with
 |str z=>
  obtain⟨t,rfl⟩:=r
  cases(show T= "str" from ty)
  exact⟨typeIs_str s z t,λ_ e=>nomatch e⟩
 |int i=>
  obtain⟨t,rfl⟩:=r
  cases(show T= "int" from ty)
  exact⟨typeIs_int s i t,λ_ e=>nomatch e⟩
 |ref p=>
  cases r
  rcases ty with⟨rfl,xs,hq⟩ | ⟨rfl,o,hk,hc,hd⟩ | ⟨rfl,hk⟩ | ⟨rfl,S,n,hk⟩
  ·obtain⟨its,_,pl,_⟩:=I.list hq
   refine⟨pl.isList.typeIs,λa e=>?_⟩
   cases e
   obtain⟨o,n,e,c,hd,_⟩:=pl
   exact⟨o,e,hd⟩
  ·refine⟨⟨o,I.kIn p o hk,hc⟩,λa e=>?_⟩
   cases e
   exact⟨o,I.kIn _ o hk,hd⟩
  ·have z:∃o,s.heap.get? p=some o/\o.ExactDict:=by
    rcases hk with⟨kvs,hk⟩ | ⟨kvs,hk⟩
    ·obtain⟨_,_,_,_,o,_,_,e,ex,_⟩:=I.hok p _ hk
     exact⟨o,e,ex⟩
    ·obtain⟨_,_,_,_,o,_,_,e,ex,_⟩:=I.hok p _ hk
     exact⟨o,e,ex⟩
   obtain⟨o,e,ex⟩:=z
   refine⟨⟨o,e,ex.1⟩,λa e2=>?_⟩
   cases e2
   exact⟨o,e,ex.2.1⟩
  ·obtain⟨o,_,_,_,e,ex,_⟩:=I.hok p _ hk
   refine⟨⟨o,e,ex.1⟩,λa e2=>?_⟩
   cases e2
   exact⟨o,e,ex.2.1⟩
 |_=>exact False.elim ty
def tBM (K:W.Frag)(T:String)(r:V->List V->Hp->VK->Prop)(to:TE)(t:TA):TE:=λU H Q=>to U H λx H1=>tyV K T x H1/\t U H1 λxs H2=>r x xs H2 Q
variable {o:Expr}{to:TE}{t:TA}{name:Str}{aJ am:Pos}{T id:String}{r:V->List V->Hp->VK->Prop}
theorem Jh (pa:PlainAttrs T)(slot:Slot T name id)(hty:typeOf (.builtin id)=pure (.type "method_descriptor"))(hm:MtR X id r)(ho:PE X o to)(ha:PA X (e::es) t)
  (eA:attributeBase o name X.env (eval o X.env)=eval o X.env:=by rfl)
  (hfew:((backTo am (starEach (e::es) X.env)).all (λx=>!x.1)&&(backToKw am (keywordEach [] X.env)).all (λx=>x.1.isSome)
   &&decide ((e::es).length+([]:List Keyword).length+(if([]:List Keyword).isEmpty then 0 else 1)<30))=true:=by rfl)
  (eB:(aJ.endLine==am.line)=true:=by rfl)(hs:starEach (e::es) X.env=(false,eval e X.env)::starEach es X.env:=by rfl)(ge:(backTo am (starEach es X.env)).any (·.1)=false:=by rfl):
  PE X (.Call (.Attribute o name aJ) (e::es) [] am) (tBM X.K T r to t):=by
 intro aa s U H Q I h
 refine wpAny_Call_method_late eA hfew eB rfl (thn (ho aa s U H _ I h) λv s1 r9=>?_)
 obtain⟨x,H1,I1,r1,ty,q1⟩:=r9
 obtain⟨h1,h2⟩:=SG I1 r1 ty
 refine⟨T,id,pa,slot,hty,h1,h2,?_⟩
 have hA:=ha am aa s1 U H1 _ I1 q1
 rw[hs] at hA⊢
 refine Calls.callWith_builtin (by show(false || (backTo am (starEach es X.env)).any (·.1))=false;rw[ge]<;> rfl) (Calls.evalArgs_plain ?_)
 exact thn hA λus s2 r9=>by obtain⟨vs,H2,I2,r2,q2⟩:=r9;exact hm aa s2 U H2 x vs v us Q I2 r1 r2 q2
/- xs.append(e), list.index on a module's tuple .. are MtR facts of 06m -/
end
def MtM (X:Cx)(id:String)(r:V->List V->Hp->VK->Prop):Prop:=
 ∀(aa:List (Addr×Obj)) (s:Shared) (U:St) (H:Hp) (x:V) (xs:List V) (v:Value) (us:List Value) (Q:VK),Inv X aa U H s->XZ x v->X9 xs us->r x xs H Q->
  wpAny (model X.prog X.w) X.A (call (.builtin id) (v::us)) (EP X aa U Q) X.xe s
theorem X9.one:∀{x:V}{us:List Value},X9 [x] us->∃u,us=[u]/\XZ x u:=fun {x us} h=>by
 cases h with
 |cons r t=>
  cases t
  exact⟨_,rfl,r⟩
theorem X9.two:∀{x y:V}{us:List Value},X9 [x,y] us->∃u v,us=[u,v]/\XZ x u/\XZ y v:=fun {x y us} h=>by
 cases h with
 |cons r t=>
  cases t with
  |cons q t=>
   cases t
   exact⟨_,_,rfl,r,q⟩
theorem X9.eraseIdx:∀{xs:List V}{us:List Value} (i:Nat),X9 xs us->X9 (xs.eraseIdx i) (us.eraseIdx i)
 |_,_,_, .nil=>.nil
 |_,_,0, .cons _ t=>t
 |_,_,i+1, .cons r t=>.cons r (X9.eraseIdx i t)
theorem X9.reverse (h:X9 xs us):X9 xs.reverse us.reverse:=by
 induction h with
 |nil=>exact .nil
 |cons r t ih=>rw[List.reverse_cons,List.reverse_cons];exact X9.append ih (.cons r .nil)
theorem X9.rep (h:X9 xs us):∀k:Nat,X9 (List.replicate k xs).flatten (List.replicate k us).flatten
 |0=>.nil
 |k+1=>by
  rw[List.replicate_succ,List.replicate_succ,List.flatten_cons,List.flatten_cons]
  exact X9.append h (X9.rep h k)
theorem Br:∀(l:List M) (i:Nat),(l.eraseIdx i).length<=l.length
 | [],_=>Nat.le_refl _
 |_::_,0=>Nat.le_succ _
 |_::r,i+1=>Nat.succ_le_succ (Br r i)
theorem Be (its:List Value):∀(k:Nat) (acc:List Value),
  List.foldl (λx1 x2=>x1++x2) acc.toArray (List.replicate k its.toArray)=(acc++(List.replicate k its).flatten).toArray
 |0,acc=>by simp
 |k+1,acc=>by
  have e:acc.toArray++its.toArray=(acc++its).toArray:=by simp
  have e2:(acc++its)++(List.replicate k its).flatten=acc++(List.replicate (k+1) its).flatten:=by
   rw[List.replicate_succ,List.flatten_cons,List.append_assoc]
  rw[←e2, ←Be its k (acc++its), ←e,List.replicate_succ,List.foldl_cons]
section
variable {l:Addr}{ys zs:List V}
theorem Inv.lset {t':Nat}(I:Inv X aa U H s)(hH:H l=some (.lst xs))
  (e:s.heap.get? l=some {cls:=.type "list",data:=.seq its.toArray n})(hf:f its.toArray=its'.toArray)(hv:X9 ys its')(hz:ys.length<=sizeLine):
  Inv X aa U (upd H l (.lst ys)) {s with heap:=s.heap.update l (Obj.mapSeq f),toks:=t'}:=by
 have q:=PySem.IsL.update e f
 rw[hf] at q
 refine I.write (x:=l) (e:=l) (by rw[hH];exact trivial) (.inl rfl) (λb' u hb hu=>(Heap.get?_update_other s.heap (Obj.mapSeq f) (Ne.symm hb)).trans hu) ⟨_,q⟩ ?_
 exact⟨hz,its',_,hv,q⟩
theorem Inv.lnew {t':Nat}(I:Inv X aa U H s)(hv:X9 ys its)(hz:ys.length<=sizeLine):
  Inv X aa U (upd H s.heap.objs.size (.lst ys)) {s with heap:=s.heap.push {cls:=.type "list",data:=.seq its.toArray},toks:=t'}:=
 I.laid (λ_ _ q=>Heap.get?_push_of_some _ q) (Nat.le_refl _) ⟨hz,its,0,hv,Heap.get?_push_size _ rfl⟩
theorem Inv.fresh (I:Inv X aa U H s):H s.heap.objs.size=none:=I.hok.fresh (Nat.le_refl _)
theorem Inv.lstM (I:Inv X aa U H s)(hH:H l=some (.lst xs)):xs.length<=sizeLine/\∃(its:List Value) (n:Nat),X9 xs its/\xs.length=its.length/\s.heap.get? l=some {cls:=.type "list",data:=.seq its.toArray n}:=by
 obtain⟨z,its,n,r,e⟩:=I.hok l _ hH
 exact⟨z,its,n,r,r.length,e⟩
theorem KH (h:n<=sizeLine):Builtin.List.listTooLong n=false:=by
 unfold Builtin.List.listTooLong
 exact decide_eq_false (by omega)
end
section
def DX:V->List V->Hp->VK->Prop:=λx vs H Q=>∃ l xs y,x= .ref l/\vs=[y]/\H l=some (.lst xs)/\xs.length<sizeLine/\Q .non (upd H l (.lst (xs++[y])))
theorem Yb:MtM X "list.append" DX:=by
 intro aa s U H x vs v us Q I rx rv h
 obtain⟨l,xs,y,rfl,rfl,hH,hz,q⟩:=h
 cases rx
 obtain⟨u,rfl,ru⟩:=rv.one
 obtain⟨z,its,n,r,hl,e⟩:=I.lstM hH
 refine call_meets F.slot_list_append ⟨_,e,rfl⟩ F.entry_list_append (F.args_list_append_2 _ _) (PySem.list_append l its.toArray n u (by rw[List.size_toArray];omega)) ⟨e,?_⟩
 refine⟨.non,_,I.lset (its':=its++[u]) hH e (by simp) (r.append (.cons ru .nil)) ?_,rfl,q⟩
 rw[List.length_append,List.length_singleton]
 omega
def B6:V->List V->Hp->VK->Prop:=λx vs H Q=>∃ l b xs zs,x= .ref l/\vs=[.ref b]/\H l=some (.lst xs)/\H b=some (.lst zs)/\xs.length+zs.length<=sizeLine/\Q .non (upd H l (.lst (xs++zs)))
theorem Ct:MtM X "list.extend" B6:=by
 intro aa s U H x vs v us Q I rx rv h
 obtain⟨l,b,xs,zs,rfl,rfl,hH,hB,hz,q⟩:=h
 cases rx
 obtain⟨u,rfl,ru⟩:=rv.one
 cases ru
 obtain⟨z,its,n,r,hl,e⟩:=I.lstM hH
 obtain⟨z2,aB,n2,r2,hl2,e2⟩:=I.lstM hB
 have hsz:its.toArray.size+aB.toArray.size<=sizeLine:=by rw[List.size_toArray,List.size_toArray];omega
 have eC:¬(!its.toArray.isEmpty&&Builtin.List.listTooLong (its.toArray.size+aB.toArray.size))=true:=by
  rw[KH hsz,Bool.and_false]
  exact Bool.false_ne_true
 refine call_meets F.slot_list_extend ⟨_,e,rfl⟩ F.entry_list_extend (F.args_list_extend_2 _ _)
  (AutoSeq1.list_extend_list_list_0 l its.toArray n b aB.toArray n2 eC (by rw[List.size_toArray];omega) (by omega)) ⟨e,e2,?_⟩
 refine⟨.non,_,I.lset (its':=its++aB) hH e (by simp) (r.append r2) ?_,rfl,q⟩
 rw[List.length_append]
 omega
def EM:V->List V->Hp->VK->Prop:=λx vs H Q=>∃ l xs i k y,x= .ref l/\vs=[.int i]/\H l=some (.lst xs)/\ -(2^63)<=i/\i<2^63/\seqIndex? i xs.length=some k/\xs[k]?=some y/\Q y (upd H l (.lst (xs.eraseIdx k)))
theorem N2:MtM X "list.pop" EM:=by
 intro aa s U H x vs v us Q I rx rv h
 obtain⟨l,xs,i,k,y,rfl,rfl,hH,h1,h2,hk,hy,q⟩:=h
 cases rx
 obtain⟨u,rfl,ru⟩:=rv.one
 obtain⟨t,rfl⟩:=ru
 obtain⟨z,its,n,r,hl,e⟩:=I.lstM hH
 obtain⟨w,hw,cy⟩:=r.get hy
 refine call_meets F.slot_list_pop ⟨_,e,rfl⟩ F.entry_list_pop (F.args_list_pop_2 _ _)
  (MeetsSeq.list_pop_at l its.toArray n i t k w (fitsIndex_both h1 h2) (by rw[List.size_toArray, ←hl];exact hk) (by rw[←Array.getElem?_toList];exact hw) (by rw[List.size_toArray];omega)) ⟨e,?_⟩
 refine⟨y,_,I.lset (its':=its.eraseIdx k) hH e ?_ (r.eraseIdx k) ?_,cy,q⟩
 ·show its.toArray.eraseIdxIfInBounds k=(its.eraseIdx k).toArray
  rw[List.eraseIdxIfInBounds_toArray]
 ·have:=Br xs k
  omega
def Wz:R2:=λx y H Q=>∃ l b xs zs,x= .ref l/\y= .ref b/\H l=some (.lst xs)/\H b=some (.lst zs)/\xs.length+zs.length<=sizeLine/\∀p,H p=none->Q (.ref p) (upd H p (.lst (xs++zs)))
theorem QJ:OpR X (binaryOp .Add) Wz:=by
 intro aa s U H x y v u Q I rx ry h
 obtain⟨l,b,xs,zs,rfl,rfl,hH,hB,hz,q⟩:=h
 cases rx
 cases ry
 obtain⟨z,its,n,r,hl,e⟩:=I.lstM hH
 obtain⟨z2,aB,n2,r2,hl2,e2⟩:=I.lstM hB
 refine PySem.P.add_list e e2 ?_ (by rw[List.size_toArray,List.size_toArray];omega)
 have ea:its.toArray++aB.toArray=(its++aB).toArray:=by simp
 rw[ea]
 exact⟨.ref _,_,I.lnew (t':=s.toks) (r.append r2) (by rw[List.length_append];omega),rfl,q _ I.fresh⟩
def W4:R2:=λx y H Q=>∃ l k xs,x= .ref l/\y= .int k/\H l=some (.lst xs)/\ -(2^63)<=k/\k<2^63/\xs.length*k.toNat<=sizeLine/\
 ∀p,H p=none->Q (.ref p) (upd H p (.lst (List.replicate k.toNat xs).flatten))
theorem Rw (xs:List M)(k:Nat):(List.replicate k xs).flatten.length=k*xs.length:=by
 induction k with
 |zero=>simp
 |succ k ih=>rw[List.replicate_succ,List.flatten_cons,List.length_append,ih,Nat.succ_mul,Nat.add_comm]
theorem Mh:OpR X (binaryOp .Mult) W4:=by
 intro aa s U H x y v u Q I rx ry h
 obtain⟨l,k,xs,rfl,rfl,hH,h1,h2,hz,q⟩:=h
 cases rx
 obtain⟨t,rfl⟩:=ry
 obtain⟨z,its,n,r,hl,e⟩:=I.lstM hH
 have ag:its.toArray.size*k.toNat<=sizeLine:=by rw[List.size_toArray, ←hl];exact hz
 have hcap:¬its.toArray.size*k.toNat > (2^63-1)/8:=by
  have:(sizeLine:Nat)<=(2^63-1)/8:=by decide
  omega
 have hfit:¬(!Builtin.List.listFitsIndex k)=true:=by
  rw[fitsIndex_both h1 h2]
  exact Bool.false_ne_true
 have eC:¬Builtin.List.listTooLong (its.toArray.size*k.toNat)=true:=by
  rw[KH ag]
  exact Bool.false_ne_true
 have eE:List.foldl (λx1 x2=>x1++x2) #[] (List.replicate (if its.toArray.isEmpty=true then 0 else k.toNat) its.toArray)=(List.replicate k.toNat its).flatten.toArray:=by
  have f0:∀m:Nat,List.foldl (λx1 x2=>x1++x2) #[] (List.replicate m its.toArray)=(List.replicate m its).flatten.toArray:=λm=>by
   have:=Be its m []
   rw[List.nil_append] at this
   exact this
  rw[f0]
  cases its with
  |nil=>simp
  |cons a r'=>rw[if_neg (by simp)]
 refine wpAny_binaryOp_repeat_ref (T:="list") (U:="int") (by decide) ⟨_,e,rfl⟩ (λs'=>typeIs_int s' k t) noFill_list_mul F.fills_int_mul F.slot_int_rmul repeat_list F.slot_int_index.lookup
  (call_meets F.slot_int_rmul (typeIs_int s k t) F.entry_int_rmul (F.args_int_rmul_2 _ _) (int___rmul___int_list k t l its.toArray n)
   ⟨e,rfl,⟨_,e,rfl⟩,call_meets F.slot_list_mul ⟨_,e,rfl⟩ F.entry_list_mul (F.args_list_mul_2 _ _) (AutoListH.list___mul___list_int_3 l its.toArray n k t hfit hcap eC) ⟨e,?_⟩⟩)
 rw[eE]
 exact⟨.ref _,_,I.lnew (t':=s.toks) (r.rep k.toNat) (by rw[Rw,Nat.mul_comm];exact hz),rfl,q _ I.fresh⟩
end
section
theorem IF (its aB:List Value)(a c:Nat):its.toArray.extract 0 a++aB.toArray++its.toArray.extract c its.toArray.size=(its.take a++aB++its.drop c).toArray:=by
  apply Array.toList_inj.mp
  first
    | (simp
       exact List.take_of_length_le (by simp))
    |simp[List.take_of_length_le]
    |simp
end
section
end
end L2
namespace Att
open PySem PySem.W PySem.Calls PyProof.Rows
theorem Gn {P:Params}:∀(ns:List Int) (vs:List Value),WellAll P h vs (ns.map WData.int)->IntsAre vs ns:=by
 intro ns
 induction ns with
 |nil=>
  intro vs w
  rw[List.map_nil] at w
  cases w
  exact .nil
 |cons n ns ih=>
  intro vs w
  rw[List.map_cons] at w
  cases w with
  |cons a b=>
   cases a
   exact .cons _ _ (ih _ b)
theorem MM {l:OpenLaw}(hn:l.most=some n){P:Params}{h:Heap}{args:List WData}{gf:List Value}
  (ff:l.row.toRowW.claim.pre args=true)(hwl:WellAll P h gf args):
  ∃a vs ns,gf=[Value.ref a]/\args=[WData.list (ns.map WData.int)]/\h.get? a=some {cls:=.type "list",data:=.seq vs.toArray}/\IntsAre vs ns/\ns.length<=n:=by
 have hsh:WShape.hasAll [] args [.list .int]=true:=(pre_splitW ff).1
 have hc:l.pre.holds [] {args:=args}=true:=(pre_splitW ff).2
 obtain⟨d,r,rfl,h1,h2⟩:=hasAllW_cons hsh
 obtain rfl:=hasAllW_nil h2
 obtain⟨xs,rfl,h3⟩:=hasW_list h1
 obtain⟨ns,rfl⟩:=items_int h3
 have ag:ns.length<=n:=by
  unfold OpenLaw.pre at hc
  have h4:(WTm.not (.lt (.lit (.int (n:Int))) (.len (.arg 0)))).holds [] {args:=[.list (ns.map .int)]}=true:=by
   have h4:=(holds_andW hc).1
   rw[hn] at h4
   exact h4
  have h5:=condW_of h4 (w_not (w_lt w_lit (w_len_list (w_arg rfl))))
  rw[List.length_map] at h5
  refine Nat.le_of_not_lt λq=>?_
  have q':(n:Int)<((ns.length:Nat):Int):=by omega
  first
   | (rw[decide_eq_true q'] at h5;exact absurd h5 (by decide))
   | (simp at h5;omega)
 cases hwl with
 |cons w1 w2=>
  cases w2
  cases w1 with
  |list ho bd=>exact⟨_,_,ns,rfl,rfl,ho,Gn ns _ bd,ag⟩
theorem IC (l:OpenLaw)(args:List WData):l.row.toRowW.claim.post args (.bool true) args=true:=
 postW_of (r:=l.row.toRowW) (X:=(true==true))
  (show WShape.has [] (.bool true) .bool=true by first |rfl |decide |simp[WShape.has,WShape.arms,WShape.armsAll])
  (show(WTm.eq .res (.lit (.bool true))).value [] {args:=args,res:=some (.bool true),after:=args}=some (.bool (true==true)) from w_eq_bool (w_res rfl) w_lit) rfl
theorem attach_call {l:OpenLaw}{q:Program}{cq:List Str}{XP:(Str->Option Value)->Heap->Prop}{YP:World->Heap->Prop}{d:DefRec}
  (hn:l.most=some n)(gi:d.params.defaults=[])
  (call:∀(w:World) (s₀ s₁:Shared) (mg mb:Str->Option Value) (fa:Addr) (o:Obj) (pm cd doc:Value) (a:Addr) (vs:List Value) (ns:List Int),
   Ground q cq [] XP w s₀ mg mb s₁.heap->YP w s₁.heap->
   s₁.heap.get? fa=some o->o.data= .func (docDef d.name d.params d.body d.scope pm cd doc)->s₁.heap.CodeRec cd d.name->mg d.name=some (.ref fa)->
   s₁.heap.get? a=some {cls:=.type "list",data:=.seq vs.toArray}->IntsAre vs ns->ns.length<=n->s₁.gens= #[]->
   codeAny (model l.prog w) callerA (.call (.ref fa) ⟨[.ref a],[]⟩) (λr s'=>r= .ok (.ret (.bool true))/\OldK s₁.heap s'.heap/\s'.os=s₁.os/\AllBare s'.gens) s₁):
  WalkO q cq XP YP l.row.toRowW d [] (λf vs=>PySem.call f vs):=by
 intro w s₀ s₁ mg mb G Y fa o pm cd doc dV kV ho hd dG hD hmg hg args gf as ff hlay hrd hwl hlo
 obtain rfl:dV= .none:=Dflts.none hD gi
 obtain rfl:kV= .none:=Dflts.noKw hD
 obtain⟨a,vs,ns,rfl,rfl,gj,eF,ag⟩:=MM hn ff hwl
 refine enter_call (codeAny_mono (call w s₀ s₁ mg mb fa o pm cd doc a vs ns G Y ho (fd_plain hd) dG hmg gj eF ag hg) λr s' hq=>?_)
 obtain⟨rfl,h2,h3,h4⟩:=hq
 exact⟨.inl ⟨.bool true, .bool true,[],rfl,λ_=>rfl, .bool true,IC l _,λ_=>⟨List.Pairwise.nil,λ_ hm=>(nomatch hm)⟩⟩,h2,h3,h4⟩
section
variable {K:Frag}
def Ak (h:Heap)(Lqz d:Addr):List (Addr×Obj):=(List.range h.objs.size).filterMap λa=>if a=Lqz∨a=d then none else(h.get? a).map λo=>(a,o)
end
end Att
namespace L2
open PySem PySem.Spec PyProof.Rows
theorem Gu:∀{vs:List Value}{ns:List Int},IntsAre vs ns->X9 (ns.map V.int) vs:=λp=>by
 induction p with
 |nil=>exact .nil
 |cons n t _ ih=>exact .cons ⟨t,rfl⟩ ih
def Ab (H:Hp):Prop:=∀ b,H b=none∨∃o xs,H b=some (.frz o (.lst xs))
theorem Nm
  (KX:K.In s₁.heap)(du:s₁.heap.Ns mainGlobals mg)(hb:s₁.heap.Ns builtinsNs mb)(hbb:∀x:Str,x≠ "__name__" ->mb x=bootBuiltins x)(hlim:s₁.heap.NoLimit)(hg:s₁.gens= #[])
  (ha:s₁.heap.get? a=some {cls:=.type "list",data:=.seq vs.toArray})(hi:IntsAre vs ns)(hl:ns.length<=sizeLine)(hr:Room k callerA)
  (F:∀base:Heap,K.In base->base.Ns mainGlobals mg->FnOk P w K mg base CX k fa fd [x] sp)(ij:∀(s:Shared) (u:Value),BindsTo s fd ⟨[u],[]⟩ [(x,u)])
  (cA:∀H:Hp,Ab H->SqL K H a (ns.map V.int)->sp [.ref a] H (λv _=>v= .bl true) λ_ _ _=>False)
  (hCX:∀H e s',CX [] H s₁ (λ_ _ _=>False) e s'->False):
  codeAny (model P w) callerA (.call (.ref fa) ⟨[.ref a],[]⟩) (λr s'=>r= .ok (.ret (.bool true))/\OldK s₁.heap s'.heap/\s'.os=s₁.os/\AllBare s'.gens) s₁:=by
 have rv:=Gu hi
 have lenV:=hi.length
 -- from an abstract heap in which nothing but dm script may be cw
 have ik:∀H:Hp,Ab H->SqL K H a (ns.map V.int)->HOk P w H s₁.heap->(∀b,H b≠none->b=a)->(H a≠none->K.lookup a=none)->
   codeAny (model P w) callerA (.call (.ref fa) ⟨[.ref a],[]⟩) (λr s'=>r= .ok (.ret (.bool true))/\OldK s₁.heap s'.heap/\s'.os=s₁.os/\AllBare s'.gens) s₁:=by
  intro H hO hS hok hA hK
  have dv:∀{b:Addr}{o:Obj},s₁.heap.get? b=some o->H b=none->(M3 s₁.heap H).get? b=some o:=λe n=>EN e n
  have ii:∀{b:Addr}{o:Obj}{es:Array DictEntry}{ep:Nat},s₁.heap.get? b=some o->o.data= .dict es ep->H b=none:=fun {b o es ep} e d=>by
   cases q:H b with
   |none=>rfl
   |some u=>
    have e':b=a:=hA b (by rw[q];simp)
    subst e'
    rw[ha] at e;cases e
    have d':Data.seq vs.toArray _=Data.dict es ep:=d
    cases d'
  have nsK:∀{b:Addr}{m:Str->Option Value},s₁.heap.Ns b m->(M3 s₁.heap H).Ns b m:=fun {b m} ⟨o,es,ep,e,d,r⟩=>⟨o,es,ep,dv e (ii e d),d,r⟩
  have hKb:K.In (M3 s₁.heap H):=λb o e=>dv (KX b o e) (by
   cases q:H b with
   |none=>rfl
   |some u=>
    have e':b=a:=hA b (by rw[q];simp)
    subst e'
    rw[hK (by rw[q];simp)] at e;cases e)
  have hM:Mod K mg (M3 s₁.heap H):=⟨hKb,nsK du,⟨mb,nsK hb,hbb⟩,let ⟨mc,h1,h2⟩:=hlim;⟨mc,nsK h1,h2⟩⟩
  have e0:Env0 P w K mg (M3 s₁.heap H) callerA [] s₁ H:=⟨rfl,hM,λb o e=>Im e,Nat.le_of_eq (MK _ _),trivial,λb hb=>absurd (show b∈([]:List Addr) from hb) (by simp),hok, .of_eq hg⟩
  refine codeAny_mono ((F _ hKb (nsK du)).run callerA [] s₁ H ⟨[.ref a],[]⟩ [.ref a] [.ref a] _ _ hr e0 (ij s₁ (.ref a)) (.cons rfl .nil) (cA H hO hS)) λr s' h=>?_
  cases r with
  |error e=>exact(hCX H e s' h).elim
  |ok fl=>
   cases fl with
   |next=>exact False.elim h
   |brk=>exact False.elim h
   |cont=>exact False.elim h
   |ret u=>
    obtain⟨v,H',os,bare,un,hok',r',q⟩:=h
    have q':v= .bl true:=q
    subst q'
    obtain rfl:u=Value.bool true:=r'
    refine⟨rfl,OldK.of_keep λb o e=>?_,os,bare⟩
    cases q:H b with
    |none=>exact un.keep b o e q (by intro z;exact absurd (show b∈([]:List Addr) from z) (by simp)) (by simp)
    |some u=>
     rcases hO b with z | ⟨ob,xs,z⟩
     ·rw[q] at z;cases z
     ·have z2:=un.frzs b ob _ z
      obtain⟨e1,_⟩:=hok b _ z
      obtain⟨e2,_⟩:=hok' b _ z2
      rw[e] at e1;cases e1
      exact e2
 cases hk:K.lookup a with
 |some o=>
  -- dm script is one of dm module's own objects
  have e:=KX a o hk
  rw[ha] at e
  cases e
  refine ik (λ_=>none) (λ_=>.inl rfl) (.inr ⟨_,vs.toArray,_,hk,rfl,rfl,rfl,by rw[List.size_toArray,lenV];exact hl,by simpa using rv⟩) (λb u z=>by have z':(none:Option HO)=some u:=z;cases z') (λb z=>absurd rfl z) λz=>absurd rfl z
 |none=>
  refine ik (λb=>if b=a then some (.frz {cls:=.type "list",data:=.seq vs.toArray} (.lst (ns.map V.int))) else none) (λb=>?_) (.inl (.inr ⟨{cls:=.type "list",data:=.seq vs.toArray},if_pos rfl⟩)) (λb u z=>?_) (λb z=>?_) λ_=>hk
  ·by_cases hb:b=a
   ·exact .inr ⟨_,_,if_pos hb⟩
   ·exact .inl (if_neg hb)
  ·by_cases hb:b=a
   ·have z':=(if_pos hb).symm.trans z
    cases z'
    subst hb
    exact⟨ha,by rw[List.length_map];exact hl,vs,_,rv,ha⟩
   ·have z':=(if_neg hb).symm.trans z
    cases z'
  ·by_cases hb:b=a
   ·exact hb
   ·exact absurd (if_neg hb) z
theorem PN {l:PySem.W.OpenLaw}{q:Program}{cq:List Str}{XP:(Str->Option Value)->Heap->Prop}{YP:World->Heap->Prop}{d:DefRec}{K:Params->W.Frag}{CX:World->CXT}{sp:World->Sp}
  (hn:l.most=some n)(hn2:n<=sizeLine)(gi:d.params.defaults=[])(hr:Room k callerA)
  (hY:∀(w:World) (h:Heap),YP w h->(K w.params).In h)
  (F:∀(w:World) (mg:Str->Option Value) (fa:Addr) (h:Heap),(K w.params).In h->h.Ns mainGlobals mg->mg d.name=some (.ref fa)->
   ∃fd:FuncData,(∀(s:Shared) (u:Value),BindsTo s fd ⟨[u],[]⟩ [(x,u)])/\
    ∀base:Heap,(K w.params).In base->base.Ns mainGlobals mg->FnOk l.prog w (K w.params) mg base (CX w) k fa fd [x] (sp w))
  (cA:∀(w:World) (H:Hp) (a:Addr) (ns:List Int),ns.length<=n->Ab H->SqL (K w.params) H a (ns.map V.int)->sp w [.ref a] H (λv _=>v= .bl true) λ_ _ _=>False)
  (hCX:∀(w:World) (H:Hp) (s:Shared) (e:Value) (s':Shared),CX w [] H s (λ_ _ _=>False) e s'->False):
  PySem.W.WalkO q cq XP YP l.row.toRowW d [] (λf vs=>PySem.call f vs):=by
 refine Att.attach_call hn gi λw s₀ s₁ mg mb fa o pm cd doc a vs ns G Y ho hd dG hmg gj eF ag hg=>?_
 have KX:=hY w _ Y
 obtain⟨fd,hb,hF⟩:=F w mg fa _ KX G.T.g hmg
 exact Nm KX G.T.g G.T.b G.T.builtins G.T.nolimit hg gj eF (Nat.le_trans ag hn2) hr hF hb (λH hO hS=>cA w H a ns ag hO hS) λH e s'=>hCX w H s₁ e s'
def YR (s:Stmt):Arguments:=match s with
 | .FunctionDef _ a _ _ _ _ _ _ _ _=>a
 |_=>{posonlyargs:=[],args:=[],vararg:=none,kwonlyargs:=[],kw_defaults:=[],kwarg:=none,defaults:=[]}
def X3 (s:Stmt):List Stmt:=match s with
 | .FunctionDef _ _ b _ _ _ _ _ _ _=>b
 |_=>[]
def Xg (s:Stmt):Scope:=match s with
 | .FunctionDef _ _ _ _ _ _ sc _ _ _=>sc
 |_=>{kind:=.function,names:=[],isGenerator:=false,isCoroutine:=false}
abbrev CX0:CXT:=λ_ _ _ _ _ _=>False
abbrev E0:XK:=λ_ _ _=>False
theorem WD:Fw CX0 X E0:=λ_ _ _ _ _ _ _ h=>h.elim
structure Fun (K:W.Frag)(x qual:Str)(st:Stmt)(f:Addr)(fd:FuncData):Prop where
 ex:∃(oc:Value) (od:Option Addr) (kV doc pm:Value) (an:Option Addr) (ah ct:Value) (cz:Array (Option Value)),
  fd=W.fnOf x qual (YR st) (X3 st) (Xg st) .none kV doc pm an ah ct/\K.lookup f=some ⟨oc,od, .func fd,cz⟩/\W.codeIn K ah qual=true
 kp:W.keepIn K (.ref f)=true
section
theorem Fun.ok {qual:Str}{st:Stmt}{f:Addr}{sp:Sp}(F:Fun K x qual st f fd)(S:FnScope N ps (Xg st))(len:∀vs H Q E,sp vs H Q E->vs.length=ps.length)
  (bQ:∀(ah:Value) (A:Around) (outer:List Env) (s:Shared) (H:Hp) (vs:List V) (Q:VK) (E:XK),Room k (A.deeper (envOfC qual (Xg st) s.heap.objs.size f ah))->sp vs H Q E->
   ∃t,PSs (Ca CX0 P w K mg base N qual (Xg st) f ah A outer s H E).nox (X3 st) t/\t {nx:=λ_ H'=>Q .non H',rt:=Q} (Kh N vs) H):FnOk P w K mg base CX0 (k+1) f fd ps sp:=by
 obtain⟨oc,od,kV,doc,pm,an,ah,ct,cz,rfl,lk,dG⟩:=F.ex
 refine T9 lk dG S len λA outer s H vs Q E hr cA=>?_
 obtain⟨t,h,q⟩:=bQ ah A outer s H vs Q E hr cA
 exact⟨t,h.nox,q⟩
theorem Fun.binds {qual:Str}{st:Stmt}{f:Addr}(F:Fun K x qual st f fd)
  (h:∀(kV doc pm:Value) (an:Option Addr) (ah ct:Value) (us:List Value),us.length=ps.length->bindArgs (W.fnOf x qual (YR st) (X3 st) (Xg st) .none kV doc pm an ah ct) ⟨us,[]⟩=pure (ps.zip us)):Bo K fd ps []:=by
 obtain⟨oc,od,kV,doc,pm,an,ah,ct,cz,rfl,lk,dG⟩:=F.ex
 exact .all (h kV doc pm an ah ct)
theorem Jo {qual:Str}{st:Stmt}{f:Addr}{oc:Value}{od an:Option Addr}{cz:Array (Option Value)}{kV doc pm ah ct:Value}(l:K.lookup f=some ⟨oc,od, .func (W.fnOf x qual (YR st) (X3 st) (Xg st) .none kV doc pm an ah ct),cz⟩)
  (c:W.codeIn K ah qual=true)(k:W.keepIn K (.ref f)=true):Fun K x qual st f (W.fnOf x qual (YR st) (X3 st) (Xg st) .none kV doc pm an ah ct):=⟨⟨oc,od,kV,doc,pm,an,ah,ct,cz,rfl,l,c⟩,k⟩
end
theorem VZ (hr:Room k A):A.units+1<cLine:=Nat.lt_of_le_of_lt (Nat.add_le_add_left (by decide:1<=64) _) hr.units
theorem Mb (h:n<=1000):n<sizeLine:=Nat.lt_of_le_of_lt h (by decide)
section
theorem pv (i:Nat)(hN:X.N[i]?=some x:=by rfl)(hv:Vis X.env.scope x:=by first |exact Or.inl rfl |exact Or.inr (Or.inl rfl) |exact Or.inr (Or.inr rfl))(hd:(x==("__debug__":Str))=false:=by decide)
  (dG:(x==("__classdict__":Str))=false:=by decide):PE X (.Name x pos) (Ji i):=SO hN hv hd dG
end
def Xu (H H':Hp):Prop:=∀ b o,H b=some o->H' b=some o
theorem Xu.refl (H:Hp):Xu H H:=λ_ _ h=>h
theorem Xu.trans (a:Xu H H1)(b:Xu H1 H2):Xu H H2:=λc o h=>b c o (a c o h)
theorem Xu.seq (e:Xu H H')(h:SqL K H a xs):SqL K H' a xs:=by
 rcases h with(h | ⟨o,h⟩) |h
 ·exact .inl (.inl (e _ _ h))
 ·exact .inl (.inr ⟨o,e _ _ h⟩)
 ·exact .inr h
section
variable {κ:Type}[DecidableEq κ]
def BC (kvs:List (κ×V))(k:κ):Option V:=(kvs.find? λkv=>decide (kv.1=k)).map (·.2)
def GY (kvs:List (κ×V))(k:κ)(v:V):List (κ×V):=
 if(kvs.any λkv=>decide (kv.1=k))=true then kvs.map (λkv=>if kv.1=k then(kv.1,v) else kv) else kvs++[(k,v)]
def K0 (kvs:List (κ×V))(k:κ):List (κ×V):=kvs.filter λkv=>decide (kv.1≠k)
theorem Kl {p:κ×V}{k:κ}(e:p.1=k):BC (p::r) k=some p.2:=by simp[BC,List.find?_cons,e]
theorem KE {p:κ×V}{k:κ}(e:¬p.1=k):BC (p::r) k=BC r k:=by simp[BC,List.find?_cons,e]
theorem ES (k:κ):∀kvs:List (κ×V),(kvs.any λkv=>decide (kv.1=k))=(BC kvs k).isSome
 | []=>rfl
 |p::r=>by
  rw[List.any_cons]
  by_cases e:p.1=k
  ·simp only[Kl e,decide_eq_true e,Bool.true_or,Option.isSome_some]
  ·rw[KE e,decide_eq_false e,Bool.false_or];exact ES k r
theorem Gz (kvs:List (κ×V))(k:κ)(v:V):(GY kvs k v).length<=kvs.length+1:=by
 unfold GY
 split
 ·rw[List.length_map];omega
 ·rw[List.length_append,List.length_cons,List.length_nil];omega
theorem Ih.isSome_eq {u:Option Value}(r:Ih o u):o.isSome=u.isSome:=by
 cases o with
 |none=>cases u with
  |none=>rfl
  |some _=>exact(show False from r).elim
 |some _=>cases u with
  |none=>exact(show False from r).elim
  |some _=>rfl
theorem KV.val {kvs:List (κ×V)}(r:KV kvs vs)(k:κ):Ih (BC kvs k) (valueAt vs k):=by
 unfold KV at r
 induction r with
 |nil=>exact True.intro
 | @cons p q ps qs h t ih=>
  obtain⟨h1,h2⟩:=h
  by_cases e:p.1=k
  ·have e':q.1=k:=h1.symm.trans e
   have b:valueAt (q::qs) k=some q.2:=by simp[valueAt,List.find?_cons,e']
   rw[Kl e,b];exact h2
  ·have e':¬q.1=k:=λz=>e (h1.trans z)
   have b:valueAt (q::qs) k=valueAt qs k:=by simp[valueAt,List.find?_cons,e']
   rw[KE e,b];exact ih
theorem KV.any {kvs:List (κ×V)}(r:KV kvs vs)(k:κ):(kvs.any λkv=>decide (kv.1=k))=vs.any λkv=>decide (kv.1=k):=by
 unfold KV at r
 induction r with
 |nil=>rfl
 |cons h t ih=>rw[List.any_cons,List.any_cons,ih,h.1]
theorem KV.repl {kvs:List (κ×V)}(r:KV kvs vs)(k:κ){y:V}(ry:XZ y u):
  KV (kvs.map λkv=>if kv.1=k then(kv.1,y) else kv) (vs.map λkv=>if kv.1=k then(kv.1,u) else kv):=by
 unfold KV at r⊢
 induction r with
 |nil=>exact .nil
 | @cons p q ps qs h t ih=>
  rw[List.map_cons,List.map_cons]
  refine .cons ?_ ih
  obtain⟨h1,h2⟩:=h
  by_cases e:p.1=k
  ·rw[if_pos e,if_pos (h1.symm.trans e)];exact⟨h1,ry⟩
  ·rw[if_neg e,if_neg (λz=>e (h1.trans z))];exact⟨h1,h2⟩
theorem KV.put {kvs:List (κ×V)}(r:KV kvs vs)(k:κ){y:V}(ry:XZ y u):KV (GY kvs k y) (stored vs k u):=by
 unfold GY stored
 rw[r.any k]
 by_cases e:(vs.any λkv=>decide (kv.1=k))=true
 ·rw[if_pos e,if_pos e];exact r.repl k ry
 ·rw[if_neg e,if_neg e];exact Paired.snoc r ⟨rfl,ry⟩
theorem KV.drop {kvs:List (κ×V)}(r:KV kvs vs)(k:κ):KV (K0 kvs k) (without vs k):=by
 unfold KV at r⊢
 unfold K0 without
 induction r with
 |nil=>exact .nil
 | @cons p q ps qs h t ih=>
  obtain⟨h1,h2⟩:=h
  rw[List.filter_cons,List.filter_cons]
  by_cases e:p.1=k
  ·have a:¬decide (p.1≠k)=true:=by simp[e]
   have b:¬decide (q.1≠k)=true:=by simp[h1.symm.trans e]
   rw[if_neg a,if_neg b];exact ih
  ·have e':¬q.1=k:=λz=>e (h1.trans z)
   have a:decide (p.1≠k)=true:=by simp[e]
   have b:decide (q.1≠k)=true:=by simp[e']
   rw[if_pos a,if_pos b];exact .cons ⟨h1,h2⟩ ih
theorem KV.length {kvs:List (κ×V)}(r:KV kvs vs):kvs.length=vs.length:=Paired.length r
theorem Nt (kvs:List (κ×V))(k:κ):(K0 kvs k).length<=kvs.length:=List.length_filter_le _ _
end
theorem HA {k:Key}(r:XZ (kV k) u):(Yw P w).is k u=true:=by
 cases k with
 |inl i=>obtain⟨t,e⟩:=(show ∃t,u=Value.int i t from r);subst e;exact Ee P w i t
 |inr x=>obtain⟨t,e⟩:=(show ∃t,u=Value.str x t from r);subst e;exact Ek P w x t
theorem Cr:∀{ks:List Key}{us:List Value},X9 (ks.map kV) us->ItemsAre (Yw P w) ks us
 | [],_,r=>by rw[List.map_nil] at r;cases r;exact .nil
 |k::ks,_,r=>by
  rw[List.map_cons] at r
  cases r with
  |cons h t=>exact .cons (HA h) (Cr t)
abbrev KT (H:Hp):List (List Key×V)->List (List Key×Addr×Value)->Prop:=Paired λp q=>p.1=q.1/\H q.2.1=some (.tup (p.1.map kV))/\XZ p.2 q.2.2
theorem KT.val {kvs:List (List Key×V)}{xs:List (List Key×Addr×Value)}(r:KT H kvs xs)(k:List Key):Ih (BC kvs k) ((atKey xs k).map (·.2)):=by
 induction r with
 |nil=>exact True.intro
 | @cons p q ps qs h t ih=>
  obtain⟨h1,_,h2⟩:=h
  by_cases e:p.1=k
  ·have e':q.1=k:=h1.symm.trans e
   have b:atKey (q::qs) k=some q.2:=by simp[atKey,List.find?_cons,e']
   rw[Kl e,b];exact h2
  ·have e':¬q.1=k:=λz=>e (h1.trans z)
   have b:atKey (q::qs) k=atKey qs k:=by simp[atKey,List.find?_cons,e']
   rw[KE e,b];exact ih
theorem KT.repl {kvs:List (List Key×V)}{xs:List (List Key×Addr×Value)}(r:KT H kvs xs)(k:List Key){y:V}(ry:XZ y u):
  KT H (kvs.map λkv=>if kv.1=k then(kv.1,y) else kv) (xs.map (putAt k u)):=by
 induction r with
 |nil=>exact .nil
 | @cons p q ps qs h t ih=>
  rw[List.map_cons,List.map_cons]
  refine .cons ?_ ih
  obtain⟨h1,h2,h3⟩:=h
  unfold putAt
  by_cases e:p.1=k
  ·rw[if_pos e,if_pos (h1.symm.trans e)];exact⟨h1,h2,ry⟩
  ·rw[if_neg e,if_neg (λz=>e (h1.trans z))];exact⟨h1,h2,h3⟩
theorem KT.put {kvs:List (List Key×V)}{xs:List (List Key×Addr×Value)}(r:KT H kvs xs)(k:List Key){y:V}(hb:H b=some (.tup (k.map kV)))(ry:XZ y u):
  KT H (GY kvs k y) (storedH xs k b u):=by
 have e:(kvs.any λkv=>decide (kv.1=k))=(atKey xs k).isSome:=by
  rw[ES,(r.val k).isSome_eq,Option.isSome_map]
 unfold GY storedH
 rw[e]
 by_cases q:(atKey xs k).isSome=true
 ·rw[if_pos q,if_pos q];exact r.repl k ry
 ·rw[if_neg q,if_neg q];exact Paired.snoc r ⟨rfl,hb,ry⟩
theorem KT.keeps {kvs:List (List Key×V)}{xs:List (List Key×Addr×Value)}(r:KT H kvs xs)(ht:∀b ys,H b=some (.tup ys)->H' b=some (.tup ys)):KT H' kvs xs:=
 Paired.mapP r λ_ _ z=>⟨z.1,ht _ _ z.2.1,z.2.2⟩
section
variable {h:Heap}
theorem Wg {u:HO}(ok:HOk P w H h)(e:Rd H a u):YG P w H h a u:=e.ok ok
theorem Hw (ok:HOk P w H h)(e:Rd H a (.dK kvs)):kvs.length<=sizeLine/\(a==sysModules)=false/\∃vs,KV kvs vs/\h.DictOf (Yw P w) a vs:=
 show YG P w H h a (.dK kvs) from Wg ok e
theorem T8 (ok:HOk P w H h)(e:H a=some (.dK kvs)):kvs.length<=sizeLine/\(a==sysModules)=false/\∃vs,KV kvs vs/\h.DictOf (Yw P w) a vs:=Hw ok (.inl e)
theorem EY (ok:HOk P w H h)(e:H a=some (.tup (ks.map kV))):(tupleKind (Yw P w)).is h ks a:=by
 obtain⟨_,its,r,o,h1,h2,n,h3⟩:=(show YG P w H h a (.tup (ks.map kV)) from ok a _ e)
 exact⟨o,its.toArray,n,h1,h2.1,h3,by simpa using Cr r⟩
theorem IH {kvs:List (List Key×V)}(ok:HOk P w H h)(e:Rd H a (.dT kvs)):kvs.length<=sizeLine/\(a==sysModules)=false/\
  ∃xs,KT H kvs xs/\h.DictOfH (tupleKind (Yw P w)) a xs:=by
 obtain⟨z,y,xs,r,o,es,ep,h1,h2,h3,h4,h5⟩:=(show YG P w H h a (.dT kvs) from Wg ok e)
 refine⟨z,y,xs,r,o,es,ep,h1,h2,h3,h4,λx hx=>?_,h5⟩
 have all:∀{l:List (List Key×V)}{m:List (List Key×Addr×Value)},KT H l m->∀x∈m,(tupleKind (Yw P w)).is h x.1 x.2.1:=by
  intro l m q
  induction q with
  |nil=>intro x hx;exact nomatch hx
  | @cons p q ps qs hq t ih=>
   intro x hx
   rcases List.mem_cons.mp hx with e |hx
   ·subst e
    exact EY ok (by rw[←hq.1];exact hq.2.1)
   ·exact ih x hx
 exact all r x hx
theorem Ad {kvs:List (List Key×V)}(ok:HOk P w H h)(e:H a=some (.dT kvs)):kvs.length<=sizeLine/\(a==sysModules)=false/\
  ∃xs,KT H kvs xs/\h.DictOfH (tupleKind (Yw P w)) a xs:=IH ok (.inl e)
end
def Ps (H:Hp)(a:Addr)(y:V)(r:Option V):Prop:=
 (∃kvs k,Rd H a (.dK kvs)/\y=kV k/\r=BC kvs k)∨∃kvs k b,Rd H a (.dT kvs)/\y= .ref b/\H b=some (.tup (k.map kV))/\r=BC kvs k
def Wy (H:Hp)(a:Addr)(y v:V)(H':Hp):Prop:=
 (∃kvs k,H a=some (.dK kvs)/\y=kV k/\kvs.length<sizeLine/\H'=upd H a (.dK (GY kvs k v)))∨
 ∃kvs k b,H a=some (.dT kvs)/\y= .ref b/\H b=some (.tup (k.map kV))/\kvs.length<sizeLine/\H'=upd H a (.dT (GY kvs k v))
theorem Ps.kk {k:Key}(e:H a=some (.dK kvs)):Ps H a (kV k) (BC kvs k):=.inl ⟨kvs,k, .inl e,rfl,rfl⟩
theorem Wy.kk {k:Key}(e:H a=some (.dK kvs))(hl:kvs.length<sizeLine):Wy H a (kV k) v (upd H a (.dK (GY kvs k v))):=.inl ⟨kvs,k,e,rfl,hl,rfl⟩
section
variable {y v:V}{r:Value}{o:Option V}
theorem Inv.big (I:Inv X aa U H s):sysModules<s.heap.objs.size:=by
 have h:mainGlobals<s.heap.objs.size:=(I.mod.glob.keeps I.bk).lt
 exact Nat.lt_trans (by decide) h
theorem L3 (hu:A.units+1<cLine)(I:Inv X aa U H s)(g:Ps H a y (some v))(ry:XZ y u)(h:∀w' s',Inv X aa U H s'->XZ v w'->Q w' s'):
  wpAny (model X.prog X.w) A (getItem (.ref a) u) Q E s:=by
 rcases g with⟨kvs,k,e,ey,l⟩ | ⟨kvs,k,b,e,ey,eb,l⟩
 ·subst ey
  obtain⟨z,hd,vs,bM,dd⟩:=Hw I.hok e
  obtain⟨w',hw,cy⟩:=Ih.some_of (v:=v) (o:=valueAt vs k) (by rw[l];exact bM.val k)
  exact wpAny_getItem_of (HA ry) dd.mapOf hw (h w' _ (I.tok _) cy)
 ·subst ey
  cases(show u=Value.ref b from ry)
  obtain⟨z,hd,xs,bM,dd⟩:=IH I.hok e
  obtain⟨w',hw,cy⟩:=Ih.some_of (v:=v) (o:=(atKey xs k).map (·.2)) (by rw[l];exact bM.val k)
  obtain⟨p,hp,il⟩:=Option.map_eq_some_iff.mp hw
  refine wpAny_getItem_heap (tupleKind_room_in1 hu) (EY I.hok eb) dd hp ?_
  rw[il]
  exact h w' _ (I.tok _) cy
theorem AX (hu:A.units+1<cLine)(I:Inv X aa U H s)(g:Ps H a y o)(ry:XZ y u)(h:∀s',Inv X aa U H s'->Q (.bool o.isSome) s'):
  wpAny (model X.prog X.w) A (compareOp .In u (.ref a)) Q E s:=by
 rcases g with⟨kvs,k,e,ey,l⟩ | ⟨kvs,k,b,e,ey,eb,l⟩
 ·subst ey
  obtain⟨z,hd,vs,bM,dd⟩:=Hw I.hok e
  refine wpAny_in_of (HA ry) hd dd.mapOf ?_
  rw[←(bM.val k).isSome_eq, ←l]
  exact h _ (I.tok _)
 ·subst ey
  cases(show u=Value.ref b from ry)
  obtain⟨z,hd,xs,bM,dd⟩:=IH I.hok e
  refine wpAny_in_heap (tupleKind_room_in1 hu) (EY I.hok eb) hd dd ?_
  have q:=(bM.val k).isSome_eq
  rw[Option.isSome_map] at q
  rw[←q, ←l]
  exact h _ (I.tok _)
theorem BO {t':Nat}(I:Inv X aa U H s)(mu:Mut (H a))(hs:Heap.SameBut a s.heap h')(he:∃q,h'.get? a=some q)(new:YG X.prog X.w (upd H a ob) h' a ob):
  Inv X aa U (upd H a ob) {s with heap:=h',toks:=t'}:=
 I.write (x:=a) (e:=a) mu (.inl rfl) (λb q hb z=>(hs.2 b hb).trans z) he new
theorem OW (z:kvs.length<=sizeLine)(hd:(a==sysModules)=false)(bM:KV kvs vs)(dd:h'.DictOf (Yw P w) a vs):
  YG P w H' h' a (.dK kvs):=⟨z,hd,vs,bM,dd⟩
theorem ID {Q:Unit->Shared->Prop}(hu:A.units+1<cLine)(I:Inv X aa U H s)(g:Wy H a y v H')(ry:XZ y u)(rv:XZ v r)(h:∀s',Inv X aa U H' s'->Q () s'):
  wpAny (model X.prog X.w) A (setItem (.ref a) u r) Q E s:=by
 rcases g with⟨kvs,k,e,ey,l,eH⟩ | ⟨kvs,k,b,e,ey,eb,l,eH⟩
 ·subst ey eH
  obtain⟨z,hd,vs,bM,dd⟩:=T8 I.hok e
  have hz:vs.length<=sizeLine:=by rw[←bM.length];exact z
  have hl:(GY kvs k v).length<=sizeLine:=by have:=Gz kvs k v;omega
  refine wpAny_setItem_pairs (hsz:=hz) (HA ry) dd λh' dd' hs=>h _ ?_
  have he:∃q,h'.get? a=some q:=let ⟨q,_,_,hq,_⟩:=dd';⟨q,hq⟩
  exact BO I (by rw[e];exact True.intro) hs he (OW hl hd (bM.put k rv) dd')
 ·subst ey eH
  cases(show u=Value.ref b from ry)
  obtain⟨z,hd,xs,bM,dd⟩:=Ad I.hok e
  have hz:xs.length<=sizeLine:=by rw[←Paired.length bM];exact z
  have hl:(GY kvs k v).length<=sizeLine:=by have:=Gz kvs k v;omega
  refine wpAny_setItem_heap (hsz:=hz) (tupleKind_room_in1 hu) (EY I.hok eb) dd λh' dd' hs=>h _ ?_
  obtain⟨q,es,ep,hq,h2,h3,h4,_,h5⟩:=dd'
  refine BO I (by rw[e];exact True.intro) hs ⟨q,hq⟩ ⟨hl,hd,_,(bM.put k eb rv).keeps λc ys ec=>?_,q,es,ep,hq,h2,h3,h4,h5⟩
  rw[X8 (W8 ec e (λz=>nomatch z))]
  exact ec
end
section
variable {k:Key}
theorem W0 (I:Inv X aa U H s)(e:H a=some (.dK kvs))(ry:XZ (kV k) u)(l:BC kvs k=some v)(hm:more=[]∨∃x,more=[x])
  (h:∀w' s',Inv X aa U (upd H a (.dK (K0 kvs k))) s'->XZ v w'->Q w' s'):wpAny (model X.prog X.w) A (call (.builtin "dict.pop") (.ref a::u::more)) Q E s:=by
 obtain⟨z,hd,vs,bM,dd⟩:=T8 I.hok e
 obtain⟨w',hw,cy⟩:=Ih.some_of (v:=v) (o:=valueAt vs k) (by rw[←l];exact bM.val k)
 have hp:(keyPart u).isSome=true:=by
  cases k with
  |inl i=>obtain⟨t,q⟩:=(show ∃t,u=Value.int i t from ry);subst q;rfl
  |inr x=>obtain⟨t,q⟩:=(show ∃t,u=Value.str x t from ry);subst q;rfl
 have ha:argsOk "dict.pop" ⟨.ref a::u::more,[]⟩:=by
  rcases hm with q | ⟨x,q⟩
  ·subst q;exact PySem.F.args_dict_pop_2 _ _
  ·subst q;exact PySem.F.args_dict_pop_3 _ _ _
 refine call_meetsIn PySem.F.slot_dict_pop dd.typeIs PySem.F.entry_dict_pop ha (meets_dict_pop_there (Yw X.prog X.w) a (HA ry) more hm hp)
  ⟨vs,w',dd,by rw[←bM.length];exact z,hw,λh' dd' hs=>h w' _ ?_ cy⟩
 have he:∃q,h'.get? a=some q:=let ⟨q,_,_,hq,_⟩:=dd';⟨q,hq⟩
 exact BO I (by rw[e];exact True.intro) hs he (OW (Nat.le_trans (Nt kvs k) z) hd (bM.drop k) dd')
theorem WK (I:Inv X aa U H s)(e:Rd H a (.dK kvs))(h:∀t s',Inv X aa U H s'->Q (.int kvs.length t) s'):wpAny (model X.prog X.w) A (call (.builtin "len") [.ref a]) Q E s:=by
 obtain⟨z,hd,vs,bM,dd⟩:=Hw I.hok e
 refine call_len_dict hd dd (by rw[←bM.length];rw[sizeLine_eq] at z;omega) ?_
 rw[←bM.length]
 exact h _ _ (I.tok _)
end
def Aq (i:Expr):Prop:=∀ ov iv,subscripted i false ov iv=operate [ov,iv] (getItem ov iv)
theorem Pk {env:Env}{value slice:Expr}{T id:String}
  (hl:typeLookup (.type T) "__getitem__" =pure (some (.builtin id)))(hs:Aq slice)
  (h:wpAny (model prog w) A (eval value env) (λo s₁=>wpAny (model prog w) A (eval slice env) (λi s₂=>s₂.TypeIs o T/\wpAny (model prog w) A (getItem o i) Q E s₂) E s₁) E s):
  wpAny (model prog w) A (eval (.Subscript value slice pos) env) Q E s:=by
 refine Subscript_ (wpAny_mono h (λo s₁ h₁=>wpAny_mono h₁ (λi s₂ h₂=>?_) λ_ _ x=>x) λ_ _ x=>x)
 obtain⟨hT,h₂⟩:=h₂
 unfold subscriptTail
 refine wpAny_bind ?_
 rw[getitemInPython_of_ne hT.not_modules]
 refine wpAny_bind (wpAny_specialOf hT hl ?_)
 have fin:wpAny (model prog w) A (subscripted slice false o i) (λr s₃=>wpAny (model prog w) A (letTemporaryGo value o r >>= λ_=>pure r) Q E s₃) E s₂:=by
  rw[hs o i]
  exact wpAny_operating (wpAny_mono h₂ (λr s₃ h₃=>wpAny_bind (wpAny_letTemporaryGo (wpAny_pure h₃))) λ_ _ x=>x)
 first
  |exact wpAny_pure (wpAny_bind fin)
  |exact wpAny_bind (wpAny_pure (wpAny_bind fin))
  |exact wpAny_bind fin
theorem BW {y:V}(I:Inv X aa U H s)(g:Ps H a y o):s.TypeIs (.ref a) "dict":=by
 rcases g with⟨kvs,k,e,_,_⟩ | ⟨kvs,k,b,e,_,_,_⟩
 ·obtain⟨_,_,vs,_,dd⟩:=Hw I.hok e
  exact dd.typeIs
 ·obtain⟨_,_,xs,_,dd⟩:=IH I.hok e
  exact dd.typeIs
def Tr (td ty:TE):TE:=λU H Q=>td U H λx H1=>ty U H1 λy H2=>∃ a v,x= .ref a/\Ps H2 a y (some v)/\Q v H2
def AE (ty td:TE):TE:=λU H Q=>ty U H λy H1=>td U H1 λx H2=>∃ a o,x= .ref a/\Ps H2 a y o/\Q (.bl o.isSome) H2
def O8 (td ty tv:TE):TS:=λD U H=>tv U H λv H1=>td U H1 λx H2=>ty U H2 λy H3=>∃ a H4,x= .ref a/\Wy H3 a y v H4/\D.nx U H4
section
variable {o i value:Expr}{cK tpos:Pos}{ty tv:TE}
theorem Up (hu:X.A.units+1<cLine)(ho:PE X o td)(hi:PE X i ty)(hs:Aq i):PE X (.Subscript o i pos) (Tr td ty):=by
 intro aa s U H Q I h
 refine Pk PySem.F.slot_dict_getitem.lookup hs (thn (ho aa s U H _ I h) λu s1 ⟨x,H1,I1,rx,q1⟩=>thn (hi aa s1 U H1 _ I1 q1) λiv s2 r9=>?_)
 obtain⟨y,H2,I2,ry,a,v,ex,g,q2⟩:=r9
 subst ex
 obtain rfl:u=Value.ref a:=rx
 exact⟨BW I2 g,L3 hu I2 g ry λw' s3 I3 cy=>⟨v,H2,I3,cy,q2⟩⟩
theorem Fz (hu:X.A.units+1<cLine)(hi:PE X i ty)(ho:PE X o td):PC X .In i o (AE ty td):=by
 intro aa s U H Q I h
 refine thn (hi aa s U H _ I h) λiv s1 ⟨y,H1,I1,ry,q1⟩=>thn (ho aa s1 U H1 _ I1 q1) λu s2 r9=>?_
 obtain⟨x,H2,I2,rx,a,ov,ex,g,q2⟩:=r9
 subst ex
 obtain rfl:u=Value.ref a:=rx
 exact AX hu I2 g ry λs3 I3=>⟨.bl ov.isSome,H2,I3,rfl,q2⟩
theorem Ur (hu:X.A.units+1<cLine)(ho:PE X o td)(hi:PE X i ty)(hv:PE X value tv)(hs:swapsWith value (some (.Subscript o i cK)) pos.line X.env=pure false):
  PS X (.Assign [.Subscript o i cK] value pos) (O8 td ty tv):=by
 intro aa s U H D I h
 refine wpAny_Assign_Subscript (thn (hv aa s U H _ I h) λr s1 ⟨v,H1,I1,rv,q1⟩=>thn (ho aa s1 U H1 _ I1 q1) λu s2 ⟨x,H2,I2,rx,q2⟩=>thn (hi aa s2 U H2 _ I2 q2) λiv s3 r9=>?_) hs
 obtain⟨y,H3,I3,ry,a,H4,ex,g,q3⟩:=r9
 subst ex
 obtain rfl:u=Value.ref a:=rx
 exact ID hu I3 g ry rv λs4 I4=>⟨U,H4,I4,q3⟩
end
theorem NF (h:Heap)(hb:sysModules<h.objs.size):YG P w H (h.push {cls:=.type "dict",data:=.dict #[]}) h.objs.size (.dK []):=
 ⟨Nat.zero_le _,beq_eq_false_iff_ne.mpr (Ne.symm (Nat.ne_of_lt hb)),[], .nil,Heap.DictOf.new h⟩
def OY:TE:=λ_ H Q=>∀ p,H p=none->Q (.ref p) (upd H p (.dK []))
section
theorem NL:PE X (.Dict [] [] pos) OY:=λaa s U H Q I h=>
 wpAny_Dict_empty ⟨.ref s.heap.objs.size,_,I.laid (a:=s.heap.objs.size) (o:=.dK []) (t':=s.toks) (λ_ _ q=>Heap.get?_push_of_some _ q) (Nat.le_refl _) (NF s.heap I.big),rfl,h _ (I.hok.fresh (Nat.le_refl _))⟩
end
structure M1 (X:Cx)(o:Expr)(m:Str)(aJ:Pos)(e:Expr)(am:Pos):Prop where
 base:attributeBase o m X.env (eval o X.env)=eval o X.env
 few:((backTo am (starEach [e] X.env)).all (λx=>!x.1)&&(backToKw am (keywordEach [] X.env)).all (λx=>x.1.isSome)
  &&decide (([e]:List Expr).length+([]:List Keyword).length+(if([]:List Keyword).isEmpty then 0 else 1)<30))=true
 line:(aJ.endLine==am.line)=true
 trees:backTo am (starEach [e] X.env)=[(false,eval e X.env)]
def IsD (H:Hp)(a:Addr):Prop:=(∃kvs,Rd H a (.dK kvs))∨∃kvs,Rd H a (.dT kvs)
theorem TL (I:Inv X aa U H s)(d:IsD H a):
  s.TypeIs (.ref a) "dict" /\(∀b,Value.ref a= .ref b->∃ob,s.heap.get? b=some ob/\ob.dict=none)/\(a==sysModules)=false:=by
 rcases d with⟨kvs,e⟩ | ⟨kvs,e⟩
 ·obtain⟨_,hd,vs,_,dd⟩:=Hw I.hok e
  refine⟨dd.typeIs,λb q=>?_,hd⟩
  cases q
  obtain⟨ob,_,_,h1,h2,_⟩:=dd
  exact⟨ob,h1,h2.2.1⟩
 ·obtain⟨_,hd,xs,_,dd⟩:=IH I.hok e
  refine⟨dd.typeIs,λb q=>?_,hd⟩
  cases q
  obtain⟨ob,_,_,h1,h2,_⟩:=dd
  exact⟨ob,h1,h2.2.1⟩
section
variable {y d:V}{r:Value}{o:Option V}
end
def Op (td ty:TE):TE:=λU H Q=>td U H λx H1=>∃ a,x= .ref a/\IsD H1 a/\ty U H1 λy H2=>∃ kvs k v,H2 a=some (.dK kvs)/\y=kV k/\BC kvs k=some v/\Q v (upd H2 a (.dK (K0 kvs k)))
section
variable {o f:Expr}{aJ am:Pos}{ty tx:TE}
theorem Dy (ho:PE X o td)(he:PE X e ty)(m:M1 X o "pop" aJ e am):PE X (.Call (.Attribute o "pop" aJ) [e] [] am) (Op td ty):=by
 intro aa s U H Q I h
 refine wpAny_Call_method m.base m.few m.line PySem.F.plainAttrs_dict PySem.F.slot_dict_pop PySem.F.type_dict_pop (thn (ho aa s U H _ I h) λu s1 r9=>?_)
 obtain⟨x,H1,I1,rx,a,ex,d,q1⟩:=r9
 subst ex
 obtain rfl:u=Value.ref a:=rx
 obtain⟨t1,t2,_⟩:=TL I1 d
 refine⟨t1,t2,?_⟩
 rw[m.trees]
 refine Calls.callWith_builtin rfl (Calls.evalArgs_plain (Calls.spliced_cons (thn (he aa s1 U H1 _ I1 q1) λiv s2 ⟨y,H2,I2,ry,kvs,k,v,ea,ey,l,q2⟩=>Calls.spliced_nil ?_)))
 subst ey
 exact W0 I2 ea ry l (.inl rfl) λw' s3 I3 cy=>⟨v,_,I3,cy,q2⟩
end
section
end
section
variable {y:V}
end
section
theorem KW:ZX X (.builtin "len") (λxs H Q=>∃ a kvs,xs=[V.ref a]/\H a=some (.dK kvs)/\Q (.int kvs.length) H):=by
 intro aa s U H xs us Q I r h
 obtain⟨a,kvs,rfl,ha,q⟩:=h
 obtain⟨u,rfl,ru⟩:=Vg r
 cases ru
 exact WK I (.inl ha) λt s' I'=>⟨.int kvs.length,H,I',⟨t,rfl⟩,q⟩
end
section
variable {κ:Type}[DecidableEq κ]
end
theorem L8:∀(names:List (Str×NameKind)),(∀x∈names,x.2=NameKind.free->∃c,env.cells.lookup x.1=some c)->
  ∀cs:List (Str×Addr),(∀x c,cs.lookup x=some c->env.cells.lookup x=some c)->
  ∃cl:List (Str×Addr),(forIn names cs (λ(x:Str×NameKind) (r:List (Str×Addr))=>(if(x.2==NameKind.free)=true then do let a ←cellOf env x.1;pure (ForInStep.yield ((x.1,a)::r)) else pure (ForInStep.yield r):Sem (ForInStep (List (Str×Addr))))))=(pure cl:Sem (List (Str×Addr)))/\
   (∀x c,cl.lookup x=some c->env.cells.lookup x=some c)/\(∀x,((x,NameKind.free)∈names∨∃c,cs.lookup x=some c)->∃c,cl.lookup x=some c)
 | [],_,cs,hs=>⟨cs,by rw[List.forIn_nil],hs,λx h=>h.elim (λz=>nomatch z) id⟩
 | (n,k)::r,hf,cs,hs=>by
  have hr:∀x∈r,x.2=NameKind.free->∃c,env.cells.lookup x.1=some c:=λx hx=>hf x (List.mem_cons_of_mem _ hx)
  by_cases hk:k=NameKind.free
  ·subst hk
   obtain⟨a,ha⟩:=hf (n,NameKind.free) List.mem_cons_self rfl
   have dH:∀x c,((n,a)::cs).lookup x=some c->env.cells.lookup x=some c:=λx c h=>by
    rw[List.lookup_cons] at h
    by_cases hx:x=n
    ·subst hx
     simp only[beq_self_eq_true] at h
     rw[←h];exact ha
    ·have:(x==n)=false:=beq_eq_false_iff_ne.mpr hx
     rw[this] at h
     exact hs x c h
   obtain⟨cl,e,h1,h2⟩:=L8 r hr ((n,a)::cs) dH
   refine⟨cl,?_,h1,λx h=>h2 x ?_⟩
   ·rw[List.forIn_cons]
    have e1:cellOf env n=pure a:=by unfold cellOf;rw[show env.cells.lookup n=some a from ha]
    simp only[beq_self_eq_true,if_true,e1]
    exact e
   ·rcases h with h | ⟨c,h⟩
    ·rcases List.mem_cons.mp h with h |h
     ·have:x=n:=congrArg Prod.fst h
      subst this
      exact .inr ⟨a,by rw[List.lookup_cons];simp⟩
     ·exact .inl h
    ·by_cases hx:x=n
     ·subst hx;exact .inr ⟨a,by rw[List.lookup_cons];simp⟩
     ·exact .inr ⟨c,by rw[List.lookup_cons,beq_eq_false_iff_ne.mpr hx];exact h⟩
  ·obtain⟨cl,e,h1,h2⟩:=L8 r hr cs hs
   refine⟨cl,?_,h1,λx h=>h2 x ?_⟩
   ·rw[List.forIn_cons]
    have hb:(k==NameKind.free)=false:=by simpa using hk
    simp only[hb,Bool.false_eq_true,if_false]
    exact e
   ·rcases h with h |h
    ·rcases List.mem_cons.mp h with h |h
     ·exact absurd (congrArg Prod.snd h).symm hk
     ·exact .inl h
    ·exact .inr h
theorem BU (hf:∀x∈scope.names,x.2=NameKind.free->∃c,env.cells.lookup x.1=some c):
  ∃cl:List (Str×Addr),closureFor scope env=pure cl/\(∀x c,cl.lookup x=some c->env.cells.lookup x=some c)/\(∀x,(x,NameKind.free)∈scope.names->∃c,cl.lookup x=some c):=by
 obtain⟨cl,e,h1,h2⟩:=L8 scope.names hf [] (λx c h=>by simp at h)
 refine⟨cl,?_,h1,λx h=>h2 x (.inl h)⟩
 unfold closureFor
 show((forIn scope.names [] (λ(x:Str×NameKind) (r:List (Str×Addr))=>(if(x.2==NameKind.free)=true then do let a ←cellOf env x.1;pure (ForInStep.yield ((x.1,a)::r)) else pure (ForInStep.yield r):Sem (ForInStep (List (Str×Addr)))))) >>= λs=>pure s)=pure cl
 rw[e]
 rfl
theorem VR {env:Env}:∀{names:List (Str×NameKind)}{x:Str}{k:NameKind},(∀y∈names,y.2≠NameKind.cell)->
  (names.map λ(n,k)=>if(k==NameKind.free&&env.scope.kind== .function&&env.kindOf n==some .cell) then(n,NameKind.cell) else(n,k)).lookup x=some k->(k= .cell∨k= .free)->(x,NameKind.free)∈names
 | [],_,_,_,h,_=>by simp at h
 | (n,kk)::r,x,k,hc,h,hk=>by
  have ih:=@VR env r x k (λy hy=>hc y (List.mem_cons_of_mem _ hy))
  have hh:=hc (n,kk) List.mem_cons_self
  simp only[List.map_cons] at h
  by_cases ba:(kk==NameKind.free&&env.scope.kind== .function&&env.kindOf n==some .cell)=true
  ·rw[if_pos ba,List.lookup_cons] at h
   have cp:kk=NameKind.free:=by
    rw[Bool.and_eq_true,Bool.and_eq_true] at ba
    simpa using ba.1.1
   cases hx:x==n with
   |true=>
    have:x=n:=by simpa using hx
    subst this;subst cp
    exact List.mem_cons_self
   |false=>rw[hx] at h;exact List.mem_cons_of_mem _ (ih h hk)
  ·rw[if_neg ba,List.lookup_cons] at h
   cases hx:x==n with
   |true=>
    rw[hx] at h
    have dw:kk=k:=Option.some.inj h
    have:x=n:=by simpa using hx
    subst this;subst dw
    rcases hk with z |z
    ·exact absurd z hh
    ·subst z;exact List.mem_cons_self
   |false=>rw[hx] at h;exact List.mem_cons_of_mem _ (ih h hk)
theorem JC {env:Env}:∀{names:List (Str×NameKind)}{x:Str},names.lookup x=some .free->
  let l:=(names.map λ(n,k)=>if(k==NameKind.free&&env.scope.kind== .function&&env.kindOf n==some .cell) then(n,NameKind.cell) else(n,k))
  l.lookup x=some .cell∨l.lookup x=some .free
 | [],_,h=>by simp at h
 | (n,kk)::r,x,h=>by
  have ih:=@JC env r x
  simp only[List.map_cons]
  rw[List.lookup_cons] at h
  by_cases ba:(kk==NameKind.free&&env.scope.kind== .function&&env.kindOf n==some .cell)=true
  ·rw[if_pos ba,List.lookup_cons]
   cases hx:x==n with
   |true=>exact .inl rfl
   |false=>rw[hx] at h;exact ih h
  ·rw[if_neg ba,List.lookup_cons]
   cases hx:x==n with
   |true=>rw[hx] at h;exact .inr h
   |false=>rw[hx] at h;exact ih h
abbrev Cx.comp (X:Cx)(N:List Str)(scope:Scope)(cl:List (Str×Addr))(C:Addr)(s:Shared)(H:Hp)(ex:List Addr)(E:Value->Shared->Prop):Cx:=
 {X with N:=N,s₀:=s,H₀:=H,env:=compEnvC scope cl C X.env,outer:=X.stack,ex:=ex,fn:=λ_=>false,pn:=[],xe:=E}
def PTs (X:Cx)(bf:List Expr)(t:TT):Prop:=
 ∀(aa:List (Addr×Obj)) (s:Shared) (U:St) (H:Hp) (Q:Bool->Hp->Prop),Inv X aa U H s->t U H Q->
  wpAny (model X.prog X.w) X.A (forIn bf true λc r=>if r=true then do let ok ←isTrue c X.env (eval c X.env);pure (ForInStep.yield ok) else pure (ForInStep.yield r)) (TP X aa U Q) X.xe s
def DW:TT:=λ_ H Q=>Q true H
theorem Tl {A Bqz:Hp->Prop}(h:A H):DW U H λc H5=>if c=true then A H5 else Bqz H5:=by
 show if true=true then A H else Bqz H
 rw[if_pos rfl]
 exact h
theorem ZP:PTs X [] DW:=λ_ _ _ H _ I h=>wpAny_tests_nil ⟨H,I,h⟩
theorem Gp (h:PT X c t):PTs X [c] t:=λaa s U H Q I hw=>wpAny_tests_one (h aa s U H Q I hw)
def Kj (n:Nat)(g:TG):Prop:=∀ x U H Q,g x U H Q->g x U H λσ2 H2=>Q σ2 H2/\σ2.length=U.length/\∀i,n<=i->σ2[i]?=U[i]?
theorem YU (h:i<n):Kj n (X4 i):=λx U H Q q=>⟨q,by simp,λj hj=>by rw[List.getElem?_set_ne (by lia)]⟩
theorem Pm (hi:i<n)(hj:j<n):Kj n (Ii K 2 (YH (X4 i) (YH (X4 j) IK))):=λx U H Q q=>by
 obtain⟨a,xs,e1,hq,hl,v,r,e2,w,r2,e3,e4,q⟩:=q
 exact⟨a,xs,e1,hq,hl,v,r,e2,w,r2,e3,e4,q,by simp,λk hk=>by rw[List.getElem?_set_ne (by lia),List.getElem?_set_ne (by lia)]⟩
def Yf (n:Nat)(caps:List (Nat×Str))(U:St):St:=List.replicate n none++caps.map λp=>(U[p.1]?).join
def M9 (g:TG)(tt:TT)(te:TE)(U:St)(Q:VK)(J:It)(W:Nat->Nat->List V->Hp->Prop):Prop:=
 ∀i m ys H2,W i m ys H2->ys.length<=sizeLine/\
  ((J.stop i H2/\∀p,H2 p=none->Q (.ref p) (upd H2 p (.lst ys)))∨
  (J.go i H2/\∃N:List V->Hp->Prop,(∀ys' H',N ys' H'->∃m',m'<m/\W (i+1) m' ys' H')/\∀x H3,J.yld i H2 x H3->g x U H3 λσ4 H4=>tt σ4 H4 λc H5=>
   if c=true then te σ4 H5 λv H6=>N (ys++[v]) H6 else N ys H5))
def Ol (n:Nat)(caps:List (Nat×Str))(g:TG)(tt:TT)(te:TE)(U:St)(Q:VK)(J:It)(H1:Hp):Prop:=
 ∃W:Nat->Nat->List V->Hp->Prop,(∃m,W 0 m [] H1)/\M9 g tt te (Yf n caps U) Q J W
def Eo (n:Nat)(caps:List (Nat×Str))(wi:TI)(g:TG)(tt:TT)(te:TE):TE:=λU H Q=>wi U H λJ H1=>Ol n caps g tt te U Q J H1
def Cj (sc scope:Scope)(N0 tns:List Str)(caps:List (Nat×Str)):Bool:=
 scope.kind== .function&&scope.names.all (λy=>!(y.2== .cell))&&scope.names.all (λy=>!(y.2== .local) || scope.names.lookup y.1==some .local)&&
 scope.names.all (λy=>!(y.2== .free) || sc.names.lookup y.1==some .cell)&&caps.all (λp=>N0[p.1]?==some p.2&&sc.names.lookup p.2==some .cell&&scope.names.lookup p.2==some .free)
theorem Bp {p:M}{P:Prop}(h:p∈([]:List M)):P:=nomatch h
def SS (Mqz:Model)(A:Around)(bc tg:Expr)(bf:List Expr)(acc:Value)(env:Env)(E:Value->Shared->Prop)(K:Shared->Prop)(v:Value)(s:Shared):Prop:=
 wpAny Mqz A (assign tg env v) (λ_ s₂=>wpAny Mqz A (forIn bf true λc r=>if r=true then do let ok ←isTrue c env (eval c env);pure (ForInStep.yield ok) else pure (ForInStep.yield r)) (λok s₃=>
  if ok=true then wpAny Mqz A (eval bc env) (λx s₄=>wpAny Mqz A (call (.builtin "list.append") [acc,x]) (λ_ s₅=>K s₅) E s₄) E s₃ else K s₃) E s₂) E s
def WM (Mqz:Model)(A:Around)(bc tg:Expr)(bf:List Expr)(it acc:Value)(env:Env)(E:Value->Shared->Prop)(Rn K:Shared->Prop)(s:Shared):Prop:=
 wpAny Mqz A (pyNext it) (λr s₁=>r=none/\Rn s₁∨∃v,r=some v/\wpAny Mqz A (letOwnedTupleGo tg it v) (λ_ s₁=>SS Mqz A bc tg bf acc env E K v s₁) E s₁) E s
section
theorem Ck (I:Nat->Shared->Prop)(hE:(notedBy (model prog w) A env λe s'=>R (.error e) s')=E)
  (turn:∀n s,I n s->WM (model prog w) A bc cx bf it acc env E (λs=>R (.ok .next) s) (λs=>∃ m,m<n/\I m s) s)(n:Nat)(h:I n s):
  codeAny (model prog w) A (.compLoop (.ListComp bc [⟨cx,iter,bf,0⟩] scope pos) 0 it acc env) R s:=by
 subst hE
 refine codeAny_loop rfl I (λn s hI=>?_) n h
 show wpAny _ A ((compTurn (.ListComp bc [⟨cx,iter,bf,0⟩] scope pos) 0 it acc env).onRaise (λx=>do noteFrame x env;theTreesLotGoes x)) _ _ s
 refine wpAny_noted ?_
 rw[compTurn_list]
 refine wpAny_bind (wpAny_standAt (wpAny_bind (thn (turn n s hI) λr s₁ h₁=>?_)))
 rcases h₁ with⟨rfl,h₁⟩ | ⟨v,rfl,h₁⟩
 ·exact wpAny_pure h₁
 ·refine wpAny_bind (thn h₁ λ_ s₁' h₁'=>wpAny_bind (thn h₁' λ_ s₂ h₂=>wpAny_bind (thn h₂ λok s₃ h₃=>?_)))
  cases ok with
  |false=>exact wpAny_pure ⟨rfl,h₃⟩
  |true=>exact wpAny_bind (wpAny_bind (thn h₃ λx s₄ h₄=>wpAny_bind (thn h₄ λ_ s₅ h₅=>wpAny_pure (wpAny_pure ⟨rfl,h₅⟩))))
end
def lob (its:List Value)(k:Nat):Obj:={cls:=.type "list",data:=.seq (List.toArray its) k}
structure CIn (Y:Cx)(tn:Nat->Heap->Prop)(fp:List Addr)(D:Addr)(U:St)(i:Nat)(H:Hp)(o:Obj)(s:Shared):Prop where
 I:Inv Y [] U H s
 t:tn i s.heap
 f:∀b∈fp,H b=none
 l:s.heap.get? D=some o
 n:H D=none
inductive CI (Y:Cx)(tn:Nat->Heap->Prop)(fp:List Addr)(D:Addr)(U:St)(W:Nat->Nat->List V->Hp->Prop)(m:Nat)(s:Shared):Prop
 |mk (i:Nat) (H:Hp) (ys:List V) (its:List Value) (k:Nat) (c:CIn Y tn fp D U i H (lob its k) s) (r:X9 ys its) (w:W i m ys H)
structure CAt (Y:Cx)(fp:List Addr)(D:Addr):Prop where
 calm:Y.calm=true
 pn:Y.pn=[]
 ne:D≠Y.env.locals
 fs:D∉Y.fs
 sz:Y.s₀.heap.objs.size<=D
 cl:∀x c,Y.env.cells.lookup x=some c->c≠D
 fpn:∀b∈fp,b≠D
 ok:∀b∈fp,∀H:Hp,H b=none->Ht Y [] H b
section
variable {Y:Cx}{tn:Nat->Heap->Prop}{fp:List Addr}{D it:Addr}{bc iter:Expr}{J:It}{g:TG}{tt:TT}{i:Nat}{o:Obj}{Kn:Shared->Prop}
theorem CAt.pns (c:CAt Y fp D)(hn:∀b∈fp,H b=none):∀b∈fp,Ht Y [(D,o)] H b:=λb hb=>
 have z:=c.ok b hb H (hn b hb)
 ⟨z.1,z.2.1,z.2.2.1,z.2.2.2.1,z.2.2.2.2.1,λp hp e=>by
  rw[c.pn] at hp
  cases List.mem_singleton.mp hp
  exact c.fpn b hb e.symm⟩
theorem EW (T:Turn Y.prog Y.w Y.K tg J fp it tn)(t:tn i h5)(I:Inv Y ([(D,o)]++Cq fp h5) U H s):CIn Y tn fp D U i H o s:=
 have p:=I.pin (D,o) (List.mem_append_right _ (.head _))
 have q:∀b∈fp,∀o',h5.get? b=some o'->s.heap.get? b=some o'/\H b=none:=λb hb o' e=>have z:=I.pin (b,o') (List.mem_append_right _ (.tail _ (UV hb e)));⟨z.1,z.2.1⟩
 ⟨I.pins_of (pins':=[]) λ_ h=>Bp h,T.keep _ _ _ t λb hb o' e=>(q b hb o' e).1,λb hb=>(T.obj _ _ t b hb).elim λo' e=>(q b hb o' e.1).2,p.1,p.2.1⟩
theorem AY (T:Turn Y.prog Y.w Y.K tg J fp it tn)(a:CAt Y fp D)(c:CIn Y tn fp D U i H (lob its k) s)(hz:its.length<=sizeLine)
  (hQ:∀k' s',CIn Y tn fp D U i H (lob (its++[v]) k') s'->Kn s'):wpAny (model Y.prog Y.w) Y.A (call (.builtin "list.append") [.ref D,v]) (λ_ s=>Kn s) E s:=by
 refine call_meets F.slot_list_append ⟨_,c.l,rfl⟩ F.entry_list_append (F.args_list_append_2 _ _) (PySem.list_append D (List.toArray its) k v hz) ⟨c.l,?_⟩
 have q:∃k',PySem.IsL (s.heap.update D (Obj.mapSeq (·.push v))) D ((List.toArray its).push v) k':=⟨_,PySem.IsL.update c.l (·.push v)⟩
 rw[List.push_toArray] at q
 obtain⟨k',q⟩:=q
 exact hQ k' _ ⟨c.I.turned (t':=s.toks) (h':=s.heap.update D (Obj.mapSeq (·.push v))) (it:=D) (λb o hb' e=>(Heap.get?_update_other s.heap _ (Ne.symm hb')).trans e) c.n a.ne (.inr a.sz) a.cl (λp hp=>by rw[a.pn] at hp;exact Bp hp),
  T.keep _ _ _ c.t λb hb o e=>(Heap.get?_update_other s.heap _ (Ne.symm (a.fpn b hb))).trans e,c.f,q,c.n⟩
theorem NZ {N:List V->Hp->Prop}{x:V}(hg:PG Y tg g)(ht:PTs Y bf tt)(he:PE Y bc te)(hG:Kj n g)(h0:∀(j:Nat) v,U[j]?=some (some v)->n<=j)
  (I:Inv Y aa U H s)(r:XZ x u)(st:g x U H λσ4 H4=>tt σ4 H4 λc H5=>if c=true then te σ4 H5 λv H6=>N (ys++[v]) H6 else N ys H5)
  (hF:∀H7 s7,Inv Y aa U H7 s7->N ys H7->Kn s7)(hT:∀H8 s8 y v,Inv Y aa U H8 s8->XZ y v->N (ys++[y]) H8->wpAny (model Y.prog Y.w) Y.A (call (.builtin "list.append") [acc,v]) (λ_ s=>Kn s) Y.xe s8):
  SS (model Y.prog Y.w) Y.A bc tg bf acc Y.env Y.xe Kn u s:=by
 refine thn (hg _ s _ H x u _ I r (hG _ _ _ _ st)) λ_ s6 r9=>?_
 obtain⟨σ6,H6,I6,q6,l6,k6⟩:=r9
 have wk:∀(j:Nat) v,U[j]?=some (some v)->σ6[j]?=some (some v):=λj v e=>(k6 j (h0 j v e)).trans e
 refine thn (ht _ s6 σ6 H6 _ I6 q6) λc s7 r9=>?_
 obtain⟨H7,I7,q7⟩:=r9
 cases c with
 |false=>exact hF _ _ (I7.weak l6.symm wk) q7
 |true=>exact thn (he _ s7 σ6 H7 _ I7 q7) λv8 s8 r9=>by obtain⟨y8,H8,I8,r8,n8⟩:=r9;exact hT _ _ _ _ (I8.weak l6.symm wk) r8 n8
theorem FC {Q:V->Hp->Prop}(hE:(notedBy (model Y.prog Y.w) Y.A Y.env λe s'=>R (.error e) s')=Y.xe)
  (T:Turn Y.prog Y.w Y.K tg J fp it tn)(hG:Kj n g)(hg:PG Y tg g)(ht:PTs Y bf tt)(he:PE Y bc te)(a:CAt Y fp D)(h0:∀(j:Nat) v,U[j]?=some (some v)->n<=j)
  (turn:M9 g tt te U Q J W)
  (hEnd:∀ys its k H3 s4,Inv Y [(D,lob its k)] U H3 s4->X9 ys its->ys.length<=sizeLine->Q (.ref D) (upd H3 D (.lst ys))->R (.ok .next) s4)(hi:CI Y tn fp D U W m0 s):
  codeAny (model Y.prog Y.w) Y.A (.compLoop (.ListComp bc [⟨tg,iter,bf,0⟩] scope pos) 0 (.ref it) (.ref D) Y.env) R s:=by
 refine Ck (CI Y tn fp D U W) hE (λm s3 c=>?_) m0 hi
 cases c with
 |mk i H3 ys its k c rv w3=>
 have I3:Inv Y [(D,lob its k)] U H3 s3:=c.I.pins_of λp hp=>List.mem_singleton.mp hp▸⟨c.l,c.n,a.ne,a.fs,λ_ z=>by cases z⟩
 have t:=turn i m ys H3 w3
 refine t.2.elim (λq=>?_) λq=>?_
 ·exact thn (T.done Y rfl rfl rfl a.calm i _ s3 _ H3 Y.xe I3 (a.pns c.f) c.t q.1) λr s4 h=>.inl ⟨h.1,hEnd ys its k H3 s4 h.2 rv t.1 (q.2 D c.n)⟩
 ·refine q.2.elim λNN h=>?_
  refine thn (T.item Y rfl rfl rfl a.calm i _ s3 _ H3 Y.xe I3 (a.pns c.f) c.t q.1) λr s4 h4=>.inr (h4.elim λu h4=>⟨u,h4.1,thn h4.2 λ_ s5 h5=>h5.elim λx h5=>h5.elim λH5 h5=>?_⟩)
  exact NZ hg ht he hG h0 (h5.1.pinned (a.pns h5.2.2.2.2) (T.obj _ _ h5.2.2.2.1)) h5.2.1 (h.2 x H5 h5.2.2.1)
   (λH7 s7 I7 q7=>(h.1 _ _ q7).elim λm' z=>⟨m',z.1, .mk (i+1) H7 ys its k (EW T h5.2.2.2.1 I7) rv z.2⟩)
   λH8 s8 y v I8 r8 q8=>(h.1 _ _ q8).elim λm' z=>AY T a (EW T h5.2.2.2.1 I8) (rv.length▸t.1) λk' s' c'=>⟨m',z.1, .mk (i+1) H8 (ys++[y]) (its++[v]) k' c' (rv.append (.cons r8 .nil)) z.2⟩
end
section
variable {bc iter:Expr}{sc:Scope}{tns:List Str}{wi:TI}{g:TG}{tt:TT}
structure CompEnd (X:Cx)(aa:List (Addr×Obj))(U:St)(H3:Hp)(D C:Addr)(ys:List V)(s':Shared):Prop where
 inv:Inv X aa U (upd H3 D (.lst ys)) s'
 fresh:H3 D=none
 fp:Ht X aa (upd H3 D (.lst ys)) C
 ns:∃m,s'.heap.Ns C m
theorem Hj {D:Addr}(I:Inv X aa U H s)(hf:∀b∈fp,Ht X aa H b)(hD:s.heap.objs.size<=D)(cg:D<C)
  (I4:Inv Y [(D,lob its k)] U' H3 s4)(d6:s4.os=s.os)(u:Un (frs X.stack) fp H H3 s.heap s4.heap)(hok:HOk X.prog X.w H3 s4.heap)(hC:Y.env.locals=C)(rv:X9 ys its)(hz:ys.length<=sizeLine):CompEnd X aa U H3 D C ys s4:=by
 subst hC
 have p:=I4.pin (D,lob its k) (List.mem_append_right _ (.head _))
 have hDn:H3 D=none:=p.2.1
 have up:∀{b:Addr}{o:HO},H3 b=some o->upd H3 D (.lst ys) b=some o:=λe=>(X8 (YD e hDn)).trans e
 refine⟨I.call' (ch:=fp) d6 ⟨u.keep,u.slot,λb o e nn hx=>(X8 (Nat.ne_of_lt (Nat.lt_of_lt_of_le (Heap.lt_size e) hD))).trans (u.free b o e nn hx),u.there,λb xs e=>up (u.tups b xs e),λb o xs e=>up (u.frzs b o xs e),λb ps e=>(u.tbls b ps e).elim λmore z=>⟨more,up z⟩⟩ (λa o e=>?_) I4.bare λb hb=>have z:=hf b hb;⟨z.2.2.2.1,z.2.1,z.2.2.2.2.1,z.2.2.2.2.2⟩,hDn,I.fpOk (Nat.le_trans hD (Nat.le_of_lt cg)) ((X8 (Nat.ne_of_gt cg)).trans I4.free),I4.loc.elim λm z=>⟨m,z.1⟩⟩
 by_cases ha:a=D
 ·subst ha
  rw[Yg] at e;cases e
  exact⟨hz,its,k,rv,p.1⟩
 ·rw[X8 ha] at e
  exact(hok a o e).stay (λb u _ q=>q) (λb q=>up q) λb xs q=>up q
def AR (X:Cx)(bc tg iter:Expr)(bf:List Expr)(scope:Scope)(pos:Pos)(it:Value)(cl:List (Str×Addr))(RR:Value->Addr->Result->Shared->Prop)(E:Value->Shared->Prop)(s:Shared):Prop:=
 wpAny (model X.prog X.w) X.A (newList []) (λacc s₃=>wpAny (model X.prog X.w) X.A (newFunctionEnv scope X.env.globals cl [] X.env.qual none .none (some X.env)) (λeG s₄=>
   codeAny (model X.prog X.w) X.A (.compStart (.ListComp bc [⟨tg,iter,bf,0⟩] scope pos) 0 it acc {eG with scope:=relabel scope X.env}) (RR acc eG.locals) s₄) E s₃) E s
theorem Gf (e:(Yf n caps U)[i]?=some (some v)):n<=i/\∃p,caps[i-n]?=some p/\U[p.1]?=some (some v):=by
 unfold Yf at e
 by_cases h:i<n
 ·rw[List.getElem?_append_left (by simpa using h),List.getElem?_replicate,if_pos h] at e
  cases e
 ·have hi:=Nat.le_of_not_lt h
  rw[List.getElem?_append_right (by simpa using hi),List.length_replicate,List.getElem?_map] at e
  refine⟨hi,?_⟩
  cases gQ:caps[i-n]? with
  |none=>rw[gQ] at e;cases e
  |some p=>
   rw[gQ] at e
   exact⟨p,rfl,Option.join_eq_some_iff.mp (Option.some.inj e)⟩
structure COk (X:Cx)(scope:Scope)(caps:List (Nat×Str)):Prop where
 kind:scope.kind= .function
 cell:∀y∈scope.names,y.2≠NameKind.cell
 loc:∀y∈scope.names,y.2= .local->scope.names.lookup y.1=some .local
 free:∀y∈scope.names,y.2= .free->X.env.scope.names.lookup y.1=some .cell
 caps:∀p∈caps,(X.N[p.1]?=some p.2/\X.env.scope.names.lookup p.2=some .cell)/\scope.names.lookup p.2=some .free
theorem COk.of (dy:X.env.scope=sc)(dI:X.N=N0)(ok:Cj sc scope N0 tns caps=true):COk X scope caps:=by
 subst dy
 subst dI
 unfold Cj at ok
 simp only[Bool.and_eq_true,List.all_eq_true,beq_iff_eq,Bool.or_eq_true,Bool.not_eq_true',beq_eq_false_iff_ne] at ok
 exact⟨ok.1.1.1.1,ok.1.1.1.2,λy hy e=>(ok.1.1.2 y hy).resolve_left (absurd e),λy hy e=>(ok.1.2 y hy).resolve_left (absurd e),ok.2⟩
section
variable {fp:List Addr}{cl:List (Str×Addr)}{C:Addr}{h₁:Heap}
theorem RC (ok:COk X scope caps)(I:Inv X aa U H s)(hf:∀b∈fp,Ht X aa H b)(ap:∀b∈fp,b<s.heap.objs.size)
  (ar:∀x c,cl.lookup x=some c->X.env.cells.lookup x=some c)(bd:∀x,(x,NameKind.free)∈scope.names->∃c,cl.lookup x=some c)(hC:s.heap.objs.size<C):(X.comp N scope cl C s H fp E).Ok:=
 ⟨I.ok.mod,ok.kind,I.ok.glob,I.ok.blt,Nat.le_of_lt hC,λx y c h1 h2=>I.ok.inj x y c (ar x c h1) (ar y c h2),λx hx=>bd x (hx.elim (λz=>VR ok.cell z (.inl rfl)) λz=>VR ok.cell z (.inr rfl)),(λx c hx=>by cases hx),I.ok.hd,I.ok.frames, .inl rfl,
  λb hb=>⟨Nat.ne_of_lt (Nat.lt_trans (ap b hb) hC),λx c e=>(hf b hb).2.2.2.2.1 x c (ar x c e)⟩,I.bs,Nat.le_trans I.ok.bsz I.sz,λb o e hb=>(hf b hb).2.2.2.1.elim (I.ok.noex b o e) λz=>absurd (Nat.lt_of_lt_of_le (Heap.lt_size e) (Nat.le_trans I.ok.bsz z)) (Nat.lt_irrefl _),
  λb hb hz=>(List.mem_cons.mp (I.stkSub b hz)).elim (hf b hb).2.1 (hf b hb).2.2.1,I.stack,I.stkFree⟩
theorem No (eI:COk X scope caps)(hn:tns.length=n)(ok:(X.comp (tns++caps.map (·.2)) scope cl C s H fp E).Ok)(I:Inv X aa U H s)
  (ar:∀x c,cl.lookup x=some c->X.env.cells.lookup x=some c)(bd:∀x,(x,NameKind.free)∈scope.names->∃c,cl.lookup x=some c)(hC:s.heap.objs.size<C)(du:h₁.Ns C λ_=>none)(bR:∀b o,s.heap.get? b=some o->h₁.get? b=some o){tk:Nat}:
  Inv (X.comp (tns++caps.map (·.2)) scope cl C s H fp E) [] (Yf n caps U) H {s with heap:=h₁,toks:=tk}:=by
 refine⟨ok,rfl,I.bare,Un.kept bR,⟨_,du,λi x v e1 e2 _=>?_⟩,λx c e=>(I.cell x c (ar x c e)).elim λv z=>z.elim λo z=>⟨v,o,bR _ _ z.1,z.2⟩,I.hok.fresh (Nat.le_of_lt hC),λx c e=>I.freeC x c (ar x c e),λp hp=>Bp (M:=Addr×Obj) hp,I.hok.kept bR,by simp[Yf,hn]⟩
 obtain⟨hi,p,hp,hσ⟩:=Gf e2
 have fg:(tns++caps.map (·.2))[i]?=some x:=e1
 rw[List.getElem?_append_right (hn▸hi),hn,List.getElem?_map,hp] at fg
 cases Option.some.inj fg
 have p5:=eI.caps p (List.mem_of_getElem? hp)
 obtain⟨m,hm,hl⟩:=I.loc
 obtain⟨u,r,l⟩:=hl p.1 p.2 v p5.1.1 hσ (.inr (.inl p5.1.2))
 refine⟨u,r, .inr ?_⟩
 rcases l with⟨k,_⟩ | ⟨k,c,e,z⟩
 ·cases p5.1.2.symm.trans k
 ·obtain⟨c',e'⟩:=bd p.2 (mem_of_lookup p5.2)
  cases e.symm.trans (ar _ _ e')
  exact⟨JC (env:=X.env) p5.2,c,e',z.elim λo z=>⟨o,bR _ _ z.1,z.2⟩⟩
variable {J:It}{it:Addr}{tn:Nat->Heap->Prop}{Q:V->Hp->Prop}{RR:Value->Addr->Result->Shared->Prop}{W:Nat->Nat->List V->Hp->Prop}{m0:Nat}
theorem Se (ok:COk X scope caps)(hc:X.calm=true)(hn:tns.length=n)(hG:Kj n g)
  (hb:∀cl C s H ex E,PG (X.comp (tns++caps.map (·.2)) scope cl C s H ex E) tg g/\PTs (X.comp (tns++caps.map (·.2)) scope cl C s H ex E) bf tt/\PE (X.comp (tns++caps.map (·.2)) scope cl C s H ex E) bc te)
  (I:Inv X aa U H s)(T:Turn X.prog X.w X.K tg J fp it tn)(t0:tn 0 s.heap)(hf:∀b∈fp,Ht X aa H b)
  (ar:∀x c,cl.lookup x=some c->X.env.cells.lookup x=some c)(bd:∀x,(x,NameKind.free)∈scope.names->∃c,cl.lookup x=some c)
  (w0:W 0 m0 [] H)(turn:M9 g tt te (Yf n caps U) Q J W)
  (im:∀D C ys H3 s',CompEnd X aa U H3 D C ys s'->Q (.ref D) (upd H3 D (.lst ys))->RR (.ref D) C (.ok .next) s')
  (hC:s.heap.objs.size<C)(du:h₁.Ns C λ_=>none)(bR:∀b o,s.heap.get? b=some o->h₁.get? b=some o)(dJ:h₁.get? s.heap.objs.size=some (lob [] 0)){tk:Nat}:
  codeAny (model X.prog X.w) X.A (.compStart (.ListComp bc [⟨tg,iter,bf,0⟩] scope pos) 0 (.ref it) (.ref s.heap.objs.size) (compEnvC scope cl C X.env)) (RR (.ref s.heap.objs.size) C) {s with heap:=h₁,toks:=tk}:=by
 have ap:∀b∈fp,b<s.heap.objs.size:=λb hb=>(T.obj _ _ t0 b hb).elim λo e=>Heap.lt_size e.1
 have okY:∀E,(X.comp (tns++caps.map (·.2)) scope cl C s H fp E).Ok:=λE=>RC ok I hf ap ar bd hC
 have t1:tn 0 h₁:=T.keep _ _ _ t0 λb _ o e=>bR b o e
 have cZ:∀tk,codeAny (model X.prog X.w) X.A (.compLoop (.ListComp bc [⟨tg,iter,bf,0⟩] scope pos) 0 (.ref it) (.ref s.heap.objs.size) (compEnvC scope cl C X.env)) (RR (.ref s.heap.objs.size) C) {s with heap:=h₁,toks:=tk}:=λtk=>
  have z:=hb cl C s H fp (notedBy (model X.prog X.w) X.A (compEnvC scope cl C X.env) λe s'=>RR (.ref s.heap.objs.size) C (.error e) s')
  FC (Y:=X.comp (tns++caps.map (·.2)) scope cl C s H fp _) rfl T hG z.1 z.2.1 z.2.2
   ⟨hc,rfl,Nat.ne_of_lt hC,λhz=>(I.stack.mem hz).2.elim λo ho=>absurd (Heap.lt_size ho.1) (Nat.lt_irrefl _),Nat.le_refl _,λx c e=>(I.cell x c (ar x c e)).elim λv z=>Nat.ne_of_lt z.lt,λb hb=>Nat.ne_of_lt (ap b hb),
    λb hb H' h'=>⟨h',Nat.ne_of_lt (Nat.lt_trans (ap b hb) hC),(okY λ_ _=>True).exfs b hb, .inl hb,λx c e=>(hf b hb).2.2.2.2.1 x c (ar x c e),λp hp=>Bp (M:=Addr×Obj) hp⟩⟩
   (λj v e=>(Gf e).1) turn (λys its k H3 s4 I4 rv hz q=>im _ C ys H3 s4 (Hj I hf (Nat.le_refl _) hC I4 I4.os I4.base I4.hok rfl rv hz) q)
   (.mk 0 H [] [] 0 ⟨No ok hn (okY _) I ar bd hC du bR,t1,λb hb=>(hf b hb).1,dJ,I.hok.fresh (Nat.le_refl _)⟩ .nil w0)
 exact codeAny_compStart_list (cZ _) (T.self _ 0 _ _ _ t1 (cZ _))
theorem Fv (ok:COk X scope caps)(hc:X.calm=true)(hn:tns.length=n)(hG:Kj n g)
  (hb:∀cl C s H ex E,PG (X.comp (tns++caps.map (·.2)) scope cl C s H ex E) tg g/\PTs (X.comp (tns++caps.map (·.2)) scope cl C s H ex E) bf tt/\PE (X.comp (tns++caps.map (·.2)) scope cl C s H ex E) bc te)
  (h:PIE X aa U tg (λJ H1=>Ol n caps g tt te U Q J H1) gb s)
  (ar:∀x c,cl.lookup x=some c->X.env.cells.lookup x=some c)(bd:∀x,(x,NameKind.free)∈scope.names->∃c,cl.lookup x=some c)
  (im:∀D C ys H3 s',CompEnd X aa U H3 D C ys s'->Q (.ref D) (upd H3 D (.lst ys))->RR (.ref D) C (.ok .next) s'):
  AR X bc tg iter bf scope pos gb cl RR E s:=by
 obtain⟨it,fp,tn,J,H',rfl,I,T,t0,hf,W,⟨m0,w0⟩,turn⟩:=h
 refine wpAny_newObj_type (wpAny_newFunctionEnv ok.cell (by intro y hy;simp at hy) (λh₁ eJ c8=>?_) ok.kind)
 have hs:∀o,(s.heap.push o).objs.size=s.heap.objs.size+1:=λo=>Heap.size_push ..
 exact Se ok hc hn hG hb I T t0 hf ar bd w0 turn im (Nat.lt_of_lt_of_eq (Nat.lt_succ_self _) (hs _).symm) eJ
  (λb o e=>c8.extBut b o (Nat.ne_of_lt (Nat.lt_trans (Heap.lt_size e) (Nat.lt_of_lt_of_eq (Nat.lt_succ_self _) (hs _).symm))) (Heap.get?_push_of_some _ (Heap.get?_push_of_some _ e)))
  (c8.extBut _ _ (Nat.ne_of_lt (Nat.lt_of_lt_of_eq (Nat.lt_succ_self _) (hs _).symm)) (Heap.get?_push_of_some _ (Heap.get?_push_size _ rfl)))
end
theorem O3 (sc:Scope)(N0:List Str)(tns:List Str)(caps:List (Nat×Str))(hc:X.calm=true)(hi:PI X tg iter wi)(hG:Kj tns.length g)
  (hb:∀cl C s H ex E,PG (X.comp (tns++caps.map (·.2)) scope cl C s H ex E) tg g/\PTs (X.comp (tns++caps.map (·.2)) scope cl C s H ex E) bf tt/\PE (X.comp (tns++caps.map (·.2)) scope cl C s H ex E) bc te)
  (dy:X.env.scope=sc:=by rfl)(dI:X.N=N0:=by rfl)(ok:Cj sc scope N0 tns caps=true:=by decide+kernel)
  (hs:∀x,foldedSetIterable iter X.env x=pure x:=by intro _;rfl):
  PE X (.ListComp bc [⟨tg,iter,bf,0⟩] scope pos) (Eo tns.length caps wi g tt te):=by
 intro aa s U H Q I h
 have eI:=COk.of dy dI ok
 obtain⟨cl,io,ar,bd⟩:=BU (scope:=scope) (env:=X.env) λx hx dL=>I.ok.has x.1 (.inl (eI.free x hx dL))
 rw[eval_ListComp]
 exact wpAny_comprehension_free (use:=none) rfl hs io eI.kind eI.loc (thn (hi aa s U H _ I h) λxv s₁ h₁=>thn h₁ λgb s₂ h₂=>
  Fv (RR:=λacc C=>compPost (model X.prog X.w) X.A X.xe none (EP X aa U Q) acc C) eI hc rfl hG hb h₂ ar bd λD C ys H3 s' ce q=>ce.ns.elim λmm du=>
   ⟨mm,du,λh' dH=>⟨.ref D,_,ce.inv.turned (t':=s'.toks) (λb o hb' e=>(dH.extBut b o hb' e)) ce.fp.1 ce.fp.2.1 ce.fp.2.2.2.1 ce.fp.2.2.2.2.1 ce.fp.2.2.2.2.2,rfl,q⟩⟩)
theorem JE (j:Nat)(sc:Scope)(N0:List Str)(tns:List Str)(caps:List (Nat×Str))(hc:X.calm=true)(hN:X.N.Nodup)(hj:X.N[j]?=some x)(hx:X.env.scope.names.lookup x=some .local)(hi:PI X tg iter wi)(hG:Kj tns.length g)
  (hb:∀cl C s H ex E,PG (X.comp (tns++caps.map (·.2)) scope cl C s H ex E) tg g/\PTs (X.comp (tns++caps.map (·.2)) scope cl C s H ex E) bf tt/\PE (X.comp (tns++caps.map (·.2)) scope cl C s H ex E) bc te)
  (dy:X.env.scope=sc:=by rfl)(dI:X.N=N0:=by rfl)(ok:Cj sc scope N0 tns caps=true:=by decide+kernel)
  (hsw:swapsWith (.ListComp bc [⟨tg,iter,bf,0⟩] scope pos) (some (.Name x px)) spos.line X.env=pure true:=by rfl)
  (hs:∀x,foldedSetIterable iter X.env x=pure x:=by intro _;rfl):
  PS X (.Assign [.Name x px] (.ListComp bc [⟨tg,iter,bf,0⟩] scope pos) spos) (G7 (Eo tns.length caps wi g tt te) (X4 j)):=by
 intro aa s U H D I h
 have eI:=COk.of dy dI ok
 obtain⟨cl,io,ar,bd⟩:=BU (scope:=scope) (env:=X.env) λx hx dL=>I.ok.has x.1 (.inl (eI.free x hx dL))
 rw[exec_Assign_Name_used _ _ _ _ hsw]
 refine wpAny_bind (wpAny_standAt (wpAny_bind ?_))
 show wpAny _ _ (do let _ ←comprehension (.ListComp bc [⟨tg,iter,bf,0⟩] scope pos) scope X.env _ (newList []) false (eval iter X.env) (some (assign (.Name x px) X.env))) _ _ s
 refine wpAny_bind (thn (wpAny_comprehension_free (use:=some (assign (.Name x px) X.env)) (Q:=λ_ s'=>SP X aa D .next s') rfl hs io eI.kind eI.loc
  (thn (hi aa s U H _ I h) λxv s₁ h₁=>thn h₁ λgb s₂ h₂=>?_)) λ_ s' hq=>wpAny_pure (wpAny_pure hq))
 refine Fv (Q:=λv H1=>X4 j v U H1 D.nx) (RR:=λacc C=>compPost (model X.prog X.w) X.A X.xe (some (assign (.Name x px) X.env)) (λ_ s'=>SP X aa D .next s') acc C) eI hc rfl hG hb h₂ ar bd ?_
 intro DD C ys H3 s' ce q
 obtain⟨mm,du⟩:=ce.ns
 obtain⟨c0,c1,c2,c3,c4,c5⟩:=ce.fp
 show wpAny _ _ (assign (.Name x px) X.env (.ref DD)) _ _ _
 refine wpAny_assign_Name (Bz ce.inv hN hj (.inl hx) (v:=.ref DD) rfl (λs2 I2 chg=>?_) (.inr hx))
 obtain⟨c,hsb,hcc⟩:=chg
 have hCc:C≠c:=by
  rcases hcc with z |z
  ·rw[z];exact c1
  ·exact λe=>c4 x c z e.symm
 refine⟨mm,?_,λh' dH=>?_⟩
 ·obtain⟨o,es,ep,ho,r⟩:=du
  exact⟨o,es,ep,(hsb.2 C hCc).trans ho,r⟩
 ·exact⟨_,_,I2.turned (t':=s2.toks) (λb o hb' e=>(dH.extBut b o hb' e)) c0 c1 c3 c4 c5,q⟩
end
section
variable {g:TG}{tt:TT}{Q:V->Hp->Prop}
end
section
def Db (K:W.Frag):List V->Hp->VK->Prop:=λxs H Q=>∃ p ys,xs=[.ref p]/\(SqL K H p ys∨SqT K H p ys)/\∀l,H l=none->Q (.ref l) (upd H l (.lst ys))
def V4 (K:W.Frag):List V->Hp->VK->Prop:=λxs H Q=>∃ p ys,xs=[.ref p]/\(SqL K H p ys∨SqT K H p ys)/\Q (.int ys.length) H
theorem XW (K:W.Frag)(h:X.K=K):ZX X (.type "list") (Db K):=by subst h;exact By
theorem Yu (K:W.Frag)(h:X.K=K):ZX X (.builtin "len") (V4 K):=by subst h;exact CZ
theorem Y0 (K:W.Frag)(h:X.K=K):IxR X (HJ K):=by subst h;exact Pa
theorem Es (K:W.Frag)(h:X.K=K):IxR X (B7 K):=by subst h;exact SK
theorem Ym (K:W.Frag)(h:X.K=K):SlR X (S3 K):=by subst h;exact Sq
theorem P8 (K:W.Frag)(h:X.K=K)(hc:X.calm=true)(hh:PGs X es t)
  (hn:(assignEach es X.env).length=n:=by rfl)(dZ:(assignEach es X.env).findIdx? (·.1)=none:=by rfl):PG X (.Tuple es k pos) (Ii K n t):=by subst h;exact ZT hc hh hn dZ
end
structure Fn (P:Program)(w:World)(K:W.Frag)(mg:Str->Option Value)(base:Heap)(k:Nat)(x:Str)(ps:List Str)(sp:Sp):Prop where
 ex:∃f fd,FnOk P w K mg base CX0 k f fd ps sp/\Bo K fd ps []/\W.keepIn K (.ref f)=true/\mg x=some (.ref f)
section
variable {sp:Sp}{t:TA}{p:Pos}
theorem NE (G:Fn X.prog X.w X.K X.mg X.base k x ps sp)(hr:Room j X.A)(hj:k<=j)(ha:PA X (e::es) t)(hg:Gl X x:=by rfl)(c7:(x==("__debug__":Str))=false:=by decide)
  (he:starEach (e::es) X.env=(false,eval e X.env)::starEach es X.env:=by rfl)(hpl:(backTo pos (starEach es X.env)).any (·.1)=false:=by rfl):
  PE X (.Call (.Name x p) (e::es) [] pos) (Qy sp [] E0 t):=by
 obtain⟨f,fd,F,b,kp,m⟩:=G.ex
 exact Le F (hr.mono hj) hg m kp b .nil WD ha c7 he hpl
end
def Def (K:W.Frag)(mg:Str->Option Value)(x:Str)(st:Stmt)(ps:List Str):Prop:=∃ f fd,Fun K x x st f fd/\Bo K fd ps []/\mg x=some (.ref f)
theorem Fa {st:Stmt}{sp:Sp}(D:Def K mg x st ps)(S:FnScope N ps (Xg st))(len:∀vs H Q E,sp vs H Q E->vs.length=ps.length)
  (bQ:∀(f:Addr) (ah:Value) (A:Around) (outer:List Env) (s:Shared) (H:Hp) (vs:List V) (Q:VK) (E:XK),Room k (A.deeper (envOfC x (Xg st) s.heap.objs.size f ah))->sp vs H Q E->
   ∃t,PSs (Ca CX0 P w K mg base N x (Xg st) f ah A outer s H E).nox (X3 st) t/\t {nx:=λ_ H'=>Q .non H',rt:=Q} (Kh N vs) H):Fn P w K mg base (k+1) x ps sp:=by
 obtain⟨f,fd,F,b,m⟩:=D
 exact⟨f,fd,F.ok S len (bQ f),b,F.kp,m⟩
theorem Vt {a d:Nat}(h:d<=8)(hu:a+8<c):a+d<c:=by omega
theorem XR (h:H p=none)(o:HO):Xu H (upd H p o):=λb u q=>by rw[X8 (YD q h)];exact q
theorem Xu.seqT (e:Xu H H')(h:SqT K H a xs):SqT K H' a xs:=by
 rcases h with(h | ⟨o,h⟩) |h
 ·exact .inl (.inl (e _ _ h))
 ·exact .inl (.inr ⟨o,e _ _ h⟩)
 ·exact .inr h
theorem hu8 (hr:Room k A):A.units+8<cLine:=Nat.lt_of_le_of_lt (Nat.add_le_add_left (by decide:8<=64) _) hr.units
abbrev Enc (M:Type):=W.Frag->Hp->V->M->Prop
def Xf:Enc Int:=λ_ _ v i=>v= .int i
def rL (r:Enc M):Enc (List M):=λK H v as=>∃ a xs,v= .ref a/\SqL K H a xs/\Paired (r K H) xs as
def rT2 (r:Enc M)(q:Enc L):Enc (M×L):=λK H v p=>∃ a x y,v= .ref a/\SqT K H a [x,y]/\r K H x p.1/\q K H y p.2
theorem Paired.getL:∀{l:List M}{m:List L}{i:Nat}{a:M},Paired F l m->l[i]?=some a->∃b,m[i]?=some b/\F a b
 |_,_,_,_, .nil,e=>by simp at e
 |_,_,0,_, .cons r _,e=>by simp at e;subst e;exact⟨_,rfl,r⟩
 |_,_,i+1,a, .cons _ t,e=>by
  obtain⟨b,h1,h2⟩:=Paired.getL (i:=i) (a:=a) t (by simpa using e)
  exact⟨b,by simpa using h1,h2⟩
theorem Paired.getR:∀{l:List M}{m:List L}{i:Nat}{b:L},Paired F l m->m[i]?=some b->∃a,l[i]?=some a/\F a b
 |_,_,_,_, .nil,e=>by simp at e
 |_,_,0,_, .cons r _,e=>by simp at e;subst e;exact⟨_,rfl,r⟩
 |_,_,i+1,b, .cons _ t,e=>by
  obtain⟨a,h1,h2⟩:=Paired.getR (i:=i) (b:=b) t (by simpa using e)
  exact⟨a,by simpa using h1,h2⟩
theorem Paired.len (h:Paired F l m):l.length=m.length:=Paired.length h
theorem Paired.app:∀{l l':List M}{m m':List L},Paired F l m->Paired F l' m'->Paired F (l++l') (m++m'):=λp h=>by
 induction p with
 |nil=>exact h
 |cons r _ ih=>exact .cons r ih
theorem BN (ns:List Int):∀{K:W.Frag}{H:Hp},Paired (Xf K H) (ns.map V.int) ns:=by
 intro K H
 induction ns with
 |nil=>exact .nil
 |cons n r ih=>exact .cons rfl ih
theorem Gy:∀{xs:List V}{ns:List Int}{K:W.Frag}{H:Hp},Paired (Xf K H) xs ns->xs=ns.map V.int
 |_,_,_,_, .nil=>rfl
 |_,_,_,_, .cons r t=>by
  have r':_=V.int _:=r
  rw[r',Gy t];rfl
structure EqOk {M:Type}[DecidableEq M](r:Enc M)(d:Nat):Prop where
 uniq:∀{X:Cx}{aa:List (Addr×Obj)}{U:St}{H:Hp}{s:Shared}{x:V}{a b:M},Inv X aa U H s->r X.K H x a->r X.K H x b->a=b
 eq:∀{X:Cx}{aa:List (Addr×Obj)}{U:St}{H:Hp}{s:Shared}{x y:V}{v u:Value}{a b:M}{A:Around},Inv X aa U H s->XZ x v->XZ y u->r X.K H x a->r X.K H y b->A.units+d<cLine->SeqAt.EqAt A s v u (decide (a=b))
 rc:∀{X:Cx}{aa:List (Addr×Obj)}{U:St}{H:Hp}{s:Shared}{x y:V}{v u:Value}{a b:M}{A:Around},Inv X aa U H s->XZ x v->XZ y u->r X.K H x a->r X.K H y b->A.units+d<cLine->SeqAt.RcAt A s v u (decide (a=b))
 ne:∀{X:Cx}{aa:List (Addr×Obj)}{U:St}{H:Hp}{s:Shared}{x y:V}{v u:Value}{a b:M}{A:Around},Inv X aa U H s->XZ x v->XZ y u->r X.K H x a->r X.K H y b->A.units+d<cLine->SeqAt.RcNeAt A s v u (!decide (a=b))
 keep:∀{K:W.Frag}{H H':Hp}{x:V}{a:M},Xu H H'->r K H x a->r K H' x a
theorem ZD (A:Around):A.in1.units=A.units+1:=rfl
theorem NA {a b:Int}:(a==b)=decide (a=b):=by rw[Bool.eq_iff_iff];simp
theorem eq_int:EqOk Xf 0 where
 uniq:=λ_ h1 h2=>by
  have bD:_=V.int _:=h1
  have br:_=V.int _:=h2
  rw[bD] at br;injection br
 eq:=fun {X aa U H s x y v u a b A} I rx ry h1 h2 _=>by
  have bD:x=V.int a:=h1
  have br:y=V.int b:=h2
  subst bD br
  obtain⟨t,rfl⟩:=rx
  obtain⟨t',rfl⟩:=ry
  rw[←NA];exact SeqAt.EqAt.int_int a t b t'
 rc:=fun {X aa U H s x y v u a b A} I rx ry h1 h2 _=>by
  have bD:x=V.int a:=h1
  have br:y=V.int b:=h2
  subst bD br
  obtain⟨t,rfl⟩:=rx
  obtain⟨t',rfl⟩:=ry
  rw[←NA];exact SeqAt.RcAt.int_int a t b t'
 ne:=fun {X aa U H s x y v u a b A} I rx ry h1 h2 _=>by
  have bD:x=V.int a:=h1
  have br:y=V.int b:=h2
  subst bD br
  obtain⟨t,rfl⟩:=rx
  obtain⟨t',rfl⟩:=ry
  rw[←NA];exact SeqAt.RcNeAt.int_int a t b t'
 keep:=λ_ h=>h
theorem En [DecidableEq M](h:as.length=bs.length):(List.range as.length).all (λj=>decide (as[j]?=bs[j]?))=decide (as=bs):=by
 rw[Bool.eq_iff_iff]
 simp only[List.all_eq_true,List.mem_range,decide_eq_true_eq]
 constructor
 ·intro hh
  apply List.ext_getElem?
  intro i
  by_cases hi:i<as.length
  ·exact hh i hi
  ·rw[List.getElem?_eq_none (by omega),List.getElem?_eq_none (by omega)]
 ·rintro rfl;intros;rfl
theorem Paired.uniq (hu:∀a b c,F a b->F a c->b=c):∀{l:List M}{m m':List L},Paired F l m->Paired F l m'->m=m':=fun {l m m'} p=>by
 induction p generalizing m' with
 |nil=>intro q;cases q;rfl
 |cons r _ ih=>intro q;cases q with |cons r' t'=>rw[hu _ _ _ r r',ih t']
theorem Paired.imp2 (h:∀a b,F a b->G a b):∀{l:List M}{m:List L},Paired F l m->Paired G l m:=λp=>by
 induction p with
 |nil=>exact .nil
 |cons r _ ih=>exact .cons (h _ _ r) ih
section
variable [DecidableEq M]{r:Enc M}{d:Nat}
theorem Fg (E:EqOk r d)(I:Inv X aa U H s)(hu:A.units+(d+1)<cLine)
  (r1:X9 xs its)(r2:X9 ys aB)(p1:Paired (r X.K H) xs as)(p2:Paired (r X.K H) ys bs):
  ∀j (h1:j<its.toArray.size) (h2:j<aB.toArray.size),SeqAt.EqAt A.in1 s its.toArray[j] aB.toArray[j] (decide (as[j]?=bs[j]?)):=by
 intro j h1 h2
 have bD:j<its.length:=by simpa using h1
 have br:j<aB.length:=by simpa using h2
 obtain⟨x,ex,rx⟩:=Paired.getR (i:=j) (b:=its[j]) r1 (by simp[bD])
 obtain⟨y,ey,ry⟩:=Paired.getR (i:=j) (b:=aB[j]) r2 (by simp[br])
 obtain⟨a,ea,ra⟩:=Paired.getL p1 ex
 obtain⟨b,eb,rb⟩:=Paired.getL p2 ey
 have:=E.eq (A:=A.in1) I rx ry ra rb (by rw[ZD];omega)
 rw[ea,eb]
 simpa using this
theorem RK (E:EqOk r d):EqOk (rL r) (d+1):=by
 have un:∀{X:Cx}{aa:List (Addr×Obj)}{U:St}{H:Hp}{s:Shared}{x:V}{a b:List M},Inv X aa U H s->rL r X.K H x a->rL r X.K H x b->a=b:=by
  intro X aa U H s x as bs I h1 h2
  obtain⟨a,xs,rfl,q1,p1⟩:=h1
  obtain⟨b,ys,e,q2,p2⟩:=h2
  cases e
  cases I.list_inj q1 q2
  exact Paired.uniq (F:=r X.K H) (λ_ _ _ z z'=>E.uniq I z z') p1 p2
 have rc:∀{X:Cx}{aa:List (Addr×Obj)}{U:St}{H:Hp}{s:Shared}{x y:V}{v u:Value}{a b:List M}{A:Around},Inv X aa U H s->XZ x v->XZ y u->rL r X.K H x a->rL r X.K H y b->A.units+(d+1)<cLine->SeqAt.RcAt A s v u (decide (a=b)):=by
  intro X aa U H s x y v u as bs A I rx ry h1 h2 hu
  obtain⟨a,xs,rfl,q1,p1⟩:=h1
  obtain⟨b,ys,rfl,q2,p2⟩:=h2
  cases rx;cases ry
  obtain⟨its,r1,l1,_⟩:=I.list q1
  obtain⟨aB,r2,l2,_⟩:=I.list q2
  have n1:=r1.length
  have n2:=r2.length
  have m1:=Paired.len p1
  have m2:=Paired.len p2
  by_cases hl:as.length=bs.length
  ·have:=SeqAt.RcAt.lists (A:=A) (e:=λj=>decide (as[j]?=bs[j]?)) l1.isList l2.isList (by simp only[List.size_toArray];omega) (by omega) (Fg E I hu r1 r2 p1 p2)
   rw[show its.toArray.size=as.length by simp only[List.size_toArray];omega,En hl] at this
   exact this
  ·rw[decide_eq_false (λe=>hl (congrArg List.length e))]
   exact SeqAt.RcAt.lists_lengths l1.isList l2.isList (by simp only[List.size_toArray,bne_iff_ne];omega) (by omega)
 refine⟨un,?_,rc,?_,?_⟩
 ·intro X aa U H s x y v u as bs A I rx ry h1 h2 hu
  obtain⟨a,xs,rfl,q1,p1⟩:=id h1
  obtain⟨b,ys,rfl,q2,p2⟩:=id h2
  have R:=rc (A:=A) I rx ry h1 h2 hu
  cases rx;cases ry
  by_cases e:a=b
  ·subst e
   rw[decide_eq_true (un I h1 h2)]
   exact SeqAt.EqAt.same _
  ·exact SeqAt.EqAt.of_refs e R
 ·intro X aa U H s x y v u as bs A I rx ry h1 h2 hu
  obtain⟨a,xs,rfl,q1,p1⟩:=h1
  obtain⟨b,ys,rfl,q2,p2⟩:=h2
  cases rx;cases ry
  obtain⟨its,r1,l1,_⟩:=I.list q1
  obtain⟨aB,r2,l2,_⟩:=I.list q2
  have n1:=r1.length
  have n2:=r2.length
  have m1:=Paired.len p1
  have m2:=Paired.len p2
  by_cases hl:as.length=bs.length
  ·have:=SeqAt.RcNeAt.lists (A:=A) (e:=λj=>decide (as[j]?=bs[j]?)) l1.isList l2.isList (by simp only[List.size_toArray];omega) (by omega) (Fg E I hu r1 r2 p1 p2)
   rw[show its.toArray.size=as.length by simp only[List.size_toArray];omega,En hl] at this
   exact this
  ·rw[decide_eq_false (λe=>hl (congrArg List.length e))]
   exact SeqAt.RcNeAt.lists_lengths l1.isList l2.isList (by simp only[List.size_toArray,bne_iff_ne];omega) (by omega)
 ·intro K H H' x as e h
  obtain⟨a,xs,rfl,q1,p1⟩:=h
  exact⟨a,xs,rfl,e.seq q1,Paired.imp2 (λ_ _ z=>E.keep e z) p1⟩
end
section
variable [DecidableEq M][DecidableEq L]{r:Enc M}{q:Enc L}{d:Nat}
theorem EB {a1 a2:M}{b1 b2:L}:(decide (a1=a2)&&decide (b1=b2))=decide ((a1,b1)=(a2,b2)):=by
 rw[Bool.eq_iff_iff];simp
theorem Re (E:EqOk r d)(F:EqOk q d):EqOk (rT2 r q) (d+1):=by
 have un:∀{X:Cx}{aa:List (Addr×Obj)}{U:St}{H:Hp}{s:Shared}{x:V}{a b:M×L},Inv X aa U H s->rT2 r q X.K H x a->rT2 r q X.K H x b->a=b:=by
  rintro X aa U H s x ⟨a1,a2⟩ ⟨b1,b2⟩ I h1 h2
  obtain⟨a,x1,x2,rfl,q1,p1,p2⟩:=h1
  obtain⟨b,y1,y2,e,q2,p3,p4⟩:=h2
  cases e
  cases I.tuple_inj q1 q2
  rw[show a1=b1 from E.uniq I p1 p3,show a2=b2 from F.uniq I p2 p4]
 have its:∀{X:Cx}{aa:List (Addr×Obj)}{U:St}{H:Hp}{s:Shared}{x1 x2 y1 y2:V}{u1 u2 w1 w2:Value}{a b:M×L}{A:Around},Inv X aa U H s->XZ x1 u1->XZ x2 u2->XZ y1 w1->XZ y2 w2->
   r X.K H x1 a.1->q X.K H x2 a.2->r X.K H y1 b.1->q X.K H y2 b.2->A.units+(d+1)<cLine->
   ∀j (h1:j< [u1,u2].toArray.size) (h2:j< [w1,w2].toArray.size),SeqAt.EqAt A.in1 s [u1,u2].toArray[j] [w1,w2].toArray[j] ((λj=>if j=0 then decide (a.1=b.1) else decide (a.2=b.2)) j):=by
  intro X aa U H s x1 x2 y1 y2 u1 u2 w1 w2 a b A I e1 e2 e3 e4 p1 p2 p3 p4 hu j h1 h2
  have hj:j=0∨j=1:=by
   have bD:j<2:=h1
   omega
  rcases hj with rfl |rfl
  ·exact E.eq (A:=A.in1) I e1 e3 p1 p3 (by rw[ZD];omega)
  ·exact F.eq (A:=A.in1) I e2 e4 p2 p4 (by rw[ZD];omega)
 have rc:∀{X:Cx}{aa:List (Addr×Obj)}{U:St}{H:Hp}{s:Shared}{x y:V}{v u:Value}{a b:M×L}{A:Around},Inv X aa U H s->XZ x v->XZ y u->rT2 r q X.K H x a->rT2 r q X.K H y b->A.units+(d+1)<cLine->SeqAt.RcAt A s v u (decide (a=b)):=by
  rintro X aa U H s x y v u ⟨a1,a2⟩ ⟨b1,b2⟩ A I rx ry h1 h2 hu
  obtain⟨a,x1,x2,rfl,q1,p1,p2⟩:=h1
  obtain⟨b,y1,y2,rfl,q2,p3,p4⟩:=h2
  cases rx;cases ry
  obtain⟨i1,r1,l1,_⟩:=I.tuple q1
  obtain⟨i2,r2,l2,_⟩:=I.tuple q2
  obtain⟨u1,u2,rfl,e1,e2⟩:=X9.two r1
  obtain⟨w1,w2,rfl,e3,e4⟩:=X9.two r2
  have:=SeqAt.RcAt.tuples (A:=A) l1 l2 (by omega) (its (a:=(a1,a2)) (b:=(b1,b2)) I e1 e2 e3 e4 p1 p2 p3 p4 hu)
  rw[←EB]
  simpa[List.range_succ] using this
 refine⟨un,?_,rc,?_,?_⟩
 ·intro X aa U H s x y v u as bs A I rx ry h1 h2 hu
  obtain⟨a,x1,x2,rfl,q1,p1,p2⟩:=id h1
  obtain⟨b,y1,y2,rfl,q2,p3,p4⟩:=id h2
  have R:=rc (A:=A) I rx ry h1 h2 hu
  cases rx;cases ry
  by_cases e:a=b
  ·subst e
   rw[decide_eq_true (un I h1 h2)]
   exact SeqAt.EqAt.same _
  ·exact SeqAt.EqAt.of_refs e R
 ·rintro X aa U H s x y v u ⟨a1,a2⟩ ⟨b1,b2⟩ A I rx ry h1 h2 hu
  obtain⟨a,x1,x2,rfl,q1,p1,p2⟩:=h1
  obtain⟨b,y1,y2,rfl,q2,p3,p4⟩:=h2
  cases rx;cases ry
  obtain⟨i1,r1,l1,_⟩:=I.tuple q1
  obtain⟨i2,r2,l2,_⟩:=I.tuple q2
  obtain⟨u1,u2,rfl,e1,e2⟩:=X9.two r1
  obtain⟨w1,w2,rfl,e3,e4⟩:=X9.two r2
  have:=SeqAt.RcNeAt.tuples (A:=A) l1 l2 (by omega) (its (a:=(a1,a2)) (b:=(b1,b2)) I e1 e2 e3 e4 p1 p2 p3 p4 hu)
  rw[←EB]
  simpa[List.range_succ] using this
 ·intro K H H' x as e h
  obtain⟨a,x1,x2,rfl,q1,p1,p2⟩:=h
  exact⟨a,x1,x2,rfl,e.seqT q1,E.keep e p1,F.keep e p2⟩
end
section
variable [DecidableEq M]{r:Enc M}{d:Nat}
def Wn (K:W.Frag)(r:Enc M):R2:=λx y H Q=>∃ a b,r K H x a/\r K H y b/\Q (.bl (decide (a=b))) H
def Wx (K:W.Frag)(r:Enc M):R2:=λx y H Q=>∃ a b,r K H x a/\r K H y b/\Q (.bl (!decide (a=b))) H
theorem SM (E:EqOk r d)(hu:X.A.units+d<cLine):OpR X (compareOp .Eq) (Wn X.K r):=by
 intro aa s U H x y v u Q I rx ry h
 obtain⟨a,b,h1,h2,q⟩:=h
 exact E.rc (A:=X.A) I rx ry h1 h2 hu _ _ _ _ ⟨.bl _,H,I,rfl,q⟩
theorem Tj (E:EqOk r d)(hu:X.A.units+d<cLine):OpR X (compareOp .NotEq) (Wx X.K r):=by
 intro aa s U H x y v u Q I rx ry h
 obtain⟨a,b,h1,h2,q⟩:=h
 exact E.ne (A:=X.A) I rx ry h1 h2 hu _ _ _ _ ⟨.bl _,H,I,rfl,q⟩
theorem Yl:ZX X (.builtin "isinstance") (λxs H Q=>∃ x n t b,xs=[x, .ty n]/\TyOf X.K H x t/\W.kitOne X.K t (.type n)=some b/\Q (.bl b) H):=by
 intro aa s U H xs us Q I r h
 obtain⟨x,n,t,b,rfl,ty,e,q⟩:=h
 obtain⟨u,v,rfl,ru,rv⟩:=X9.two r
 cases(show v=Value.type n from rv)
 exact Lz I ru ty e λtk=>⟨.bl b,H,I.tok tk,rfl,q⟩
theorem F6:OpR X (binaryOp .FloorDiv) (rI (λ_ j=>0<j/\j.natAbs.log2<9000) λi j=>.int (i/j)):=opI λi j _ _ _ _ _ hc q=>by
 refine floordiv_int (by omega) ?_ (.inl (PyProof.noPylong_of_log2 hc.2))
 rw[Int.fdiv_eq_ediv_of_nonneg i (by omega)]
 exact q
end
end L2
namespace PySem
open Sem (wp)
section
end
end PySem
namespace L2
open PySem PySem.Spec PyProof.Rows
theorem B4:∀{l:List M}{m:List L}{i:Nat}{b:L},Paired F l m->m[i]?=some b->∃a,l[i]?=some a/\F a b
 |_,_,_,_, .nil,e=>by simp at e
 |_,_,0,_, .cons r _,e=>by simp at e;subst e;exact⟨_,rfl,r⟩
 |_,_,i+1,b, .cons _ t,e=>by
  obtain⟨a,h1,h2⟩:=B4 (i:=i) (b:=b) t (by simpa using e)
  exact⟨a,by simpa using h1,h2⟩
section
def Ag (K:W.Frag)(te ts:TE):TE:=λU H Q=>te U H λx H1=>ts U H1 λy H2=>y= .int (-1)/\∃a xs,x= .ref a/\SqL K H2 a xs/\∀p,H2 p=none->Q (.ref p) (upd H2 p (.lst xs.reverse))
theorem Bf {st:Expr}{ts:TE}{p2:Pos}(K:W.Frag)(hK:X.K=K)(he:PE X e te)(dZ:PE X st ts):PE X (.Subscript e (.Slice none none (some st) p2) pos) (Ag K te ts):=by
 intro aa s U H Q I h
 subst hK
 refine Subscript_ (thn (he aa s U H _ I h) λv s1 r9=>?_)
 obtain⟨x,H1,I1,r1,q1⟩:=r9
 refine wpAny_Slice ?_
 rw[evalPart_none]
 refine wpAny_pure ?_
 refine wpAny_pure ?_
 rw[evalPart_some]
 refine thn (dZ aa s1 U H1 _ I1 q1) λvk s3 r9=>?_
 obtain⟨y,H3,I3,r3,ey,a,xs,ex,hx,q⟩:=r9
 subst ey ex
 cases r1
 obtain⟨t,rfl⟩:=r3
 have I4:Inv X aa U H3 {s3 with heap:=s3.heap.push {cls:=.type "slice",data:=.fields #[.none, .none, .int (-1) t]}}:=I3.kept (t':=s3.toks) λb ob q=>Heap.get?_push_of_some _ q
 obtain⟨its,r,ht,hz⟩:=I4.list hx
 have ag:=r.length
 have hg:wpAny (model X.prog X.w) X.A (getItem (.ref a) (.ref s3.heap.objs.size)) (EP X aa U Q) X.xe {s3 with heap:=s3.heap.push {cls:=.type "slice",data:=.fields #[.none, .none, .int (-1) t]}}:=by
  refine wpAny_getItem_list_slice ht.isList (Heap.IsSliceOf.new ..) .none .none (.int (-1) t) (by decide) ?_ (by rw[List.size_toArray];omega)
  rw[PySem.W.krv_pick]
  refine⟨.ref _,_,I4.laid (t':=s3.toks) (o:=.lst xs.reverse) (λb ob q=>Heap.get?_push_of_some _ q) (Nat.le_refl _) ?_,rfl,q _ (I4.hok.fresh (Nat.le_refl _))⟩
  exact⟨by rw[List.length_reverse];exact hz,its.reverse,0,r.reverse,Heap.get?_push_size _ rfl⟩
 show wpAny (model X.prog X.w) X.A (subscriptTail e (.Slice none none (some st) p2) (.ref a) (.ref s3.heap.objs.size)) (EP X aa U Q) X.xe _
 exact tail_any (ops:=[.ref a, .ref s3.heap.objs.size]) ht.isList.typeIs slot_list_getitem.lookup hg (by with_unfolding_all rfl)
end
section
end
section
variable {ip:Pos}
end
section
end
section
variable [DecidableEq M]{r:Enc M}{d:Nat}
theorem RP:((List.range (min as.length bs.length)).all (λj=>decide (as[j]?=bs[j]?))&&as.length==bs.length)=decide (as=bs):=by
 by_cases hl:as.length=bs.length
 ·rw[show min as.length bs.length=as.length by omega,En hl]
  simp[hl]
 ·rw[decide_eq_false (λe=>hl (congrArg List.length e))]
  simp[hl]
end
section
variable {o f:Expr}{ty tx:TE}{aJ am:Pos}
end
theorem Zh:∀(names:List (Str×NameKind)) (n:Nat) (acc:List (Str×Addr)) {x:Str},(x,NameKind.cell)∉names->(cellsFrom n names acc).lookup x=acc.lookup x
 | [],_,_,_,_=>rfl
 | (y,k)::r,n,acc,x,h=>by
  have hr:(x,NameKind.cell)∉r:=λz=>h (List.mem_cons_of_mem _ z)
  unfold cellsFrom
  split
  ·rename_i hk
   have cI:k=NameKind.cell:=by simpa using hk
   rw[Zh r _ _ hr,List.lookup_cons]
   have:(x==y)=false:=beq_eq_false_iff_ne.mpr λe=>h (by rw[e,cI];exact List.mem_cons_self)
   rw[this]
  ·exact Zh r _ _ hr
theorem Ja:∀(names:List (Str×NameKind)) (n:Nat) (acc:List (Str×Addr)) {x:Str}{c:Addr},(x,NameKind.cell)∈names->(cellsFrom n names acc).lookup x=some c->n<=c
 | [],_,_,_,_,h,_=>nomatch h
 | (y,k)::r,n,acc,x,c,h,e=>by
  unfold cellsFrom at e
  split at e
  ·by_cases hr:(x,NameKind.cell)∈r
   ·exact Nat.le_of_succ_le (Ja r _ _ hr e)
   ·rw[Zh r _ _ hr,List.lookup_cons] at e
    rcases List.mem_cons.mp h with h |h
    ·have hx:x=y:=congrArg Prod.fst h
     rw[hx,beq_self_eq_true] at e
     exact Nat.le_of_eq (Option.some.inj e)
    ·exact absurd h hr
  ·rename_i hk
   rcases List.mem_cons.mp h with h |h
   ·exact absurd (by simpa using (congrArg Prod.snd h).symm) hk
   ·exact Ja r _ _ h e
theorem QZ:∀(names:List (Str×NameKind)) (n:Nat) (acc:List (Str×Addr)) {x:Str},((x,NameKind.cell)∈names∨∃c,acc.lookup x=some c)->∃c,(cellsFrom n names acc).lookup x=some c
 | [],_,_,_,h=>h.elim (λz=>nomatch z) id
 | (y,k)::r,n,acc,x,h=>by
  unfold cellsFrom
  split
  ·refine QZ r _ _ ?_
   by_cases hx:x=y
   ·subst hx;exact .inr ⟨n,by rw[List.lookup_cons];simp⟩
   ·rcases h with h | ⟨c,h⟩
    ·rcases List.mem_cons.mp h with h |h
     ·exact absurd (congrArg Prod.fst h) hx
     ·exact .inl h
    ·exact .inr ⟨c,by rw[List.lookup_cons,beq_eq_false_iff_ne.mpr hx];exact h⟩
  ·rename_i hk
   refine QZ r _ _ ?_
   rcases h with h |h
   ·rcases List.mem_cons.mp h with h |h
    ·exact absurd (by simpa using (congrArg Prod.snd h).symm) hk
    ·exact .inl h
   ·exact .inr h
theorem QR:∀(names:List (Str×NameKind)) (n:Nat) (acc:List (Str×Addr)),(∀x y c,acc.lookup x=some c->acc.lookup y=some c->x=y)->(∀x c,acc.lookup x=some c->c<n)->
  ∀x y c,(cellsFrom n names acc).lookup x=some c->(cellsFrom n names acc).lookup y=some c->x=y
 | [],_,_,h,_=>h
 | (z,k)::r,n,acc,h,hl=>by
  unfold cellsFrom
  split
  ·refine QR r (n+1) _ (λx y c h1 h2=>?_) λx c h1=>?_
   ·rw[List.lookup_cons] at h1 h2
    cases hx:x==z<;> cases hy:y==z<;> rw[hx] at h1<;> rw[hy] at h2<;> simp only at h1 h2
    ·exact h x y c h1 h2
    ·cases h2;exact absurd (hl x n h1) (Nat.lt_irrefl _)
    ·cases h1;exact absurd (hl y n h2) (Nat.lt_irrefl _)
    ·rw[beq_iff_eq.mp hx,beq_iff_eq.mp hy]
   ·rw[List.lookup_cons] at h1
    cases hx:x==z<;> rw[hx] at h1<;> simp only at h1
    ·exact Nat.lt_succ_of_lt (hl x c h1)
    ·cases h1;exact Nat.lt_succ_self _
  ·exact QR r n acc h hl
theorem Qo:∀(names:List (Str×NameKind)) (h:Heap) (acc:List (Str×Addr)) {x:Str}{c:Addr},(cellsFrom h.objs.size names acc).lookup x=some c->acc.lookup x=some c∨((pushCells h names).IsCell c none/\h.objs.size<=c)
 | [],_,_,_,_,e=>.inl e
 | (z,k)::r,h,acc,x,c,e=>by
  unfold cellsFrom at e
  unfold pushCells
  split at e
  ·rename_i hk
   rw[if_pos hk]
   have e':(cellsFrom (h.push {cls:=.type "cell",data:=.cell none}).objs.size r ((z,h.objs.size)::acc)).lookup x=some c:=by rw[Heap.size_push];exact e
   rcases Qo r _ _ e' with q | ⟨q1,q2⟩
   ·rw[List.lookup_cons] at q
    cases hx:x==z<;> rw[hx] at q<;> simp only at q
    ·exact .inl q
    ·cases q
     exact .inr ⟨⟨_,pushCells_keeps _ _ _ _ (Heap.get?_push_size _ rfl),rfl⟩,Nat.le_refl _⟩
   ·exact .inr ⟨q1,by rw[Heap.size_push] at q2;omega⟩
  ·rename_i hk
   rw[if_neg hk]
   exact Qo r h acc e
theorem Fh:∀{l:List (Str×NameKind)}{x:Str}{j k:NameKind},(l.map (·.1)).Nodup->(x,j)∈l->(x,k)∈l->j≠k->False
 | [],_,_,_,_,h,_,_=>nomatch h
 | (y,i)::r,x,j,k,hn,h1,h2,ne=>by
  rw[List.map_cons,List.nodup_cons] at hn
  rcases List.mem_cons.mp h1 with h1 |h1<;> rcases List.mem_cons.mp h2 with h2 |h2
  ·cases h1;cases h2;exact ne rfl
  ·cases h1;exact hn.1 (List.mem_map.mpr ⟨_,h2,rfl⟩)
  ·cases h2;exact hn.1 (List.mem_map.mpr ⟨_,h1,rfl⟩)
  ·exact Fh hn.2 h1 h2 ne
theorem Jj {env:Env}:∀{names:List (Str×NameKind)}{x:Str}{k:NameKind},
  (names.map λ(n,k)=>if(k==NameKind.free&&env.scope.kind== .function&&env.kindOf n==some .cell) then(n,NameKind.cell) else(n,k)).lookup x=some k->(k= .cell∨k= .free)->(x,NameKind.free)∈names∨(x,NameKind.cell)∈names
 | [],_,_,h,_=>by simp at h
 | (n,kk)::r,x,k,h,hk=>by
  have ih:=@Jj env r x k
  simp only[List.map_cons] at h
  have up:((x,NameKind.free)∈r∨(x,NameKind.cell)∈r)->((x,NameKind.free)∈(n,kk)::r∨(x,NameKind.cell)∈(n,kk)::r):=λz=>z.elim (λz=>.inl (List.mem_cons_of_mem _ z)) λz=>.inr (List.mem_cons_of_mem _ z)
  by_cases ba:(kk==NameKind.free&&env.scope.kind== .function&&env.kindOf n==some .cell)=true
  ·rw[if_pos ba,List.lookup_cons] at h
   have cp:kk=NameKind.free:=by
    rw[Bool.and_eq_true,Bool.and_eq_true] at ba
    simpa using ba.1.1
   cases hx:x==n with
   |true=>
    have:x=n:=by simpa using hx
    subst this;subst cp
    exact .inl List.mem_cons_self
   |false=>rw[hx] at h;exact up (ih h hk)
  ·rw[if_neg ba,List.lookup_cons] at h
   cases hx:x==n with
   |true=>
    rw[hx] at h
    have dw:kk=k:=Option.some.inj h
    have:x=n:=by simpa using hx
    subst this;subst dw
    rcases hk with z |z
    ·subst z;exact .inr List.mem_cons_self
    ·subst z;exact .inl List.mem_cons_self
   |false=>rw[hx] at h;exact up (ih h hk)
theorem HX {Q:Env->Shared->Prop}
  (hQ:∀h',h'.Ns s.heap.objs.size (λ_=>none)->(∀b o,s.heap.get? b=some o->h'.get? b=some o)->
   (∀x c,(cellsFrom (s.heap.objs.size+1) scope.names cl).lookup x=some c->cl.lookup x=some c∨(h'.IsCell c none/\s.heap.objs.size+1<=c))->
   Q (newEnv scope s.heap.objs.size globals (cellsFrom (s.heap.objs.size+1) scope.names cl) qual none .none (some outer) builtinsNs) {s with heap:=h'}):
  wpAny Mqz A (newFunctionEnv scope globals cl [] qual none .none (some outer)) Q E s:=by
 simp only[newFunctionEnv,Option.isSome_some,if_true]
 refine wpAny_bind (wpAny_alloc ?_)
 refine wpAny_bind (wpAny_layCells _ (λname kind cells=>by cases hkc:kind==NameKind.cell<;> simp[hkc]) _ _ _ _ ?_)
 rw[show({s with heap:=s.heap.push {cls:=.type "dict",data:=.dict #[]}}:Shared).heap.objs.size=s.heap.objs.size+1 from Heap.size_push ..]
 rw[List.forIn_nil]
 refine wpAny_bind (wpAny_pure (wpAny_pure (hQ _ ((Heap.Ns.new s.heap (.type "dict")).keeps (pushCells_keeps _ _)) (λb o e=>pushCells_keeps _ _ b o (Heap.get?_push_of_some _ e)) λx c e=>?_)))
 have e':(cellsFrom (s.heap.push {cls:=.type "dict",data:=.dict #[]}).objs.size scope.names cl).lookup x=some c:=by rw[Heap.size_push];exact e
 rcases Qo scope.names _ cl e' with q | ⟨q1,q2⟩
 ·exact .inl q
 ·exact .inr ⟨q1,by rw[Heap.size_push] at q2;exact q2⟩
def K4 (sc scope:Scope)(N0 tns:List Str)(caps:List (Nat×Str)):Bool:=
 scope.kind== .function&&decide (scope.names.map (·.1)).Nodup&&scope.names.all (λy=>!(y.2== .local) || scope.names.lookup y.1==some .local)&&
 scope.names.all (λy=>!(y.2== .free) || (sc.names.lookup y.1==some .cell || sc.names.lookup y.1==some .free))&&caps.all (λp=>N0[p.1]?==some p.2&&(sc.names.lookup p.2==some .cell || sc.names.lookup p.2==some .free)&&scope.names.lookup p.2==some .free)
abbrev Cx.compN (X:Cx)(N:List Str)(scope:Scope)(cl:List (Str×Addr))(C:Addr)(s:Shared)(H:Hp)(ex:List Addr)(E:Value->Shared->Prop):Cx:=
 {X.comp N scope cl C s H ex E with fn:=λx=>scope.names.lookup x==some .cell}
def Aa (scope sc:Scope):Scope:=
 {scope with names:=scope.names.map λ(n,k)=>if(k== .free&&sc.kind== .function&&sc.names.lookup n==some .cell) then(n, .cell) else(n,k)}
section
variable {bc iter:Expr}{sc:Scope}{tns:List Str}{wi:TI}{g:TG}{tt:TT}
theorem BS {N0:List Str}(hc:X.calm=true)(dy:X.env.scope=sc)(dI:X.N=N0)(ok:K4 sc scope N0 tns caps=true)(hn:tns.length=n)(hG:Kj n g)
  (hb:∀cl C s H ex E,PG (X.compN (tns++caps.map (·.2)) scope cl C s H ex E) tg g/\PTs (X.compN (tns++caps.map (·.2)) scope cl C s H ex E) bf tt/\PE (X.compN (tns++caps.map (·.2)) scope cl C s H ex E) bc te)
  {J:It}{fp:List Addr}{it:Addr}{tn:Nat->Heap->Prop}{cl:List (Str×Addr)}{Q:V->Hp->Prop}{RR:Value->Addr->Result->Shared->Prop}
  (I:Inv X aa U H s)(T:Turn X.prog X.w X.K tg J fp it tn)(t0:tn 0 s.heap)(hf:∀b∈fp,Ht X aa H b)
  (ar:∀x c,cl.lookup x=some c->X.env.cells.lookup x=some c)(bd:∀x,(x,NameKind.free)∈scope.names->∃c,cl.lookup x=some c)
  (W:Nat->Nat->List V->Hp->Prop){m0:Nat}(w0:W 0 m0 [] H)
  (turn:M9 g tt te (Yf n caps U) Q J W)
  (im:∀D C ys H3 s',CompEnd X aa U H3 D C ys s'->Q (.ref D) (upd H3 D (.lst ys))->RR (.ref D) C (.ok .next) s'):
  wpAny (model X.prog X.w) X.A (newList []) (λacc s₃=>wpAny (model X.prog X.w) X.A (newFunctionEnv scope X.env.globals cl [] X.env.qual none .none (some X.env)) (λeG s₄=>
   codeAny (model X.prog X.w) X.A (.compStart (.ListComp bc [⟨tg,iter,bf,0⟩] scope pos) 0 (.ref it) acc {eG with scope:=relabel scope X.env}) (RR acc eG.locals) s₄) E s₃) E s:=by
 subst dy
 subst dI
 unfold K4 at ok
 simp only[Bool.and_eq_true,List.all_eq_true] at ok
 obtain⟨⟨⟨⟨ok1,ok2⟩,ok3⟩,ok4⟩,ok5⟩:=ok
 have ez:scope.kind= .function:=by simpa using ok1
 have dM:(scope.names.map (·.1)).Nodup:=by simpa using ok2
 refine wpAny_newObj_type (HX (λh₁ eJ c8 gR=>?_))
 dsimp only at eJ c8 gR⊢
 generalize gk:s.heap.push {cls:=.type "list",dict:=none,data:=.seq ([]:List Value).toArray}=H2 at eJ c8 gR⊢
 have hC:H2.objs.size=s.heap.objs.size+1:=by rw[←gk,Heap.size_push]
 have hDC:s.heap.objs.size≠H2.objs.size:=by rw[hC];exact Nat.ne_of_lt (Nat.lt_succ_self _)
 have hCle:s.heap.objs.size<=H2.objs.size:=by rw[hC];exact Nat.le_succ _
 have below:∀b,b<s.heap.objs.size->b≠H2.objs.size/\b≠s.heap.objs.size:=λb hb=>⟨by rw[hC];exact Nat.ne_of_lt (Nat.lt_succ_of_lt hb),Nat.ne_of_lt hb⟩
 have bR:∀b o,s.heap.get? b=some o->h₁.get? b=some o:=λb o e=>c8 b o (gk▸Heap.get?_push_of_some _ e)
 have dJ:h₁.get? s.heap.objs.size=some {cls:=.type "list",data:=.seq ([]:List Value).toArray 0}:=c8 _ _ (gk▸Heap.get?_push_size _ rfl)
 have iq:tn 0 h₁:=T.keep _ _ _ t0 λb _ o e=>bR b o e
 have cf2:∀x,(x,NameKind.free)∈scope.names->∃c,(cellsFrom (H2.objs.size+1) scope.names cl).lookup x=some c/\cl.lookup x=some c:=λx hx=>by
  obtain⟨c,hc⟩:=bd x hx
  exact⟨c,by rw[Zh scope.names _ _ (λhm=>Fh dM hx hm (by decide))];exact hc,hc⟩
 have cf3:∀x,(x,NameKind.cell)∈scope.names->∃c,(cellsFrom (H2.objs.size+1) scope.names cl).lookup x=some c:=λx hx=>QZ scope.names _ _ (.inl hx)
 have cf4:∀x y c,(cellsFrom (H2.objs.size+1) scope.names cl).lookup x=some c->(cellsFrom (H2.objs.size+1) scope.names cl).lookup y=some c->x=y:=
  QR scope.names _ _ (λx y c h1 h2=>I.ok.inj x y c (ar x c h1) (ar y c h2)) (λx c e=>by
   obtain⟨v,z⟩:=I.cell x c (ar x c e)
   exact Nat.lt_of_lt_of_le z.lt (by rw[hC];omega))
 have cf5:∀x c,scope.names.lookup x=some NameKind.cell->(cellsFrom (H2.objs.size+1) scope.names cl).lookup x=some c->H2.objs.size+1<=c:=λx c hx e=>Ja scope.names _ _ (mem_of_lookup hx) e
 generalize hcl:cellsFrom (H2.objs.size+1) scope.names cl=gS at*
 -- addresses
 generalize hD:s.heap.objs.size=D at*
 generalize hCe:H2.objs.size=C at*
 have fh:∀b∈fp,b<D:=λb hb=>by
  obtain⟨o,e,_⟩:=T.obj _ _ t0 b hb
  rw[←hD];exact Heap.lt_size e
 have cg:D<C:=by omega
 have gm:∀x c,gS.lookup x=some c->c≠D:=λx c e=>by
  rcases gR x c e with q | ⟨_,q⟩
  ·obtain⟨v,z⟩:=I.cell x c (ar x c q)
   rw[←hD];exact Nat.ne_of_lt z.lt
  ·exact Nat.ne_of_gt (Nat.lt_trans cg (Nat.lt_of_succ_le q))
 have ir:∀b∈fp,∀x c,gS.lookup x=some c->c≠b:=λb hb x c e=>by
  rcases gR x c e with q | ⟨_,q⟩
  ·exact(hf b hb).2.2.2.2.1 x c (ar x c q)
  ·exact Nat.ne_of_gt (Nat.lt_trans (fh b hb) (Nat.lt_trans cg (Nat.lt_of_succ_le q)))
 let X':Cx:=X.compN (tns++caps.map (·.2)) scope gS C s H fp (notedBy (model X.prog X.w) X.A (compEnvC scope gS C X.env) λe s'=>RR (.ref D) C (.error e) s')
 have okX:X'.Ok:=by
  refine⟨I.ok.mod,ez,I.ok.glob,I.ok.blt,by show s.heap.objs.size<=C;omega,cf4,λx hx=>?_,λx c hx hcx=>(by show s.heap.objs.size<=c;have:=cf5 x c (by have cV:(scope.names.lookup x==some NameKind.cell)=true:=hx;simpa using cV) hcx;omega),I.ok.hd,I.ok.frames, .inl rfl,λb hb=>?_,I.bs,Nat.le_trans I.ok.bsz I.sz,λb o e hb=>?_,λb hb hz=>?_,I.stack,I.stkFree⟩
  ·have fz:(relabel scope X.env).names.lookup x=some .cell∨(relabel scope X.env).names.lookup x=some .free:=hx
   have hz:(x,NameKind.free)∈scope.names∨(x,NameKind.cell)∈scope.names:=by
    rcases fz with z |z
    ·exact Jj z (.inl rfl)
    ·exact Jj z (.inr rfl)
   rcases hz with z |z
   ·obtain⟨c,q,_⟩:=cf2 x z
    exact⟨c,q⟩
   ·exact cf3 x z
  ·refine⟨Nat.ne_of_lt (Nat.lt_trans (fh b hb) cg),ir b hb⟩
  ·rcases(hf b hb).2.2.2.1 with z |z
   ·exact I.ok.noex b o e z
   ·exact absurd (Nat.lt_of_lt_of_le (Heap.lt_size e) (Nat.le_trans I.ok.bsz z)) (Nat.lt_irrefl _)
  ·rcases List.mem_cons.mp (I.stkSub b hz) with z |z
   ·exact(hf b hb).2.1 z
   ·exact(hf b hb).2.2.1 z
 have lenc:(Yf n caps U).length=(tns++caps.map (·.2)).length:=by unfold Yf;simp[hn]
 have I1:∀tk,Inv X' [] (Yf n caps U) H {s with heap:=h₁,toks:=tk}:=λtk=>by
  refine⟨okX,rfl,I.bare,Un.kept bR,⟨_,eJ,λi x v e1 e2 e3=>?_⟩,λx c e=>?_,I.hok.fresh (by rw[hD];exact Nat.le_of_lt cg),λx c e=>?fc,λp hp=>absurd (show p∈([]:List (Addr×Obj)) from hp) (by simp),I.hok.kept bR,lenc⟩
  ·have hi:n<=i:=by
    by_cases h:n<=i
    ·exact h
    ·have cr:(Yf n caps U)[i]?=some (some v):=e2
     unfold Yf at cr
     rw[List.getElem?_append_left (by simp;omega),List.getElem?_replicate] at cr
     split at cr<;> cases cr
   have cr:(Yf n caps U)[i]?=some (some v):=e2
   unfold Yf at cr
   rw[List.getElem?_append_right (by simpa using hi),List.length_replicate,List.getElem?_map] at cr
   have fg:(tns++caps.map (·.2))[i]?=some x:=e1
   rw[List.getElem?_append_right (by rw[hn];exact hi),hn,List.getElem?_map] at fg
   cases gQ:caps[i-n]? with
   |none=>rw[gQ] at cr;cases cr
   |some p=>
    rw[gQ] at cr fg
    simp only[Option.map_some,Option.some.injEq] at cr fg
    have hp5:=ok5 p (List.mem_of_getElem? gQ)
    simp only[beq_iff_eq,Bool.or_eq_true] at hp5
    obtain⟨⟨p1,p2⟩,p3⟩:=hp5
    have hσ:U[p.1]?=some (some v):=by
     cases hq:U[p.1]? with
     |none=>rw[hq] at cr;cases cr
     |some o=>rw[hq] at cr;simp at cr;rw[cr]
    subst fg
    obtain⟨m,hm,hl⟩:=I.loc
    obtain⟨u,r,l⟩:=hl p.1 p.2 v p1 hσ (.inr p2)
    refine⟨u,r, .inr ?_⟩
    rcases l with⟨k,_⟩ | ⟨k,c,e,z⟩
    ·have k':X.env.scope.names.lookup p.2=some .local:=k
     rcases p2 with p2 |p2<;> (rw[p2] at k';cases k')
    ·obtain⟨c',e',e''⟩:=cf2 p.2 (mem_of_lookup p3)
     have:=ar _ _ e''
     rw[e] at this;cases this
     obtain⟨o,ho,hd⟩:=z
     exact⟨JC (env:=X.env) p3,c,e',⟨o,bR _ _ ho,hd⟩⟩
  ·rcases gR x c e with q | ⟨q,_⟩
   ·obtain⟨v,o,ho,hd⟩:=I.cell x c (ar x c q)
    exact⟨v,o,bR _ _ ho,hd⟩
   ·exact⟨_,q⟩
  case fc=>
   rcases gR x c e with q | ⟨_,q⟩
   ·exact I.freeC x c (ar x c q)
   ·exact I.hok.fresh (by rw[hD];omega)
 obtain⟨hg,ht,he⟩:=hb gS C s H fp X'.xe
 have fsLt:∀b∈X'.fs,b<D:=λb hb=>by
  obtain⟨_,o,ho,_⟩:=I.stack.mem hb
  rw[←hD];exact Heap.lt_size ho
 have aY:CAt X' fp D:=⟨hc,rfl,Nat.ne_of_lt cg,λhz=>absurd (fsLt _ hz) (Nat.lt_irrefl _),by show s.heap.objs.size<=D;omega,gm,λb hb=>Nat.ne_of_lt (fh b hb),λb hb H' h'=>⟨h',Nat.ne_of_lt (Nat.lt_trans (fh b hb) cg),okX.exfs b hb, .inl hb,ir b hb,λp hp=>Bp (M:=Addr×Obj) hp⟩⟩
 have cZ:∀s₃:Shared,(∃tk,s₃={s with heap:=h₁,toks:=tk})->
   codeAny (model X.prog X.w) X.A (.compLoop (.ListComp bc [⟨tg,iter,bf,0⟩] scope pos) 0 (.ref it) (.ref D) (compEnvC scope gS C X.env)) (RR (.ref D) C) s₃:=by
  rintro s₃ ⟨tk,rfl⟩
  exact FC (Y:=X') rfl T hG hg ht he aY (λj v e=>(Gf e).1) turn (λys its k H3 s4 I4 rv hz q=>im _ C ys H3 s4 (Hj I hf (Nat.le_of_eq hD) cg I4 I4.os I4.base I4.hok rfl rv hz) q)
   (.mk 0 H [] [] 0 ⟨I1 tk,iq,λb hb=>(hf b hb).1,dJ,I.hok.fresh (by rw[hD];exact Nat.le_refl _)⟩ .nil w0)
 exact codeAny_compStart_list (cZ _ ⟨_,rfl⟩) (T.self _ 0 _ _ _ iq (cZ _ ⟨_,rfl⟩))
theorem Nu (sc:Scope)(N0:List Str)(tns:List Str)(caps:List (Nat×Str))(hc:X.calm=true)(hi:PI X tg iter wi)(hG:Kj tns.length g)
  (hb:∀cl C s H ex E,PG (X.compN (tns++caps.map (·.2)) scope cl C s H ex E) tg g/\PTs (X.compN (tns++caps.map (·.2)) scope cl C s H ex E) bf tt/\PE (X.compN (tns++caps.map (·.2)) scope cl C s H ex E) bc te)
  (dy:X.env.scope=sc:=by rfl)(dI:X.N=N0:=by rfl)(ok:K4 sc scope N0 tns caps=true:=by decide+kernel)
  (hs:∀x,foldedSetIterable iter X.env x=pure x:=by intro _;rfl):
  PE X (.ListComp bc [⟨tg,iter,bf,0⟩] scope pos) (Eo tns.length caps wi g tt te):=by
 intro aa s U H Q I h
 have ok':=ok
 unfold K4 at ok'
 simp only[Bool.and_eq_true,List.all_eq_true] at ok'
 obtain⟨⟨⟨⟨ok1,ok2⟩,ok3⟩,ok4⟩,ok5⟩:=ok'
 obtain⟨cl,io,ar,bd⟩:=BU (scope:=scope) (env:=X.env) λx hx dL=>by
  have:=ok4 x hx
  rw[dL] at this
  have z:sc.names.lookup x.1=some .cell∨sc.names.lookup x.1=some .free:=by simpa using this
  exact I.ok.has x.1 (by show X.env.scope.names.lookup x.1=_∨X.env.scope.names.lookup x.1=_;rw[dy];exact z)
 rw[eval_ListComp]
 refine wpAny_comprehension_free (use:=none) rfl hs io (by simpa using ok1) (λx hx hl=>by have:=ok3 x hx;rw[hl] at this;simpa using this) (thn (hi aa s U H _ I h) λxv s₁ h₁=>thn h₁ λgb s₂ h₂=>?_)
 obtain⟨it,fp,tn,J,H',rfl,I2,T,st2,f2,W,⟨m0,w0⟩,turn⟩:=h₂
 refine BS (RR:=λacc C=>compPost (model X.prog X.w) X.A X.xe none (EP X aa U Q) acc C) hc dy dI ok rfl hG hb I2 T st2 f2 ar bd W w0 turn ?_
 intro D C ys H3 s' ce q
 obtain⟨mm,du⟩:=ce.ns
 refine⟨mm,du,λh' dH=>⟨.ref D,_,?_,rfl,q⟩⟩
 obtain⟨c0,c1,c2,c3,c4,c5⟩:=ce.fp
 exact ce.inv.turned (t':=s'.toks) (λb o hb' e=>(dH.extBut b o hb' e)) c0 c1 c3 c4 c5
end
theorem K9:∀(xs:List V) (us:List Value),xs.length=us.length->(∀(j:Nat) x u,xs[j]?=some x->us[j]?=some u->XZ x u)->X9 xs us
 | [],[],_,_=>.nil
 | [],_::_,h,_=>by simp at h
 |_::_,[],h,_=>by simp at h
 |x::xs,u::us,h,r=>.cons (r 0 x u rfl rfl) (K9 xs us (by simpa using h) λj y v e1 e2=>r (j+1) y v (by simpa using e1) (by simpa using e2))
def EU (ta:TA):TE:=λU H Q=>ta U H λvs H1=>∃ j:Int,vs=[.int j]/\0<=j/\j<=1000/\∀p,H1 p=none->Q (.ref p) (upd H1 p (.lst ((List.range j.toNat).map λi=>V.int ((i:Nat):Int))))
theorem Ba {ta:TA}{p q:Pos}(hc:X.calm=true)(hg:Gl X "list")(hg2:Gl X "range")(hm:X.mg "list" =none)(hm2:X.mg "range" =none)(ha:PA X [e] ta)
  (hs:starEach [.Call (.Name "range" q) [e] [] q2] X.env=[(false,eval (.Call (.Name "range" q) [e] [] q2) X.env)]:=by rfl)(gn:starEach [e] X.env=[(false,eval e X.env)]:=by rfl):
  PE X (.Call (.Name "list" p) [.Call (.Name "range" q) [e] [] q2] [] pos) (EU ta):=by
 intro aa s U H Q I h
 refine wpAny_Call_Name_kw (U9 I hg hm boot_list ?_)
 refine callWith_type1 ?_ hs rfl
 rw[hs]
 show wpAny _ _ (spliced ((false,eval (.Call (.Name "range" q) [e] [] q2) X.env)::backTo pos [])) _ _ s
 refine Calls.spliced_cons ?_
 refine wpAny_Call_Name_kw (U9 I hg2 hm2 boot_range ?_)
 refine callWith_type1 (thn (ha q2 aa s U H _ I h) λus s1 r9=>?_) gn rfl
 obtain⟨vs,H1,I1,r1,q1⟩:=r9
 obtain⟨j,e,h0,h1,k⟩:=q1
 subst e
 cases r1 with
 |cons r rr=>
  cases rr
  obtain⟨t,rfl⟩:=r
  refine call_range_1 ?_
  refine Calls.spliced_nil ?_
  refine call_list_range (n:=j.toNat) (I.ok.hd hc) (IsRange.new ..) (small_one (by omega) (by omega) (by omega) (by omega)) (by rw[rangeSize_one];split<;> omega) (by omega) λh' tk cB c' hk hS dJ=>?_
  refine⟨.ref _,_,I1.laid (h':=h') (t':=tk) (o:=.lst ((List.range j.toNat).map λi=>V.int ((i:Nat):Int))) (λb o e=>hk b o (Heap.get?_push_of_some _ e)) (by rw[Heap.size_push];exact Nat.le_succ _) ?_,rfl,k _ (I1.hok.fresh (by rw[Heap.size_push];exact Nat.le_succ _))⟩
  refine⟨by rw[List.length_map,List.length_range];exact Nat.le_of_lt (Mb (by omega)),cB.toList,c',K9 _ _ (by simp[dJ.1]) λi x u e1 e2=>?_,hS⟩
  have cr:cB[i]?=some u:=by simpa using e2
  obtain⟨tk,rfl⟩:=dJ.2 i u cr
  rw[List.getElem?_map] at e1
  cases e3:(List.range j.toNat)[i]? with
  |none=>rw[e3] at e1;cases e1
  |some z=>
   rw[e3] at e1
   have hz:z=i:=by
    have hi:i<j.toNat:=by have:=(List.getElem?_eq_some_iff.mp e3).1;simpa using this
    rw[List.getElem?_range hi] at e3
    exact(Option.some.inj e3).symm
   subst hz
   have:x=V.int (z:Int):=(Option.some.inj e1).symm
   subst this
   exact⟨tk,by simp⟩
theorem XU {p:Pos}:starEach (.List l p::es) env=(false,eval (.List l p) env)::starEach es env:=rfl
variable {o:Expr}{to:TE}{t:TA}{name:Str}{aJ am:Pos}{T id:String}{r:V->List V->Hp->VK->Prop}
end L2
namespace PySem
open PySem.Spec
namespace SeqAt
open MeetsSeq
end SeqAt
end PySem
namespace L2
open PySem PySem.Spec PyProof.Rows
section
end
def Ay (K:W.Frag):List V->Hp->VK->Prop:=λxs H Q=>∃ (a:Addr) (bs:List Bool),xs=[.ref a]/\SqL K H a (bs.map V.bl)/\Q (.bl (bs.all id)) H
section
theorem S0:∀(bs:List Bool),((List.range bs.length).all λi=>(bs[i]?).getD true)=bs.all id:=λbs=>by
 rw[Bool.eq_iff_iff,List.all_eq_true,List.all_eq_true]
 constructor
 ·intro h b hb
  obtain⟨i,hi,rfl⟩:=List.getElem_of_mem hb
  have:=h i (List.mem_range.mpr hi)
  simpa[List.getElem?_eq_getElem hi] using this
 ·intro h i hi
  have cL:=List.mem_range.mp hi
  simpa[List.getElem?_eq_getElem cL] using h _ (List.getElem_mem cL)
theorem Iw (hc:X.calm=true):ZX X (.builtin "all") (Ay X.K):=by
 intro aa s U H xs us Q I r h
 obtain⟨a,bs,rfl,hq,q⟩:=h
 obtain⟨u,rfl,ru⟩:=Vg r
 cases ru
 obtain⟨its,rv,pl,hz⟩:=I.list hq
 have ag:bs.length=its.length:=by have:=rv.length;rwa [List.length_map] at this
 have ap:a<s.heap.objs.size:=by obtain⟨o,n,ho,_⟩:=pl;exact Heap.lt_size ho
 refine call_all_walk (wpAny_pyIter_list pl.isList ?_)
 refine⟨s.heap.objs.size,[s.heap.objs.size,a],[s.heap.objs.size],its.toArray.size,_,_,λi=>(bs[i]?).getD true,rfl,Walks.list (A:=X.A.in1) (I.ok.hd hc) _ a (Nat.ne_of_lt ap) its.toArray,
  ⟨⟨_,Heap.get?_push_size _ rfl,rfl,rfl⟩,pl.isList.at λo e=>Heap.get?_push_of_some _ e⟩,λi v s' Q' E' hP hQ=>?_,λh' tk hk=>?_⟩
 ·have hv':its[i]?=some v:=by simpa using hP
  obtain⟨x,ex,rx⟩:=B4 rv hv'
  rw[List.getElem?_map] at ex
  cases e:bs[i]? with
  |none=>rw[e] at ex;cases ex
  |some z=>
   rw[e] at ex
   have ex':V.bl z=x:=Option.some.inj ex
   subst ex'
   cases rx
   simp only[e,Option.getD_some] at hQ
   exact wpAny_truthy_bool hQ
 ·have e:((List.range its.toArray.size).all λi=>(bs[i]?).getD true)=bs.all id:=by
   rw[List.size_toArray, ←ag];exact S0 bs
  rw[e]
  have I2:Inv X aa U H {s with heap:=h',toks:=tk}:=I.kept (t':=tk) λb o e=>hk b o (λhm=>by
   rw[List.mem_singleton.mp hm] at e
   exact absurd (Heap.lt_size e) (Nat.lt_irrefl _)) (Heap.get?_push_of_some _ e)
  exact⟨.bl (bs.all id),H,I2,rfl,q⟩
def Sa (i j k:Nat)(ta:TA):TS:=λD U H=>ta U H λvs H1=>∃ v w z,vs=[v,w,z]/\D.nx (((U.set i (some v)).set j (some w)).set k (some z)) H1
theorem LJ {y z:Str}{a b:Expr}{ta:TA}{kt k2 pt2}(hc:X.calm=true)(hN:X.N.Nodup)(hi:X.N[i]?=some x)(hj:X.N[j]?=some y)(hk:X.N[k]?=some z)(b9:i≠j)(hik:i≠k)(hjk:j≠k)
  (hx:X.env.scope.names.lookup x=some .local)(hy:X.env.scope.names.lookup y=some .local)(hz:X.env.scope.names.lookup z=some .local)(ha:PA X [a,b,c] ta)
  (hw:swappedStores [.Tuple [.Name x px, .Name y py, .Name z pz] kt pt] (.Tuple [a,b,c] k2 pt2) X.env=pure (some [x,y,z]))
  (hs:swapsWithSole [.Tuple [.Name x px, .Name y py, .Name z pz] kt pt] (.Tuple [a,b,c] k2 pt2) pos.line X.env=pure false:=by rfl):
  PS X (.Assign [.Tuple [.Name x px, .Name y py, .Name z pz] kt pt] (.Tuple [a,b,c] k2 pt2) pos) (Sa i j k ta):=by
 intro aa s U H D I h
 rw[exec_Assign_arm]
 refine wpAny_bind (wpAny_standAt ?_)
 rw[hs]
 refine wpAny_bind (wpAny_pure ?_)
 rw[if_neg (by decide)]
 refine wpAny_bind (Tuple_ (thn (ha _ aa s U H _ I h) λus s1 r9=>?_))
 obtain⟨vs,H1,I1,r1,q1⟩:=r9
 obtain⟨v,w,t,e1,q1⟩:=q1
 subst e1
 obtain⟨u1,u2,u3,rfl,rv,cy,rt⟩:∃u1 u2 u3,us=[u1,u2,u3]/\XZ v u1/\XZ w u2/\XZ t u3:=by
  cases r1 with
  |cons p q=>
   cases q with
   |cons p' q'=>
    cases q' with
    |cons p'' q''=>
     cases q''
     exact⟨_,_,_,rfl,p,p',p''⟩
 refine wpAny_newObj_type ?_ (by show 3<=sizeLine;decide)
 have I2:Inv X aa U H1 {s1 with heap:=s1.heap.push {cls:=.type "tuple",data:=.seq [u1,u2,u3].toArray}}:=I1.kept (t':=s1.toks) λb o e=>Heap.get?_push_of_some _ e
 rw[hw]
 refine wpAny_bind (wpAny_pure ?_)
 show wpAny (model X.prog X.w) X.A (do rule "assign.swapped-stores";let items ←unpackItems (.ref s1.heap.objs.size) 3 none;assignInOrder [λv=>bindName X.env z v,λv=>bindName X.env y v,λv=>bindName X.env x v] items.reverse;pure Flow.next) _ _ _
 refine wpAny_bind (wpAny_rule (wpAny_bind (unpackItems_tuple (items:=#[u1,u2,u3]) (I.ok.hd hc) (IsTup.new s1.heap _) λh' fz=>?_)))
 have I3:=I2.kept (h':=h') (t':=s1.toks) λb o e=>fz b o (Nat.ne_of_lt (Heap.lt_size e)) e
 show wpAny _ _ (assignInOrder [λv=>bindName X.env z v,λv=>bindName X.env y v,λv=>bindName X.env x v] [u3,u2,u1] >>= λ_=>pure Flow.next) _ _ _
 refine wpAny_bind (assignInOrder_cons (wpAny_bindName (Ql I3 hN hk (.inl hz) rt (λs2 I4=>?_) (.inr hz))))
 refine assignInOrder_cons (wpAny_bindName (Ql I4 hN hj (.inl hy) cy (λs3 I5=>?_) (.inr hy)))
 refine assignInOrder_cons (wpAny_bindName (Ql I5 hN hi (.inl hx) rv (λs4 I6=>assignInOrder_nil (wpAny_pure ?_)) (.inr hx)))
 have e:(((U.set k (some t)).set j (some w)).set i (some v))=(((U.set i (some v)).set j (some w)).set k (some t)):=by
  rw[List.set_comm _ _ hjk.symm,List.set_comm _ _ hik.symm,List.set_comm _ _ b9.symm]
 rw[e] at I6
 exact⟨_,H1,I6,q1⟩
end
section
variable [DecidableEq M]{r:Enc M}{d:Nat}
open Classical in
end
section
end
section
theorem ZZ (K:W.Frag)(h:X.K=K):OpR X (compareOp .In) (rIn K false):=by subst h;exact KR
theorem V5 (K:W.Frag)(h:X.K=K):OpR X (compareOp .NotIn) (rIn K true):=by subst h;exact JF
variable {T:String}{name:Str}{id:String}{r:V->List V->Hp->VK->Prop}{o:Expr}{to:TE}{t:TA}{aJ am:Pos}
end
section
variable {bc iter:Expr}{wi:TI}{g:TG}{tt:TT}
theorem NG (hc:X.calm=true)(hi:PI X tg iter wi)(hG:Kj tns.length g)
  (hb:∀cl C s H ex E,PG (X.compN (tns++caps.map (·.2)) scope cl C s H ex E) tg g/\PTs (X.compN (tns++caps.map (·.2)) scope cl C s H ex E) bf tt/\PE (X.compN (tns++caps.map (·.2)) scope cl C s H ex E) bc te)
  (dy:X.env.scope=sc:=by rfl)(dI:X.N=N0:=by rfl)(ok:K4 sc scope N0 tns caps=true:=by decide+kernel)
  (hs:∀x,foldedSetIterable iter X.env x=pure x:=by intro _;rfl):
  PE X (.ListComp bc [⟨tg,iter,bf,0⟩] scope pos) (Eo tns.length caps wi g tt te):=Nu sc N0 tns caps hc hi hG hb dy dI ok hs
theorem Qd (hc:X.calm=true)(hi:PI X tg iter wi)(hG:Kj tns.length g)
  (hb:∀cl C s H ex E,PG (X.comp (tns++caps.map (·.2)) scope cl C s H ex E) tg g/\PTs (X.comp (tns++caps.map (·.2)) scope cl C s H ex E) bf tt/\PE (X.comp (tns++caps.map (·.2)) scope cl C s H ex E) bc te)
  (dy:X.env.scope=sc:=by rfl)(dI:X.N=N0:=by rfl)(ok:Cj sc scope N0 tns caps=true:=by decide+kernel)
  (hs:∀x,foldedSetIterable iter X.env x=pure x:=by intro _;rfl):
  PE X (.ListComp bc [⟨tg,iter,bf,0⟩] scope pos) (Eo tns.length caps wi g tt te):=O3 sc N0 tns caps hc hi hG hb dy dI ok hs
end
section
variable {l:Expr}{tl:TE}{p:Pos}
theorem XF (h:X.K=K)(hl:PE X l tl):PI X tg l (HU K tl):=by subst h;exact O6 hl
theorem Px (h:X.K=K)(hl:PE X l tl):PI X tg l (Wq K tl):=by subst h;exact Tv hl
end
def ND:List Int->Int
 | []=>0
 |a::r=>r.foldl max a
def NY:List Int->Int
 | []=>0
 |a::r=>r.foldl min a
theorem Hl (ns:List Int):∀k,k<ns.length->ns.getD (argBest (λi j=>decide (ns.getD i 0 > ns.getD j 0)) k) 0=ND (ns.take (k+1))
 |0,h=>by
  cases ns with
  |nil=>simp at h
  |cons a r=>simp[argBest,ND]
 |k+1,h=>by
  have ih:=Hl ns k (by omega)
  have e:ND (ns.take (k+1+1))=max (ND (ns.take (k+1))) (ns.getD (k+1) 0):=by
   rw[List.take_succ_eq_append_getElem h]
   cases ns with
   |nil=>simp at h
   |cons a r=>
    rw[List.take_succ_cons]
    simp only[ND,List.cons_append,List.foldl_append,List.foldl_cons,List.foldl_nil]
    rw[List.getD_eq_getElem?_getD,List.getElem?_eq_getElem h]
    rfl
  rw[e, ←ih]
  show ns.getD (if(decide (ns.getD (k+1) 0 > ns.getD (argBest _ k) 0))=true then k+1 else argBest _ k) 0=_
  by_cases hc:ns.getD (k+1) 0 > ns.getD (argBest (λi j=>decide (ns.getD i 0 > ns.getD j 0)) k) 0
  ·rw[if_pos (by simpa using hc)];omega
  ·rw[if_neg (by simpa using hc)];omega
theorem He (ns:List Int):∀k,k<ns.length->ns.getD (argBest (λi j=>decide (ns.getD i 0<ns.getD j 0)) k) 0=NY (ns.take (k+1))
 |0,h=>by
  cases ns with
  |nil=>simp at h
  |cons a r=>simp[argBest,NY]
 |k+1,h=>by
  have ih:=He ns k (by omega)
  have e:NY (ns.take (k+1+1))=min (NY (ns.take (k+1))) (ns.getD (k+1) 0):=by
   rw[List.take_succ_eq_append_getElem h]
   cases ns with
   |nil=>simp at h
   |cons a r=>
    rw[List.take_succ_cons]
    simp only[NY,List.cons_append,List.foldl_append,List.foldl_cons,List.foldl_nil]
    rw[List.getD_eq_getElem?_getD,List.getElem?_eq_getElem h]
    rfl
  rw[e, ←ih]
  show ns.getD (if(decide (ns.getD (k+1) 0<ns.getD (argBest _ k) 0))=true then k+1 else argBest _ k) 0=_
  by_cases hc:ns.getD (k+1) 0<ns.getD (argBest (λi j=>decide (ns.getD i 0<ns.getD j 0)) k) 0
  ·rw[if_pos (by simpa using hc)];omega
  ·rw[if_neg (by simpa using hc)];omega
section
theorem Dg (rv:X9 (ns.map V.int) its):∀(i:Nat) (v:Value),its.toArray[i]?=some v->∃t,v=Value.int (ns.getD i 0) t:=λi v hv=>by
 have hv':its[i]?=some v:=by simpa using hv
 obtain⟨x,ex,rx⟩:=B4 rv hv'
 rw[List.getElem?_map] at ex
 cases e:ns[i]? with
 |none=>rw[e] at ex;cases ex
 |some z=>
  rw[e] at ex
  have ex':V.int z=x:=Option.some.inj ex
  subst ex'
  obtain⟨t,rfl⟩:=rx
  exact⟨t,by simp[List.getD,e]⟩
def NQ (K:W.Frag)(f:List Int->Int):List V->Hp->VK->Prop:=λxs H Q=>∃ (a:Addr) (ns:List Int),xs=[.ref a]/\SqT K H a (ns.map V.int)/\0<ns.length/\Q (.int (f ns)) H
theorem GL (K:W.Frag)(hK:X.K=K)(hc:X.calm=true):ZX X (.builtin "max") (NQ K ND):=by
 subst hK
 intro aa s U H xs us Q I r h
 obtain⟨a,ns,rfl,hq,hne,q⟩:=h
 obtain⟨u,rfl,ru⟩:=Vg r
 cases ru
 obtain⟨its,rv,pl,hz⟩:=I.tuple hq
 have ag:its.length=ns.length:=by have:=rv.length;simpa using this.symm
 have ap:a<s.heap.objs.size:=by obtain⟨o,ho,_⟩:=pl;exact Heap.lt_size ho
 refine call_max_walk (wpAny_pyIter_tuple pl ?_)
 refine⟨s.heap.objs.size,_,_,_,_,_,_,rfl,Walks.tuple (prog:=X.prog) (w:=X.w) (A:=X.A.in1) (I.ok.hd hc) s.heap.objs.size a (Nat.ne_of_lt ap) its.toArray,⟨⟨_,Heap.get?_push_size _ rfl,rfl,rfl⟩,(show s.heap.IsTuple a its.toArray from pl).at λo e=>Heap.get?_push_of_some _ e⟩,λb hb=>?_,by rw[List.size_toArray,ag];exact hne,CmpOf.ints_gt (λi=>ns.getD i 0) (Dg rv),λv h' tk hP hk=>?_⟩
 ·rcases List.mem_cons.mp hb with e |hb
  ·rw[e,Heap.size_push];exact Nat.lt_succ_self _
  ·rw[List.mem_singleton.mp hb,Heap.size_push];exact Nat.lt_succ_of_lt ap
 ·have I2:Inv X aa U H {s with heap:=h',toks:=tk}:=I.kept (t':=tk) λb o e=>hk b o (λhm=>by
   rw[List.mem_singleton.mp hm] at e
   exact absurd (Heap.lt_size e) (Nat.lt_irrefl _)) (Heap.get?_push_of_some _ e)
  obtain⟨t,rfl⟩:=Dg rv _ _ hP
  refine⟨.int (ND ns),H,I2,⟨t,?_⟩,q⟩
  rw[List.size_toArray,ag,Hl ns (ns.length-1) (by omega),show ns.length-1+1=ns.length by omega,List.take_length]
theorem Y1 (K:W.Frag)(h:X.K=K):SlR X (Ws K):=by subst h;exact S4
end
inductive Pay where
 |non |int (i:Int) |tag (t:Str) (xs:List Int)
 deriving DecidableEq
structure Exc where
 cls:Str
 pay:Pay
inductive Rs (M:Type) where
 |bad |err (x:Exc) |ok (a:M)
def Rs.bind:Rs M->(M->Rs L)->Rs L
 | .bad,_=>.bad
 | .err x,_=>.err x
 | .ok a,f=>f a
theorem Rs.ok_bind (a:M)(f:M->Rs L):(Rs.ok a).bind f=f a:=rfl
def chk (c:Prop)[Decidable c](m:Rs M):Rs M:=if c then m else .bad
theorem Xi [Decidable c](h:c):chk c m=m:=if_pos h
abbrev XG:=Addr×HO
def Sz:HO->Bool
 | .lst _=>true
 | .dK _=>true
 | .dT _=>true
 |_=>false
def fl (OO:List (List XG)):List Addr:=OO.flatten.map (·.1)
open Classical in
def hid (H:Hp)(OO:List (List XG)):Hp:=λb=>if b∈fl OO then none else H b
structure W (OO:List (List XG))(H:Hp):Prop where
 tr:∀c∈OO.flatten,H c.1=some c.2
 nd:(fl OO).Nodup
 mu:∀c∈OO.flatten,Sz c.2=true
theorem X5 {OO}(h:hid H OO b=some o):H b=some o/\b∉fl OO:=by
 unfold hid at h
 split at h
 ·cases h
 ·exact⟨h,by assumption⟩
theorem Zr {OO}(h:H b=some o)(n:b∉fl OO):hid H OO b=some o:=by
 unfold hid;rw[if_neg n];exact h
theorem Xv {OO}:Xu (hid H OO) H:=λb o h=>(X5 h).1
theorem Xh {OO}(s:Xu H H'):Xu (hid H OO) (hid H' OO):=λb o h=>Zr (s _ _ (X5 h).1) (X5 h).2
theorem Qv {OO OO'}(s:Xu H H')(h:∀b,b∈fl OO'->b∈fl OO):Xu (hid H OO) (hid H' OO'):=λb o q=>Zr (s _ _ (X5 q).1) λz=>(X5 q).2 (h b z)
theorem XS {OO}:fl (C::OO)=C.map (·.1)++fl OO:=by simp[fl]
theorem MI {OO}:fl ([]::OO)=fl OO:=by simp[fl]
theorem ZS {OO}:hid H ([]::OO)=hid H OO:=by unfold hid;rw[MI]
theorem W.keep {OO}(w:W OO H)(s:Xu H H'):W OO H':=⟨λc hc=>s _ _ (w.tr c hc),w.nd,w.mu⟩
theorem W.of (w:W OO H)(h:OO'.flatten.Perm OO.flatten):W OO' H:=
 ⟨λc hc=>w.tr c (h.mem_iff.mp hc),(h.map _).nodup_iff.mpr w.nd,λc hc=>w.mu c (h.mem_iff.mp hc)⟩
theorem W.sub (w:W OO H)(h:OO'.flatten.Sublist OO.flatten):W OO' H:=
 ⟨λc hc=>w.tr c (h.mem hc),(h.map _).nodup w.nd,λc hc=>w.mu c (h.mem hc)⟩
theorem W.tail {C OO}(w:W (C::OO) H):W OO H:=w.sub (by simp)
theorem W.nil {OO}(w:W OO H):W ([]::OO) H:=w.of (by simp)
theorem W.cell {C OO}(w:W (C::OO) H):∀c∈C,H c.1=some c.2:=λc hc=>w.tr c (by simp[hc])
theorem U0 (h:c∈OO.flatten):c.1∈fl OO:=List.mem_map.mpr ⟨c,h,rfl⟩
theorem HZ (h:b∈fl OO):∃o,(b,o)∈OO.flatten:=by
 obtain⟨⟨a,o⟩,hc,rfl⟩:=List.mem_map.mp h
 exact⟨o,hc⟩
theorem W.fresh {OO}(w:W OO H)(h:H p=none):p∉fl OO:=λz=>by
 obtain⟨o,ho⟩:=HZ z
 have:=w.tr _ ho
 rw[h] at this;cases this
theorem W.new {OO}(w:W OO H)(h:H p=none)(m:Sz o=true):W ([(p,o)]::OO) (upd H p o):=by
 have hf:=w.fresh h
 refine⟨λc hc=>?_,?_,λc hc=>?_⟩
 ·simp only[List.flatten_cons,List.cons_append,List.nil_append,List.mem_cons] at hc
  rcases hc with rfl |hc
  ·exact Yg
  ·rw[X8 (λe=>hf (by rw[←e];exact U0 hc))];exact w.tr c hc
 ·rw[XS];simpa using ⟨hf,w.nd⟩
 ·simp only[List.flatten_cons,List.cons_append,List.nil_append,List.mem_cons] at hc
  rcases hc with rfl |hc
  ·exact m
  ·exact w.mu c hc
theorem UI {OO}(h:H p=none):Xu (hid H OO) (hid (upd H p o) ([(p,o)]::OO)):=λb u q=>by
 obtain⟨q1,q2⟩:=X5 q
 have hb:b≠p:=YD q1 h
 refine Zr (by rw[X8 hb];exact q1) ?_
 rw[XS];simpa using ⟨hb,q2⟩
theorem Km {OO}(w:W OO H)(h:H p=none):hid (upd H p o) OO p=some o:=Zr Yg (w.fresh h)
class MonoE {M:Type}(r:Enc M):Prop where
 mono:∀{K:W.Frag}{H H':Hp}{v:V}{a:M},Xu H H'->r K H v a->r K H' v a
def Ae:HO->Bool
 | .tup _=>true
 | .frz _ _=>true
 |_=>false
def BQ (H H':Hp):Prop:=∀ b o,H b=some o->Ae o=true->H' b=some o
theorem Xu.i {H H':Hp}(s:Xu H H'):BQ H H':=λb o h _=>s b o h
theorem W.i {OO}{H:Hp}(w:W OO H):BQ H (hid H OO):=λb o h i=>Zr h λz=>by
 obtain⟨u,hu⟩:=HZ z
 have h1:=w.tr _ hu
 have h2:=w.mu _ hu
 rw[h] at h1
 have e:o=u:=Option.some.inj h1
 subst e
 revert i h2;cases o<;> simp[Ae,Sz]
class FlatE {M:Type}(r:Enc M):Prop where
 flat:∀{K:W.Frag}{H H':Hp}{v:V}{a:M},BQ H H'->r K H v a->r K H' v a
instance {M:Type}{r:Enc M}[f:FlatE r]:MonoE r:=⟨λs h=>f.flat s.i h⟩
def Xw:Enc Bool:=λ_ _ v b=>v= .bl b
def Kq:Enc Str:=λ_ _ v x=>v= .str x
def LP (r:Enc M):Enc (Option M):=λK H v a=>match a with
 |none=>v= .non
 |some a=>v≠ .non/\r K H v a
def rV (r:Enc M):Enc (List M):=λK H v as=>∃ a xs,v= .ref a/\H a=some (.lst xs)/\Paired (r K H) xs as
def rPL (r:Enc M):Enc (List M):=λK H v as=>∃ a xs,v= .ref a/\H a=some (.tup xs)/\Paired (r K H) xs as
def rP2 (r:Enc M)(q:Enc L):Enc (M×L):=λK H v p=>∃ a x y,v= .ref a/\H a=some (.tup [x,y])/\r K H x p.1/\q K H y p.2
def rP3 (r:Enc M)(q:Enc L)(t:Enc B):Enc (M×L×B):=λK H v p=>∃ a x y z,v= .ref a/\H a=some (.tup [x,y,z])/\r K H x p.1/\q K H y p.2.1/\t K H z p.2.2
instance {M:Type}{r:Enc M}[m:MonoE r]:MonoE (rV r):=⟨λs r9=>by obtain⟨a,xs,e,q,p⟩:=r9;exact⟨a,xs,e,s _ _ q,Paired.imp2 (λ_ _ z=>m.mono s z) p⟩⟩
instance {M:Type}{r:Enc M}[m:MonoE r]:MonoE (rPL r):=⟨λs r9=>by obtain⟨a,xs,e,q,p⟩:=r9;exact⟨a,xs,e,s _ _ q,Paired.imp2 (λ_ _ z=>m.mono s z) p⟩⟩
instance {M:Type}{r:Enc M}[m:FlatE r]:FlatE (rPL r):=⟨λs r9=>by obtain⟨a,xs,e,q,p⟩:=r9;exact⟨a,xs,e,s _ _ q rfl,Paired.imp2 (λ_ _ z=>m.flat s z) p⟩⟩
instance {M L:Type}{r:Enc M}{q:Enc L}[m:MonoE r][n:MonoE q]:MonoE (rP2 r q):=⟨λs r9=>by obtain⟨a,x,y,e,h,p1,p2⟩:=r9;exact⟨a,x,y,e,s _ _ h,m.mono s p1,n.mono s p2⟩⟩
instance {M L:Type}{r:Enc M}{q:Enc L}[m:FlatE r][n:FlatE q]:FlatE (rP2 r q):=⟨λs r9=>by obtain⟨a,x,y,e,h,p1,p2⟩:=r9;exact⟨a,x,y,e,s _ _ h rfl,m.flat s p1,n.flat s p2⟩⟩
instance {M L B:Type}{r:Enc M}{q:Enc L}{t:Enc B}[m:MonoE r][n:MonoE q][k:MonoE t]:MonoE (rP3 r q t):=⟨λs r9=>by obtain⟨a,x,y,z,e,h,p1,p2,p3⟩:=r9;exact⟨a,x,y,z,e,s _ _ h,m.mono s p1,n.mono s p2,k.mono s p3⟩⟩
instance {M L B:Type}{r:Enc M}{q:Enc L}{t:Enc B}[m:FlatE r][n:FlatE q][k:FlatE t]:FlatE (rP3 r q t):=⟨λs r9=>by obtain⟨a,x,y,z,e,h,p1,p2,p3⟩:=r9;exact⟨a,x,y,z,e,s _ _ h rfl,m.flat s p1,n.flat s p2,k.flat s p3⟩⟩
instance:FlatE Xf:=⟨λ_ h=>h⟩
instance:FlatE Xw:=⟨λ_ h=>h⟩
instance:FlatE Kq:=⟨λ_ h=>h⟩
instance {M:Type}{r:Enc M}[m:MonoE r]:MonoE (rL r):=⟨λs r9=>by obtain⟨a,xs,e,q,p⟩:=r9;exact⟨a,xs,e,s.seq q,Paired.imp2 (λ_ _ z=>m.mono s z) p⟩⟩
instance {M:Type}{r:Enc M}[m:MonoE r]:MonoE (LP r):=⟨fun {K H H' v a} s h=>by cases a with
 |none=>exact h
 |some a=>exact⟨h.1,m.mono s h.2⟩⟩
instance {M:Type}{r:Enc M}[m:FlatE r]:FlatE (LP r):=⟨fun {K H H' v a} s h=>by cases a with
 |none=>exact h
 |some a=>exact⟨h.1,m.flat s h.2⟩⟩
abbrev OE (M:Type):=W.Frag->Hp->V->M->List XG->Prop
inductive P3 {M L B:Type}(F:M->L->B->Prop):List M->List L->List B->Prop where
 |nil:P3 F [] [] []
 |cons {a b c l m n}:F a b c->P3 F l m n->P3 F (a::l) (b::m) (c::n)
def oF (r:Enc M):OE M:=λK h v a C=>C=[]/\r K h v a
def oL (o:OE M):OE (List M):=λK h v as C=>∃ p xs Cs,v= .ref p/\P3 (o K h) xs as Cs/\C=(p, .lst xs)::Cs.flatten
def oT2 (o:OE M)(q:OE L):OE (M×L):=λK h v a C=>∃ p x y C1 C2,v= .ref p/\h p=some (.tup [x,y])/\o K h x a.1 C1/\q K h y a.2 C2/\C=C1++C2
def W9 (o:OE M):OE (Option M):=λK h v a C=>match a with
 |none=>v= .non/\C=[]
 |some a=>v≠ .non/\o K h v a C
section
theorem P3.imp {F:M->L->B->Prop}(h:∀a b c,F a b c->G a b c):∀{l m n},P3 F l m n->P3 G l m n:=λp=>by
 induction p with
 |nil=>exact .nil
 |cons r _ ih=>exact .cons (h _ _ _ r) ih
theorem P3.app {F:M->L->B->Prop}:∀{l m n l' m' n'},P3 F l m n->P3 F l' m' n'->P3 F (l++l') (m++m') (n++n'):=λp h=>by
 induction p with
 |nil=>exact h
 |cons r _ ih=>exact .cons r ih
theorem P3.snoc {F:M->L->B->Prop}{l m n a b c}(h:P3 F l m n)(r:F a b c):P3 F (l++[a]) (m++[b]) (n++[c]):=h.app (.cons r .nil)
theorem P3.len {F:M->L->B->Prop}:∀{l m n},P3 F l m n->l.length=m.length/\n.length=m.length:=λp=>by
 induction p with
 |nil=>exact⟨rfl,rfl⟩
 |cons _ _ ih=>exact⟨congrArg Nat.succ ih.1,congrArg Nat.succ ih.2⟩
theorem P3.pair {F:M->L->B->Prop}:∀{l m n},P3 F l m n->(∀a b c,c∈n->F a b c->G a b)->Paired G l m:=λp h=>by
 induction p with
 |nil=>exact .nil
 |cons r _ ih=>exact .cons (h _ _ _ List.mem_cons_self r) (ih λa b c hc=>h a b c (List.mem_cons_of_mem _ hc))
theorem P3.get {F:M->L->B->Prop}:∀{l m n}{i:Nat}{b:L},P3 F l m n->m[i]?=some b->∃a c,l[i]?=some a/\n[i]?=some c/\F a b c
 |_,_,_,_,_, .nil,e=>by simp at e
 |_,_,_,0,_, .cons r _,e=>by simp at e;subst e;exact⟨_,_,rfl,rfl,r⟩
 |_,_,_,i+1,b, .cons _ t,e=>by
  obtain⟨a,c,h1,h2,h3⟩:=P3.get (i:=i) (b:=b) t (by simpa using e)
  exact⟨a,c,by simpa using h1,by simpa using h2,h3⟩
theorem P3.set {F:M->L->B->Prop}{a:M}{b:L}(r:F a b c):∀{l m n} (i:Nat),P3 F l m n->P3 F (l.set i a) (m.set i b) (n.set i c)
 |_,_,_,_, .nil=>.nil
 |_,_,_,0, .cons _ t=>.cons r t
 |_,_,_,i+1, .cons q t=>.cons q (P3.set r i t)
theorem P3.flat:∀{l:List M}{m:List L}{n:List (List XG)},P3 (λa b c=>c=[]/\F a b) l m n->Paired F l m/\n.flatten=[]:=λp=>by
 induction p with
 |nil=>exact⟨.nil,rfl⟩
 |cons r _ ih=>exact⟨.cons r.2 ih.1,by rw[List.flatten_cons,r.1,ih.2];rfl⟩
theorem P3.of:∀{l:List M}{m:List L},Paired F l m->P3 (λa b (c:List XG)=>c=[]/\F a b) l m (List.replicate m.length [])
 |_,_, .nil=>.nil
 |_,_, .cons r t=>.cons ⟨rfl,r⟩ (P3.of t)
theorem Yh:∀n:Nat,(List.replicate n ([]:List XG)).flatten=[]
 |0=>rfl
 |n+1=>by simp[List.replicate_succ,Yh n]
end
class MonoO {M:Type}(o:OE M):Prop where
 mono:∀{K:W.Frag}{H H':Hp}{v:V}{a:M}{C:List XG},Xu H H'->o K H v a C->o K H' v a C
class FlatO {M:Type}(o:OE M):Prop where
 flat:∀{K:W.Frag}{H H':Hp}{v:V}{a:M}{C:List XG},BQ H H'->o K H v a C->o K H' v a C
class FrzC {M:Type}(o:OE M)(r:outParam (Enc M)):Prop where
 frz:∀{K:W.Frag}{H H':Hp}{v:V}{a:M}{C:List XG},o K H v a C->Xu H H'->(∀c∈C,H' c.1=some c.2)->r K H' v a
instance {M:Type}{r:Enc M}[m:MonoE r]:MonoO (oF r):=⟨λs h=>⟨h.1,m.mono s h.2⟩⟩
instance {M:Type}{r:Enc M}[m:FlatE r]:FlatO (oF r):=⟨λs h=>⟨h.1,m.flat s h.2⟩⟩
instance {M:Type}{r:Enc M}[m:MonoE r]:FrzC (oF r) r:=⟨λh s _=>m.mono s h.2⟩
instance {M:Type}{o:OE M}[m:MonoO o]:MonoO (oL o):=⟨λs r9=>by obtain⟨p,xs,Cs,e,q,c⟩:=r9;exact⟨p,xs,Cs,e,q.imp λ_ _ _ z=>m.mono s z,c⟩⟩
instance {M:Type}{o:OE M}[m:FlatO o]:FlatO (oL o):=⟨λs r9=>by obtain⟨p,xs,Cs,e,q,c⟩:=r9;exact⟨p,xs,Cs,e,q.imp λ_ _ _ z=>m.flat s z,c⟩⟩
instance {M:Type}{o:OE M}{r:Enc M}[m:FrzC o r]:FrzC (oL o) (rV r):=⟨λ⟨p,xs,Cs,e,q,c⟩ s hc=>by
 subst c
 exact⟨p,xs,e,hc _ List.mem_cons_self,q.pair λa b c hm z=>m.frz z s λx hx=>hc x (List.mem_cons_of_mem _ (List.mem_flatten.mpr ⟨c,hm,hx⟩))⟩⟩
instance {M L:Type}{o:OE M}{q:OE L}[m:MonoO o][n:MonoO q]:MonoO (oT2 o q):=⟨λs r9=>by obtain⟨p,x,y,C1,C2,e,h,h1,h2,c⟩:=r9;exact⟨p,x,y,C1,C2,e,s _ _ h,m.mono s h1,n.mono s h2,c⟩⟩
instance {M L:Type}{o:OE M}{q:OE L}[m:FlatO o][n:FlatO q]:FlatO (oT2 o q):=⟨λs r9=>by obtain⟨p,x,y,C1,C2,e,h,h1,h2,c⟩:=r9;exact⟨p,x,y,C1,C2,e,s _ _ h rfl,m.flat s h1,n.flat s h2,c⟩⟩
instance {M L:Type}{o:OE M}{q:OE L}{r:Enc M}{t:Enc L}[m:FrzC o r][n:FrzC q t]:FrzC (oT2 o q) (rP2 r t):=⟨λ⟨p,x,y,C1,C2,e,h,h1,h2,c⟩ s hc=>by
 subst c
 exact⟨p,x,y,e,s _ _ h,m.frz h1 s λc hm=>hc c (by simp[hm]),n.frz h2 s λc hm=>hc c (by simp[hm])⟩⟩
instance {M:Type}{o:OE M}[m:MonoO o]:MonoO (W9 o):=⟨fun {K H H' v a C} s h=>by cases a with
 |none=>exact h
 |some a=>exact⟨h.1,m.mono s h.2⟩⟩
instance {M:Type}{o:OE M}[m:FlatO o]:FlatO (W9 o):=⟨fun {K H H' v a C} s h=>by cases a with
 |none=>exact h
 |some a=>exact⟨h.1,m.flat s h.2⟩⟩
instance {M:Type}{o:OE M}{r:Enc M}[m:FrzC o r]:FrzC (W9 o) (LP r):=⟨fun {K H H' v a C} h s hc=>by cases a with
 |none=>exact h.1
 |some a=>exact⟨h.1,m.frz h.2 s hc⟩⟩
structure SC where
 p:Hp->Prop
 mono:∀h h',Xu h h'->p h->p h'
def SC.nil:SC:=⟨λ_=>True,λ_ _ _ _=>True.intro⟩
def SC.and (S T:SC):SC:=⟨λh=>S.p h/\T.p h,λ_ _ s q=>⟨S.mono _ _ s q.1,T.mono _ _ s q.2⟩⟩
def SC.one (K:W.Frag)(r:Enc M)[m:MonoE r](v:V)(a:M):SC:=⟨λh=>r K h v a,λ_ _ s q=>m.mono s q⟩
def SC.oneO (K:W.Frag)(o:OE M)[m:MonoO o](v:V)(a:M)(C:List XG):SC:=⟨λh=>o K h v a C,λ_ _ s q=>m.mono s q⟩
abbrev SC.add (S:SC)(K:W.Frag)(r:Enc M)[m:MonoE r](v:V)(a:M):SC:=S.and (SC.one K r v a)
abbrev SC.addO (S:SC)(K:W.Frag)(o:OE M)[m:MonoO o](v:V)(a:M)(C:List XG):SC:=S.and (SC.oneO K o v a C)
theorem SC.l {S T:SC}{h:Hp}(q:(S.and T).p h):S.p h:=q.1
theorem SC.r {S:SC}(q:(S.and T).p h):T.p h:=q.2
theorem SC.i {S T:SC}{h:Hp}(q:S.p h)(p:T.p h):(S.and T).p h:=⟨q,p⟩
theorem SC.t {h:Hp}:SC.nil.p h:=True.intro
theorem SC.p.l {S T:SC}{h:Hp}(q:(S.and T).p h):S.p h:=q.1
theorem SC.p.r {S T:SC}{h:Hp}(q:(S.and T).p h):T.p h:=q.2
def PZ (Er:Exc->Hp->Prop)(F:L->Hp->Prop)(H:Hp)(m:Rs L):Prop:=
 match m with
 | .bad=>False
 | .err x=>∀ H',Xu H H'->Er x H'
 | .ok b=>F b H
section
variable (K:W.Frag)(Er:Exc->Hp->Prop)(S:SC)(OO OO':List (List XG))(U:St)
def FB (r:Enc M)(Q:VK)(a:M)(H:Hp):Prop:=∀ v H',Xu H H'->r K H' v a->Q v H'
def FO (o:OE M)(Q:VK)(a:M)(H:Hp):Prop:=∀ v C H',Xu H H'->W (C::OO') H'->Xu (hid H OO) (hid H' (C::OO'))->o K (hid H' (C::OO')) v a C->Q v H'
def FT (Q:Bool->Hp->Prop)(b:Bool)(H:Hp):Prop:=∀ H',Xu H H'->Q b H'
def EvB (te:TE)(r:Enc M)(m:Rs M):Prop:=∀ H Q,W OO H->S.p (hid H OO)->PZ Er (FB K r Q) H m->te U H Q
def Ev (te:TE)(o:OE M)(m:Rs M):Prop:=∀ H Q,W OO H->S.p (hid H OO)->PZ Er (FO K OO OO' o Q) H m->te U H Q
def EvT (tt:TT)(m:Rs Bool):Prop:=∀ H Q,W OO H->S.p (hid H OO)->PZ Er (FT Q) H m->tt U H Q
end
section
variable {Er:Exc->Hp->Prop}{S:SC}{OO OO' b7:List (List XG)}
theorem FB.tr {Q:VK}:∀a H H',Xu H H'->FB K r Q a H->FB K r Q a H':=λa H H' s h v H2 s2 q=>h v H2 (s.trans s2) q
theorem FO.tr {Q:VK}:∀a H H',Xu H H'->FO K OO OO' o Q a H->FO K OO OO' o Q a H':=λa H H' s h v C H2 s2 w m q=>h v C H2 (s.trans s2) w ((Xh s).trans m) q
theorem FT.tr {Q:Bool->Hp->Prop}:∀b H H',Xu H H'->FT Q b H->FT Q b H':=λa H H' s h H2 s2=>h H2 (s.trans s2)
theorem EvB.run (he:EvB K Er S OO U te r m){Q:VK}(w:W OO H)(s:S.p (hid H OO)){F:L->Hp->Prop}(hF:∀b H H',Xu H H'->F b H->F b H')(P:PZ Er F H (m.bind f))
  (hk:∀a v H',Xu H H'->W OO H'->S.p (hid H' OO)->r K H' v a->PZ Er F H' (f a)->Q v H'):te U H Q:=by
 refine he H Q w s ?_
 cases m with
 |bad=>exact P
 |err x=>exact P
 |ok a=>
  intro v H' s' hr
  refine hk a v H' s' (w.keep s') (S.mono _ _ (Xh s') s) hr ?_
  have P':PZ Er F H (f a):=P
  revert P'
  cases f a with
  |bad=>exact λz=>z
  |err x=>exact λz H2 s2=>z H2 (s'.trans s2)
  |ok b=>exact λz=>hF b H H' s' z
theorem EvT.run (he:EvT Er S OO U tt m){Q:Bool->Hp->Prop}(w:W OO H)(s:S.p (hid H OO)){F:L->Hp->Prop}(hF:∀b H H',Xu H H'->F b H->F b H')(P:PZ Er F H (m.bind f))
  (hk:∀b H',Xu H H'->W OO H'->S.p (hid H' OO)->PZ Er F H' (f b)->Q b H'):tt U H Q:=by
 refine he H Q w s ?_
 cases m with
 |bad=>exact P
 |err x=>exact P
 |ok a=>
  intro H' s'
  refine hk a H' s' (w.keep s') (S.mono _ _ (Xh s') s) ?_
  have P':PZ Er F H (f a):=P
  revert P'
  cases f a with
  |bad=>exact λz=>z
  |err x=>exact λz H2 s2=>z H2 (s'.trans s2)
  |ok b=>exact λz=>hF b H H' s' z
theorem Ev.toB [z:FrzC o r](he:Ev K Er S OO OO U te o m):EvB K Er S OO U te r m:=λH Q w s P=>by
 refine he H Q w s ?_
 cases m with
 |bad=>exact P
 |err x=>exact P
 |ok a=>exact λv C H' s' w' m' ho=>P v H' s' (z.frz ho Xv w'.cell)
theorem Ev.frz [z:FrzC o r](he:Ev K Er S OO OO' U te o m):Ev K Er S OO OO' U te (oF r) m:=λH Q w s P=>by
 refine he H Q w s ?_
 cases m with
 |bad=>exact P
 |err x=>exact P
 |ok a=>
  intro v C H' s' w' m' ho
  have hs:Xu (hid H' (C::OO')) (hid H' ([]::OO')):=Qv (Xu.refl _) λb hb=>by rw[MI] at hb;rw[XS];simp[hb]
  refine P v [] H' s' w'.tail.nil (m'.trans hs) ⟨rfl,z.frz ho hs λc hc=>Zr (w'.cell c hc) ?_⟩
  rw[MI]
  have:=w'.nd
  rw[XS] at this
  intro hb
  exact(List.nodup_append.mp this).2.2 c.1 (List.mem_map.mpr ⟨c,hc,rfl⟩) c.1 hb rfl
theorem EvB.flat {te:TE}{r:Enc M}[z:FlatE r]{m:Rs M}(he:EvB K Er S OO U te r m):Ev K Er S OO OO U te (oF r) m:=λH Q w s P=>by
 refine he H Q w s ?_
 cases m with
 |bad=>exact P
 |err x=>exact P
 |ok a=>
  intro v H' s' hr
  have w':=w.keep s'
  exact P v [] H' s' w'.nil (by rw[ZS];exact Xh s') ⟨rfl,by rw[ZS];exact z.flat w'.i hr⟩
theorem Zd [z:MonoE r]{a:M}(i:Nat)(hσ:U[i]?=some (some v))(h:∀x,S.p x->r K x v a):EvB K Er S OO U (Ji i) r (.ok a):=λH Q w s P=>
 ⟨v,hσ,P v H (Xu.refl _) (z.mono Xv (h _ s))⟩
theorem VJ [z:FrzC o r]{a:M}(i k:Nat)(hσ:U[i]?=some (some v))(hk:OO[k]?=some C)(h:∀x,S.p x->o K x v a C):EvB K Er S OO U (Ji i) r (.ok a):=λH Q w s P=>
 ⟨v,hσ,P v H (Xu.refl _) (z.frz (h _ s) Xv λc hc=>w.tr c (List.mem_flatten.mpr ⟨C,List.mem_of_getElem? hk,hc⟩))⟩
theorem XQ:∀{OO:List (List XG)}{k:Nat}{C:List XG},OO[k]?=some C->(C::OO.set k []).flatten.Perm OO.flatten
 | [],_,_,h=>by simp at h
 |D::OO,0,C,h=>by simp at h;subst h;simp
 |D::OO,k+1,C,h=>by
  have:=XQ (OO:=OO) (k:=k) (C:=C) (by simpa using h)
  simp only[List.set_cons_succ,List.flatten_cons] at this⊢
  refine List.Perm.trans ?_ (this.append_left D)
  rw[←List.append_assoc, ←List.append_assoc]
  exact List.perm_append_comm.append_right _
theorem UN {OO OO':List (List XG)}(h:OO'.flatten.Perm OO.flatten)(b:Addr):b∈fl OO'↔b∈fl OO:=(h.map (·.1)).mem_iff
theorem XM {OO OO':List (List XG)}(h:OO'.flatten.Perm OO.flatten):hid H OO'=hid H OO:=by
 funext b;unfold hid
 by_cases hb:b∈fl OO
 ·rw[if_pos hb,if_pos ((UN h b).mpr hb)]
 ·rw[if_neg hb,if_neg λz=>hb ((UN h b).mp z)]
theorem BJ {a:M}(i k:Nat)(hσ:U[i]?=some (some v))(hk:OO[k]?=some C)(h:∀x,S.p x->o K x v a C):Ev K Er S OO (OO.set k []) U (Ji i) o (.ok a):=λH Q w s P=>by
 have hp:=XQ hk
 exact⟨v,hσ,P v C H (Xu.refl _) (w.of hp) (by rw[XM hp];exact Xu.refl _) (by rw[XM hp];exact h _ s)⟩
theorem Y9 (n:Int):EvB K Er S OO U (tC (.int n)) Xf (.ok n):=λH Q w s P=>P _ H (Xu.refl _) rfl
theorem SH (b:Bool):EvB K Er S OO U (tC (.bl b)) Xw (.ok b):=λH Q w s P=>P _ H (Xu.refl _) rfl
theorem RQ (x:Str):EvB K Er S OO U (tC (.str x)) Kq (.ok x):=λH Q w s P=>P _ H (Xu.refl _) rfl
theorem Uk {g:Int->Int->V}{r:Enc L}{f:Int->Int->L}{ma mb:Rs Int}(hg:∀K H i j,r K H (g i j) (f i j))(ha:EvB K Er S OO U ta Xf ma)(hb:EvB K Er S OO U tb Xf mb):
  EvB K Er S OO U (tOp (rI0 g) ta tb) r (ma.bind λa=>mb.bind λb=>.ok (f a b)):=λH Q w s P=>
 ha.run w s FB.tr P λa x H1 s1 w1 q1 r1 P1=>hb.run w1 q1 FB.tr P1 λb y H2 s2 w2 q2 r2 P2=>⟨a,b,r1,r2,P2 _ H2 (Xu.refl _) (hg K H2 a b)⟩
theorem Dv {Cc:Int->Int->Prop}{g:Int->Int->V}{r:Enc L}{f:Int->Int->Rs L}{ma mb:Rs Int}(hg:∀K H i j c,f i j= .ok c->Cc i j/\r K H (g i j) c)(he:∀i j x,f i j≠ .err x)
  (ha:EvB K Er S OO U ta Xf ma)(hb:EvB K Er S OO U tb Xf mb):
  EvB K Er S OO U (tOp (rI Cc g) ta tb) r (ma.bind λa=>mb.bind λb=>f a b):=λH Q w s P=>
 ha.run w s FB.tr P λa x H1 s1 w1 q1 r1 P1=>hb.run w1 q1 FB.tr P1 λb y H2 s2 w2 q2 r2 P2=>by
  cases e:f a b with
  |bad=>rw[e] at P2;exact P2.elim
  |err x=>exact absurd e (he a b x)
  |ok c=>
   rw[e] at P2
   obtain⟨h1,h2⟩:=hg K H2 a b c e
   exact⟨a,b,r1,r2,h1,P2 _ H2 (Xu.refl _) h2⟩
def O7 (a b:Int):Rs Int:=chk ((-(2^64)<a/\a<2^64)∨(-(2^64)<b/\b<2^64)) (.ok (a*b))
def OI (a b:Int):Rs Int:=chk (0<b) (.ok (a % b))
def WR (a b:Int):Rs Int:=chk (0<b/\b.natAbs.log2<9000) (.ok (a/b))
def WU (a b:Int):Rs Int:=chk (0<=b/\b<=1000000/\a.natAbs<2^64) (.ok (a^b.toNat))
theorem Z8 [Decidable c]{a:M}(h:chk c m= .ok a):c/\m= .ok a:=by
 unfold chk at h;split at h
 ·exact⟨by assumption,h⟩
 ·cases h
theorem Vh [Decidable c]{a:M}{x:Exc}:chk c (Rs.ok a)≠ .err x:=by
 unfold chk;split<;> exact λz=>nomatch z
theorem ZM {ma mb:Rs Int}(ha:EvB K Er S OO U ta Xf ma)(hb:EvB K Er S OO U tb Xf mb):EvB K Er S OO U (tOp (rI TU λi j=>.int (i*j)) ta tb) Xf (ma.bind λa=>mb.bind λb=>O7 a b):=
 Dv (λK H i j c h=>by obtain⟨h1,h2⟩:=Z8 h;cases h2;exact⟨h1,rfl⟩) (λi j x=>Vh) ha hb
theorem DQ {ma mb:Rs Int}(ha:EvB K Er S OO U ta Xf ma)(hb:EvB K Er S OO U tb Xf mb):EvB K Er S OO U (tOp (rI (λ_ j=>0<j) λi j=>.int (i % j)) ta tb) Xf (ma.bind λa=>mb.bind λb=>OI a b):=
 Dv (λK H i j c h=>by obtain⟨h1,h2⟩:=Z8 h;cases h2;exact⟨h1,rfl⟩) (λi j x=>Vh) ha hb
theorem Pj {ma mb:Rs Int}(ha:EvB K Er S OO U ta Xf ma)(hb:EvB K Er S OO U tb Xf mb):EvB K Er S OO U (tOp (rI (λ_ j=>0<j/\j.natAbs.log2<9000) λi j=>.int (i/j)) ta tb) Xf (ma.bind λa=>mb.bind λb=>WR a b):=
 Dv (λK H i j c h=>by obtain⟨h1,h2⟩:=Z8 h;cases h2;exact⟨h1,rfl⟩) (λi j x=>Vh) ha hb
theorem O2 {ma mb:Rs Int}(ha:EvB K Er S OO U ta Xf ma)(hb:EvB K Er S OO U tb Xf mb):EvB K Er S OO U (tOp (rI WW λi j=>.int (i^j.toNat)) ta tb) Xf (ma.bind λa=>mb.bind λb=>WU a b):=
 Dv (λK H i j c h=>by obtain⟨h1,h2⟩:=Z8 h;cases h2;exact⟨h1,rfl⟩) (λi j x=>Vh) ha hb
theorem DM {ma mb:Rs Int}(ha:EvB K Er S OO U ta Xf ma)(hb:EvB K Er S OO U tb Xf mb):EvB K Er S OO U (tOp (rI0 λi j=>.int (i+j)) ta tb) Xf (ma.bind λa=>mb.bind λb=>.ok (a+b)):=Uk (λ_ _ _ _=>rfl) ha hb
theorem Uo {ma mb:Rs Int}(ha:EvB K Er S OO U ta Xf ma)(hb:EvB K Er S OO U tb Xf mb):EvB K Er S OO U (tOp (rI0 λi j=>.int (i-j)) ta tb) Xf (ma.bind λa=>mb.bind λb=>.ok (a-b)):=Uk (λ_ _ _ _=>rfl) ha hb
theorem GH {ma mb:Rs Int}(ha:EvB K Er S OO U ta Xf ma)(hb:EvB K Er S OO U tb Xf mb):EvB K Er S OO U (tOp (rI0 λi j=>.bl (decide (i<j))) ta tb) Xw (ma.bind λa=>mb.bind λb=>.ok (decide (a<b))):=Uk (λ_ _ _ _=>rfl) ha hb
theorem OD {ma mb:Rs Int}(ha:EvB K Er S OO U ta Xf ma)(hb:EvB K Er S OO U tb Xf mb):EvB K Er S OO U (tOp (rI0 λi j=>.bl (decide (i<=j))) ta tb) Xw (ma.bind λa=>mb.bind λb=>.ok (decide (a<=b))):=Uk (λ_ _ _ _=>rfl) ha hb
theorem Ft {ma mb:Rs Int}(ha:EvB K Er S OO U ta Xf ma)(hb:EvB K Er S OO U tb Xf mb):EvB K Er S OO U (tOp (rI0 λi j=>.bl (decide (j<i))) ta tb) Xw (ma.bind λa=>mb.bind λb=>.ok (decide (b<a))):=Uk (λ_ _ _ _=>rfl) ha hb
theorem SF {ma mb:Rs Int}(ha:EvB K Er S OO U ta Xf ma)(hb:EvB K Er S OO U tb Xf mb):EvB K Er S OO U (tOp (rI0 λi j=>.bl (decide (j<=i))) ta tb) Xw (ma.bind λa=>mb.bind λb=>.ok (decide (b<=a))):=Uk (λ_ _ _ _=>rfl) ha hb
theorem Vo (ha:EvB K Er S OO U ta Xf ma):EvB K Er S OO U (tUn (rU λi=>.int (-i)) ta) Xf (ma.bind λa=>.ok (-a)):=λH Q w s P=>
 ha.run w s FB.tr P λa x H1 s1 w1 q1 r1 P1=>⟨a,r1,P1 _ H1 (Xu.refl _) rfl⟩
class Scal {M:Type}[DecidableEq M](r:Enc M):Prop where
 to:∀{K:W.Frag}{H H':Hp}{x y:V}{a b:M},r K H x a->r K H' y b->WN x y=true/\decide (x=y)=decide (a=b)
instance:Scal Xf:=⟨fun {K H H' x y a b} h1 h2=>by cases(show x= .int a from h1);cases(show y= .int b from h2);exact⟨rfl,by simp⟩⟩
instance:Scal Xw:=⟨fun {K H H' x y a b} h1 h2=>by cases(show x= .bl a from h1);cases(show y= .bl b from h2);exact⟨rfl,by simp⟩⟩
instance:Scal Kq:=⟨fun {K H H' x y a b} h1 h2=>by cases(show x= .str a from h1);cases(show y= .str b from h2);exact⟨rfl,by simp⟩⟩
theorem Je [DecidableEq M]{r:Enc M}[z:Scal r][MonoE r]{ma mb:Rs M}(ha:EvB K Er S OO U ta r ma)(hb:EvB K Er S OO U tb r mb):EvB K Er S OO U (tOp rEq ta tb) Xw (ma.bind λa=>mb.bind λb=>.ok (decide (a=b))):=λH Q w s P=>
 ha.run w s FB.tr P λa x H1 s1 w1 q1 r1 P1=>hb.run w1 q1 FB.tr P1 λb y H2 s2 w2 q2 r2 P2=>by
  obtain⟨h1,h2⟩:=z.to r1 r2
  exact⟨h1,P2 _ H2 (Xu.refl _) (by rw[h2];rfl)⟩
theorem GB [DecidableEq M]{r:Enc M}[z:Scal r][MonoE r]{ma mb:Rs M}(ha:EvB K Er S OO U ta r ma)(hb:EvB K Er S OO U tb r mb):EvB K Er S OO U (tOp rNe ta tb) Xw (ma.bind λa=>mb.bind λb=>.ok (!decide (a=b))):=λH Q w s P=>
 ha.run w s FB.tr P λa x H1 s1 w1 q1 r1 P1=>hb.run w1 q1 FB.tr P1 λb y H2 s2 w2 q2 r2 P2=>by
  obtain⟨h1,h2⟩:=z.to r1 r2
  exact⟨h1,P2 _ H2 (Xu.refl _) (by rw[h2];rfl)⟩
theorem Ld [DecidableEq M]{r:Enc M}[z:MonoE r]{ma mb:Rs M}(ha:EvB K Er S OO U ta r ma)(hb:EvB K Er S OO U tb r mb):EvB K Er S OO U (tOp (Wn K r) ta tb) Xw (ma.bind λa=>mb.bind λb=>.ok (decide (a=b))):=λH Q w s P=>
 ha.run w s FB.tr P λa x H1 s1 w1 q1 r1 P1=>hb.run w1 q1 FB.tr P1 λb y H2 s2 w2 q2 r2 P2=>⟨a,b,z.mono s2 r1,r2,P2 _ H2 (Xu.refl _) rfl⟩
theorem DT [DecidableEq M]{r:Enc M}[z:MonoE r]{ma mb:Rs M}(ha:EvB K Er S OO U ta r ma)(hb:EvB K Er S OO U tb r mb):EvB K Er S OO U (tOp (Wx K r) ta tb) Xw (ma.bind λa=>mb.bind λb=>.ok (!decide (a=b))):=λH Q w s P=>
 ha.run w s FB.tr P λa x H1 s1 w1 q1 r1 P1=>hb.run w1 q1 FB.tr P1 λb y H2 s2 w2 q2 r2 P2=>⟨a,b,z.mono s2 r1,r2,P2 _ H2 (Xu.refl _) rfl⟩
theorem Qx (h:EvB K Er S OO U te Xw m):EvT Er S OO U (tB te) m:=λH Q w s P=>h H _ w s (by
 cases m with
 |bad=>exact P
 |err x=>exact P
 |ok a=>exact λv H' s' r=>⟨a,r,P H' s'⟩)
theorem Xz (h:EvB K Er S OO U te Xw m):EvT Er S OO U (Nd te) m:=Qx h
theorem Jb (h:EvT Er S OO U t m):EvT Er S OO U (W6 t) (m.bind λb=>.ok (!b)):=λH Q w s P=>h.run w s FT.tr P λb H1 s1 w1 q1 P1=>P1 H1 (Xu.refl _)
def M4 (a b:Rs Bool):Rs Bool:=a.bind λx=>if x=true then b else .ok false
def orR (a b:Rs Bool):Rs Bool:=a.bind λx=>if x=true then .ok true else b
theorem K7 {u:TT}{n:Rs Bool}(h:EvT Er S OO U t m)(k:EvT Er S OO U u n):EvT Er S OO U (W2 t u) (M4 m n):=λH Q w s P=>h.run w s FT.tr P λb H1 s1 w1 q1 P1=>by
 cases b with
 |true=>rw[if_pos rfl] at P1⊢;exact k H1 Q w1 q1 P1
 |false=>exact P1 H1 (Xu.refl _)
theorem YK {u:TT}{n:Rs Bool}(h:EvT Er S OO U t m)(k:EvT Er S OO U u n):EvT Er S OO U (tOr t u) (orR m n):=λH Q w s P=>h.run w s FT.tr P λb H1 s1 w1 q1 P1=>by
 cases b with
 |true=>exact P1 H1 (Xu.refl _)
 |false=>exact k H1 Q w1 q1 P1
theorem Ey (h:EvB K Er S OO U t Xw m):EvB K Er S OO U (Rl t) Xw (m.bind λb=>.ok (!b)):=λH Q w s P=>h.run w s FB.tr P λb x H1 s1 w1 q1 r1 P1=>⟨b,r1,P1 _ H1 (Xu.refl _) rfl⟩
theorem YY {u:TE}{n:Rs Bool}(h:EvB K Er S OO U t Xw m)(k:EvB K Er S OO U u Xw n):EvB K Er S OO U (O0 t u) Xw (M4 m n):=λH Q w s P=>h.run w s FB.tr P λb x H1 s1 w1 q1 r1 P1=>⟨b,r1,by
 cases b with
 |true=>rw[if_pos rfl] at P1⊢;exact k H1 Q w1 q1 P1
 |false=>exact P1 _ H1 (Xu.refl _) rfl⟩
theorem M2 {u:TE}{n:Rs Bool}(h:EvB K Er S OO U t Xw m)(k:EvB K Er S OO U u Xw n):EvB K Er S OO U (WH t u) Xw (orR m n):=λH Q w s P=>h.run w s FB.tr P λb x H1 s1 w1 q1 r1 P1=>⟨b,r1,by
 cases b with
 |true=>exact P1 _ H1 (Xu.refl _) rfl
 |false=>exact k H1 Q w1 q1 P1⟩
theorem TZ (hc:EvT Er S OO U c mc)(ha:EvB K Er S OO U ta r ma)(hb:EvB K Er S OO U tb r mb):EvB K Er S OO U (tIf c ta tb) r (mc.bind λb=>if b=true then ma else mb):=λH Q w s P=>
 hc.run w s FB.tr P λb H1 s1 w1 q1 P1=>by
  cases b with
  |true=>rw[if_pos rfl] at P1⊢;exact ha H1 Q w1 q1 P1
  |false=>exact hb H1 Q w1 q1 P1
theorem NH (hc:EvT Er S OO U c mc)(ha:Ev K Er S OO OO' U ta o ma)(hb:Ev K Er S OO OO' U tb o mb):Ev K Er S OO OO' U (tIf c ta tb) o (mc.bind λb=>if b=true then ma else mb):=λH Q w s P=>
 hc.run w s FO.tr P λb H1 s1 w1 q1 P1=>by
  cases b with
  |true=>rw[if_pos rfl] at P1⊢;exact ha H1 Q w1 q1 P1
  |false=>exact hb H1 Q w1 q1 P1
end
end L2
variable {S:L2.SC}{r:L2.Enc M}{r0:L2.Enc α0}{r1:L2.Enc α1}{r2:L2.Enc α2}{r3:L2.Enc α3}{r4:L2.Enc α4}{r5:L2.Enc α5}{OO OO' OO1 b7 Cs:List (List L2.XG)}{Er:L2.Exc->L2.Hp->Prop}{C Cx_ Cy:List L2.XG}{o:L2.OE M}{ma m:L2.Rs (List M)}{mb mi mk:L2.Rs Int}{mc:L2.Rs Bool}{f:M->L2.Rs L}{tb_:L2.TS}
namespace L2
open PySem PySem.Spec PyProof.Rows
section
variable (K:W.Frag)(Er:Exc->Hp->Prop)(S:SC)(OO:List (List XG))(U:St)
def FS (r:Enc M)(Q:VK)(a:M)(H:Hp):Prop:=∀ v H',Xu H H'->r K (hid H' OO) v a->Q v H'
def EvS (te:TE)(r:Enc M)(m:Rs M):Prop:=∀ H Q,W OO H->S.p (hid H OO)->PZ Er (FS K OO r Q) H m->te U H Q
def rE (r:Enc M)(H:Hp)(v:V)(as:List M):Prop:=∃ p xs,v= .ref p/\H p=some (.lst xs)/\Paired (r K (hid H OO)) xs as
def FL (r:Enc M)(Q:VK)(as:List M)(H:Hp):Prop:=∀ v H',Xu H H'->rE K OO r H' v as->Q v H'
def EvL (te:TE)(r:Enc M)(m:Rs (List M)):Prop:=∀ H Q,W OO H->S.p (hid H OO)->PZ Er (FL K OO r Q) H m->te U H Q
end
section
theorem FS.tr {Q:VK}:∀a H H',Xu H H'->FS K OO r Q a H->FS K OO r Q a H':=λa H H' s h v H2 s2 q=>h v H2 (s.trans s2) q
theorem PZ.run {F:L->Hp->Prop}{a:M}{m:Rs M}(hm:m= .ok a)(hF:∀b H H',Xu H H'->F b H->F b H')(s:Xu H H')(P:PZ Er F H (m.bind f)):PZ Er F H' (f a):=by
 subst hm
 have P':PZ Er F H (f a):=P
 revert P'
 cases f a with
 |bad=>exact λz=>z
 |err x=>exact λz H2 s2=>z H2 (s.trans s2)
 |ok b=>exact λz=>hF b H H' s z
theorem EvS.run {m:Rs M}(he:EvS K Er S OO U te r m){Q:VK}(w:W OO H)(s:S.p (hid H OO)){F:L->Hp->Prop}(hF:∀b H H',Xu H H'->F b H->F b H')(P:PZ Er F H (m.bind f))
  (hk:∀a v H',Xu H H'->W OO H'->S.p (hid H' OO)->r K (hid H' OO) v a->PZ Er F H' (f a)->Q v H'):te U H Q:=by
 refine he H Q w s ?_
 cases e:m with
 |bad=>rw[e] at P;exact P
 |err x=>rw[e] at P;exact P
 |ok a=>exact λv H' s' hr=>hk a v H' s' (w.keep s') (S.mono _ _ (Xh s') s) hr (PZ.run e hF s' P)
theorem EvL.run (he:EvL K Er S OO U te r m){Q:VK}(w:W OO H)(s:S.p (hid H OO)){f:List M->Rs L}{F:L->Hp->Prop}(hF:∀b H H',Xu H H'->F b H->F b H')(P:PZ Er F H (m.bind f))
  (hk:∀a v H',Xu H H'->W OO H'->S.p (hid H' OO)->rE K OO r H' v a->PZ Er F H' (f a)->Q v H'):te U H Q:=by
 refine he H Q w s ?_
 cases e:m with
 |bad=>rw[e] at P;exact P
 |err x=>rw[e] at P;exact P
 |ok a=>exact λv H' s' hr=>hk a v H' s' (w.keep s') (S.mono _ _ (Xh s') s) hr (PZ.run e hF s' P)
theorem PZ.imp {F:L->Hp->Prop}{m:Rs L}(P:PZ Er F H m)(h:∀b,m= .ok b->F b H->G b H):PZ Er G H m:=by
 cases m with
 |bad=>exact P
 |err x=>exact P
 |ok b=>exact h b rfl P
theorem EvS.ev {m:Rs M}(he:EvS K Er S OO U te r m):Ev K Er S OO OO U te (oF r) m:=λH Q w s P=>he H Q w s (P.imp λb _ h v H' s' q=>
 h v [] H' s' (w.keep s').nil (by rw[ZS];exact Xh s') ⟨rfl,by rw[ZS];exact q⟩)
theorem EvB.sh [z:FlatE r]{m:Rs M}(he:EvB K Er S OO U te r m):EvS K Er S OO U te r m:=λH Q w s P=>he H Q w s (P.imp λb _ h v H' s' q=>h v H' s' (z.flat (w.keep s').i q))
theorem Ev.sh [z:FrzC o r]{m:Rs M}(he:Ev K Er S OO OO U te o m):EvS K Er S OO U te r m:=λH Q w s P=>he.frz H Q w s (P.imp λb _ h v C H' s' w' m' q=>by
 obtain⟨rfl,q⟩:=q
 rw[ZS] at q
 exact h v H' s' q)
theorem RO {a:M}(i:Nat)(hσ:U[i]?=some (some v))(h:∀x,S.p x->r K x v a):EvS K Er S OO U (Ji i) r (.ok a):=λH Q w s P=>⟨v,hσ,P v H (Xu.refl _) (h _ s)⟩
theorem EvS.ls (he:EvS K Er S OO U te (rV r) m):EvL K Er S OO U te r m:=λH Q w s P=>he H Q w s (P.imp λb _ h v H' s' r9=>by obtain⟨p,xs,e,q,pr⟩:=r9;exact h v H' s' ⟨p,xs,e,Xv _ _ q,pr⟩)
theorem EvB.ls [z:FlatE r](he:EvB K Er S OO U te (rV r) m):EvL K Er S OO U te r m:=λH Q w s P=>he H Q w s (P.imp λb _ h v H' s' r9=>by obtain⟨p,xs,e,q,pr⟩:=r9;exact h v H' s' ⟨p,xs,e,q,Paired.imp2 (λ_ _ z'=>z.flat (w.keep s').i z') pr⟩)
theorem Ev.ls [z:MonoE r](he:Ev K Er S OO OO U te (oL (oF r)) m):EvL K Er S OO U te r m:=he.sh.ls
theorem Si [z:MonoE r](i k:Nat)(hσ:U[i]?=some (some v))(hk:OO[k]?=some C)(h:∀x,S.p x->oL (oF r) K x v as C):EvL K Er S OO U (Ji i) r (.ok as):=λH Q w s P=>by
 obtain⟨p,xs,Cs,e,q,c⟩:=h _ s
 refine⟨v,hσ,P v H (Xu.refl _) ⟨p,xs,e,?_,(P3.flat q).1⟩⟩
 exact w.tr (p, .lst xs) (List.mem_flatten.mpr ⟨C,List.mem_of_getElem? hk,by rw[c];exact List.mem_cons_self⟩)
def atR (as:List M)(i:Int):Rs M:=match atI as i with
 |some a=>.ok a
 |none=>.bad
theorem CU {a:M}(h:atR as i= .ok a):atI as i=some a:=by
 unfold atR at h;split at h
 ·cases h;assumption
 ·cases h
theorem K6 {x:Exc}:atR as i≠ .err x:=by unfold atR;split<;> exact λz=>nomatch z
theorem Vf {F:V->M->Prop}{a:M}(p:Paired F xs as)(h:atI as i=some a):∃x,atI xs i=some x/\F x a:=by
 unfold atI at h⊢
 rw[Paired.len p]
 cases e:ixN as.length i with
 |none=>rw[e] at h;cases h
 |some j=>
  rw[e] at h
  obtain⟨x,h1,h2⟩:=Paired.getR p h
  exact⟨x,h1,h2⟩
theorem PZ.okOf {F:L->Hp->Prop}{m:Rs L}(he:∀x,m≠ .err x)(P:PZ Er F H m):∃b,m= .ok b/\F b H:=by
 cases m with
 |bad=>exact P.elim
 |err x=>exact absurd rfl (he x)
 |ok b=>exact⟨b,rfl,P⟩
theorem Vk [z:MonoE r](ha:EvB K Er S OO U ta (rV r) ma)(hb:EvB K Er S OO U tb Xf mb):EvB K Er S OO U (tOp (HJ K) ta tb) r (ma.bind λas=>mb.bind λi=>atR as i):=λH Q w s P=>
 ha.run w s FB.tr P λa x H1 s1 w1 q1 ⟨p,xs,e,q,pr⟩ P1=>hb.run w1 q1 FB.tr P1 λb y H2 s2 w2 q2 r2 P2=>by
  obtain⟨c,hc,P3⟩:=P2.okOf λx=>K6
  obtain⟨u,h1,h2⟩:=Vf pr (CU hc)
  exact⟨p,xs,b,u,e,r2,SqL.of (s2 _ _ q),h1,P3 u H2 (Xu.refl _) (z.mono s2 h2)⟩
theorem S8 [z:MonoE r](ha:EvL K Er S OO U ta r ma)(hb:EvB K Er S OO U tb Xf mb):EvS K Er S OO U (tOp (HJ K) ta tb) r (ma.bind λas=>mb.bind λi=>atR as i):=λH Q w s P=>
 ha.run w s FS.tr P λa x H1 s1 w1 q1 ⟨p,xs,e,q,pr⟩ P1=>hb.run w1 q1 FS.tr P1 λb y H2 s2 w2 q2 r2 P2=>by
  obtain⟨c,hc,P3⟩:=P2.okOf λx=>K6
  obtain⟨u,h1,h2⟩:=Vf pr (CU hc)
  exact⟨p,xs,b,u,e,r2,SqL.of (s2 _ _ q),h1,P3 u H2 (Xu.refl _) (z.mono (Xh s2) h2)⟩
theorem RG [z:MonoE r](ha:EvB K Er S OO U ta (rPL r) ma)(hb:EvB K Er S OO U tb Xf mb):EvB K Er S OO U (tOp (B7 K) ta tb) r (ma.bind λas=>mb.bind λi=>atR as i):=λH Q w s P=>
 ha.run w s FB.tr P λa x H1 s1 w1 q1 ⟨p,xs,e,q,pr⟩ P1=>hb.run w1 q1 FB.tr P1 λb y H2 s2 w2 q2 r2 P2=>by
  obtain⟨c,hc,P3⟩:=P2.okOf λx=>K6
  obtain⟨u,h1,h2⟩:=Vf pr (CU hc)
  exact⟨p,xs,b,u,e,r2,SqT.of (s2 _ _ q),h1,P3 u H2 (Xu.refl _) (z.mono s2 h2)⟩
theorem LW {q:Enc L}{m:Rs (M×L)}(ha:EvB K Er S OO U ta (rP2 r q) m):EvB K Er S OO U (tOp (B7 K) ta (tC (.int 0))) r (m.bind λp=>.ok p.1):=λH Q w s P=>
 ha.run w s FB.tr P λa x H1 s1 w1 q1 r9 P1=>by obtain⟨p,x,y,e,q,h1,h2⟩:=r9;exact⟨p,_,0,x,e,rfl,SqT.of q,rfl,P1 _ H1 (Xu.refl _) h1⟩
theorem IW {q:Enc L}{m:Rs (M×L)}(ha:EvB K Er S OO U ta (rP2 r q) m):EvB K Er S OO U (tOp (B7 K) ta (tC (.int 1))) q (m.bind λp=>.ok p.2):=λH Q w s P=>
 ha.run w s FB.tr P λa x H1 s1 w1 q1 r9 P1=>by obtain⟨p,x,y,e,q,h1,h2⟩:=r9;exact⟨p,_,1,y,e,rfl,SqT.of q,rfl,P1 _ H1 (Xu.refl _) h2⟩
theorem Ro {q:Enc L}{m:Rs (M×L)}(ha:EvS K Er S OO U ta (rP2 r q) m):EvS K Er S OO U (tOp (B7 K) ta (tC (.int 0))) r (m.bind λp=>.ok p.1):=λH Q w s P=>
 ha.run w s FS.tr P λa x H1 s1 w1 q1 r9 P1=>by obtain⟨p,x,y,e,q,h1,h2⟩:=r9;exact⟨p,_,0,x,e,rfl,SqT.of (Xv _ _ q),rfl,P1 _ H1 (Xu.refl _) h1⟩
theorem Rh {q:Enc L}{m:Rs (M×L)}(ha:EvS K Er S OO U ta (rP2 r q) m):EvS K Er S OO U (tOp (B7 K) ta (tC (.int 1))) q (m.bind λp=>.ok p.2):=λH Q w s P=>
 ha.run w s FS.tr P λa x H1 s1 w1 q1 r9 P1=>by obtain⟨p,x,y,e,q,h1,h2⟩:=r9;exact⟨p,_,1,y,e,rfl,SqT.of (Xv _ _ q),rfl,P1 _ H1 (Xu.refl _) h2⟩
theorem VL (ha:EvB K Er S OO U ta (rV r) m):EvB K Er S OO U (tCB (V4 K) (Xr ta YE)) Xf (m.bind λas=>.ok (as.length:Int)):=λH Q w s P=>
 ha.run w s FB.tr P λa x H1 s1 w1 q1 r9 P1=>by obtain⟨p,xs,e,q,pr⟩:=r9;exact⟨p,xs,by rw[e], .inl (SqL.of q),P1 _ H1 (Xu.refl _) (by rw[Paired.len pr];rfl)⟩
theorem EV (ha:EvB K Er S OO U ta (rPL r) m):EvB K Er S OO U (tCB (V4 K) (Xr ta YE)) Xf (m.bind λas=>.ok (as.length:Int)):=λH Q w s P=>
 ha.run w s FB.tr P λa x H1 s1 w1 q1 r9 P1=>by obtain⟨p,xs,e,q,pr⟩:=r9;exact⟨p,xs,by rw[e], .inr (SqT.of q),P1 _ H1 (Xu.refl _) (by rw[Paired.len pr];rfl)⟩
theorem Ij [z:MonoE r]{Q:VK}(w:W OO H)(pr:Paired (r K (hid H OO)) xs as)(P:FO K OO OO (oL (oF r)) Q as H):∀p,H p=none->Q (.ref p) (upd H p (.lst xs)):=λp hp=>by
 have hn:=UI (OO:=OO) hp (o:=.lst xs)
 refine P (.ref p) [(p, .lst xs)] _ (XR hp _) (w.new hp rfl) hn ?_
 refine⟨p,xs,List.replicate as.length [],rfl,(P3.of (Paired.imp2 (λ_ _ h=>z.mono hn h) pr)).imp λ_ _ _ h=>h,by rw[Yh]⟩
theorem Paired.take':∀{l:List M}{m:List L} (n:Nat),Paired F l m->Paired F (l.take n) (m.take n)
 |_,_,0,_=>.nil
 |_,_,_+1, .nil=>.nil
 |_,_,n+1, .cons r t=>.cons r (Paired.take' n t)
theorem Paired.drop':∀{l:List M}{m:List L} (n:Nat),Paired F l m->Paired F (l.drop n) (m.drop n)
 |_,_,0,h=>h
 |_,_,_+1, .nil=>.nil
 |_,_,n+1, .cons _ t=>Paired.drop' n t
theorem Paired.rev':∀{l:List M}{m:List L},Paired F l m->Paired F l.reverse m.reverse
 |_,_, .nil=>.nil
 |_,_, .cons r t=>by rw[List.reverse_cons,List.reverse_cons];exact Paired.app (Paired.rev' t) (.cons r .nil)
theorem Paired.rep' {m:List L}(h:Paired F l m):∀n:Nat,Paired F (List.replicate n l).flatten (List.replicate n m).flatten
 |0=>.nil
 |n+1=>by simp only[List.replicate_succ,List.flatten_cons];exact Paired.app h (Paired.rep' h n)
def Gv (as:List M)(lo hi:Option Int):List M:=(as.drop (HT.sIx as.length 0 lo)).take (HT.sIx as.length as.length hi-HT.sIx as.length 0 lo)
theorem Uj {F:V->M->Prop}(p:Paired F xs as)(lo hi:Option Int):Paired F (Om xs lo hi) (Gv as lo hi):=by
 unfold Om Gv;rw[Paired.len p];exact Paired.take' _ (Paired.drop' _ p)
def FP (Q:Option Int->Hp->Prop)(a:Option Int)(H:Hp):Prop:=∀ H',Xu H H'->Q a H'
def EvP (Er:Exc->Hp->Prop)(S:SC)(OO:List (List XG))(U:St)(t:TO)(m:Rs (Option Int)):Prop:=∀ H Q,W OO H->S.p (hid H OO)->PZ Er (FP Q) H m->t U H Q
theorem EvP.run {m:Rs (Option Int)}(he:EvP Er S OO U t m){Q:Option Int->Hp->Prop}(w:W OO H)(s:S.p (hid H OO)){f:Option Int->Rs L}{F:L->Hp->Prop}(hF:∀b H H',Xu H H'->F b H->F b H')(P:PZ Er F H (m.bind f))
  (hk:∀a H',Xu H H'->W OO H'->S.p (hid H' OO)->PZ Er F H' (f a)->Q a H'):t U H Q:=by
 refine he H Q w s ?_
 cases e:m with
 |bad=>rw[e] at P;exact P
 |err x=>rw[e] at P;exact P
 |ok a=>exact λH' s'=>hk a H' s' (w.keep s') (S.mono _ _ (Xh s') s) (PZ.run e hF s' P)
theorem NT:EvP Er S OO U B5 (.ok none):=λH Q w s P=>P H (Xu.refl _)
theorem Ny {m:Rs Int}(h:EvB K Er S OO U te Xf m):EvP Er S OO U (RZ te) (m.bind λi=>.ok (some i)):=λH Q w s P=>
 h.run w s (λ_ _ _ s h H2 s2=>h H2 (s.trans s2)) P λa v H1 s1 w1 q1 r1 P1=>⟨a,r1,P1 H1 (Xu.refl _)⟩
theorem Nc [z:MonoE r](he:EvL K Er S OO U te r m)(hl:EvP Er S OO U tl ml)(hh:EvP Er S OO U th mh):
  Ev K Er S OO OO U (tSl (S3 K) te tl th) (oL (oF r)) (m.bind λas=>ml.bind λlo=>mh.bind λhi=>.ok (Gv as lo hi)):=λH Q w s P=>
 he.run w s FO.tr P λas x H1 s1 w1 q1 ⟨p,xs,e,q,pr⟩ P1=>hl.run w1 q1 FO.tr P1 λlo H2 s2 w2 q2 P2=>hh.run w2 q2 FO.tr P2 λhi H3 s3 w3 q3 aR=>
  ⟨p,xs,e,SqL.of (s3 _ _ (s2 _ _ q)),Ij w3 (Uj (Paired.imp2 (λ_ _ h=>z.mono ((Xh s2).trans (Xh s3)) h) pr) lo hi) aR⟩
theorem Nk (ha:EvB K Er S OO U ta (rL r) m):EvB K Er S OO U (tCB (V4 K) (Xr ta YE)) Xf (m.bind λas=>.ok (as.length:Int)):=λH Q w s P=>
 ha.run w s FB.tr P λa x H1 s1 w1 q1 r9 P1=>by obtain⟨p,xs,e,q,pr⟩:=r9;exact⟨p,xs,by rw[e], .inl q,P1 _ H1 (Xu.refl _) (by rw[Paired.len pr];rfl)⟩
theorem PY {ma:Rs (List Int)}(ha:EvB K Er S OO U ta (rL Xf) ma)(hb:EvB K Er S OO U tb Xf mb):EvB K Er S OO U (tOp (HJ K) ta tb) Xf (ma.bind λas=>mb.bind λi=>atR as i):=λH Q w s P=>
 ha.run w s FB.tr P λa x H1 s1 w1 q1 ⟨p,xs,e,q,pr⟩ P1=>hb.run w1 q1 FB.tr P1 λb y H2 s2 w2 q2 r2 P2=>by
  obtain⟨c,hc,P3⟩:=P2.okOf λx=>K6
  obtain⟨u,h1,h2⟩:=Vf pr (CU hc)
  exact⟨p,xs,b,u,e,r2,s2.seq q,h1,P3 u H2 (Xu.refl _) h2⟩
theorem LU {m:Rs (List Int)}(he:EvB K Er S OO U te (rL Xf) m)(hl:EvP Er S OO U tl ml)(hh:EvP Er S OO U th mh):
  Ev K Er S OO OO U (tSl (S3 K) te tl th) (oL (oF Xf)) (m.bind λas=>ml.bind λlo=>mh.bind λhi=>.ok (Gv as lo hi)):=λH Q w s P=>
 he.run w s FO.tr P λas x H1 s1 w1 q1 ⟨p,xs,e,q,pr⟩ P1=>hl.run w1 q1 FO.tr P1 λlo H2 s2 w2 q2 P2=>hh.run w2 q2 FO.tr P2 λhi H3 s3 w3 q3 aR=>
  ⟨p,xs,e,s3.seq (s2.seq q),Ij w3 (Uj (Paired.imp2 (λ_ _ h=>h) pr) lo hi) aR⟩
def Hu (as bs:List M):Rs (List M):=chk (as.length+bs.length<=sizeLine) (.ok (as++bs))
theorem MN [z:MonoE r]{mb:Rs (List M)}(ha:EvL K Er S OO U ta r ma)(hb:EvL K Er S OO U tb r mb):Ev K Er S OO OO U (tOp Wz ta tb) (oL (oF r)) (ma.bind λas=>mb.bind λbs=>Hu as bs):=λH Q w s P=>
 ha.run w s FO.tr P λas x H1 s1 w1 q1 ⟨p,xs,e,q,pr⟩ P1=>hb.run w1 q1 FO.tr P1 λbs y H2 s2 w2 q2 ⟨p',ys,e',q',d7⟩ P2=>by
  obtain⟨c,hc,P3⟩:=P2.okOf λx=>Vh
  obtain⟨h1,h2⟩:=Z8 hc
  cases h2
  exact⟨p,p',xs,ys,e,e',s2 _ _ q,q',by rw[Paired.len pr,Paired.len d7];exact h1,Ij w2 (Paired.app (Paired.imp2 (λ_ _ h=>z.mono (Xh s2) h) pr) d7) P3⟩
def Oy (as:List M)(n:Int):Rs (List M):=chk (-(2^63)<=n/\n<2^63/\as.length*n.toNat<=sizeLine) (.ok (List.replicate n.toNat as).flatten)
theorem Tb [z:MonoE r](ha:EvL K Er S OO U ta r ma)(hb:EvB K Er S OO U tb Xf mb):Ev K Er S OO OO U (tOp W4 ta tb) (oL (oF r)) (ma.bind λas=>mb.bind λn=>Oy as n):=λH Q w s P=>
 ha.run w s FO.tr P λas x H1 s1 w1 q1 ⟨p,xs,e,q,pr⟩ P1=>hb.run w1 q1 FO.tr P1 λn y H2 s2 w2 q2 r2 P2=>by
  obtain⟨c,hc,P3⟩:=P2.okOf λx=>Vh
  obtain⟨⟨h0,h1,h3⟩,h2⟩:=Z8 hc
  cases h2
  exact⟨p,n,xs,e,r2,s2 _ _ q,h0,h1,by rw[Paired.len pr];exact h3,Ij w2 (Paired.rep' (Paired.imp2 (λ_ _ h=>z.mono (Xh s2) h) pr) _) P3⟩
theorem PU [z:MonoE r](ha:EvL K Er S OO U ta r ma):Ev K Er S OO OO U (tCB (Db K) (Xr ta YE)) (oL (oF r)) (ma.bind λas=>.ok as):=λH Q w s P=>
 ha.run w s FO.tr P λas x H1 s1 w1 q1 r9 P1=>by obtain⟨p,xs,e,q,pr⟩:=r9;exact⟨p,xs,by rw[e], .inl (SqL.of q),Ij w1 pr P1⟩
def Uh (lo hi:Int):List Int:=(List.range (hi-lo).toNat).map λ(i:Nat)=>lo+(i:Int)
theorem Bw {ma:Rs Int}(ha:EvB K Er S OO U ta Xf ma):Ev K Er S OO OO U (EU (Xr ta YE)) (oL (oF Xf)) (ma.bind λn=>chk (0<=n/\n<=1000) (.ok (Uh 0 n))):=λH Q w s P=>
 ha.run w s FO.tr P λn x H1 s1 w1 q1 r1 P1=>by
  obtain⟨c,hc,P3⟩:=P1.okOf λx=>Vh
  obtain⟨⟨h0,h1⟩,h2⟩:=Z8 hc
  cases h2
  refine⟨n,by rw[show x= .int n from r1],h0,h1,Ij w1 ?_ P3⟩
  unfold Uh
  rw[Int.sub_zero]
  have:∀l:List Nat,Paired (Xf K (hid H1 OO)) (l.map λ(i:Nat)=>V.int (i:Int)) (l.map λ(i:Nat)=>(0:Int)+(i:Int)):=λl=>by
   induction l with
   |nil=>exact .nil
   |cons a l ih=>exact .cons (by show V.int (a:Int)=V.int (0+(a:Int));rw[Int.zero_add]) ih
  exact this _
theorem Kf:Ev K Er S OO OO U (M6 YE) (oL o) (.ok []):=λH Q w s P=>⟨Nat.zero_le _,λp hp=>P (.ref p) [(p, .lst [])] _ (XR hp _) (w.new hp rfl) (UI hp) ⟨p,[],[],rfl, .nil,rfl⟩⟩
def FA (K:W.Frag)(OO:List (List XG))(r:Enc M)(Q:List V->Hp->Prop)(as:List M)(H:Hp):Prop:=∀ vs H',Xu H H'->Paired (r K (hid H' OO)) vs as->Q vs H'
def EvA (K:W.Frag)(Er:Exc->Hp->Prop)(S:SC)(OO:List (List XG))(U:St)(t:TA)(r:Enc M)(m:Rs (List M)):Prop:=∀ H Q,W OO H->S.p (hid H OO)->PZ Er (FA K OO r Q) H m->t U H Q
theorem RT:EvA K Er S OO U YE r (.ok []):=λH Q w s P=>P [] H (Xu.refl _) .nil
theorem YI [z:MonoE r]{m:Rs M}{n:Rs (List M)}(he:EvS K Er S OO U te r m)(ht:EvA K Er S OO U t r n):EvA K Er S OO U (Xr te t) r (m.bind λa=>n.bind λas=>.ok (a::as)):=λH Q w s P=>
 he.run w s (λb H H' s h vs H2 s2 p=>h vs H2 (s.trans s2) p) P λa x H1 s1 w1 q1 r1 P1=>by
  refine ht H1 _ w1 q1 ?_
  cases e:n with
  |bad=>rw[e] at P1;exact P1
  |err x=>rw[e] at P1;exact P1
  |ok as=>rw[e] at P1;exact λvs H2 s2 p=>P1 (x::vs) H2 s2 (.cons (z.mono (Xh s2) r1) p)
theorem Kc [z:MonoE r](h:EvA K Er S OO U t r m):Ev K Er S OO OO U (M6 t) (oL (oF r)) (m.bind λas=>chk (as.length<=sizeLine) (.ok as)):=λH Q w s P=>by
 refine h H _ w s ?_
 cases e:m with
 |bad=>rw[e] at P;exact P
 |err x=>rw[e] at P;exact P
 |ok as=>
  rw[e] at P
  intro vs H1 s1 p
  obtain⟨c,hc,P3⟩:=PZ.okOf (λx=>Vh) (show PZ Er _ H (chk (as.length<=sizeLine) (.ok as)) from P)
  obtain⟨h1,h2⟩:=Z8 hc
  cases h2
  exact⟨by rw[Paired.len p];exact h1,Ij (w.keep s1) p (FO.tr _ _ _ s1 P3)⟩
theorem ZV [z:MonoE r](h:EvA K Er S OO U t r m):EvS K Er S OO U (SA t) (rPL r) (m.bind λas=>chk (as.length<=sizeLine) (.ok as)):=λH Q w s P=>by
 refine h H _ w s ?_
 cases e:m with
 |bad=>rw[e] at P;exact P
 |err x=>rw[e] at P;exact P
 |ok as=>
  rw[e] at P
  intro vs H1 s1 p
  obtain⟨c,hc,P3⟩:=PZ.okOf (λx=>Vh) (show PZ Er _ H (chk (as.length<=sizeLine) (.ok as)) from P)
  obtain⟨h1,h2⟩:=Z8 hc
  cases h2
  have w1:=w.keep s1
  refine⟨by rw[Paired.len p];exact h1,λa ha=>P3 _ _ (s1.trans (XR ha _)) ⟨a,vs,rfl,Km w1 ha,Paired.imp2 (λ_ _ q=>z.mono (Xh (XR ha _)) q) p⟩⟩
theorem Zf {q:Enc L}[z:MonoE r][y:MonoE q]{ma:Rs M}{mb:Rs L}(ha:EvS K Er S OO U ta r ma)(hb:EvS K Er S OO U tb q mb):EvS K Er S OO U (SA (Xr ta (Xr tb YE))) (rP2 r q) (ma.bind λa=>mb.bind λb=>.ok (a,b)):=λH Q w s P=>
 ha.run w s FS.tr P λa x H1 s1 w1 q1 r1 P1=>hb.run w1 q1 FS.tr P1 λb y' H2 s2 w2 q2 r2 P2=>
  ⟨by show 2<=sizeLine;decide,λp hp=>P2 _ _ (XR hp _) ⟨p,x,y',rfl,Km w2 hp,z.mono ((Xh s2).trans (Xh (XR hp _))) r1,y.mono (Xh (XR hp _)) r2⟩⟩
end
section
variable {α6:Type}
def noE (m:Rs M):Rs M:=match m with
 | .ok a=>.ok a
 |_=>.bad
theorem Fy {m:Rs M}{a:M}(h:noE m= .ok a):m= .ok a:=by
 cases m with
 |ok b=>exact h
 |bad=>cases h
 |err x=>cases h
theorem FG {m:Rs M}{x:Exc}:noE m≠ .err x:=by cases m<;> exact λz=>nomatch z
def FF (K:W.Frag)(o:OE M)(Q:VK)(a:M)(H:Hp):Prop:=∀ v C H',W [C] H'->Xu H (hid H' [C])->o K (hid H' [C]) v a C->Q v H'
def sp1 (r1:Enc α1)(o:OE ρ)(f:α1->Rs ρ)(K:W.Frag):Sp:=λvs H Q _=>∃ v1 a1 b,vs=[v1]/\r1 K H v1 a1/\f a1= .ok b/\FF K o Q b H
def sp2 (r1:Enc α1)(r2:Enc α2)(o:OE ρ)(f:α1->α2->Rs ρ)(K:W.Frag):Sp:=λvs H Q _=>∃ v1 v2 a1 a2 b,vs=[v1,v2]/\r1 K H v1 a1/\r2 K H v2 a2/\f a1 a2= .ok b/\FF K o Q b H
def sp3 (r1:Enc α1)(r2:Enc α2)(r3:Enc α3)(o:OE ρ)(f:α1->α2->α3->Rs ρ)(K:W.Frag):Sp:=λvs H Q _=>∃ v1 v2 v3 a1 a2 a3 b,vs=[v1,v2,v3]/\r1 K H v1 a1/\r2 K H v2 a2/\r3 K H v3 a3/\f a1 a2 a3= .ok b/\FF K o Q b H
def sp4 (r1:Enc α1)(r2:Enc α2)(r3:Enc α3)(r4:Enc α4)(o:OE ρ)(f:α1->α2->α3->α4->Rs ρ)(K:W.Frag):Sp:=λvs H Q _=>∃ v1 v2 v3 v4 a1 a2 a3 a4 b,vs=[v1,v2,v3,v4]/\r1 K H v1 a1/\r2 K H v2 a2/\r3 K H v3 a3/\r4 K H v4 a4/\f a1 a2 a3 a4= .ok b/\FF K o Q b H
theorem Pb (w:W OO H)(w':W [C] H')(m':Xu H (hid H' [C])):W (C::OO) H'/\Xu (hid H OO) (hid H' (C::OO))/\BQ (hid H' [C]) (hid H' (C::OO)):=by
 have s:Xu H H':=m'.trans Xv
 have f1:fl [C]=C.map (·.1):=by simp[fl]
 have hd:∀b,b∈fl OO->b∉C.map (·.1):=λb hb hc=>by
  obtain⟨u,hu⟩:=HZ hb
  exact(X5 (m' _ _ (w.tr _ hu))).2 (by rw[f1];exact hc)
 have w2:W (C::OO) H':=by
  refine⟨λc hc=>?_,?_,λc hc=>?_⟩
  ·rw[List.flatten_cons,List.mem_append] at hc
   rcases hc with hc |hc
   ·exact w'.tr c (by simp[hc])
   ·exact s _ _ (w.tr c hc)
  ·rw[XS]
   refine List.nodup_append.mpr ⟨by rw[←f1];exact w'.nd,w.nd,λa ha b hb e=>?_⟩
   subst e;exact hd a hb ha
  ·rw[List.flatten_cons,List.mem_append] at hc
   rcases hc with hc |hc
   ·exact w'.mu c (by simp[hc])
   ·exact w.mu c hc
 refine⟨w2,λb u q=>?_,λb u q i=>?_⟩
 ·obtain⟨q1,q2⟩:=X5 q
  obtain⟨q3,q4⟩:=X5 (m' _ _ q1)
  refine Zr q3 ?_
  rw[XS,List.mem_append]
  exact λz=>z.elim (λz=>q4 (by rw[f1];exact z)) q2
 ·exact w2.i b u (X5 q).1 i
theorem Vn [z:FlatO o]{Q:VK}{b:M}(w:W OO H)(P:FO K OO OO o Q b H):FF K o Q b H:=λv C H' w' m' ho=>by
 obtain⟨w2,h2,h3⟩:=Pb w w' m'
 exact P v C H' (m'.trans Xv) w2 h2 (z.flat h3 ho)
theorem EE {o:OE ρ}[FlatO o]{f:α1->Rs ρ}{ma:Rs α1}(ha:EvB K Er S OO U ta r1 ma):Ev K Er S OO OO U (Qy (sp1 r1 o f K) [] E0 (Xr ta YE)) o (ma.bind λa=>noE (f a)):=λH Q w s P=>
 ha.run w s FO.tr P λa x H1 s1 w1 q1 r1 P1=>by
  obtain⟨b,hb,P2⟩:=P1.okOf λx=>FG
  exact⟨x,a,b,rfl,r1,Fy hb,Vn w1 P2⟩
theorem EF [z1:MonoE r1]{o:OE ρ}[FlatO o]{f:α1->α2->Rs ρ}{ma:Rs α1}{mb:Rs α2}(ha:EvB K Er S OO U ta r1 ma)(hb:EvB K Er S OO U tb r2 mb):
  Ev K Er S OO OO U (Qy (sp2 r1 r2 o f K) [] E0 (Xr ta (Xr tb YE))) o (ma.bind λa=>mb.bind λb=>noE (f a b)):=λH Q w s P=>
 ha.run w s FO.tr P λa x H1 s1 w1 q1 r1 P1=>hb.run w1 q1 FO.tr P1 λb y H2 s2 w2 q2 r2 P2=>by
  obtain⟨c,hc,P3⟩:=P2.okOf λx=>FG
  exact⟨x,y,a,b,c,rfl,z1.mono s2 r1,r2,Fy hc,Vn w2 P3⟩
theorem N4 [z1:MonoE r1][z2:MonoE r2]{o:OE ρ}[FlatO o]{f:α1->α2->α3->Rs ρ}{ma:Rs α1}{mb:Rs α2}{mc:Rs α3}(ha:EvB K Er S OO U ta r1 ma)(hb:EvB K Er S OO U tb r2 mb)(hc:EvB K Er S OO U tc r3 mc):
  Ev K Er S OO OO U (Qy (sp3 r1 r2 r3 o f K) [] E0 (Xr ta (Xr tb (Xr tc YE)))) o (ma.bind λa=>mb.bind λb=>mc.bind λc=>noE (f a b c)):=λH Q w s P=>
 ha.run w s FO.tr P λa x H1 s1 w1 q1 r1 P1=>hb.run w1 q1 FO.tr P1 λb y H2 s2 w2 q2 r2 P2=>hc.run w2 q2 FO.tr P2 λc z H3 s3 w3 q3 r3 P3=>by
  obtain⟨d,hd,P4⟩:=P3.okOf λx=>FG
  exact⟨x,y,z,a,b,c,d,rfl,z1.mono (s2.trans s3) r1,z2.mono s3 r2,r3,Fy hd,Vn w3 P4⟩
theorem NR [z1:MonoE r1][z2:MonoE r2][z3:MonoE r3]{o:OE ρ}[FlatO o]{f:α1->α2->α3->α4->Rs ρ}{ma:Rs α1}{mb:Rs α2}{mc:Rs α3}(ha:EvB K Er S OO U ta r1 ma)(hb:EvB K Er S OO U tb r2 mb)(hc:EvB K Er S OO U tc r3 mc)(hd:EvB K Er S OO U td r4 md):
  Ev K Er S OO OO U (Qy (sp4 r1 r2 r3 r4 o f K) [] E0 (Xr ta (Xr tb (Xr tc (Xr td YE))))) o (ma.bind λa=>mb.bind λb=>mc.bind λc=>md.bind λd=>noE (f a b c d)):=λH Q w s P=>
 ha.run w s FO.tr P λa x H1 s1 w1 q1 r1 P1=>hb.run w1 q1 FO.tr P1 λb y H2 s2 w2 q2 r2 P2=>hc.run w2 q2 FO.tr P2 λc z H3 s3 w3 q3 r3 P3=>hd.run w3 q3 FO.tr P3 λd u H4 s4 w4 q4 r4 P4=>by
  obtain⟨e,he,P5⟩:=P4.okOf λx=>FG
  exact⟨x,y,z,u,a,b,c,d,e,rfl,z1.mono (s2.trans (s3.trans s4)) r1,z2.mono (s3.trans s4) r2,z3.mono s4 r3,r4,Fy he,Vn w4 P5⟩
structure Jn (B ι:Type) where
 oo:ι->List (List XG)
 ss:ι->St
 sc:B->ι->SC
inductive Ctl (ρ B:Type) where
 |ret (r:ρ) |nx (g:B)
def FTd (K:W.Frag)(o:OE ρ)(D:Ends)(r:ρ)(h:Hp):Prop:=∀ v C OO' H',W (C::OO') H'->Xu h (hid H' (C::OO'))->o K (hid H' (C::OO')) v r C->D.rt v H'
def FNd (J:Jn B ι)(D:Ends)(g:B)(h:Hp):Prop:=∀ x H',W (J.oo x) H'->Xu h (hid H' (J.oo x))->(J.sc g x).p (hid H' (J.oo x))->D.nx (J.ss x) H'
def FCd (K:W.Frag)(o:OE ρ)(J:Jn B ι)(D:Ends)(c:Ctl ρ B)(h:Hp):Prop:=match c with
 | .ret r=>FTd K o D r h
 | .nx g=>FNd J D g h
class FdOk (Fd:Ends->L->Hp->Prop):Prop where
 tr:∀D b h h',Xu h h'->Fd D b h->Fd D b h'
instance {o:OE ρ}:FdOk (FTd K o):=⟨λD b h h' s q v C O H' w m x=>q v C O H' w (s.trans m) x⟩
instance {J:Jn B ι}:FdOk (FNd J):=⟨λD b h h' s q x H' w m y=>q x H' w (s.trans m) y⟩
instance {o:OE ρ}{J:Jn B ι}:FdOk (FCd K o J):=⟨λD b h h' s q=>by
 cases b with
 |ret r=>exact λv C O H' w m x=>q v C O H' w (s.trans m) x
 |nx g=>exact λx H' w m y=>q x H' w (s.trans m) y⟩
theorem PZ.tr {F:L->Hp->Prop}(hF:∀b H H',Xu H H'->F b H->F b H'){m:Rs L}(s:Xu H H')(P:PZ Er F H m):PZ Er F H' m:=by
 cases m with
 |bad=>exact P
 |err x=>exact λH2 s2=>P H2 (s.trans s2)
 |ok b=>exact hF b H H' s P
def Sv (Er:Exc->Hp->Prop)(S:SC)(OO:List (List XG))(U:St)(t:TS)(Fd:Ends->L->Hp->Prop)(m:Rs L):Prop:=∀ H D,W OO H->S.p (hid H OO)->PZ Er (Fd D) (hid H OO) m->t D U H
variable [fd:FdOk Fd]{u:TS}
theorem Ev.st {m:Rs M}(he:Ev K Er S OO OO' U te o m){Q:VK}(w:W OO H)(s:S.p (hid H OO))(P:PZ Er (Fd D) (hid H OO) (m.bind f))
  (hk:∀a v C H',W (C::OO') H'->S.p (hid H' (C::OO'))->o K (hid H' (C::OO')) v a C->PZ Er (Fd D) (hid H' (C::OO')) (f a)->Q v H'):te U H Q:=by
 refine he H Q w s ?_
 cases m with
 |bad=>exact P
 |err x=>exact λH' s'=>P H' (Xv.trans s')
 |ok a=>exact λv C H' s' w' m' ho=>hk a v C H' w' (S.mono _ _ m' s) ho (PZ.tr (fd.tr D) m' P)
theorem EvB.st {m:Rs M}(he:EvB K Er S OO U te r m){Q:VK}(w:W OO H)(s:S.p (hid H OO))(P:PZ Er (Fd D) (hid H OO) (m.bind f))
  (hk:∀a v H',Xu H H'->W OO H'->S.p (hid H' OO)->r K H' v a->PZ Er (Fd D) (hid H' OO) (f a)->Q v H'):te U H Q:=by
 refine he H Q w s ?_
 cases m with
 |bad=>exact P
 |err x=>exact λH' s'=>P H' (Xv.trans s')
 |ok a=>exact λv H' s' hr=>hk a v H' s' (w.keep s') (S.mono _ _ (Xh s') s) hr (PZ.tr (fd.tr D) (Xh s') P)
theorem EvS.st {m:Rs M}(he:EvS K Er S OO U te r m){Q:VK}(w:W OO H)(s:S.p (hid H OO))(P:PZ Er (Fd D) (hid H OO) (m.bind f))
  (hk:∀a v H',Xu H H'->W OO H'->S.p (hid H' OO)->r K (hid H' OO) v a->PZ Er (Fd D) (hid H' OO) (f a)->Q v H'):te U H Q:=by
 refine he H Q w s ?_
 cases m with
 |bad=>exact P
 |err x=>exact λH' s'=>P H' (Xv.trans s')
 |ok a=>exact λv H' s' hr=>hk a v H' s' (w.keep s') (S.mono _ _ (Xh s') s) hr (PZ.tr (fd.tr D) (Xh s') P)
theorem EvT.st {m:Rs Bool}(he:EvT Er S OO U tt m){Q:Bool->Hp->Prop}(w:W OO H)(s:S.p (hid H OO)){f:Bool->Rs L}(P:PZ Er (Fd D) (hid H OO) (m.bind f))
  (hk:∀b H',W OO H'->S.p (hid H' OO)->PZ Er (Fd D) (hid H' OO) (f b)->Q b H'):tt U H Q:=by
 refine he H Q w s ?_
 cases m with
 |bad=>exact P
 |err x=>exact λH' s'=>P H' (Xv.trans s')
 |ok a=>exact λH' s'=>hk a H' (w.keep s') (S.mono _ _ (Xh s') s) (PZ.tr (fd.tr D) (Xh s') P)
theorem set_set:(OO.set k C).set k []=OO.set k []:=by simp
theorem SE (w:W (C::OO) H)(hk:k<OO.length):W (OO.set k C) H/\Xu (hid H (C::OO)) (hid H (OO.set k C)):=by
 have h1:=XQ (OO:=OO) (k:=k) (C:=OO[k]) (by simp[hk])
 have h2:=XQ (OO:=OO.set k C) (k:=k) (C:=C) (by simp[hk])
 rw[set_set] at h2
 have h3:(OO.set k C).flatten.Perm (C++(OO.set k []).flatten):=by simpa using h2.symm
 have h4:(C::OO).flatten.Perm (C++(OO[k]++(OO.set k []).flatten)):=by
  rw[List.flatten_cons];exact(by simpa using h1.symm:OO.flatten.Perm (OO[k]++(OO.set k []).flatten)).append_left C
 have h5:(C++(OO.set k []).flatten).Sublist (C++(OO[k]++(OO.set k []).flatten)):=List.Sublist.append (List.Sublist.refl _) (List.sublist_append_right _ _)
 have w1:W [C++(OO[k]++(OO.set k []).flatten)] H:=w.of (by simpa using h4.symm)
 have w2:W [C++(OO.set k []).flatten] H:=w1.sub (by simpa using h5)
 refine⟨w2.of (by simpa using h3),Qv (Xu.refl _) λb hb=>?_⟩
 obtain⟨o,ho⟩:=HZ hb
 exact U0 (h4.mem_iff.mpr (h5.mem (h3.mem_iff.mp ho)))
theorem Rz [MonoO o]{m:Rs M}(i k:Nat)(he:Ev K Er S OO OO' U te o m)(hk:k<OO'.length)(hr:∀a v C,Sv Er (S.addO K o v a C) (OO'.set k C) (U.set i (some v)) u Fd (f a)):Sv Er S OO U (Zn (G7 te (X4 i)) u) Fd (m.bind f):=λH D w s P=>
 he.st w s P λa v C H' w' s' ho P'=>by
  obtain⟨w2,h2⟩:=SE w' hk
  exact hr a v C H' D w2 ⟨S.mono _ _ h2 s',MonoO.mono h2 ho⟩ (PZ.tr (fd.tr D) h2 P')
theorem Ll [MonoE r]{m:Rs M}(i:Nat)(he:EvS K Er S OO U te r m)(hr:∀a v,Sv Er (S.add K r v a) OO (U.set i (some v)) u Fd (f a)):Sv Er S OO U (Zn (G7 te (X4 i)) u) Fd (m.bind f):=λH D w s P=>
 he.st w s P λa v H' s1 w' s' ho P'=>hr a v H' D w' ⟨s',ho⟩ P'
theorem Xp {o:OE ρ}{m:Rs ρ}(he:Ev K Er S OO OO' U te o m):Sv Er S OO U (Zn (Ww te) u) (FTd K o) m:=λH D w s P=>
 he H _ w s (by
  cases m with
  |bad=>exact P
  |err x=>exact λH' s'=>P H' (Xv.trans s')
  |ok a=>exact λv C H' s' w' m' ho=>P v C OO' H' w' m' ho)
theorem EX {o:OE ρ}{m:Rs B}(h:Sv Er S OO U t (FNd J) m):Sv Er S OO U t (FCd K o J) (m.bind λr=>.ok (.nx r)):=λH D w s P=>h H D w s (by
 cases m with
 |bad=>exact P
 |err x=>exact P
 |ok a=>exact P)
theorem FK (x:ι)(g:B)(h1:OO=J.oo x)(h2:U=J.ss x)(h3:∀h,S.p h->(J.sc g x).p h):Sv Er S OO U DE (FNd J) (.ok g):=λH D w s P=>by
 subst h1 h2
 exact P x H w (Xu.refl _) (h3 _ s)
theorem XN {o:OE ρ}(hc:EvT Er S OO U c mc)(h1:Sv Er S OO U t1 (FTd K o) m1)(h2:Sv Er S OO U u (FTd K o) m2):Sv Er S OO U (Zn (R1 c t1 DE) u) (FTd K o) (mc.bind λb=>if b=true then m1 else m2):=λH D w s P=>
 hc.st (Fd:=FTd K o) w s P λb H' w' s' P'=>by
  cases b with
  |true=>rw[if_pos rfl] at P'⊢;exact h1 H' _ w' s' P'
  |false=>exact h2 H' D w' s' P'
theorem K3 {o:OE ρ}(hc:EvT Er S OO U c mc)(h1:Sv Er S OO U t1 (FTd K o) m1)(h2:Sv Er S OO U u (FCd K o J) m2):Sv Er S OO U (Zn (R1 c t1 DE) u) (FCd K o J) (mc.bind λb=>if b=true then m1.bind (λr=>.ok (.ret r)) else m2):=λH D w s P=>
 hc.st (Fd:=FCd K o J) w s P λb H' w' s' P'=>by
  cases b with
  |true=>
   rw[if_pos rfl] at P'⊢
   refine h1 H' _ w' s' ?_
   cases m1 with
   |bad=>exact P'
   |err x=>exact P'
   |ok a=>exact P'
  |false=>exact h2 H' D w' s' P'
theorem Yd (hc:EvT Er S OO U c mc)(h1:Sv Er S OO U t1 Fd m1)(h2:Sv Er S OO U t2 Fd m2):Sv Er S OO U (R1 c t1 t2) Fd (mc.bind λb=>if b=true then m1 else m2):=λH D w s P=>
 hc.st w s P λb H' w' s' P'=>by
  cases b with
  |true=>rw[if_pos rfl] at P'⊢;exact h1 H' _ w' s' P'
  |false=>exact h2 H' D w' s' P'
theorem BK {m:Rs B}{f:B->Rs L}(hb:Sv Er S OO U t (FNd J) m)(hr:∀g x,Sv Er (J.sc g x) (J.oo x) (J.ss x) u Fd (f g)):Sv Er S OO U (Zn t u) Fd (m.bind f):=λH D w s P=>
 hb H _ w s (by
  cases m with
  |bad=>exact P
  |err x=>exact P
  |ok g=>exact λx H' w' m' q=>hr g x H' D w' q (PZ.tr (fd.tr D) m' P))
def G6 (f:B->Rs ρ):Ctl ρ B->Rs ρ
 | .ret r=>.ok r
 | .nx g=>f g
def Fk (f:B->Rs (Ctl ρ δ)):Ctl ρ B->Rs (Ctl ρ δ)
 | .ret r=>.ok (.ret r)
 | .nx g=>f g
theorem Oe [z:FrzC o r][MonoE r]{a:M}{m:Rs L}(k:Nat)(hk:OO[k]?=some C)(h:∀x,S.p x->o K x v a C)(hr:Sv Er (S.add K r v a) (OO.set k []) U t Fd m):Sv Er S OO U t Fd m:=λH D w s P=>by
 have hp:=XQ hk
 have w1:W (C::OO.set k []) H:=w.of hp
 have hs:Xu (hid H OO) (hid H (OO.set k [])):=by
  rw[←XM hp]
  exact Qv (Xu.refl _) λb hb=>by rw[XS];simp[hb]
 refine hr H D w1.tail ⟨S.mono _ _ hs s,z.frz (h _ s) hs λc hc=>Zr (w1.cell c hc) ?_⟩ (PZ.tr (fd.tr D) hs P)
 have:=w1.nd
 rw[XS] at this
 exact λhb=>(List.nodup_append.mp this).2.2 c.1 (List.mem_map.mpr ⟨c,hc,rfl⟩) c.1 hb rfl
theorem AJ {D:List XG}{o:HO}(w:W (D::OO) H)(hk:OO[k]?=some C)(hp:p∈C.map (·.1))(hC:(C'.map (·.1)).Perm ((C++D).map (·.1)))(ht:∀c∈C',upd H p o c.1=some c.2)(hm:∀c∈C',Sz c.2=true):
  W (OO.set k C') (upd H p o)/\hid (upd H p o) (OO.set k C')=hid H (D::OO):=by
 have ap:k<OO.length:=by
  rcases Nat.lt_or_ge k OO.length with h |h
  ·exact h
  ·rw[List.getElem?_eq_none h] at hk;cases hk
 have h1:=XQ hk
 have h2:=XQ (OO:=OO.set k C') (k:=k) (C:=C') (by simp[ap])
 rw[set_set] at h2
 have h3:(OO.set k C').flatten.Perm (C'++(OO.set k []).flatten):=by simpa using h2.symm
 have h4:(D::OO).flatten.Perm (D++(C++(OO.set k []).flatten)):=by
  rw[List.flatten_cons];exact(by simpa using h1.symm:OO.flatten.Perm (C++(OO.set k []).flatten)).append_left D
 have iu:(fl (OO.set k C')).Perm (fl (D::OO)):=by
  unfold fl
  refine(h3.map _).trans (List.Perm.trans ?_ (h4.map _).symm)
  simp only[List.map_append]
  refine(hC.append_right _).trans ?_
  simp only[List.map_append]
  rw[←List.append_assoc]
  exact List.perm_append_comm.append_right _
 have nd:=w.nd
 refine⟨⟨λc hc=>?_,iu.nodup_iff.mpr nd,λc hc=>?_⟩,?_⟩
 ·rcases List.mem_append.mp (h3.mem_iff.mp hc) with hc |hc
  ·exact ht c hc
  ·have hne:c.1≠p:=λe=>by
    have iy:((D++(C++(OO.set k []).flatten)).map (·.1)).Nodup:=(h4.map _).nodup_iff.mp nd
    simp only[List.map_append] at iy
    have iz:=(List.nodup_append.mp iy).2.1
    exact(List.nodup_append.mp iz).2.2 p hp c.1 (List.mem_map.mpr ⟨c,hc,rfl⟩) e.symm
   rw[X8 hne]
   exact w.tr c (h4.mem_iff.mpr (by simp[hc]))
 ·rcases List.mem_append.mp (h3.mem_iff.mp hc) with hc |hc
  ·exact hm c hc
  ·exact w.mu c (h4.mem_iff.mpr (by simp[hc]))
 ·funext b
  unfold hid
  by_cases hb:b∈fl (D::OO)
  ·rw[if_pos hb,if_pos (iu.mem_iff.mpr hb)]
  ·rw[if_neg hb,if_neg λz=>hb (iu.mem_iff.mp z)]
   refine X8 λe=>hb ?_
   rw[e]
   obtain⟨c,hc,rfl⟩:=List.mem_map.mp hp
   exact U0 (h4.mem_iff.mpr (by simp[hc]))
theorem Qz {D:List XG}:(Cs++[D]).flatten=Cs.flatten++D:=by simp
theorem S5 [MonoO o]{m:Rs M}{f:List M->Rs L}(i k:Nat)(hσ:U[i]?=some (some v))(hk:OO[k]?=some C)(cI:OO'[k]?=some C)(h:∀x,S.p x->oL o K x v as C)(he:Ev K Er S OO OO' U ta o m)
  (hr:∀a C',Sv Er (S.addO K (oL o) v (as++[a]) C') (OO'.set k C') U u Fd (f (as++[a]))):Sv Er S OO U (Zn (Fe (tBM K "list" DX (Ji i) (Xr ta YE))) u) Fd (m.bind λa=>chk (as.length<sizeLine) (f (as++[a]))):=λH D w s P=>by
 obtain⟨p,xs,Cs,e,q,c⟩:=h _ s
 subst c
 have hH:H p=some (.lst xs):=w.tr (p, .lst xs) (List.mem_flatten.mpr ⟨_,List.mem_of_getElem? hk,List.mem_cons_self⟩)
 refine⟨v,hσ,by rw[e];exact .inl ⟨rfl,_,SqL.of hH⟩,he.st w s P λa y D' H' w' s' ho P'=>?_⟩
 obtain⟨p',xs',Cs',e2,q2,c2⟩:=h _ s'
 rw[e] at e2;cases e2
 have c3:(p,HO.lst xs)=(p,HO.lst xs')/\Cs.flatten=Cs'.flatten:=by
  injection c2 with h1 h2
  exact⟨h1,h2⟩
 obtain⟨c3,c4⟩:=c3
 cases c3
 have iA:H' p=some (.lst xs):=w'.tr (p, .lst xs) (by rw[List.flatten_cons];exact List.mem_append_right _ (List.mem_flatten.mpr ⟨_,List.mem_of_getElem? cI,List.mem_cons_self⟩))
 cases ap:decide (as.length<sizeLine) with
 |false=>rw[chk,if_neg (by simpa using ap)] at P';exact P'.elim
 |true=>
  have iB:as.length<sizeLine:=by simpa using ap
  rw[Xi iB] at P'
  have wnd:=w'.nd
  have dr:∀c∈(p,HO.lst (xs++[y]))::(Cs'++[D']).flatten,upd H' p (.lst (xs++[y])) c.1=some c.2:=λc hc=>by
   rcases List.mem_cons.mp hc with rfl |hc
   ·exact Yg
   ·have hp1:=XQ cI
    have w3:W [D'++(((p,HO.lst xs)::Cs.flatten)++(OO'.set k []).flatten)] H':=w'.of (by
     simp only[List.flatten_cons,List.flatten_nil,List.append_nil]
     exact(by simpa using hp1:(((p,HO.lst xs)::Cs.flatten)++(OO'.set k []).flatten).Perm OO'.flatten).append_left D')
    have bx:c∈D'++(((p,HO.lst xs)::Cs.flatten)++(OO'.set k []).flatten):=by
     rw[Qz,List.mem_append] at hc
     rcases hc with hc |hc
     ·rw[←c4] at hc;simp[hc]
     ·simp[hc]
    have hne:c.1≠p:=λee=>by
     have iz:=w3.nd
     rw[Qz,List.mem_append, ←c4] at hc
     simp only[fl,List.flatten_cons,List.flatten_nil,List.append_nil,List.map_append,List.cons_append,List.map_cons] at iz
     rw[List.nodup_append] at iz
     obtain⟨_,n2,n3⟩:=iz
     rcases hc with hc |hc
     ·exact(List.nodup_cons.mp n2).1 (List.mem_append_left _ (List.mem_map.mpr ⟨c,hc,ee⟩))
     ·exact n3 c.1 (List.mem_map.mpr ⟨c,hc,rfl⟩) p List.mem_cons_self ee
    rw[X8 hne]
    exact w3.tr c (by simpa using bx)
  obtain⟨w4,h4⟩:=AJ (C':=(p, .lst (xs++[y]))::(Cs'++[D']).flatten) w' cI List.mem_cons_self (by simp[Qz,c4]) dr (λc hc=>by
   rcases List.mem_cons.mp hc with rfl |hc
   ·rfl
   ·rw[Qz,List.mem_append, ←c4] at hc
    rcases hc with hc |hc
    ·exact w'.mu c (by rw[List.flatten_cons];exact List.mem_append_right _ (List.mem_flatten.mpr ⟨_,List.mem_of_getElem? cI,List.mem_cons_of_mem _ hc⟩))
    ·exact w'.mu c (by rw[List.flatten_cons];exact List.mem_append_left _ hc))
  refine⟨p,xs,y,e,rfl,iA,by rw[(P3.len q).1];exact iB,?_⟩
  refine hr a _ _ D w4 ?_ (by rw[h4];exact P')
  rw[h4]
  exact⟨s',⟨p,xs++[y],Cs'++[D'],e,q2.snoc ho,rfl⟩⟩
end
section
variable [fd:FdOk Fd]{u:TS}
def forN:List M->B->(B->M->Rs B)->Rs B
 | [],g,_=>.ok g
 |a::as,g,f=>(f g a).bind λg'=>forN as g' f
def BB:List M->B->(B->M->Rs (Ctl ρ B))->Rs (Ctl ρ B)
 | [],g,_=>.ok (.nx g)
 |a::as,g,f=>(f g a).bind λc=>match c with
  | .ret r=>.ok (.ret r)
  | .nx g'=>BB as g' f
theorem Yo {m:Rs M}:(m.bind f).bind g=m.bind λa=>(f a).bind g:=by cases m<;> rfl
structure Tgt (K:W.Frag)(OO:List (List XG))(g:TG)(r:Enc M)(κ:Type) where
 set:κ->St->St
 sc:M->κ->SC->SC
 ok:∀{H:Hp}{v:V}{a:M}{U:St}{S:SC}{Q:St->Hp->Prop},r K (hid H OO) v a->S.p (hid H OO)->(∀x,(sc a x S).p (hid H OO)->Q (set x U) H)->g v U H Q
@[reducible] def tg1 [MonoE r](i:Nat):Tgt K OO (X4 i) r V where
 set:=λv U=>U.set i (some v)
 sc:=λa v S=>S.add K r v a
 ok:=fun {H v a U S Q} hr hs hq=>hq v ⟨hs,hr⟩
@[reducible] def tg2 {q:Enc L}[MonoE r][MonoE q](i j:Nat):Tgt K OO (Ii K 2 (YH (X4 i) (YH (X4 j) IK))) (rP2 r q) (V×V) where
 set:=λv U=>(U.set i (some v.1)).set j (some v.2)
 sc:=λa v S=>(S.add K r v.1 a.1).add K q v.2 a.2
 ok:=fun {H v a U S Q} r9 hs hq=>by obtain⟨p,x,y,e,h,h1,h2⟩:=r9;exact⟨p,_,e,SqT.of (Xv _ _ h),rfl,x,[y],rfl,y,[],rfl,rfl,hq (x,y) ⟨⟨hs,h1⟩,h2⟩⟩
@[reducible] def tg3 {q:Enc L}[MonoE r][MonoE q][MonoE t](i j k:Nat):Tgt K OO (Ii K 3 (YH (X4 i) (YH (X4 j) (YH (X4 k) IK)))) (rP3 r q t) (V×V×V) where
 set:=λv U=>((U.set i (some v.1)).set j (some v.2.1)).set k (some v.2.2)
 sc:=λa v S=>((S.add K r v.1 a.1).add K q v.2.1 a.2.1).add K t v.2.2 a.2.2
 ok:=fun {H v a U S Q} r9 hs hq=>by obtain⟨p,x,y,z,e,h,h1,h2,h3⟩:=r9;exact⟨p,_,e,SqT.of (Xv _ _ h),rfl,x,[y,z],rfl,y,[z],rfl,z,[],rfl,rfl,hq (x,y,z) ⟨⟨⟨hs,h1⟩,h2⟩,h3⟩⟩
structure Walk (K:W.Frag)(Er:Exc->Hp->Prop)(S:SC)(OO:List (List XG))(U:St)(wi:TI)(r:Enc M)(m:Rs (List M)):Prop where
 ok:∀{H:Hp}{R:It->Hp->Prop},W OO H->S.p (hid H OO)->PZ Er (λas H=>∀ J H',Xu H H'->
   (∀(i:Nat) a,as[i]?=some a->∀b7 H2,W b7 H2->Xu (hid H' OO) (hid H2 b7)->J.go i H2/\∀x H3,J.yld i H2 x H3->Xu H2 H3/\r K (hid H3 b7) x a)->
   (∀b7 H2,W b7 H2->Xu (hid H' OO) (hid H2 b7)->J.stop as.length H2)->R J H') H m->wi U H R
theorem Z6 [z:MonoE r](he:EvS K Er S OO U te (rV r) m):Walk K Er S OO U (HU K te) r m:=⟨fun {H R} w s P=>by
 refine he H _ w s (P.imp λas _ h v H' s' ⟨p,xs,e,hp,pr⟩=>⟨p,e,⟨xs,SqL.of (Xv _ _ hp)⟩,h _ H' s' ?_ ?_⟩)
 ·intro i a ha b7 H2 w2 m2
  obtain⟨x,hx,rx⟩:=Paired.getR pr ha
  have hq:SqL K H2 p xs:=SqL.of (Xv _ _ (m2 _ _ hp))
  refine⟨⟨xs,x,hq,hx⟩,λy H3 r9=>?_⟩
  obtain⟨e3,hy⟩:=r9
  subst e3
  refine⟨Xu.refl _,?_⟩
  have:=hy xs hq
  rw[hx] at this
  cases this
  exact z.mono m2 rx
 ·intro b7 H2 w2 m2
  exact⟨xs,SqL.of (Xv _ _ (m2 _ _ hp)),by rw[Paired.len pr];exact Nat.le_refl _⟩⟩
theorem Hg [z:MonoE r](he:EvS K Er S OO U te (rPL r) m):Walk K Er S OO U (Wq K te) r m:=⟨fun {H R} w s P=>by
 refine he H _ w s (P.imp λas _ h v H' s' ⟨p,xs,e,hp,pr⟩=>⟨p,e,⟨xs,SqT.of (Xv _ _ hp)⟩,h _ H' s' ?_ ?_⟩)
 ·intro i a ha b7 H2 w2 m2
  obtain⟨x,hx,rx⟩:=Paired.getR pr ha
  have hq:SqT K H2 p xs:=SqT.of (Xv _ _ (m2 _ _ hp))
  refine⟨⟨xs,x,hq,hx⟩,λy H3 r9=>?_⟩
  obtain⟨e3,hy⟩:=r9
  subst e3
  refine⟨Xu.refl _,?_⟩
  have:=hy xs hq
  rw[hx] at this
  cases this
  exact z.mono m2 rx
 ·intro b7 H2 w2 m2
  exact⟨xs,SqT.of (Xv _ _ (m2 _ _ hp)),by rw[Paired.len pr];exact Nat.le_refl _⟩⟩
theorem HL {lo hi:Int}{i:Nat}{a:Int}(h:(Uh lo hi)[i]?=some a):a=lo+i/\i<(hi-lo).toNat:=by
 unfold Uh at h
 rw[List.getElem?_map] at h
 rcases Nat.lt_or_ge i (hi-lo).toNat with q |q
 ·rw[List.getElem?_range q] at h;exact⟨(Option.some.inj h).symm,q⟩
 ·rw[List.getElem?_eq_none (by simpa using q)] at h;cases h
theorem HP {lo hi:Int}:(Uh lo hi).length=(hi-lo).toNat:=by simp[Uh]
def TC (lo hi:Int):Rs (List Int):=chk (-(2^62)<=lo/\lo<2^62/\ -(2^62)<=hi/\hi<2^62) (.ok (Uh lo hi))
theorem BX {m:Rs Int}(he:EvB K Er S OO U te Xf m):Walk K Er S OO U (Po (Xr te YE)) Xf (m.bind λn=>TC 0 n):=⟨fun {H R} w s P=>
 he.run w s (λas H H' s' h J H2 s2=>h J H2 (s'.trans s2)) P λn v H1 s1 w1 q1 r1 P1=>by
  obtain⟨c,hc,P2⟩:=P1.okOf λx=>Vh
  obtain⟨⟨_,_,h1,h2⟩,h3⟩:=Z8 hc
  cases h3
  refine⟨n,by rw[show v= .int n from r1],h1,h2,P2 _ H1 (Xu.refl _) (λi a ha b7 H2 w2 m2=>?_) λb7 H2 w2 m2=>?_⟩
  ·obtain⟨e1,e2⟩:=HL ha
   rw[Int.sub_zero] at e2
   refine⟨e2,λx H3 r9=>?_⟩
   obtain⟨e3,e4⟩:=r9
   subst e3
   exact⟨Xu.refl _,by rw[e4,e1];rfl⟩
  ·show n.toNat<=_
   rw[HP,Int.sub_zero];exact Nat.le_refl _⟩
theorem SY {tb:TS}{f:B->Rs L}(J:Jn B ι)(T:∀OO,Tgt K OO g r κ)(x0:ι)(g0:B)(he:Walk K Er S OO U wi r m)(h1:OO=J.oo x0)(h2:U=J.ss x0)(h3:∀h,S.p h->(J.sc g0 x0).p h)
  (hb:∀g x a v,Sv Er ((T (J.oo x)).sc a v (J.sc g x)) (J.oo x) ((T (J.oo x)).set v (J.ss x)) tb (FNd J) (body g a))
  (hr:∀g x,Sv Er (J.sc g x) (J.oo x) (J.ss x) u Fd (f g)):Sv Er S OO U (Zn (M5 wi g tb) u) Fd (m.bind λas=>(forN as g0 body).bind f):=λH D w s P=>by
 refine he.ok w s ?_
 cases em:m with
 |bad=>rw[em] at P;exact P
 |err x=>rw[em] at P;exact λH' s'=>P H' (Xv.trans s')
 |ok as=>
  rw[em] at P
  have P:PZ Er (Fd D) (hid H OO) ((forN as g0 body).bind f):=P
  intro It H' s' hgo bE
  refine⟨λi mm U' H2=>mm=as.length-i/\i<=as.length/\∃x gg,U'=J.ss x/\W (J.oo x) H2/\Xu (hid H' OO) (hid H2 (J.oo x))/\(J.sc gg x).p (hid H2 (J.oo x))/\PZ Er (Fd D) (hid H2 (J.oo x)) ((forN (as.drop i) gg body).bind f),⟨as.length,rfl,Nat.zero_le _,x0,g0,h2,?_,?_,?_,?_⟩,?_⟩
  ·rw[←h1];exact w.keep s'
  ·rw[←h1];exact Xu.refl _
  ·rw[←h1];exact h3 _ (S.mono _ _ (Xh s') s)
  ·rw[←h1,List.drop_zero];exact PZ.tr (fd.tr D) (Xh s') P
  ·rintro i mm U' H2 ⟨rfl,hi,x,gg,rfl,w2,m2,dN,P2⟩
   by_cases ap:i<as.length
   ·right
    have ha:as[i]?=some as[i]:=by simp[ap]
    obtain⟨h4,h5⟩:=hgo i _ ha (J.oo x) H2 w2 m2
    refine⟨h4,λσ3 H3=>∃ x gg,σ3=J.ss x/\W (J.oo x) H3/\Xu (hid H' OO) (hid H3 (J.oo x))/\(J.sc gg x).p (hid H3 (J.oo x))/\PZ Er (Fd D) (hid H3 (J.oo x)) ((forN (as.drop (i+1)) gg body).bind f),λσ3 H3 q=>⟨as.length-(i+1),Nat.sub_lt_sub_left ap (Nat.lt_succ_self i),rfl,ap,q⟩,λy H3 hy=>?_⟩
    obtain⟨s3,r3⟩:=h5 y H3 hy
    have w3:=w2.keep s3
    have m3:=Xh (OO:=J.oo x) s3
    refine(T (J.oo x)).ok r3 ((J.sc gg x).mono _ _ m3 dN) λv hv=>hb gg x as[i] v H3 _ w3 hv ?_
    rw[List.drop_eq_getElem_cons ap] at P2
    have P3:PZ Er (Fd D) (hid H2 (J.oo x)) ((body gg as[i]).bind λg'=>(forN (as.drop (i+1)) g' body).bind f):=by rw[←Yo];exact P2
    cases eb:body gg as[i] with
    |bad=>rw[eb] at P3;exact P3
    |err x=>rw[eb] at P3;exact λH4 s4=>P3 H4 (m3.trans s4)
    |ok g'=>
     rw[eb] at P3
     exact λx' H4 w4 m4 gp=>⟨x',g',rfl,w4,m2.trans (m3.trans m4),gp,PZ.tr (fd.tr D) (m3.trans m4) P3⟩
   ·left
    have e:i=as.length:=Nat.le_antisymm hi (Nat.not_lt.mp ap)
    subst e
    refine⟨bE (J.oo x) H2 w2 m2,hr gg x H2 D w2 dN ?_⟩
    rw[List.drop_length] at P2
    exact P2
theorem Pp {o:OE ρ}{tb:TS}{f:B->Rs ρ}(J:Jn B ι)(T:∀OO,Tgt K OO g r κ)(x0:ι)(g0:B)(he:Walk K Er S OO U wi r m)(h1:OO=J.oo x0)(h2:U=J.ss x0)(h3:∀h,S.p h->(J.sc g0 x0).p h)
  (hb:∀g x a v,Sv Er ((T (J.oo x)).sc a v (J.sc g x)) (J.oo x) ((T (J.oo x)).set v (J.ss x)) tb (FCd K o J) (body g a))
  (hr:∀g x,Sv Er (J.sc g x) (J.oo x) (J.ss x) u (FTd K o) (f g)):Sv Er S OO U (Zn (M5 wi g tb) u) (FTd K o) (m.bind λas=>(BB as g0 body).bind (G6 f)):=λH D w s P=>by
 refine he.ok w s ?_
 cases em:m with
 |bad=>rw[em] at P;exact P
 |err x=>rw[em] at P;exact λH' s'=>P H' (Xv.trans s')
 |ok as=>
  rw[em] at P
  have P:PZ Er (FTd K o D) (hid H OO) ((BB as g0 body).bind (G6 f)):=P
  intro It H' s' hgo bE
  refine⟨λi mm U' H2=>mm=as.length-i/\i<=as.length/\∃x gg,U'=J.ss x/\W (J.oo x) H2/\Xu (hid H' OO) (hid H2 (J.oo x))/\(J.sc gg x).p (hid H2 (J.oo x))/\PZ Er (FTd K o D) (hid H2 (J.oo x)) ((BB (as.drop i) gg body).bind (G6 f)),⟨as.length,rfl,Nat.zero_le _,x0,g0,h2,?_,?_,?_,?_⟩,?_⟩
  ·rw[←h1];exact w.keep s'
  ·rw[←h1];exact Xu.refl _
  ·rw[←h1];exact h3 _ (S.mono _ _ (Xh s') s)
  ·rw[←h1,List.drop_zero];exact PZ.tr (FdOk.tr D) (Xh s') P
  ·rintro i mm U' H2 ⟨rfl,hi,x,gg,rfl,w2,m2,dN,P2⟩
   by_cases ap:i<as.length
   ·right
    have ha:as[i]?=some as[i]:=by simp[ap]
    obtain⟨h4,h5⟩:=hgo i _ ha (J.oo x) H2 w2 m2
    refine⟨h4,λσ3 H3=>∃ x gg,σ3=J.ss x/\W (J.oo x) H3/\Xu (hid H' OO) (hid H3 (J.oo x))/\(J.sc gg x).p (hid H3 (J.oo x))/\PZ Er (FTd K o D) (hid H3 (J.oo x)) ((BB (as.drop (i+1)) gg body).bind (G6 f)),λσ3 H3 q=>⟨as.length-(i+1),Nat.sub_lt_sub_left ap (Nat.lt_succ_self i),rfl,ap,q⟩,λy H3 hy=>?_⟩
    obtain⟨s3,r3⟩:=h5 y H3 hy
    have w3:=w2.keep s3
    have m3:=Xh (OO:=J.oo x) s3
    refine(T (J.oo x)).ok r3 ((J.sc gg x).mono _ _ m3 dN) λv hv=>hb gg x as[i] v H3 _ w3 hv ?_
    rw[List.drop_eq_getElem_cons ap] at P2
    have P3:PZ Er (FTd K o D) (hid H2 (J.oo x)) ((body gg as[i]).bind λc=>(match c with
     | .ret r=>Rs.ok (Ctl.ret r)
     | .nx g'=>BB (as.drop (i+1)) g' body).bind (G6 f)):=by rw[←Yo];exact P2
    cases eb:body gg as[i] with
    |bad=>rw[eb] at P3;exact P3
    |err x=>rw[eb] at P3;exact λH4 s4=>P3 H4 (m3.trans s4)
    |ok c=>
     rw[eb] at P3
     cases c with
     |ret r=>exact FdOk.tr (Fd:=FTd K o) D r _ _ m3 P3
     |nx g'=>exact λx' H4 w4 m4 gp=>⟨x',g',rfl,w4,m2.trans (m3.trans m4),gp,PZ.tr (FdOk.tr D) (m3.trans m4) P3⟩
   ·left
    have e:i=as.length:=Nat.le_antisymm hi (Nat.not_lt.mp ap)
    subst e
    refine⟨bE (J.oo x) H2 w2 m2,hr gg x H2 D w2 dN ?_⟩
    rw[List.drop_length] at P2
    exact P2
theorem Nz {o:OE ρ}{tb:TS}{f:B->Rs (Ctl ρ δ)}(J:Jn B ι)(T:∀OO,Tgt K OO g r κ)(x0:ι)(g0:B)(he:Walk K Er S OO U wi r m)(h1:OO=J.oo x0)(h2:U=J.ss x0)(h3:∀h,S.p h->(J.sc g0 x0).p h)
  (hb:∀g x a v,Sv Er ((T (J.oo x)).sc a v (J.sc g x)) (J.oo x) ((T (J.oo x)).set v (J.ss x)) tb (FCd K o J) (body g a))
  (hr:∀g x,Sv Er (J.sc g x) (J.oo x) (J.ss x) u (FCd K o J2) (f g)):Sv Er S OO U (Zn (M5 wi g tb) u) (FCd K o J2) (m.bind λas=>(BB as g0 body).bind (Fk f)):=λH D w s P=>by
 refine he.ok w s ?_
 cases em:m with
 |bad=>rw[em] at P;exact P
 |err x=>rw[em] at P;exact λH' s'=>P H' (Xv.trans s')
 |ok as=>
  rw[em] at P
  have P:PZ Er (FCd K o J2 D) (hid H OO) ((BB as g0 body).bind (Fk f)):=P
  intro It H' s' hgo bE
  refine⟨λi mm U' H2=>mm=as.length-i/\i<=as.length/\∃x gg,U'=J.ss x/\W (J.oo x) H2/\Xu (hid H' OO) (hid H2 (J.oo x))/\(J.sc gg x).p (hid H2 (J.oo x))/\PZ Er (FCd K o J2 D) (hid H2 (J.oo x)) ((BB (as.drop i) gg body).bind (Fk f)),⟨as.length,rfl,Nat.zero_le _,x0,g0,h2,?_,?_,?_,?_⟩,?_⟩
  ·rw[←h1];exact w.keep s'
  ·rw[←h1];exact Xu.refl _
  ·rw[←h1];exact h3 _ (S.mono _ _ (Xh s') s)
  ·rw[←h1,List.drop_zero];exact PZ.tr (FdOk.tr D) (Xh s') P
  ·rintro i mm U' H2 ⟨rfl,hi,x,gg,rfl,w2,m2,dN,P2⟩
   by_cases ap:i<as.length
   ·right
    have ha:as[i]?=some as[i]:=by simp[ap]
    obtain⟨h4,h5⟩:=hgo i _ ha (J.oo x) H2 w2 m2
    refine⟨h4,λσ3 H3=>∃ x gg,σ3=J.ss x/\W (J.oo x) H3/\Xu (hid H' OO) (hid H3 (J.oo x))/\(J.sc gg x).p (hid H3 (J.oo x))/\PZ Er (FCd K o J2 D) (hid H3 (J.oo x)) ((BB (as.drop (i+1)) gg body).bind (Fk f)),λσ3 H3 q=>⟨as.length-(i+1),Nat.sub_lt_sub_left ap (Nat.lt_succ_self i),rfl,ap,q⟩,λy H3 hy=>?_⟩
    obtain⟨s3,r3⟩:=h5 y H3 hy
    have w3:=w2.keep s3
    have m3:=Xh (OO:=J.oo x) s3
    refine(T (J.oo x)).ok r3 ((J.sc gg x).mono _ _ m3 dN) λv hv=>hb gg x as[i] v H3 _ w3 hv ?_
    rw[List.drop_eq_getElem_cons ap] at P2
    have P3:PZ Er (FCd K o J2 D) (hid H2 (J.oo x)) ((body gg as[i]).bind λc=>(match c with
     | .ret r=>Rs.ok (Ctl.ret r)
     | .nx g'=>BB (as.drop (i+1)) g' body).bind (Fk f)):=by rw[←Yo];exact P2
    cases eb:body gg as[i] with
    |bad=>rw[eb] at P3;exact P3
    |err x=>rw[eb] at P3;exact λH4 s4=>P3 H4 (m3.trans s4)
    |ok c=>
     rw[eb] at P3
     cases c with
     |ret r=>exact FdOk.tr (Fd:=FTd K o) D r _ _ m3 P3
     |nx g'=>exact λx' H4 w4 m4 gp=>⟨x',g',rfl,w4,m2.trans (m3.trans m4),gp,PZ.tr (FdOk.tr D) (m3.trans m4) P3⟩
   ·left
    have e:i=as.length:=Nat.le_antisymm hi (Nat.not_lt.mp ap)
    subst e
    refine⟨bE (J.oo x) H2 w2 m2,hr gg x H2 D w2 dN ?_⟩
    rw[List.drop_length] at P2
    exact P2
def GW:Nat->B->(B->Rs Bool)->(B->Rs B)->Rs B
 |0,_,_,_=>.bad
 |n+1,g,c,f=>(c g).bind λb=>if b=true then(f g).bind λg'=>GW n g' c f else .ok g
theorem Nf {tb:TS}{mc:B->Rs Bool}{f:B->Rs L}(J:Jn B ι)(n:Nat)(x0:ι)(g0:B)(h1:OO=J.oo x0)(h2:U=J.ss x0)(h3:∀h,S.p h->(J.sc g0 x0).p h)
  (hc:∀g x,EvT Er (J.sc g x) (J.oo x) (J.ss x) c (mc g))(hb:∀g x,Sv Er (J.sc g x) (J.oo x) (J.ss x) tb (FNd J) (body g))
  (hr:∀g x,Sv Er (J.sc g x) (J.oo x) (J.ss x) u Fd (f g)):Sv Er S OO U (Zn (L5 c tb) u) Fd ((GW n g0 mc body).bind f):=λH D w s P=>by
 refine⟨λmm U' H2=>∃ x gg,U'=J.ss x/\W (J.oo x) H2/\(J.sc gg x).p (hid H2 (J.oo x))/\PZ Er (Fd D) (hid H2 (J.oo x)) ((GW mm gg mc body).bind f),⟨n,x0,g0,h2,by rw[←h1];exact w,by rw[←h1];exact h3 _ s,by rw[←h1];exact P⟩,?_⟩
 rintro mm U' H2 ⟨x,gg,rfl,w2,dN,P2⟩
 cases mm with
 |zero=>exact P2.elim
 |succ mm=>
  have P3:PZ Er (Fd D) (hid H2 (J.oo x)) ((mc gg).bind λb=>(if b=true then(body gg).bind λg'=>GW mm g' mc body else .ok gg).bind f):=by rw[←Yo];exact P2
  refine(hc gg x).st w2 dN P3 λb H3 w3 sc3 P4=>?_
  cases b with
  |false=>exact hr gg x H3 D w3 sc3 P4
  |true=>
   rw[if_pos rfl] at P4⊢
   refine⟨λσ3 H4=>∃ x gg,σ3=J.ss x/\W (J.oo x) H4/\(J.sc gg x).p (hid H4 (J.oo x))/\PZ Er (Fd D) (hid H4 (J.oo x)) ((GW mm gg mc body).bind f),λσ3 H4 q=>⟨mm,Nat.lt_succ_self _,q⟩,hb gg x H3 _ w3 sc3 ?_⟩
   rw[Yo] at P4
   cases eb:body gg with
   |bad=>rw[eb] at P4;exact P4
   |err x=>rw[eb] at P4;exact P4
   |ok g'=>
    rw[eb] at P4
    exact λx' H5 w5 m5 sc5=>⟨x',g',rfl,w5,sc5,PZ.tr (fd.tr D) m5 P4⟩
def Ig (as:List M)(f:M->Rs L):Rs (List L):=match as with
 | []=>.ok []
 |a::as=>(f a).bind λb=>(Ig as f).bind λbs=>.ok (b::bs)
def Wr (as:List M)(f:M->Rs L):Rs (List L):=chk (as.length<=sizeLine) (Ig as f)
def Hf (as:List M)(c:M->Rs Bool)(f:M->Rs L):Rs (List L):=match as with
 | []=>.ok []
 |a::as=>(c a).bind λb=>if b=true then(f a).bind λb=>(Hf as c f).bind λbs=>.ok (b::bs) else Hf as c f
def Wt (as:List M)(c:M->Rs Bool)(f:M->Rs L):Rs (List L):=chk (as.length<=sizeLine) (Hf as c f)
theorem PZ.chk {F:L->Hp->Prop}[Decidable c]{m:Rs L}(P:PZ Er F H (chk c m)):c/\PZ Er F H m:=by
 unfold L2.chk at P;split at P
 ·exact⟨by assumption,P⟩
 ·exact P.elim
theorem Tk [z:MonoO o]{Q:VK}(w:W (Cs.flatten::OO) H)(m0:Xu (hid H0 OO) (hid H (Cs.flatten::OO)))(s0:Xu H0 H)(pr:P3 (o K (hid H (Cs.flatten::OO))) xs as Cs)(P:FO K OO OO (oL o) Q as H0):∀p,H p=none->Q (.ref p) (upd H p (.lst xs)):=λp hp=>by
 have hn:=UI (OO:=Cs.flatten::OO) hp (o:=.lst xs)
 have wn:=w.new hp (o:=.lst xs) rfl
 have pe:(((p,HO.lst xs)::Cs.flatten)::OO).flatten.Perm ([(p,HO.lst xs)]::Cs.flatten::OO).flatten:=by simp
 refine P (.ref p) ((p, .lst xs)::Cs.flatten) _ (s0.trans (XR hp _)) (wn.of pe) ?_ ?_
 ·rw[XM pe];exact m0.trans hn
 ·rw[XM pe]
  exact⟨p,xs,Cs,rfl,pr.imp λ_ _ _ h=>z.mono hn h,rfl⟩
theorem ZN {o:OE L}[z:MonoO o](T:∀OO,Tgt K OO g r κ)(he:Walk K Er S OO U wi r m)
  (hb:∀C a v,Ev K Er ((T (C::OO)).sc a v S) (C::OO) (C::OO) ((T (C::OO)).set v (Yf n caps U)) te o (f a)):Ev K Er S OO OO U (Eo n caps wi g DW te) (oL o) (m.bind λas=>Wr as f):=λH Q w s P=>by
 refine he.ok w s ?_
 cases em:m with
 |bad=>rw[em] at P;exact P
 |err x=>rw[em] at P;exact P
 |ok as=>
  rw[em] at P
  obtain⟨hsz,P⟩:=PZ.chk (show PZ Er _ H (chk (as.length<=sizeLine) (Ig as f)) from P)
  intro It H' s' hgo bE
  -- what is left: dm QB of dm items, then all
  refine⟨λi mm ys H2=>mm=as.length-i/\i<=as.length/\∃bs Cs,Xu H H2/\W (Cs.flatten::OO) H2/\Xu (hid H' OO) (hid H2 (Cs.flatten::OO))/\P3 (o K (hid H2 (Cs.flatten::OO))) ys bs Cs/\bs.length=i/\PZ Er (FO K OO OO (oL o) Q) H ((Ig (as.drop i) f).bind λQB=>.ok (bs++QB)),
   ⟨as.length,rfl,Nat.zero_le _,[],[],s',(w.keep s').nil,by show Xu _ (hid H' ([]::OO));rw[ZS];exact Xu.refl _, .nil,rfl,?_⟩,?_⟩
  ·rw[List.drop_zero]
   revert P
   cases Ig as f<;> exact λz=>z
  ·rintro i mm ys H2 ⟨rfl,hi,bs,Cs,s2,w2,m2,pr,ag,P2⟩
   refine⟨by rw[pr.len.1,ag];omega,?_⟩
   by_cases ap:i<as.length
   ·right
    have ha:as[i]?=some as[i]:=by simp[ap]
    obtain⟨h4,h5⟩:=hgo i _ ha (Cs.flatten::OO) H2 w2 m2
    refine⟨h4,λys' H3=>∃ bs Cs,Xu H H3/\W (Cs.flatten::OO) H3/\Xu (hid H' OO) (hid H3 (Cs.flatten::OO))/\P3 (o K (hid H3 (Cs.flatten::OO))) ys' bs Cs/\bs.length=i+1/\PZ Er (FO K OO OO (oL o) Q) H ((Ig (as.drop (i+1)) f).bind λQB=>.ok (bs++QB)),λys' H3 q=>⟨as.length-(i+1),Nat.sub_lt_sub_left ap (Nat.lt_succ_self i),rfl,ap,q⟩,λy H3 hy=>?_⟩
    obtain⟨s3,r3⟩:=h5 y H3 hy
    have w3:=w2.keep s3
    have m3:=Xh (OO:=Cs.flatten::OO) s3
    have sS:S.p (hid H3 (Cs.flatten::OO)):=S.mono _ _ ((Xh s').trans (m2.trans m3)) s
    refine(T (Cs.flatten::OO)).ok r3 sS λv hv=>?_
    show DW _ _ _
    refine Tl ?_
    rw[List.drop_eq_getElem_cons ap] at P2
    have aR:PZ Er (FO K OO OO (oL o) Q) H ((f as[i]).bind λb=>(Ig (as.drop (i+1)) f).bind λQB=>.ok (bs++b::QB)):=by
     have:((f as[i]).bind λb=>(Ig (as.drop (i+1)) f).bind λQB=>Rs.ok (bs++b::QB))=(Ig (as[i]::as.drop (i+1)) f).bind λQB=>.ok (bs++QB):=by
      show _=((f as[i]).bind λb=>(Ig (as.drop (i+1)) f).bind λbs=>Rs.ok (b::bs)).bind _
      rw[Yo];congr 1;funext b;rw[Yo];rfl
     rw[this];exact P2
    refine hb Cs.flatten as[i] v H3 _ w3 hv ?_
    cases eb:f as[i] with
    |bad=>rw[eb] at aR;exact aR
    |err x=>rw[eb] at aR;exact λH4 s4=>aR H4 (s2.trans (s3.trans s4))
    |ok b=>
     rw[eb] at aR
     intro v' C' H4 s4 w4 m4 ho
     have pe:((Cs++[C']).flatten::OO).flatten.Perm (C'::Cs.flatten::OO).flatten:=by
      simp only[Qz,List.flatten_cons]
      rw[List.append_assoc, ←List.append_assoc, ←List.append_assoc]
      exact List.perm_append_comm.append_right _
     refine⟨bs++[b],Cs++[C'],s2.trans (s3.trans s4),w4.of pe,?_,?_,by simp[ag],?_⟩
     ·rw[XM pe];exact m2.trans (m3.trans m4)
     ·rw[XM pe];exact P3.snoc (pr.imp λ_ _ _ h=>z.mono (m3.trans m4) h) ho
     ·have P4:PZ Er (FO K OO OO (oL o) Q) H ((Ig (as.drop (i+1)) f).bind λQB=> .ok (bs++b::QB)):=aR
      simpa using P4
   ·left
    have e:i=as.length:=Nat.le_antisymm hi (Nat.not_lt.mp ap)
    subst e
    refine⟨bE (Cs.flatten::OO) H2 w2 m2,?_⟩
    rw[List.drop_length] at P2
    have aR:FO K OO OO (oL o) Q (bs++[]) H:=P2
    rw[List.append_nil] at aR
    exact Tk (H0:=H) w2 ((Xh s').trans m2) s2 pr aR
theorem Ue {o:OE L}[z:MonoO o](T:∀OO,Tgt K OO g r κ)(he:Walk K Er S OO U wi r m)
  (hc:∀C a v,EvT Er ((T (C::OO)).sc a v S) (C::OO) ((T (C::OO)).set v (Yf n caps U)) tt (c a))
  (hb:∀C a v,Ev K Er ((T (C::OO)).sc a v S) (C::OO) (C::OO) ((T (C::OO)).set v (Yf n caps U)) te o (f a)):Ev K Er S OO OO U (Eo n caps wi g tt te) (oL o) (m.bind λas=>Wt as c f):=λH Q w s P=>by
 refine he.ok w s ?_
 cases em:m with
 |bad=>rw[em] at P;exact P
 |err x=>rw[em] at P;exact P
 |ok as=>
  rw[em] at P
  obtain⟨hsz,P⟩:=PZ.chk (show PZ Er _ H (chk (as.length<=sizeLine) (Hf as c f)) from P)
  intro It H' s' hgo bE
  refine⟨λi mm ys H2=>mm=as.length-i/\i<=as.length/\∃bs Cs,Xu H H2/\W (Cs.flatten::OO) H2/\Xu (hid H' OO) (hid H2 (Cs.flatten::OO))/\P3 (o K (hid H2 (Cs.flatten::OO))) ys bs Cs/\bs.length<=i/\PZ Er (FO K OO OO (oL o) Q) H ((Hf (as.drop i) c f).bind λQB=>.ok (bs++QB)),
   ⟨as.length,rfl,Nat.zero_le _,[],[],s',(w.keep s').nil,by show Xu _ (hid H' ([]::OO));rw[ZS];exact Xu.refl _, .nil,Nat.zero_le _,?_⟩,?_⟩
  ·rw[List.drop_zero]
   revert P
   cases Hf as c f<;> exact λz=>z
  ·rintro i mm ys H2 ⟨rfl,hi,bs,Cs,s2,w2,m2,pr,ag,P2⟩
   refine⟨by rw[pr.len.1];omega,?_⟩
   by_cases ap:i<as.length
   ·right
    have ha:as[i]?=some as[i]:=by simp[ap]
    obtain⟨h4,h5⟩:=hgo i _ ha (Cs.flatten::OO) H2 w2 m2
    refine⟨h4,λys' H3=>∃ bs Cs,Xu H H3/\W (Cs.flatten::OO) H3/\Xu (hid H' OO) (hid H3 (Cs.flatten::OO))/\P3 (o K (hid H3 (Cs.flatten::OO))) ys' bs Cs/\bs.length<=i+1/\PZ Er (FO K OO OO (oL o) Q) H ((Hf (as.drop (i+1)) c f).bind λQB=>.ok (bs++QB)),λys' H3 q=>⟨as.length-(i+1),Nat.sub_lt_sub_left ap (Nat.lt_succ_self i),rfl,ap,q⟩,λy H3 hy=>?_⟩
    obtain⟨s3,r3⟩:=h5 y H3 hy
    have w3:=w2.keep s3
    have m3:=Xh (OO:=Cs.flatten::OO) s3
    have sS:S.p (hid H3 (Cs.flatten::OO)):=S.mono _ _ ((Xh s').trans (m2.trans m3)) s
    refine(T (Cs.flatten::OO)).ok r3 sS λv hv=>?_
    rw[List.drop_eq_getElem_cons ap] at P2
    have aR:PZ Er (FO K OO OO (oL o) Q) H ((c as[i]).bind λb=>(if b=true then(f as[i]).bind λb=>(Hf (as.drop (i+1)) c f).bind λbs=>.ok (b::bs) else Hf (as.drop (i+1)) c f).bind λQB=>.ok (bs++QB)):=by
     rw[←Yo];exact P2
    refine hc Cs.flatten as[i] v H3 _ w3 hv ?_
    cases ec:c as[i] with
    |bad=>rw[ec] at aR;exact aR
    |err x=>rw[ec] at aR;exact λH4 s4=>aR H4 (s2.trans (s3.trans s4))
    |ok b=>
     rw[ec] at aR
     intro H4 s4
     have w4:=w3.keep s4
     have m4:=Xh (OO:=Cs.flatten::OO) s4
     cases b with
     |false=>exact⟨bs,Cs,s2.trans (s3.trans s4),w4,m2.trans (m3.trans m4),pr.imp λ_ _ _ h=>z.mono (m3.trans m4) h,Nat.le_succ_of_le ag,aR⟩
     |true=>
      rw[if_pos rfl]
      have P4:PZ Er (FO K OO OO (oL o) Q) H ((f as[i]).bind λb=>(Hf (as.drop (i+1)) c f).bind λQB=>.ok (bs++b::QB)):=by
       have:((f as[i]).bind λb=>(Hf (as.drop (i+1)) c f).bind λQB=>Rs.ok (bs++b::QB))=((f as[i]).bind λb=>(Hf (as.drop (i+1)) c f).bind λbs=>Rs.ok (b::bs)).bind λQB=>.ok (bs++QB):=by
        rw[Yo];congr 1;funext b;rw[Yo];rfl
       rw[this];exact aR
      refine hb Cs.flatten as[i] v H4 _ w4 (((T (Cs.flatten::OO)).sc as[i] v S).mono _ _ m4 hv) ?_
      cases eb:f as[i] with
      |bad=>rw[eb] at P4;exact P4
      |err x=>rw[eb] at P4;exact λH5 s5=>P4 H5 (s2.trans (s3.trans (s4.trans s5)))
      |ok b=>
       rw[eb] at P4
       intro v' C' H5 s5 w5 m5 ho
       have pe:((Cs++[C']).flatten::OO).flatten.Perm (C'::Cs.flatten::OO).flatten:=by
        simp only[Qz,List.flatten_cons]
        rw[List.append_assoc, ←List.append_assoc, ←List.append_assoc]
        exact List.perm_append_comm.append_right _
       refine⟨bs++[b],Cs++[C'],s2.trans (s3.trans (s4.trans s5)),w5.of pe,?_,?_,by simpa using ag,?_⟩
       ·rw[XM pe];exact m2.trans (m3.trans (m4.trans m5))
       ·rw[XM pe];exact P3.snoc (pr.imp λ_ _ _ h=>z.mono (m3.trans (m4.trans m5)) h) ho
       ·have P5:PZ Er (FO K OO OO (oL o) Q) H ((Hf (as.drop (i+1)) c f).bind λQB=> .ok (bs++b::QB)):=P4
        simpa using P5
   ·left
    have e:i=as.length:=Nat.le_antisymm hi (Nat.not_lt.mp ap)
    subst e
    refine⟨bE (Cs.flatten::OO) H2 w2 m2,?_⟩
    rw[List.drop_length] at P2
    have aR:FO K OO OO (oL o) Q (bs++[]) H:=P2
    rw[List.append_nil] at aR
    exact Tk (H0:=H) w2 ((Xh s').trans m2) s2 pr aR
def Ve (as:List M)(i:Int)(a:M):Rs (List M):=match ixN as.length i with
 |some j=>.ok (as.set j a)
 |none=>.bad
end
section
variable [fd:FdOk Fd]{u:TS}
theorem IX {D:List XG}{o:HO}(w:W (D::OO) H)(hk:OO[k]?=some C)(hp:p∈C.map (·.1))(iC:p∈C'.map (·.1))(dM:(C'.map (·.1)).Nodup)(bx:∀b∈C'.map (·.1),b∈(C++D).map (·.1))(ht:∀c∈C',upd H p o c.1=some c.2)(hm:∀c∈C',Sz c.2=true):
  W (OO.set k C') (upd H p o)/\Xu (hid H (D::OO)) (hid (upd H p o) (OO.set k C')):=by
 have ap:k<OO.length:=by
  rcases Nat.lt_or_ge k OO.length with h |h
  ·exact h
  ·rw[List.getElem?_eq_none h] at hk;cases hk
 have h1:=XQ hk
 have h2:=XQ (OO:=OO.set k C') (k:=k) (C:=C') (by simp[ap])
 rw[set_set] at h2
 have h3:(OO.set k C').flatten.Perm (C'++(OO.set k []).flatten):=by simpa using h2.symm
 have h4:(D::OO).flatten.Perm ((C++D)++(OO.set k []).flatten):=by
  rw[List.flatten_cons]
  refine((by simpa using h1.symm:OO.flatten.Perm (C++(OO.set k []).flatten)).append_left D).trans ?_
  rw[←List.append_assoc]
  exact List.perm_append_comm.append_right _
 have iy:(((C++D)++(OO.set k []).flatten).map (·.1)).Nodup:=(h4.map _).nodup_iff.mp w.nd
 rw[List.map_append] at iy
 obtain⟨n1,n2,n3⟩:=List.nodup_append.mp iy
 refine⟨⟨λc hc=>?_,?_,λc hc=>?_⟩,λb v q=>?_⟩
 ·rcases List.mem_append.mp (h3.mem_iff.mp hc) with hc |hc
  ·exact ht c hc
  ·have hne:c.1≠p:=λe=>n3 p (bx p iC) c.1 (List.mem_map.mpr ⟨c,hc,rfl⟩) e.symm
   rw[X8 hne]
   exact w.tr c (h4.mem_iff.mpr (by simp[hc]))
 ·refine((h3.map _).nodup_iff).mpr ?_
  rw[List.map_append]
  exact List.nodup_append.mpr ⟨dM,n2,λa ha b hb=>n3 a (bx a ha) b hb⟩
 ·rcases List.mem_append.mp (h3.mem_iff.mp hc) with hc |hc
  ·exact hm c hc
  ·exact w.mu c (h4.mem_iff.mpr (by simp[hc]))
 ·obtain⟨q1,q2⟩:=X5 q
  have hbp:b≠p:=λe=>q2 (by
   rw[e]
   obtain⟨c,hc,rfl⟩:=List.mem_map.mp hp
   exact U0 (h4.mem_iff.mpr (by simp[hc])))
  refine Zr (by rw[X8 hbp];exact q1) λz=>q2 ?_
  obtain⟨o',cv⟩:=HZ z
  rcases List.mem_append.mp (h3.mem_iff.mp cv) with hc |hc
  ·obtain⟨c,cU,e⟩:=List.mem_map.mp (bx b (List.mem_map.mpr ⟨_,hc,rfl⟩))
   rw[←e]
   exact U0 (h4.mem_iff.mpr (List.mem_append_left _ cU))
  ·exact U0 (c:=(b,o')) (h4.mem_iff.mpr (by simp[hc]))
theorem WG {D:List XG}{Cs':List (List XG)}{xs':List V}(w:W (D::OO) H)(hk:OO[k]?=some ((p, .lst xs)::Cs.flatten))(bx:∀c∈Cs'.flatten,c∈Cs.flatten++D)(dM:(Cs'.flatten.map (·.1)).Nodup):
  W (OO.set k ((p, .lst xs')::Cs'.flatten)) (upd H p (.lst xs'))/\Xu (hid H (D::OO)) (hid (upd H p (.lst xs')) (OO.set k ((p, .lst xs')::Cs'.flatten))):=by
 have h1:=XQ hk
 have w3:W [((p,HO.lst xs)::(Cs.flatten++D))++(OO.set k []).flatten] H:=w.of (by
  simp only[List.flatten_cons,List.flatten_nil,List.append_nil]
  refine List.Perm.trans ?_ ((by simpa using h1:(((p,HO.lst xs)::Cs.flatten)++(OO.set k []).flatten).Perm OO.flatten).append_left D)
  rw[←List.append_assoc]
  refine List.Perm.append_right _ ?_
  exact(List.perm_append_comm (l₁:=(p,HO.lst xs)::Cs.flatten) (l₂:=D)))
 have nd:=w3.nd
 simp only[fl,List.flatten_cons,List.flatten_nil,List.append_nil,List.map_append,List.cons_append,List.map_cons] at nd
 have hne:∀c∈Cs'.flatten,c.1≠p:=λc hc e=>by
  refine(List.nodup_cons.mp nd).1 ?_
  rw[←e]
  refine List.mem_append_left _ ?_
  rw[←List.map_append]
  exact List.mem_map.mpr ⟨c,bx c hc,rfl⟩
 refine IX w hk List.mem_cons_self List.mem_cons_self ?_ ?_ ?_ ?_
 ·rw[List.map_cons,List.nodup_cons]
  refine⟨λz=>?_,dM⟩
  obtain⟨c,hc,e⟩:=List.mem_map.mp z
  exact hne c hc e
 ·intro b hb
  rcases List.mem_cons.mp hb with rfl |hb
  ·exact List.mem_cons_self
  ·obtain⟨c,hc,rfl⟩:=List.mem_map.mp hb
   rw[List.cons_append,List.map_cons]
   exact List.mem_cons_of_mem _ (List.mem_map.mpr ⟨c,bx c hc,rfl⟩)
 ·intro c hc
  rcases List.mem_cons.mp hc with rfl |hc
  ·exact Yg
  ·rw[X8 (hne c hc)]
   exact w3.tr c (by
    rw[List.flatten_cons,List.flatten_nil,List.append_nil]
    exact List.mem_append_left _ (List.mem_cons_of_mem _ (bx c hc)))
 ·intro c hc
  rcases List.mem_cons.mp hc with rfl |hc
  ·rfl
  ·exact w3.mu c (by
    rw[List.flatten_cons,List.flatten_nil,List.append_nil]
    exact List.mem_append_left _ (List.mem_cons_of_mem _ (bx c hc)))
theorem MZ {R:List XG}(q:oL o K h (.ref p) as ((p, .lst xs)::R)):∃Cs,P3 (o K h) xs as Cs/\R=Cs.flatten:=by
 obtain⟨p',xs',Cs,e,q,c⟩:=q
 injection c with c1 c2
 injection c1 with c3 c4
 injection c4 with c5
 subst c5
 exact⟨Cs,q,c2⟩
theorem Ce {a:M}(h:Ve as i a= .ok bs):∃j,ixN as.length i=some j/\bs=as.set j a:=by
 unfold Ve at h;split at h
 ·cases h;exact⟨_,by assumption,rfl⟩
 ·cases h
theorem DJ {a:M}{x:Exc}:Ve as i a≠ .err x:=by unfold Ve;split<;> exact λz=>nomatch z
theorem UU {r m:List XG}(h:(l++r).Perm m)(n:(m.map (·.1)).Nodup):(l.map (·.1)).Nodup:=by
 have:((l++r).map (·.1)).Nodup:=(h.map _).nodup_iff.mpr n
 rw[List.map_append] at this
 exact(List.nodup_append.mp this).1
theorem Hh {D:List XG}(hj:j<Cs.length):((Cs.set j D).flatten++Cs[j]).Perm (Cs.flatten++D):=by
 have h1:=XQ (OO:=Cs) (k:=j) (C:=Cs[j]) (by simp[hj])
 have h2:=XQ (OO:=Cs.set j D) (k:=j) (C:=D) (by simp[hj])
 rw[set_set] at h2
 have h3:(Cs.set j D).flatten.Perm (D++(Cs.set j []).flatten):=by simpa using h2.symm
 have h4:Cs.flatten.Perm (Cs[j]++(Cs.set j []).flatten):=by simpa using h1.symm
 refine(h3.append_right _).trans (List.Perm.trans ?_ (h4.append_right _).symm)
 refine List.perm_append_comm.trans ((List.perm_append_comm.append_left _).trans ?_)
 rw[List.append_assoc]
theorem VP {D:List XG}(w:W (D::OO) H)(hk:OO[k]?=some ((p, .lst xs)::Cs.flatten)):((Cs.flatten++D).map (·.1)).Nodup:=by
 have h1:=XQ hk
 have w3:W [((p,HO.lst xs)::(Cs.flatten++D))++(OO.set k []).flatten] H:=w.of (by
  simp only[List.flatten_cons,List.flatten_nil,List.append_nil]
  refine List.Perm.trans ?_ ((by simpa using h1:(((p,HO.lst xs)::Cs.flatten)++(OO.set k []).flatten).Perm OO.flatten).append_left D)
  rw[←List.append_assoc]
  refine List.Perm.append_right _ ?_
  exact(List.perm_append_comm (l₁:=(p,HO.lst xs)::Cs.flatten) (l₂:=D)))
 have nd:=w3.nd
 simp only[fl,List.flatten_cons,List.flatten_nil,List.append_nil,List.cons_append,List.map_cons] at nd
 have n2:=(List.nodup_cons.mp nd).2
 rw[List.map_append] at n2
 exact(List.nodup_append.mp n2).1
theorem EG {ti:TE}[MonoO o]{m:Rs M}{f:List M->Rs L}{v:V}(i k:Nat)(hσ:U[i]?=some (some v))(cI:OO'[k]?=some C)(h:∀x,S.p x->oL o K x v as C)(he:Ev K Er S OO OO' U ta o m)
  (hi:∀D,EvB K Er S (D::OO') U ti Xf mi)
  (hr:∀bs C',Sv Er (S.addO K (oL o) v bs C') (OO'.set k C') U u Fd (f bs)):Sv Er S OO U (Zn (G7 ta (Sx (Ji i) ti HK)) u) Fd (m.bind λa=>mi.bind λj=>(Ve as j a).bind f):=λH D w s P=>
 he.st w s P λa y D' H' w' s' ho P'=>⟨v,hσ,(hi D').st w' s' P' λj z H2 s2 w2 q2 r2 P2=>by
  obtain⟨p,xs,Cs,e,q,c⟩:=h _ q2
  subst c
  have hH:H2 p=some (.lst xs):=w2.tr (p, .lst xs) (by rw[List.flatten_cons];exact List.mem_append_right _ (List.mem_flatten.mpr ⟨_,List.mem_of_getElem? cI,List.mem_cons_self⟩))
  cases es:Ve as j a with
  |bad=>rw[es] at P2;exact P2.elim
  |err x=>exact absurd es DJ
  |ok bs=>
   rw[es] at P2
   obtain⟨jj,h1,rfl⟩:=Ce es
   have hjl:jj<as.length:=by
    unfold ixN at h1
    split at h1
    ·split at h1
     ·cases h1;omega
     ·cases h1
    ·split at h1
     ·cases h1;omega
     ·cases h1
   have hjC:jj<Cs.length:=by rw[q.len.2];exact hjl
   have hp:=Hh (Cs:=Cs) (j:=jj) (D:=D') hjC
   obtain⟨w3,m3⟩:=WG (xs':=xs.set jj y) (Cs':=Cs.set jj D') w2 cI (λc hc=>hp.mem_iff.mp (List.mem_append_left _ hc)) (UU hp (VP w2 cI))
   refine⟨p,xs,j,jj,e,r2,hH,by rw[q.len.1];exact h1,hr _ _ _ D w3 ⟨S.mono _ _ m3 q2,⟨p,_,_,e,P3.imp (λ_ _ _ z=>MonoO.mono m3 z) (P3.set (MonoO.mono (Xh s2) ho) jj q),rfl⟩⟩ (PZ.tr (fd.tr D) m3 P2)⟩⟩
theorem Tg [MonoO o]{f:List M->Rs L}{v:V}(i k:Nat)(hσ:U[i]?=some (some v))(hk:OO[k]?=some C)(cI:OO'[k]?=some C)(h:∀x,S.p x->oL o K x v as C)(he:Ev K Er S OO OO' U ta (oL o) m)
  (hr:∀bs C',Sv Er (S.addO K (oL o) v (as++bs) C') (OO'.set k C') U u Fd (f (as++bs))):Sv Er S OO U (Zn (Fe (tBM K "list" B6 (Ji i) (Xr ta YE))) u) Fd (m.bind λbs=>chk (as.length+bs.length<=sizeLine) (f (as++bs))):=λH D w s P=>by
 obtain⟨p,xs,Cs,e,q,c⟩:=h _ s
 subst c
 have hH:H p=some (.lst xs):=w.tr (p, .lst xs) (List.mem_flatten.mpr ⟨_,List.mem_of_getElem? hk,List.mem_cons_self⟩)
 refine⟨v,hσ,by rw[e];exact .inl ⟨rfl,_,SqL.of hH⟩,he.st w s P λbs y D' H' w' s' ho P'=>?_⟩
 obtain⟨hsz,P'⟩:=PZ.chk P'
 subst e
 obtain⟨Cs2,q2,c2⟩:=MZ (h _ s')
 obtain⟨p',zs,Ds,e3,q3,c3⟩:=ho
 subst c3
 have iA:H' p=some (.lst xs):=w'.tr (p, .lst xs) (by rw[List.flatten_cons];exact List.mem_append_right _ (List.mem_flatten.mpr ⟨_,List.mem_of_getElem? cI,List.mem_cons_self⟩))
 have gk:H' p'=some (.lst zs):=w'.tr (p', .lst zs) (by rw[List.flatten_cons];exact List.mem_append_left _ List.mem_cons_self)
 have cn:=VP w' cI
 obtain⟨w3,m3⟩:=WG (xs':=xs++zs) (Cs':=Cs2++Ds) w' cI (λc hc=>by
   rw[List.flatten_append,List.mem_append] at hc
   rcases hc with hc |hc
   ·rw[c2];exact List.mem_append_left _ hc
   ·exact List.mem_append_right _ (List.mem_cons_of_mem _ hc)) (by
   rw[List.flatten_append, ←c2]
   refine List.Nodup.sublist (List.Sublist.map _ ?_) cn
   exact List.Sublist.append (List.Sublist.refl _) (List.sublist_cons_self _ _))
 refine⟨p,p',xs,zs,rfl,by rw[e3],iA,gk,by rw[q2.len.1,q3.len.1];exact hsz,?_⟩
 exact hr bs _ _ D w3 ⟨S.mono _ _ m3 s',⟨p,_,_,rfl,P3.imp (λ_ _ _ z=>MonoO.mono m3 z) (q2.app q3),rfl⟩⟩ (PZ.tr (fd.tr D) m3 P')
def Nx (as:List M)(i:Int):Rs (M×List M):=chk (-(2^63)<=i/\i<2^63) (match seqIndex? i as.length with
 |none=>.bad
 |some k=>match as[k]? with
  |none=>.bad
  |some a=>.ok (a,as.eraseIdx k))
theorem Pr {p:M×List M}(h:Nx as i= .ok p):(-(2^63)<=i/\i<2^63)/\∃k,seqIndex? i as.length=some k/\as[k]?=some p.1/\p.2=as.eraseIdx k:=by
 obtain⟨h1,h2⟩:=Z8 h
 refine⟨h1,?_⟩
 split at h2
 ·cases h2
 ·split at h2
  ·cases h2
  ·cases h2;exact⟨_,by assumption,by assumption,rfl⟩
theorem Rg {x:Exc}:Nx as i≠ .err x:=by
 unfold Nx chk;split
 ·split
  ·exact λz=>nomatch z
  ·split<;> exact λz=>nomatch z
 ·exact λz=>nomatch z
theorem Paired.erase' {F:M->B->Prop}:∀{l:List M}{m:List B} (n:Nat),Paired F l m->Paired F (l.eraseIdx n) (m.eraseIdx n)
 |_,_,_, .nil=>.nil
 |_,_,0, .cons _ t=>t
 |_,_,n+1, .cons r t=>.cons r (Paired.erase' n t)
theorem O5 {te ti:TE}[MonoE r]{f:M×List M->Rs L}{v:V}{Q:VK}(i k:Nat)(hσ:U[i]?=some (some v))(hk:OO[k]?=some C)(h:∀x,S.p x->oL (oF r) K x v as C)(hi:EvB K Er S OO U ti Xf mi)
  (w:W OO H)(s:S.p (hid H OO))(P:PZ Er (Fd D) (hid H OO) (mi.bind λj=>(Nx as j).bind f))
  (hr:∀a bs y C' H',W (OO.set k C') H'->((S.add K r y a).addO K (oL (oF r)) v bs C').p (hid H' (OO.set k C'))->PZ Er (Fd D) (hid H' (OO.set k C')) (f (a,bs))->Q y H'):tBM K "list" EM (Ji i) (Xr ti YE) U H Q:=by
 obtain⟨p,xs,Cs,e,q,c⟩:=h _ s
 subst c
 have hH:H p=some (.lst xs):=w.tr (p, .lst xs) (List.mem_flatten.mpr ⟨_,List.mem_of_getElem? hk,List.mem_cons_self⟩)
 refine⟨v,hσ,by rw[e];exact .inl ⟨rfl,_,SqL.of hH⟩,hi.st w s P λj z H' s1 w' s' ho P'=>?_⟩
 subst e
 obtain⟨Cs2,q2,c2⟩:=MZ (h _ s')
 obtain⟨pr,iu⟩:=P3.flat q2
 cases es:Nx as j with
 |bad=>rw[es] at P';exact P'.elim
 |err x=>exact absurd es Rg
 |ok pp=>
  rw[es] at P'
  obtain⟨a,bs⟩:=pp
  obtain⟨h1,kk,h2,h3,h4⟩:=Pr es
  obtain⟨y,hy,ry⟩:=Paired.getR pr h3
  have w0:W ([]::OO) H':=w'.nil
  have hk0:OO[k]?=some ((p, .lst xs)::([]:List (List XG)).flatten):=by rw[hk,c2,iu];rfl
  obtain⟨w3,m3⟩:=WG (D:=[]) (Cs:=[]) (xs':=xs.eraseIdx kk) (Cs':=List.replicate bs.length []) w0 hk0 (λc hc=>by rw[Yh] at hc;cases hc) (by rw[Yh];exact List.nodup_nil)
  rw[ZS] at m3
  refine⟨p,xs,j,kk,y,rfl,by rw[show z= .int j from ho],s1 _ _ hH,h1.1,h1.2,by rw[Paired.len pr];exact h2,hy,?_⟩
  have fD:Paired (r K (hid H' OO)) (xs.eraseIdx kk) bs:=by rw[show bs=as.eraseIdx kk from h4];exact Paired.erase' kk pr
  exact hr a bs y _ _ w3 ⟨⟨S.mono _ _ m3 s',MonoE.mono m3 ry⟩,⟨p,_,_,rfl,(P3.of (Paired.imp2 (λ_ _ z=>MonoE.mono m3 z) fD)).imp λ_ _ _ z=>z,rfl⟩⟩ (PZ.tr (fd.tr D) m3 P')
theorem Tu [MonoE r]{f:M×List M->Rs L}(x i k:Nat)(hσ:U[i]?=some (some v))(hk:OO[k]?=some C)(h:∀x,S.p x->oL (oF r) K x v as C)(hi:EvB K Er S OO U ti Xf mi)
  (hr:∀a bs y C',Sv Er ((S.add K r y a).addO K (oL (oF r)) v bs C') (OO.set k C') (U.set x (some y)) u Fd (f (a,bs))):Sv Er S OO U (Zn (G7 (tBM K "list" EM (Ji i) (Xr ti YE)) (X4 x)) u) Fd (mi.bind λj=>(Nx as j).bind f):=λH D w s P=>
 O5 (te:=ti) i k hσ hk h hi w s P λa bs y C' H' w' s' P'=>hr a bs y C' H' D w' s' P'
theorem Oi {q:Enc B}[z:MonoE r][MonoE q]{ma:Rs M}{mb:Rs B}{f:M->B->Rs L}(i j:Nat)(ha:EvS K Er S OO U ta r ma)(hb:EvS K Er S OO U tb q mb)
  (hr:∀a b v w,Sv Er ((S.add K r v a).add K q w b) OO ((U.set i (some v)).set j (some w)) u Fd (f a b)):Sv Er S OO U (Zn (Av i j (Xr ta (Xr tb YE))) u) Fd (ma.bind λa=>mb.bind λb=>f a b):=λH D w s P=>
 ha.st w s P λa x H1 s1 w1 q1 r1 P1=>hb.st w1 q1 P1 λb y H2 s2 w2 q2 r2 P2=>⟨x,y,rfl,hr a b x y H2 D w2 ⟨⟨q2,z.mono (Xh s2) r1⟩,r2⟩ P2⟩
theorem Hk {q:Enc B}[MonoE r][MonoE q]{m:Rs (M×B)}{f:M×B->Rs L}(i j:Nat)(he:EvS K Er S OO U te (rP2 r q) m)
  (hr:∀a v w,Sv Er ((S.add K r v a.1).add K q w a.2) OO ((U.set i (some v)).set j (some w)) u Fd (f a)):Sv Er S OO U (Zn (G7 te (Ii K 2 (YH (X4 i) (YH (X4 j) IK)))) u) Fd (m.bind f):=λH D w s P=>
 he.st w s P λa v H1 s1 w1 q1 r9 P1=>by obtain⟨p,x,y,e,h,h1,h2⟩:=r9;exact⟨p,_,e,SqT.of (Xv _ _ h),rfl,x,[y],rfl,y,[],rfl,rfl,hr a x y H1 D w1 ⟨⟨q1,h1⟩,h2⟩ P1⟩
theorem L9 {ma:Rs Int}(ha:EvB K Er S OO U ta Xf ma)(hb:EvB K Er S OO U tb Xf mb):EvB K Er S OO U (tCB (λxs H Q=>∃ i j:Int,xs=[.int i, .int j]/\Q (.int (if j > i then j else i)) H) (Xr ta (Xr tb YE))) Xf (ma.bind λa=>mb.bind λb=>.ok (max a b)):=λH Q w s P=>
 ha.run w s FB.tr P λa x H1 s1 w1 q1 r1 P1=>hb.run w1 q1 FB.tr P1 λb y H2 s2 w2 q2 r2 P2=>⟨a,b,by rw[show x= .int a from r1,show y= .int b from r2],P2 _ H2 (Xu.refl _) (by show V.int _=V.int _;congr 1;omega)⟩
theorem MJ {ma:Rs Int}(ha:EvB K Er S OO U ta Xf ma)(hb:EvB K Er S OO U tb Xf mb):EvB K Er S OO U (tCB (λxs H Q=>∃ i j:Int,xs=[.int i, .int j]/\Q (.int (if j<i then j else i)) H) (Xr ta (Xr tb YE))) Xf (ma.bind λa=>mb.bind λb=>.ok (min a b)):=λH Q w s P=>
 ha.run w s FB.tr P λa x H1 s1 w1 q1 r1 P1=>hb.run w1 q1 FB.tr P1 λb y H2 s2 w2 q2 r2 P2=>⟨a,b,by rw[show x= .int a from r1,show y= .int b from r2],P2 _ H2 (Xu.refl _) (by show V.int _=V.int _;congr 1;omega)⟩
theorem U7:∀{xs:List V}{bs:List Bool}{H:Hp},Paired (Xw K H) xs bs->xs=bs.map V.bl
 |_,_,_, .nil=>rfl
 |_,_,_, .cons r t=>by rw[show _=V.bl _ from r,U7 t];rfl
theorem Rk {ma:Rs (List Bool)}(ha:EvB K Er S OO U ta (rV Xw) ma):EvB K Er S OO U (tCB (Ay K) (Xr ta YE)) Xw (ma.bind λa=>.ok (a.all id)):=λH Q w s P=>
 ha.run w s FB.tr P λa x H1 s1 w1 q1 r9 P1=>by obtain⟨p,xs,e,q,pr⟩:=r9;exact⟨p,a,by rw[e],by rw[←U7 pr];exact SqL.of q,P1 _ H1 (Xu.refl _) rfl⟩
class TyE {M:Type}(r:Enc M)(n:outParam String):Prop where
 ty:∀{K:W.Frag}{H:Hp}{v:V}{a:M},r K H v a->TyOf K H v (.type n)
instance:TyE Xf "int":=⟨fun {K H v a} h=>by cases(show v= .int a from h);exact .int a⟩
instance:TyE Xw "bool":=⟨fun {K H v a} h=>by cases(show v= .bl a from h);exact .bl a⟩
instance:TyE Kq "str":=⟨fun {K H v a} h=>by cases(show v= .str a from h);exact .str a⟩
instance {r:Enc M}:TyE (rV r) "list":=⟨λr9=>by obtain⟨p,xs,e,q,_⟩:=r9;exact by subst e;exact .lst q⟩
instance {r:Enc M}:TyE (rPL r) "tuple":=⟨λr9=>by obtain⟨p,xs,e,q,_⟩:=r9;exact by subst e;exact .tup q⟩
instance {r:Enc M}{q:Enc B}:TyE (rP2 r q) "tuple":=⟨λr9=>by obtain⟨p,x,y,e,q,_⟩:=r9;exact by subst e;exact .tup q⟩
instance {r:Enc M}{q:Enc B}{t:Enc δ}:TyE (rP3 r q t) "tuple":=⟨λr9=>by obtain⟨p,x,y,z,e,q,_⟩:=r9;exact by subst e;exact .tup q⟩
theorem Y4 {n:String}[z:TyE r n]{m:Rs M}(t:String)(b:Bool)(hk:W.kitOne K (.type n) (.type t)=some b)(he:EvB K Er S OO U te r m):
  EvB K Er S OO U (tCB (λxs H Q=>∃ x n t b,xs=[x, .ty n]/\TyOf K H x t/\W.kitOne K t (.type n)=some b/\Q (.bl b) H) (Xr te (Xr (tC (.ty t)) YE))) Xw (m.bind λ_=>.ok b):=λH Q w s P=>
 he.run w s FB.tr P λa x H1 s1 w1 q1 r1 P1=>⟨x,t, .type n,b,rfl,z.ty r1,hk,P1 _ H1 (Xu.refl _) rfl⟩
theorem Pl {ma:Rs Int}(ha:EvB K Er S OO U ta Xf ma):EvB K Er S OO U (tCB (λxs H Q=>∃ i:Int,xs=[.int i]/\Q (.int (if i<0 then-i else i)) H) (Xr ta YE)) Xf (ma.bind λa=>.ok (a.natAbs:Int)):=λH Q w s P=>
 ha.run w s FB.tr P λa x H1 s1 w1 q1 r1 P1=>⟨a,by rw[show x= .int a from r1],P1 _ H1 (Xu.refl _) (by show V.int _=V.int _;congr 1;omega)⟩
end
section
variable [fd:FdOk Fd]{u:TS}
theorem Ph (n:Nat)(H:Hp):W (List.replicate n []) H:=⟨λc hc=>(by rw[Yh] at hc;cases hc),(by unfold fl;rw[Yh];exact List.nodup_nil),λc hc=>(by rw[Yh] at hc;cases hc)⟩
theorem Hn (n:Nat)(H:Hp):hid H (List.replicate n [])=H:=by funext b;unfold hid fl;rw[Yh];simp
theorem Mj {o:OE ρ}[z:MonoO o]{Q:VK}{b:ρ}(q:FF K o Q b H):∀v C OO' H',W (C::OO') H'->Xu H (hid H' (C::OO'))->o K (hid H' (C::OO')) v b C->Q v H':=λv C OO' H' w m ho=>by
 have hs:Xu (hid H' (C::OO')) (hid H' [C]):=Qv (Xu.refl _) λb hb=>by
  rw[XS]
  refine List.mem_append_left _ ?_
  simpa[fl] using hb
 exact q v C H' (w.sub (by simp)) (m.trans hs) (z.mono hs ho)
theorem Hr {o:OE ρ}[MonoO o]{m:Rs ρ}{Q:VK}{b:ρ}(n:Nat)(h:Sv (λ_ _=>False) S (List.replicate n []) U t (FTd K o) m)(hs:S.p H)(hm:m= .ok b)(q:FF K o Q b H)(hD:D.rt=Q):t D U H:=by
 refine h H D (Ph n H) (by rw[Hn];exact hs) ?_
 subst hm
 rw[Hn]
 intro v C OO' H' w mm ho
 rw[hD]
 exact Mj q v C OO' H' w mm ho
def oU:OE Unit:=λ_ _ v _ C=>v= .non/\C=[]
instance:MonoO oU:=⟨λ_ h=>h⟩
instance:FlatO oU:=⟨λ_ h=>h⟩
def rU0:Enc Unit:=λ_ _ v _=>v= .non
instance:FlatE rU0:=⟨λ_ h=>h⟩
instance:FrzC oU rU0:=⟨λh _ _=>h.1⟩
theorem Il {m:Rs L}(k:Nat)(hr:Sv Er S (OO.set k []) U t Fd m):Sv Er S OO U t Fd m:=λH D w s P=>by
 cases hk:OO[k]? with
 |none=>
  rw[List.set_eq_of_length_le (List.getElem?_eq_none_iff.mp hk)] at hr
  exact hr H D w s P
 |some C=>
  have hp:=XQ hk
  have w1:W (C::OO.set k []) H:=w.of hp
  have hs:Xu (hid H OO) (hid H (OO.set k [])):=by
   rw[←XM hp]
   exact Qv (Xu.refl _) λb hb=>by rw[XS];simp[hb]
  exact hr H D w1.tail (S.mono _ _ hs s) (PZ.tr (fd.tr D) hs P)
theorem Rp {m:Rs M}{f:Rs L}(he:EvB K Er S OO U te r m)(hr:Sv Er S OO U u Fd f):Sv Er S OO U (Zn (Fe te) u) Fd (m.bind λ_=>f):=λH D w s P=>
 he.st w s P λa v H' s1 w' s' ho P'=>hr H' D w' s' P'
class InE {M:Type}[DecidableEq M](r:Enc M):Prop where
 fl:∀{K:W.Frag}{H:Hp}{x:V}{a:M},r K H x a->G4 x=true
 eq:∀{K:W.Frag}{H H':Hp}{x y:V}{a b:M},r K H x a->r K H' y b->eqV x y=decide (a=b)
instance:InE Xf:=⟨fun {K H x a} h=>by cases(show x= .int a from h);rfl,fun {K H H' x y a b} h h'=>by
 cases(show x= .int a from h);cases(show y= .int b from h');show(a==b)=_;rw[NA]⟩
instance:InE Kq:=⟨fun {K H x a} h=>by cases(show x= .str a from h);rfl,fun {K H H' x y a b} h h'=>by
 cases(show x= .str a from h);cases(show y= .str b from h');show(a==b)=_
 rw[Bool.eq_iff_iff];simp⟩
theorem V2 [DecidableEq M][z:InE r]{x:V}{a:M}(hx:r K H x a):∀{xs:List V}{as:List M},Paired (r K H') xs as->xs.all G4=true/\inV x xs=decide (a∈as)
 |_,_, .nil=>⟨rfl,by simp[inV]⟩
 |_,_, .cons h t=>by
  obtain⟨h1,h2⟩:=V2 hx t
  refine⟨by rw[List.all_cons,h1,z.fl h];rfl,?_⟩
  unfold inV at h2⊢
  rw[List.any_cons,h2,z.eq h hx,Bool.eq_iff_iff,Bool.or_eq_true,decide_eq_true_eq,decide_eq_true_eq,decide_eq_true_eq,List.mem_cons]
  exact or_congr ⟨Eq.symm,Eq.symm⟩ Iff.rfl
theorem R9 [DecidableEq M][z:InE r]{ma:Rs M}{mb:Rs (List M)}(ha:EvB K Er S OO U ta r ma)(hb:EvB K Er S OO U tb (rV r) mb):EvB K Er S OO U (tOp (rIn K true) ta tb) Xw (ma.bind λa=>mb.bind λas=>.ok (!decide (a∈as))):=λH Q w s P=>
 ha.run w s FB.tr P λa x H1 s1 w1 q1 r1 P1=>hb.run w1 q1 FB.tr P1 λb y H2 s2 w2 q2 ⟨p,xs,e,q,pr⟩ P2=>by
  obtain⟨h1,h2⟩:=V2 r1 pr
  exact⟨p,xs,e, .inl (SqL.of q),z.fl r1,h1,P2 _ H2 (Xu.refl _) (by rw[h2];rfl)⟩
theorem JI [DecidableEq M][z:InE r]{ma:Rs M}{mb:Rs (List M)}(ha:EvB K Er S OO U ta r ma)(hb:EvB K Er S OO U tb (rPL r) mb):EvB K Er S OO U (tOp (rIn K false) ta tb) Xw (ma.bind λa=>mb.bind λas=>.ok (decide (a∈as))):=λH Q w s P=>
 ha.run w s FB.tr P λa x H1 s1 w1 q1 r1 P1=>hb.run w1 q1 FB.tr P1 λb y H2 s2 w2 q2 ⟨p,xs,e,q,pr⟩ P2=>by
  obtain⟨h1,h2⟩:=V2 r1 pr
  exact⟨p,xs,e, .inr (SqT.of q),z.fl r1,h1,P2 _ H2 (Xu.refl _) (by rw[h2];rfl)⟩
theorem FY [DecidableEq M][z:InE r]{ma:Rs M}{mb:Rs (List M)}(ha:EvB K Er S OO U ta r ma)(hb:EvB K Er S OO U tb (rPL r) mb):EvB K Er S OO U (tOp (rIn K true) ta tb) Xw (ma.bind λa=>mb.bind λas=>.ok (!decide (a∈as))):=λH Q w s P=>
 ha.run w s FB.tr P λa x H1 s1 w1 q1 r1 P1=>hb.run w1 q1 FB.tr P1 λb y H2 s2 w2 q2 ⟨p,xs,e,q,pr⟩ P2=>by
  obtain⟨h1,h2⟩:=V2 r1 pr
  exact⟨p,xs,e, .inr (SqT.of q),z.fl r1,h1,P2 _ H2 (Xu.refl _) (by rw[h2];rfl)⟩
theorem Eb {tb:TE}{m:Rs (Option M)}(ha:EvB K Er S OO U ta (LP r) m):EvB K Er S OO U (tOp (λx y H Q=>y= .non/\Q (.bl (decide (x= .non))) H) ta (tC .non)) Xw (m.bind λa=>.ok a.isNone):=λH Q w s P=>
 ha.run w s FB.tr P λa x H1 s1 w1 q1 r1 P1=>⟨rfl,P1 _ H1 (Xu.refl _) (by
  cases a with
  |none=>rw[show x= .non from r1];rfl
  |some a=>show V.bl _=V.bl _;rw[decide_eq_false r1.1];rfl)⟩
theorem De {tb:TE}{m:Rs (Option M)}(ha:EvB K Er S OO U ta (LP r) m):EvB K Er S OO U (tOp (λx y H Q=>y= .non/\Q (.bl (!decide (x= .non))) H) ta (tC .non)) Xw (m.bind λa=>.ok a.isSome):=λH Q w s P=>
 ha.run w s FB.tr P λa x H1 s1 w1 q1 r1 P1=>⟨rfl,P1 _ H1 (Xu.refl _) (by
  cases a with
  |none=>rw[show x= .non from r1];rfl
  |some a=>show V.bl _=V.bl _;rw[decide_eq_false r1.1];rfl)⟩
theorem VX {p q:Int->Int->Bool}{ma mc:Rs Int}(ha:EvB K Er S OO U ta Xf ma)(hb:EvB K Er S OO U tb Xf mb)(hc:EvB K Er S OO U tc Xf mc):
  EvB K Er S OO U (Lv (rI0 λi j=>.bl (p i j)) (rI0 λi j=>.bl (q i j)) ta tb tc) Xw (ma.bind λa=>mb.bind λb=>if p a b=true then mc.bind λc=>.ok (q b c) else .ok false):=λH Q w s P=>
 ha.run w s FB.tr P λa x H1 s1 w1 q1 r1 P1=>hb.run w1 q1 FB.tr P1 λb y H2 s2 w2 q2 r2 P2=>⟨a,b,r1,r2,p a b,rfl,by
  cases h:p a b with
  |false=>rw[h] at P2;exact P2 _ H2 (Xu.refl _) rfl
  |true=>
   rw[h,if_pos rfl] at P2
   rw[if_pos rfl]
   exact hc.run w2 q2 FB.tr P2 λc z H3 s3 w3 q3 r3 P3=>⟨b,c,r2,r3,P3 _ H3 (Xu.refl _) rfl⟩⟩
theorem LY [DecidableEq M]{d:Nat}(E:EqOk r d)(h:∀{K:W.Frag}{H:Hp}{v:V}{a:M},r' K H v a->r K H v a)(m:MonoE r'):EqOk r' d where
 uniq:=λI h1 h2=>E.uniq I (h h1) (h h2)
 eq:=λI rx ry h1 h2 hu=>E.eq I rx ry (h h1) (h h2) hu
 rc:=λI rx ry h1 h2 hu=>E.rc I rx ry (h h1) (h h2) hu
 ne:=λI rx ry h1 h2 hu=>E.ne I rx ry (h h1) (h h2) hu
 keep:=λs q=>m.mono s q
theorem HN [DecidableEq M]{d:Nat}[m:MonoE r](E:EqOk r d):EqOk (rV r) (d+1):=LY (RK E) (λr9=>by obtain⟨a,xs,e,q,p⟩:=r9;exact⟨a,xs,e,SqL.of q,p⟩) inferInstance
theorem Ea [DecidableEq M][DecidableEq L]{q:Enc L}{d:Nat}[m:MonoE r][n:MonoE q](E:EqOk r d)(F:EqOk q d):EqOk (rP2 r q) (d+1):=LY (Re E F) (λr9=>by obtain⟨a,x,y,e,q,p⟩:=r9;exact⟨a,x,y,e,SqT.of q,p⟩) inferInstance
end
section
variable [fd:FdOk Fd]{u:TS}
theorem Zg {q:OE L}[z:MonoO o][y:MonoO q]{ma:Rs M}{mb:Rs L}(ha:Ev K Er S OO OO1 U ta o ma)(hb:∀C,Ev K Er S (C::OO1) (C::b7) U tb q mb):Ev K Er S OO b7 U (SA (Xr ta (Xr tb YE))) (oT2 o q) (ma.bind λa=>mb.bind λb=>.ok (a,b)):=λH Q w s P=>by
 refine ha H _ w s ?_
 cases em:ma with
 |bad=>rw[em] at P;exact P
 |err x=>rw[em] at P;exact P
 |ok a=>
  rw[em] at P
  intro v C H1 s1 w1 m1 ho
  refine hb C H1 _ w1 (S.mono _ _ m1 s) ?_
  have P1:PZ Er (FO K OO b7 (oT2 o q) Q) H (mb.bind λb=>.ok (a,b)):=P
  cases en:mb with
  |bad=>rw[en] at P1;exact P1
  |err x=>rw[en] at P1;exact λH2 s2=>P1 H2 (s1.trans s2)
  |ok b=>
   rw[en] at P1
   have P1:FO K OO b7 (oT2 o q) Q (a,b) H:=P1
   intro v2 C2 H2 s2 w2 m2 ca
   refine⟨by show 2<=sizeLine;decide,λp hp=>?_⟩
   have pe:((C++C2)::b7).flatten.Perm (C2::C::b7).flatten:=by
    simp only[List.flatten_cons]
    rw[←List.append_assoc]
    exact List.perm_append_comm.append_right _
   have s3:Xu H2 (upd H2 p (.tup [v,v2])):=XR hp _
   have w3:=(w2.keep s3).of pe
   have m3:Xu (hid H2 (C2::C::b7)) (hid (upd H2 p (.tup [v,v2])) ((C++C2)::b7)):=by rw[XM pe];exact Xh s3
   refine P1 (.ref p) (C++C2) _ (s1.trans (s2.trans s3)) w3 (m1.trans (m2.trans m3)) ⟨p,v,v2,C,C2,rfl,?_,z.mono (m2.trans m3) ho,y.mono m3 ca,rfl⟩
   rw[XM pe]
   exact Km w2 hp
theorem C9:∀{l:List XG}{a b:XG},(l.map (·.1)).Nodup->a∈l->b∈l->a.1=b.1->a=b
 | [],_,_,_,h,_,_=>by cases h
 |c::l,a,b,n,ha,hb,e=>by
  rw[List.map_cons,List.nodup_cons] at n
  cases ha with
  |head=>cases hb with
   |head=>rfl
   |tail _ hb=>exact absurd (List.mem_map.mpr ⟨b,hb,e.symm⟩) n.1
  |tail _ ha=>cases hb with
   |head=>exact absurd (List.mem_map.mpr ⟨a,ha,e⟩) n.1
   |tail _ hb=>exact C9 n.2 ha hb e
theorem Kr (h:Cs[k]?=some C):∀c∈C,c∈Cs.flatten:=λc hc=>List.mem_flatten.mpr ⟨C,List.mem_of_getElem? h,hc⟩
theorem Ma {a:M}(h:atR as i= .ok a):∃k,ixN as.length i=some k/\as[k]?=some a:=by
 have:=CU h
 unfold atI at this
 cases e:ixN as.length i with
 |none=>rw[e] at this;cases this
 |some k=>rw[e] at this;exact⟨k,rfl,this⟩
theorem Ei [z:MonoE r]{v:V}{as:List (List M)}(w:W OO H)(hk:OO[k]?=some ((p, .lst xs)::Cs.flatten))(hP:P3 (oL (oF r) K (hid H OO)) xs as Cs)(aE:as[kk]?=some row)
  (hx:xs[kk]?=some (.ref q))(hq:H q=some (.lst ys))(eY:Cs[kk]?=some [(q, .lst ys)])(pr:Paired (r K (hid H OO)) ys' row'):
  ∃C',W (OO.set k C') (upd H q (.lst ys'))/\Xu (hid H OO) (hid (upd H q (.lst ys')) (OO.set k C'))/\oL (oL (oF r)) K (hid (upd H q (.lst ys')) (OO.set k C')) (.ref p) (as.set kk row') C':=by
 have gq:kk<Cs.length:=by
  rcases Nat.lt_or_ge kk Cs.length with h |h
  ·exact h
  ·rw[List.getElem?_eq_none h] at eY;cases eY
 have bx:∀c∈(p,HO.lst xs)::Cs.flatten,c∈OO.flatten:=λc hc=>List.mem_flatten.mpr ⟨_,List.mem_of_getElem? hk,hc⟩
 have w0:W ([]::OO) H:=w.nil
 have cn0:=VP w0 hk
 rw[List.append_nil] at cn0
 have e0:Cs[kk]=[(q, .lst ys)]:=by
  rw[List.getElem?_eq_getElem gq] at eY;exact Option.some.inj eY
 have hp:=Hh (Cs:=Cs) (j:=kk) (D:=[(q,HO.lst ys')]) gq
 rw[e0] at hp
 have eK:((Cs.set kk [(q,HO.lst ys')]).flatten.map (·.1)).Perm (Cs.flatten.map (·.1)):=by
  have:=hp.map (·.1)
  simp only[List.map_append,List.map_cons,List.map_nil] at this
  exact(List.perm_append_right_iff _).mp this
 have iD:p∉Cs.flatten.map (·.1):=by
  have h1:=XQ hk
  have:=(w.of (OO':=((p,HO.lst xs)::Cs.flatten)::OO.set k []) h1).nd
  rw[XS,List.map_cons,List.cons_append,List.nodup_cons] at this
  exact λz=>this.1 (List.mem_append_left _ z)
 have hqC:q∈Cs.flatten.map (·.1):=List.mem_map.mpr ⟨(q, .lst ys),Kr eY _ (by simp),rfl⟩
 have hpq:p≠q:=λe=>iD (e▸hqC)
 have eM:∀c∈(p,HO.lst xs)::(Cs.set kk [(q,HO.lst ys')]).flatten,upd H q (.lst ys') c.1=some c.2/\Sz c.2=true:=λc hc=>by
  rcases List.mem_cons.mp hc with rfl |hc
  ·rw[X8 hpq];exact⟨w.tr _ (bx _ List.mem_cons_self),rfl⟩
  ·obtain⟨D,hD,hcD⟩:=List.mem_flatten.mp hc
   rcases List.mem_or_eq_of_mem_set hD with hD |hD
   ·by_cases hcq:c.1=q
    ·-- a cell at q in another place:then it is this one
     have cU:c∈(Cs.set kk [(q,HO.lst ys')]).flatten:=hc
     have n1:((Cs.set kk [(q,HO.lst ys')]).flatten.map (·.1)).Nodup:=eK.nodup_iff.mpr cn0
     have hm:(q,HO.lst ys')∈(Cs.set kk [(q,HO.lst ys')]).flatten:=List.mem_flatten.mpr ⟨[(q, .lst ys')],List.mem_set (by simpa using gq) _,by simp⟩
     have e1:c=(q,HO.lst ys'):=by
      have:=C9 n1 cU hm hcq
      exact this
     rw[e1];exact⟨Yg,rfl⟩
    ·rw[X8 hcq]
     have:c∈OO.flatten:=bx c (List.mem_cons_of_mem _ (List.mem_flatten.mpr ⟨D,hD,hcD⟩))
     exact⟨w.tr c this,w.mu c this⟩
   ·rw[hD] at hcD
    have e1:c=(q,HO.lst ys'):=by simpa using hcD
    rw[e1];exact⟨Yg,rfl⟩
 have hq':q∈(Cs.set kk [(q,HO.lst ys')]).flatten.map (·.1):=eK.mem_iff.mpr hqC
 obtain⟨w2,m2⟩:=IX (C':=(p, .lst xs)::(Cs.set kk [(q,HO.lst ys')]).flatten) (p:=q) (o:=.lst ys') w0 hk (List.mem_cons_of_mem _ hqC) (List.mem_cons_of_mem _ hq') (by
   rw[List.map_cons,List.nodup_cons]
   exact⟨λz=>iD (eK.mem_iff.mp z),eK.nodup_iff.mpr cn0⟩) (λb hb=>by
   rw[List.append_nil]
   rcases List.mem_cons.mp hb with rfl |hb
   ·exact List.mem_cons_self
   ·exact List.mem_cons_of_mem _ (eK.mem_iff.mp hb)) (λc hc=>(eM c hc).1) λc hc=>(eM c hc).2
 rw[ZS] at m2
 have e3:xs.set kk (.ref q)=xs:=by
  apply List.ext_getElem?
  intro n
  by_cases hn:n=kk
  ·subst hn
   rw[hx,List.getElem?_set_self (by
    rcases Nat.lt_or_ge n xs.length with h |h
    ·exact h
    ·rw[List.getElem?_eq_none h] at hx;cases hx)]
  ·rw[List.getElem?_set_ne (λe=>hn e.symm)]
 refine⟨_,w2,m2,⟨p,xs,Cs.set kk [(q,HO.lst ys')],rfl,?_,rfl⟩⟩
 have:=P3.set (F:=oL (oF r) K (hid (upd H q (.lst ys')) (OO.set k ((p, .lst xs)::(Cs.set kk [(q,HO.lst ys')]).flatten)))) (a:=V.ref q) (b:=row') (c:=[(q,HO.lst ys')])
  ⟨q,ys',List.replicate row'.length [],rfl,(P3.of (Paired.imp2 (λ_ _ h=>z.mono m2 h) pr)).imp λ_ _ _ h=>h,by rw[Yh]⟩ kk (P3.imp (λ_ _ _ h=>MonoO.mono m2 h) hP)
 rw[e3] at this
 exact this
theorem Du {h:Hp}{as:List (List M)}{kk:Nat}{row:List M}(q:P3 (oL (oF r) K h) xs as Cs)(aE:as[kk]?=some row):∃q0 ys,xs[kk]?=some (.ref q0)/\Cs[kk]?=some [(q0, .lst ys)]/\Paired (r K h) ys row:=by
 obtain⟨x,c,h1,h2,p,ys,Ds,e,h3,h4⟩:=q.get aE
 obtain⟨h5,h6⟩:=P3.flat h3
 rw[h6] at h4
 exact⟨p,ys,by rw[h1,e],by rw[h2,h4],h5⟩
theorem J9 {F:V->M->Prop}{y:V}{a:M}(r:F y a):∀{l:List V}{m:List M} (i:Nat),Paired F l m->Paired F (l.set i y) (m.set i a)
 |_,_,_, .nil=>.nil
 |_,_,0, .cons _ t=>.cons r t
 |_,_,i+1, .cons q t=>.cons q (J9 r i t)
theorem Ug {ti tj:TE}[z:MonoE r]{m:Rs M}{mj:Rs Int}{f:List (List M)->Rs L}{v:V}{as:List (List M)}(i k:Nat)(hσ:U[i]?=some (some v))(hk:OO[k]?=some C)(h:∀x,S.p x->oL (oL (oF r)) K x v as C)(he:EvS K Er S OO U ta r m)
  (hi:EvB K Er S OO U ti Xf mi)(hj:EvB K Er S OO U tj Xf mj)
  (hr:∀bs C',Sv Er (S.addO K (oL (oL (oF r))) v bs C') (OO.set k C') U u Fd (f bs)):
  Sv Er S OO U (Zn (G7 ta (Sx (tOp (HJ K) (Ji i) ti) tj HK)) u) Fd (m.bind λa=>mi.bind λx=>(atR as x).bind λrow=>mj.bind λy=>(Ve row y a).bind λrow'=>(Ve as x row').bind f):=λH D w s P=>
 he.st w s P λa va H1 s1 w1 q1 r1 P1=>⟨v,hσ,hi.st w1 q1 P1 λx vx H2 s2 w2 q2 r2 P2=>by
  cases ea:atR as x with
  |bad=>rw[ea] at P2;exact P2.elim
  |err ex=>exact absurd ea K6
  |ok row=>
   rw[ea] at P2
   obtain⟨kk,dw,aE⟩:=Ma ea
   obtain⟨p,xs,Cs,e,q,c⟩:=h _ q2
   subst c e
   obtain⟨q0,ys,g1,g2,g3⟩:=Du q aE
   have bx:∀c∈(p,HO.lst xs)::Cs.flatten,c∈OO.flatten:=λc hc=>List.mem_flatten.mpr ⟨_,List.mem_of_getElem? hk,hc⟩
   have hH:H2 p=some (.lst xs):=w2.tr (p, .lst xs) (bx _ List.mem_cons_self)
   have fj:H2 q0=some (.lst ys):=w2.tr (q0, .lst ys) (bx _ (List.mem_cons_of_mem _ (Kr g2 _ (by simp))))
   refine⟨p,xs,x, .ref q0,rfl,r2,SqL.of hH,by unfold atI;rw[q.len.1,dw];exact g1,hj.st w2 q2 (f:=λy=>(Ve row y a).bind λrow'=>(Ve as x row').bind f) P2 λy vy H3 s3 w3 q3 r3 aR=>?_⟩
   cases eb:Ve row y a with
   |bad=>rw[eb] at aR;exact aR.elim
   |err ex=>exact absurd eb DJ
   |ok row'=>
    rw[eb] at aR
    obtain⟨jj,hjj,rfl⟩:=Ce eb
    have P4:PZ Er (Fd D) (hid H3 OO) (f (as.set kk (row.set jj a))):=by
     have e5:Ve as x (row.set jj a)= .ok (as.set kk (row.set jj a)):=by unfold Ve;rw[dw]
     have:PZ Er (Fd D) (hid H3 OO) ((Ve as x (row.set jj a)).bind f):=aR
     rw[e5] at this
     exact this
    have m3:=Xh (OO:=OO) s3
    obtain⟨C',w4,m4,o4⟩:=Ei (ys':=ys.set jj va) (row':=row.set jj a) (v:=.ref p) w3 hk (P3.imp (λ_ _ _ h=>MonoO.mono m3 h) q) aE g1 (s3 _ _ fj) g2 (J9 (z.mono ((Xh s2).trans m3) r1) jj (Paired.imp2 (λ_ _ h=>z.mono m3 h) g3))
    exact⟨q0,ys,y,jj,rfl,r3,s3 _ _ fj,by rw[Paired.len g3];exact hjj,hr _ C' _ D w4 ⟨S.mono _ _ m4 q3,o4⟩ (PZ.tr (fd.tr D) m4 P4)⟩⟩
theorem NW {ti:TE}[z:MonoE r]{m:Rs M}{f:List (List M)->Rs L}{v:V}{as:List (List M)}(i k:Nat)(hσ:U[i]?=some (some v))(hk:OO[k]?=some C)(h:∀x,S.p x->oL (oL (oF r)) K x v as C)(he:EvS K Er S OO U ta r m)
  (hi:EvB K Er S OO U ti Xf mi)
  (hr:∀bs C',Sv Er (S.addO K (oL (oL (oF r))) v bs C') (OO.set k C') U u Fd (f bs)):
  Sv Er S OO U (Zn (Fe (tBM K "list" DX (tOp (HJ K) (Ji i) ti) (Xr ta YE))) u) Fd (mi.bind λx=>(atR as x).bind λrow=>m.bind λa=>chk (row.length<sizeLine) ((Ve as x (row++[a])).bind f)):=λH D w s P=>
 ⟨v,hσ,hi.st w s P λx vx H2 s2 w2 q2 r2 P2=>by
  cases ea:atR as x with
  |bad=>rw[ea] at P2;exact P2.elim
  |err ex=>exact absurd ea K6
  |ok row=>
   rw[ea] at P2
   obtain⟨kk,dw,aE⟩:=Ma ea
   obtain⟨p,xs,Cs,e,q,c⟩:=h _ q2
   subst c e
   obtain⟨q0,ys,g1,g2,g3⟩:=Du q aE
   have bx:∀c∈(p,HO.lst xs)::Cs.flatten,c∈OO.flatten:=λc hc=>List.mem_flatten.mpr ⟨_,List.mem_of_getElem? hk,hc⟩
   have hH:H2 p=some (.lst xs):=w2.tr (p, .lst xs) (bx _ List.mem_cons_self)
   have fj:H2 q0=some (.lst ys):=w2.tr (q0, .lst ys) (bx _ (List.mem_cons_of_mem _ (Kr g2 _ (by simp))))
   refine⟨p,xs,x, .ref q0,rfl,r2,SqL.of hH,by unfold atI;rw[q.len.1,dw];exact g1, .inl ⟨rfl,_,SqL.of fj⟩,he.st w2 q2 (f:=λa=>chk (row.length<sizeLine) ((Ve as x (row++[a])).bind f)) P2 λa va H3 s3 w3 q3 r3 aR=>?_⟩
   obtain⟨hsz,aR⟩:=PZ.chk aR
   have P4:PZ Er (Fd D) (hid H3 OO) (f (as.set kk (row++[a]))):=by
    have e5:Ve as x (row++[a])= .ok (as.set kk (row++[a])):=by unfold Ve;rw[dw]
    rw[e5] at aR
    exact aR
   have m3:=Xh (OO:=OO) s3
   obtain⟨C',w4,m4,o4⟩:=Ei (ys':=ys++[va]) (row':=row++[a]) (v:=.ref p) w3 hk (P3.imp (λ_ _ _ h=>MonoO.mono m3 h) q) aE g1 (s3 _ _ fj) g2 (Paired.app (Paired.imp2 (λ_ _ h=>z.mono m3 h) g3) (.cons r3 .nil))
   exact⟨q0,ys,va,rfl,rfl,s3 _ _ fj,by rw[Paired.len g3];exact hsz,hr _ C' _ D w4 ⟨S.mono _ _ m4 q3,o4⟩ (PZ.tr (fd.tr D) m4 P4)⟩⟩
theorem WJ {D:List XG}(w:W OO H)(hk:OO[k]?=some C)(s:Xu H H')(w':W (D::OO.set k []) H')(m:Xu (hid H (OO.set k [])) (hid H' (D::OO.set k []))):
  W (D::OO) H'/\Xu (hid H OO) (hid H' (D::OO))/\BQ (hid H' (D::OO.set k [])) (hid H' (D::OO)):=by
 have hp:=XQ hk
 have wk:W (C::OO.set k []) H:=w.of hp
 have hC:∀c∈C,hid H (OO.set k []) c.1=some c.2:=λc hc=>Zr (wk.cell c hc) (by
  have:=wk.nd
  rw[XS] at this
  exact λhb=>(List.nodup_append.mp this).2.2 c.1 (List.mem_map.mpr ⟨c,hc,rfl⟩) c.1 hb rfl)
 have hC':∀c∈C,H' c.1=some c.2/\c.1∉fl (D::OO.set k []):=λc hc=>X5 (m _ _ (hC c hc))
 have w2:W (C::D::OO.set k []) H':=by
  refine⟨λc hc=>?_,?_,λc hc=>?_⟩
  ·rw[List.flatten_cons,List.mem_append] at hc
   exact hc.elim (λhc=>(hC' c hc).1) λhc=>w'.tr c hc
  ·rw[XS]
   refine List.nodup_append.mpr ⟨?_,w'.nd,λa ha b hb e=>?_⟩
   ·have:=wk.nd
    rw[XS] at this
    exact(List.nodup_append.mp this).1
   ·obtain⟨c,hc,rfl⟩:=List.mem_map.mp ha
    subst e
    exact(hC' c hc).2 hb
  ·rw[List.flatten_cons,List.mem_append] at hc
   exact hc.elim (λhc=>wk.mu c (by simp[hc])) λhc=>w'.mu c hc
 have pe:(D::OO).flatten.Perm (C::D::OO.set k []).flatten:=by
  simp only[List.flatten_cons]
  refine List.Perm.trans (List.Perm.append_left D (by simpa using hp.symm:OO.flatten.Perm (C++(OO.set k []).flatten))) ?_
  rw[←List.append_assoc, ←List.append_assoc]
  exact List.perm_append_comm.append_right _
 have w3:=w2.of pe
 refine⟨w3,λb u q=>?_,λb u q i=>w3.i b u (X5 q).1 i⟩
 obtain⟨q1,q2⟩:=X5 q
 have q3:hid H (OO.set k []) b=some u:=Zr q1 λz=>q2 ((UN hp b).mp (by rw[XS];simp[z]))
 obtain⟨q4,q5⟩:=X5 (m _ _ q3)
 refine Zr q4 λz=>?_
 have z2:=(UN pe b).mp z
 rw[XS,List.mem_append] at z2
 rcases z2 with z2 |z2
 ·exact q2 ((UN hp b).mp (by rw[XS];exact List.mem_append_left _ z2))
 ·exact q5 z2
theorem WB {r1:Enc B}[z:FrzC o1 r1][MonoE r1]{a:B}(w:W OO H)(hk:OO[k]?=some C)(s:S.p (hid H OO))(h:∀x,S.p x->o1 K x v a C):
  W (OO.set k []) H/\(S.add K r1 v a).p (hid H (OO.set k [])):=by
 have hp:=XQ hk
 have wk:W (C::OO.set k []) H:=w.of hp
 have hs:Xu (hid H OO) (hid H (OO.set k [])):=by
  rw[←XM hp]
  exact Qv (Xu.refl _) λb hb=>by rw[XS];simp[hb]
 refine⟨wk.tail,S.mono _ _ hs s,z.frz (h _ s) hs λc hc=>Zr (wk.cell c hc) ?_⟩
 have:=wk.nd
 rw[XS] at this
 exact λhb=>(List.nodup_append.mp this).2.2 c.1 (List.mem_map.mpr ⟨c,hc,rfl⟩) c.1 hb rfl
theorem MB [y:FlatO o]{r1:Enc B}[FrzC o1 r1][MonoE r1]{m:Rs M}{a:B}(k:Nat)(hk:OO[k]?=some C)(h:∀x,S.p x->o1 K x v a C)(he:Ev K Er (S.add K r1 v a) (OO.set k []) (OO.set k []) U te o m):Ev K Er S OO OO U te o m:=λH Q w s P=>by
 obtain⟨w1,s1⟩:=WB (r1:=r1) w hk s h
 refine he H Q w1 s1 (P.imp λb _ hb v' D H' s' w' m' ho=>?_)
 obtain⟨w3,m3,i3⟩:=WJ w hk s' w' m'
 exact hb v' D H' s' w3 m3 (y.flat i3 ho)
theorem ZW (K:W.Frag)(T:String):W.kitOne K (.type T) (.type T)=some true:=by
 unfold W.kitOne
 rw[if_pos (beq_self_eq_true _)]
theorem UY (K:W.Frag):W.kitOne K (.type "int") (.type "bool")=some false:=by
 first
  |rfl
  |decide+kernel
  | (unfold W.kitOne PySem.W.kitCls;rfl)
end
section
variable [fd:FdOk Fd]{u:TS}
def Nh:Option M->Rs M
 |some a=>.ok a
 |none=>.bad
theorem SU {m:Rs (Option M)}(he:EvB K Er S OO U te (LP r) m):EvB K Er S OO U te r (m.bind Nh):=λH Q w s P=>by
 refine he H Q w s ?_
 cases m with
 |bad=>exact P
 |err x=>exact P
 |ok a=>
  cases a with
  |none=>exact P.elim
  |some a=>exact λv H' s' hr=>P v H' s' hr.2
theorem WF {q:Enc B}{a:M×B}(q:oF (rP2 r q) K h v a C):v≠ .non:=by
 obtain⟨_,p,x,y,e,_⟩:=q
 rw[e];exact λz=>nomatch z
end
section
--
def rP4 (r1:Enc α1)(r2:Enc α2)(r3:Enc α3)(r4:Enc α4):Enc (α1×α2×α3×α4):=λK H v p=>∃ a x1 x2 x3 x4,v= .ref a/\H a=some (.tup [x1,x2,x3,x4])/\r1 K H x1 p.1/\r2 K H x2 p.2.1/\r3 K H x3 p.2.2.1/\r4 K H x4 p.2.2.2
instance {r1:Enc α1}{r2:Enc α2}{r3:Enc α3}{r4:Enc α4}[m1:MonoE r1][m2:MonoE r2][m3:MonoE r3][m4:MonoE r4]:MonoE (rP4 r1 r2 r3 r4):=⟨λs r9=>by obtain⟨a,x1,x2,x3,x4,e,h,p1,p2,p3,p4⟩:=r9;exact⟨a,x1,x2,x3,x4,e,s _ _ h,m1.mono s p1,m2.mono s p2,m3.mono s p3,m4.mono s p4⟩⟩
instance {r1:Enc α1}{r2:Enc α2}{r3:Enc α3}{r4:Enc α4}[m1:FlatE r1][m2:FlatE r2][m3:FlatE r3][m4:FlatE r4]:FlatE (rP4 r1 r2 r3 r4):=⟨λs r9=>by obtain⟨a,x1,x2,x3,x4,e,h,p1,p2,p3,p4⟩:=r9;exact⟨a,x1,x2,x3,x4,e,s _ _ h rfl,m1.flat s p1,m2.flat s p2,m3.flat s p3,m4.flat s p4⟩⟩
instance {r1:Enc α1}{r2:Enc α2}{r3:Enc α3}{r4:Enc α4}:TyE (rP4 r1 r2 r3 r4) "tuple":=⟨λr9=>by obtain⟨p,x1,x2,x3,x4,e,q,_⟩:=r9;exact by subst e;exact .tup q⟩
theorem Vp {m:Rs (α1×α2×α3×α4)}(ha:EvB K Er S OO U ta (rP4 r1 r2 r3 r4) m):EvB K Er S OO U (tOp (B7 K) ta (tC (.int 2))) r3 (m.bind λp=>.ok p.2.2.1):=λH Q w s P=>
 ha.run w s FB.tr P λa x H1 s1 w1 q1 r9 P1=>by obtain⟨p,x1,x2,x3,x4,e,q,h1,h2,h3,h4⟩:=r9;exact⟨p,_,2,x3,e,rfl,SqT.of q,rfl,P1 _ H1 (Xu.refl _) h3⟩
theorem F8 {m:Rs (α1×α2×α3×α4)}(ha:EvB K Er S OO U ta (rP4 r1 r2 r3 r4) m):EvB K Er S OO U (tOp (B7 K) ta (tC (.int 3))) r4 (m.bind λp=>.ok p.2.2.2):=λH Q w s P=>
 ha.run w s FB.tr P λa x H1 s1 w1 q1 r9 P1=>by obtain⟨p,x1,x2,x3,x4,e,q,h1,h2,h3,h4⟩:=r9;exact⟨p,_,3,x4,e,rfl,SqT.of q,rfl,P1 _ H1 (Xu.refl _) h4⟩
theorem N6 [z1:MonoE r1][z2:MonoE r2][z3:MonoE r3][z4:MonoE r4](h1:EvS K Er S OO U t1 r1 m1)(h2:EvS K Er S OO U t2 r2 m2)(h3:EvS K Er S OO U t3 r3 m3)(h4:EvS K Er S OO U t4 r4 m4):EvS K Er S OO U (SA (Xr t1 (Xr t2 (Xr t3 (Xr t4 YE))))) (rP4 r1 r2 r3 r4) (m1.bind λa1=>m2.bind λa2=>m3.bind λa3=>m4.bind λa4=>.ok (a1,a2,a3,a4)):=λH Q w s P=>
 h1.run w s FS.tr P λa1 y1 H1 s1 w1 u1 q1 P1=>h2.run w1 u1 FS.tr P1 λa2 y2 H2 s2 w2 u2 q2 P2=>h3.run w2 u2 FS.tr P2 λa3 y3 H3 s3 w3 u3 q3 P3=>h4.run w3 u3 FS.tr P3 λa4 y4 H4 s4 w4 u4 q4 P4=>⟨by show 4<=sizeLine;decide,λp hp=>P4 _ _ (XR hp _) ⟨p,y1,y2,y3,y4,rfl,Km w4 hp,z1.mono ((Xh s2).trans ((Xh s3).trans ((Xh s4).trans (Xh (XR hp _))))) q1,z2.mono ((Xh s3).trans ((Xh s4).trans (Xh (XR hp _)))) q2,z3.mono ((Xh s4).trans (Xh (XR hp _))) q3,z4.mono (Xh (XR hp _)) q4⟩⟩
@[reducible] def tg4 [MonoE r1][MonoE r2][MonoE r3][MonoE r4](i1 i2 i3 i4:Nat):Tgt K OO (Ii K 4 (YH (X4 i1) (YH (X4 i2) (YH (X4 i3) (YH (X4 i4) IK))))) (rP4 r1 r2 r3 r4) (V×V×V×V) where
 set:=λv U=>((((U.set i1 (some v.1)).set i2 (some v.2.1)).set i3 (some v.2.2.1)).set i4 (some v.2.2.2))
 sc:=λa v S=>((((S.add K r1 v.1 a.1).add K r2 v.2.1 a.2.1).add K r3 v.2.2.1 a.2.2.1).add K r4 v.2.2.2 a.2.2.2)
 ok:=fun {H v a U S Q} r9 hs hq=>by obtain⟨p,x1,x2,x3,x4,e,h,h1,h2,h3,h4⟩:=r9;exact⟨p,_,e,SqT.of (Xv _ _ h),rfl,x1,[x2,x3,x4],rfl,x2,[x3,x4],rfl,x3,[x4],rfl,x4,[],rfl,rfl,hq (x1,x2,x3,x4) ⟨⟨⟨⟨hs,h1⟩,h2⟩,h3⟩,h4⟩⟩
def rP5 (r1:Enc α1)(r2:Enc α2)(r3:Enc α3)(r4:Enc α4)(r5:Enc α5):Enc (α1×α2×α3×α4×α5):=λK H v p=>∃ a x1 x2 x3 x4 x5,v= .ref a/\H a=some (.tup [x1,x2,x3,x4,x5])/\r1 K H x1 p.1/\r2 K H x2 p.2.1/\r3 K H x3 p.2.2.1/\r4 K H x4 p.2.2.2.1/\r5 K H x5 p.2.2.2.2
instance {r1:Enc α1}{r2:Enc α2}{r3:Enc α3}{r4:Enc α4}{r5:Enc α5}[m1:MonoE r1][m2:MonoE r2][m3:MonoE r3][m4:MonoE r4][m5:MonoE r5]:MonoE (rP5 r1 r2 r3 r4 r5):=⟨λs r9=>by obtain⟨a,x1,x2,x3,x4,x5,e,h,p1,p2,p3,p4,p5⟩:=r9;exact⟨a,x1,x2,x3,x4,x5,e,s _ _ h,m1.mono s p1,m2.mono s p2,m3.mono s p3,m4.mono s p4,m5.mono s p5⟩⟩
instance {r1:Enc α1}{r2:Enc α2}{r3:Enc α3}{r4:Enc α4}{r5:Enc α5}[m1:FlatE r1][m2:FlatE r2][m3:FlatE r3][m4:FlatE r4][m5:FlatE r5]:FlatE (rP5 r1 r2 r3 r4 r5):=⟨λs r9=>by obtain⟨a,x1,x2,x3,x4,x5,e,h,p1,p2,p3,p4,p5⟩:=r9;exact⟨a,x1,x2,x3,x4,x5,e,s _ _ h rfl,m1.flat s p1,m2.flat s p2,m3.flat s p3,m4.flat s p4,m5.flat s p5⟩⟩
instance {r1:Enc α1}{r2:Enc α2}{r3:Enc α3}{r4:Enc α4}{r5:Enc α5}:TyE (rP5 r1 r2 r3 r4 r5) "tuple":=⟨λr9=>by obtain⟨p,x1,x2,x3,x4,x5,e,q,_⟩:=r9;exact by subst e;exact .tup q⟩
@[reducible] def tg5 [MonoE r1][MonoE r2][MonoE r3][MonoE r4][MonoE r5](i1 i2 i3 i4 i5:Nat):Tgt K OO (Ii K 5 (YH (X4 i1) (YH (X4 i2) (YH (X4 i3) (YH (X4 i4) (YH (X4 i5) IK)))))) (rP5 r1 r2 r3 r4 r5) (V×V×V×V×V) where
 set:=λv U=>(((((U.set i1 (some v.1)).set i2 (some v.2.1)).set i3 (some v.2.2.1)).set i4 (some v.2.2.2.1)).set i5 (some v.2.2.2.2))
 sc:=λa v S=>(((((S.add K r1 v.1 a.1).add K r2 v.2.1 a.2.1).add K r3 v.2.2.1 a.2.2.1).add K r4 v.2.2.2.1 a.2.2.2.1).add K r5 v.2.2.2.2 a.2.2.2.2)
 ok:=fun {H v a U S Q} r9 hs hq=>by obtain⟨p,x1,x2,x3,x4,x5,e,h,h1,h2,h3,h4,h5⟩:=r9;exact⟨p,_,e,SqT.of (Xv _ _ h),rfl,x1,[x2,x3,x4,x5],rfl,x2,[x3,x4,x5],rfl,x3,[x4,x5],rfl,x4,[x5],rfl,x5,[],rfl,rfl,hq (x1,x2,x3,x4,x5) ⟨⟨⟨⟨⟨hs,h1⟩,h2⟩,h3⟩,h4⟩,h5⟩⟩
def Ah (as:List Int):Rs Int:=chk (0<as.length) (.ok (ND as))
def An (as:List Int):Rs Int:=chk (0<as.length) (.ok (NY as))
theorem DR {ma:Rs (List Int)}(ha:EvB K Er S OO U ta (rPL Xf) ma):EvB K Er S OO U (tCB (NQ K ND) (Xr ta YE)) Xf (ma.bind Ah):=λH Q w s P=>
 ha.run w s FB.tr P λa x H1 s1 w1 q1 ⟨p,xs,e,q,pr⟩ P1=>by
  obtain⟨h1,P1⟩:=PZ.chk P1
  exact⟨p,a,by rw[e],by rw[←Gy pr];exact SqT.of q,h1,P1 _ H1 (Xu.refl _) rfl⟩
theorem UD {m:Rs (Int×Int)}(ha:EvB K Er S OO U ta (rP2 Xf Xf) m):EvB K Er S OO U ta (rPL Xf) (m.bind λp=>.ok [p.1,p.2]):=λH Q w s P=>
 ha.run w s FB.tr P λa x H1 s1 w1 q1 r9 P1=>by obtain⟨p,x1,x2,e,q,h1,h2⟩:=r9;exact P1 _ H1 (Xu.refl _) ⟨p,_,e,q, .cons h1 (.cons h2 .nil)⟩
theorem QY {m:Rs (Int×Int×Int×Int)}(ha:EvB K Er S OO U ta (rP4 Xf Xf Xf Xf) m):EvB K Er S OO U ta (rPL Xf) (m.bind λp=>.ok [p.1,p.2.1,p.2.2.1,p.2.2.2]):=λH Q w s P=>
 ha.run w s FB.tr P λa x H1 s1 w1 q1 r9 P1=>by obtain⟨p,x1,x2,x3,x4,e,q,h1,h2,h3,h4⟩:=r9;exact P1 _ H1 (Xu.refl _) ⟨p,_,e,q, .cons h1 (.cons h2 (.cons h3 (.cons h4 .nil)))⟩
theorem YB [z:MonoE r](he:EvB K Er S OO U te (rPL r) m)(hl:EvP Er S OO U tl ml)(hh:EvP Er S OO U th mh):
  EvB K Er S OO U (tSl (Ws K) te tl th) (rPL r) (m.bind λas=>ml.bind λlo=>mh.bind λhi=>chk (¬(HT.sIx as.length 0 lo=0/\HT.sIx as.length as.length hi=as.length)) (.ok (Gv as lo hi))):=λH Q w s P=>
 he.run w s FB.tr P λas x H1 s1 w1 q1 ⟨p,xs,e,q,pr⟩ P1=>hl.run w1 q1 FB.tr P1 λlo H2 s2 w2 q2 P2=>hh.run w2 q2 FB.tr P2 λhi H3 s3 w3 q3 aR=>by
  obtain⟨hn,aR⟩:=PZ.chk aR
  have fD:=Uj (Paired.imp2 (G:=r K H3) (λ_ _ h=>z.mono (s2.trans s3) h) pr) lo hi
  exact⟨p,xs,e,SqT.of (s3 _ _ (s2 _ _ q)),by rw[Paired.len pr];exact hn,λa ha=>aR _ _ (XR ha _) ⟨a,_,rfl,Yg,Paired.imp2 (λ_ _ h=>z.mono (XR ha _) h) fD⟩⟩
def rDP (r:Enc M)(K:W.Frag)(H:Hp)(kv:Key×V)(kx:Int×M):Prop:=kv.1= .inl kx.1/\r K H kv.2 kx.2
def rD (r:Enc M):Enc (List (Int×M)):=λK H v d=>∃ p kvs,v= .ref p/\H p=some (.dK kvs)/\Paired (rDP r K H) kvs d
def oD (r:Enc M):OE (List (Int×M)):=λK h v d C=>∃ p kvs,v= .ref p/\Paired (rDP r K h) kvs d/\C=[(p, .dK kvs)]
instance {r:Enc M}[m:MonoE r]:MonoE (rD r):=⟨λs r9=>by obtain⟨p,kvs,e,q,pr⟩:=r9;exact⟨p,kvs,e,s _ _ q,Paired.imp2 (λ_ _ z=>⟨z.1,m.mono s z.2⟩) pr⟩⟩
instance {r:Enc M}[m:MonoE r]:MonoO (oD r):=⟨λs r9=>by obtain⟨p,kvs,e,pr,c⟩:=r9;exact⟨p,kvs,e,Paired.imp2 (λ_ _ z=>⟨z.1,m.mono s z.2⟩) pr,c⟩⟩
instance {r:Enc M}[m:FlatE r]:FlatO (oD r):=⟨λs r9=>by obtain⟨p,kvs,e,pr,c⟩:=r9;exact⟨p,kvs,e,Paired.imp2 (λ_ _ z=>⟨z.1,m.flat s z.2⟩) pr,c⟩⟩
instance {r:Enc M}[m:MonoE r]:FrzC (oD r) (rD r):=⟨λr9 s hc=>by obtain⟨p,kvs,e,pr,c⟩:=r9;exact⟨p,kvs,e,hc (p, .dK kvs) (by rw[c];simp),Paired.imp2 (λ_ _ z=>⟨z.1,m.mono s z.2⟩) pr⟩⟩
def QI (d:List (Int×M))(k:Int):Option M:=(d.find? λkv=>decide (kv.1=k)).map (·.2)
def G8 (d:List (Int×M))(k:Int)(v:M):List (Int×M):=if(d.any λkv=>decide (kv.1=k))=true then d.map (λkv=>if kv.1=k then(kv.1,v) else kv) else d++[(k,v)]
def MF (d:List (Int×M))(k:Int):Rs M:=Nh (QI d k)
theorem QT {k:Int}:∀{kvs:List (Key×V)}{d:List (Int×M)},Paired (rDP r K H) kvs d->(∀a,QI d k=some a->∃v,BC kvs (.inl k)=some v/\r K H v a)/\(BC kvs (.inl k)).isSome=(QI d k).isSome
 |_,_, .nil=>⟨λa h=>(by cases h),rfl⟩
 |kv::kvs,kx::d, .cons h t=>by
  obtain⟨h1,h2⟩:=QT (k:=k) t
  by_cases e:kx.1=k
  ·have e2:kv.1= .inl k:=by rw[h.1,e]
   rw[Kl e2]
   have e3:QI (kx::d) k=some kx.2:=by simp[QI,List.find?_cons,e]
   rw[e3]
   exact⟨λa ha=>by cases ha;exact⟨_,rfl,h.2⟩,rfl⟩
  ·have e2:¬kv.1= .inl k:=by rw[h.1];exact λz=>e (Sum.inl.inj z)
   rw[KE e2]
   have e3:QI (kx::d) k=QI d k:=by simp[QI,List.find?_cons,e]
   rw[e3]
   exact⟨h1,h2⟩
theorem Ff {k:Int}:∀{kvs:List (Key×V)}{d:List (Int×M)},Paired (rDP r K H) kvs d->(kvs.any λkv=>decide (kv.1= .inl k))=d.any λkx=>decide (kx.1=k)
 |_,_, .nil=>rfl
 |kv::kvs,kx::d, .cons h t=>by
  rw[List.any_cons,List.any_cons,Ff t,h.1]
  congr 1
  rw[Bool.eq_iff_iff];simp
theorem Gx {k:Int}{a:M}(hv:r K H v a){d:List (Int×M)}(h:Paired (rDP r K H) kvs d):Paired (rDP r K H) (GY kvs (.inl k) v) (G8 d k a):=by
 unfold GY G8
 rw[Ff h]
 by_cases e:(d.any λkx=>decide (kx.1=k))=true
 ·rw[if_pos e,if_pos e]
  clear e
  induction h with
  |nil=>exact .nil
  | @cons kv kx l m h t ih=>
   refine .cons ?_ ih
   show rDP r K H (if kv.1= .inl k then(kv.1,v) else kv) (if kx.1=k then(kx.1,a) else kx)
   by_cases e:kx.1=k
   ·rw[if_pos (show kv.1= .inl k by rw[h.1,e]),if_pos e];exact⟨h.1,hv⟩
   ·rw[if_neg (show ¬kv.1= .inl k by rw[h.1];exact λz=>e (Sum.inl.inj z)),if_neg e];exact h
 ·rw[if_neg e,if_neg e]
  exact Paired.app h (.cons ⟨rfl,hv⟩ .nil)
theorem R4:Ev K Er S OO OO U OY (oD r) (.ok []):=λH Q w s P=>λp hp=>P (.ref p) [(p, .dK [])] _ (XR hp _) (w.new hp rfl) (UI hp) ⟨p,[],rfl, .nil,rfl⟩
theorem Vd [z:MonoE r](hd:EvB K Er S OO U td (rD r) md)(hk:EvB K Er S OO U ty Xf mk):EvB K Er S OO U (Tr td ty) r (md.bind λd=>mk.bind λk=>MF d k):=λH Q w s P=>
 hd.run w s FB.tr P λd x H1 s1 w1 q1 ⟨p,kvs,e,q,pr⟩ P1=>hk.run w1 q1 FB.tr P1 λk y H2 s2 w2 q2 r2 P2=>by
  cases eg:QI d k with
  |none=>rw[MF,eg] at P2;exact P2.elim
  |some a=>
   rw[MF,eg] at P2
   obtain⟨v,hv,rv⟩:=(QT (k:=k) pr).1 a eg
   exact⟨p,v,e, .inl ⟨kvs, .inl k, .inl (s2 _ _ q),r2,hv.symm⟩,P2 _ H2 (Xu.refl _) (z.mono s2 rv)⟩
theorem Uw (hk:EvB K Er S OO U ty Xf mk)(hd:EvB K Er S OO U td (rD r) md):EvB K Er S OO U (AE ty td) Xw (mk.bind λk=>md.bind λd=>.ok (QI d k).isSome):=λH Q w s P=>
 hk.run w s FB.tr P λk y H1 s1 w1 q1 r1 P1=>hd.run w1 q1 FB.tr P1 λd x H2 s2 w2 q2 r9 P2=>by obtain⟨p,kvs,e,q,pr⟩:=r9;exact⟨p,BC kvs (.inl k),e, .inl ⟨kvs, .inl k, .inl q,r1,rfl⟩,P2 _ H2 (Xu.refl _) (by rw[(QT (k:=k) pr).2];rfl)⟩
variable [fd:FdOk Fd]{u:TS}
theorem Pc [z:MonoE r]{f:List (Int×M)->Rs L}{d:List (Int×M)}(i k:Nat)(hσ:U[i]?=some (some v))(hk:OO[k]?=some C)(h:∀x,S.p x->oD r K x v d C)(hv:EvS K Er S OO U tv r mv)(hy:EvB K Er S OO U ty Xf mk)
  (hr:∀d' C',Sv Er (S.addO K (oD r) v d' C') (OO.set k C') U u Fd (f d')):Sv Er S OO U (Zn (O8 (Ji i) ty tv) u) Fd (mv.bind λa=>mk.bind λn=>chk (d.length<sizeLine) (f (G8 d n a))):=λH D w s P=>
 hv.st w s P λa va H1 s1 w1 q1 r1 P1=>⟨v,hσ,hy.st w1 q1 P1 λn vn H2 s2 w2 q2 r2 P2=>by
  obtain⟨hsz,P2⟩:=PZ.chk P2
  obtain⟨p,kvs,e,pr,c⟩:=h _ q2
  subst c e
  have hH:H2 p=some (.dK kvs):=w2.tr (p, .dK kvs) (List.mem_flatten.mpr ⟨_,List.mem_of_getElem? hk,by simp⟩)
  obtain⟨w3,m3⟩:=IX (D:=[]) (C':=[(p, .dK (GY kvs (.inl n) va))]) (p:=p) (o:=.dK (GY kvs (.inl n) va)) w2.nil hk (by simp) (by simp) (by simp) (λb hb=>by simpa using hb) (λc hc=>by
   have:c=(p, .dK (GY kvs (.inl n) va)):=by simpa using hc
   rw[this];exact Yg) (λc hc=>by
   have:c=(p, .dK (GY kvs (.inl n) va)):=by simpa using hc
   rw[this];rfl)
  rw[ZS] at m3
  refine⟨p,_,rfl, .inl ⟨kvs, .inl n,hH,r2,by rw[Paired.len pr];exact hsz,rfl⟩,?_⟩
  exact hr _ _ _ D w3 ⟨S.mono _ _ m3 q2,⟨p,_,rfl,Gx (z.mono ((Xh s2).trans m3) r1) (Paired.imp2 (λ_ _ h=>⟨h.1,z.mono m3 h.2⟩) pr),rfl⟩⟩ (PZ.tr (fd.tr D) m3 P2)⟩
theorem DF {m:Rs (List (Int×M))}(ha:EvB K Er S OO U ta (rD r) m):EvB K Er S OO U (tCB (λxs H Q=>∃ a kvs,xs=[V.ref a]/\H a=some (.dK kvs)/\Q (.int kvs.length) H) (Xr ta YE)) Xf (m.bind λd=>.ok (d.length:Int)):=λH Q w s P=>
 ha.run w s FB.tr P λa x H1 s1 w1 q1 r9 P1=>by obtain⟨p,kvs,e,q,pr⟩:=r9;exact⟨p,kvs,by rw[e],q,P1 _ H1 (Xu.refl _) (by rw[Paired.len pr];rfl)⟩
end
theorem YG.ex {o:HO}(x:YG P w H h a o):∃u,h.get? a=some u:=by
 cases o with
 |lst xs=>obtain⟨_,_,_,_,e⟩:=x;exact⟨_,e⟩
 |tup xs=>obtain⟨_,_,_,p⟩:=x;obtain⟨o,e,_⟩:=p;exact⟨_,e⟩
 |dK kvs=>obtain⟨_,_,_,_,o,_,_,e,_⟩:=x;exact⟨_,e⟩
 |dT kvs=>obtain⟨_,_,_,_,o,_,_,e,_⟩:=x;exact⟨_,e⟩
 |set S n=>obtain⟨o,_,_,_,e,_⟩:=x;exact⟨_,e⟩
 |ins C dx fs=>obtain⟨_,_,_,e,_⟩:=x;exact⟨_,e⟩
 |own y=>exact x
 |xd fs=>obtain⟨_,⟨_,_,_,e,_⟩,_⟩:=x;exact⟨_,e⟩
 |rng lo hi=>obtain⟨_,_,_,e⟩:=x;exact⟨_,e⟩
 |frz ob u=>exact⟨_,x.1⟩
 |tbl ps=>exact⟨_,x⟩
 |met f y=>exact⟨_,x⟩
 |ext φ=>exact x.2.1
theorem HOk.un0 (x:HOk P w H h)(e:h.get? a=none):H a=none:=by
 cases q:H a with
 |none=>rfl
 |some u=>obtain⟨v,hv⟩:=(x a u q).ex;rw[e] at hv;cases hv
structure Fl (h0 h:Heap)(H:Hp)(a T:Addr)(cls:Value):Prop where
 na:h0.get? a=none
 nT:h0.get? T=none
 fa:H a=none
 fT:H T=none
 ne:T≠a
 obj:∃oe vs oT ts a0,h.get? a=some oe/\oe.cls=cls/\vs[0]?=some a0/\oe.data= .fields vs/\vs[1]?=some (.ref T)/\h.get? T=some oT/\oT.data= .fields ts/\ts[3]?=some Value.none
def OZ (h:Heap)(fs:List Addr)(a T:Addr):Heap:=M3 h (λb=>if b∈fs∨b=a∨b=T then some (.own 0) else none)
theorem Ky {o:Obj}(e:h.get? b=some o)(n1:b∉fs)(n2:b≠a)(n3:b≠T):(OZ h fs a T).get? b=some o:=
 EN e (if_neg λz=>z.elim n1 λz=>z.elim n2 n3)
theorem El {o:Obj}(e:(OZ h fs a T).get? b=some o):h.get? b=some o/\b∉fs/\b≠a/\b≠T:=by
 obtain⟨h1,h2⟩:=Im e
 have h3:¬(b∈fs∨b=a∨b=T):=λz=>by
  have:=(if_pos z).symm.trans h2
  cases this
 exact⟨h1,λq=>h3 (.inl q),λq=>h3 (.inr (.inl q)),λq=>h3 (.inr (.inr q))⟩
theorem V6 (n:b∈fs∨b=a∨b=T):(OZ h fs a T).get? b=none:=by
 cases q:(OZ h fs a T).get? b with
 |none=>rfl
 |some o=>
  obtain⟨_,h1,h2,h3⟩:=El q
  exact(n.elim h1 λz=>z.elim h2 h3).elim
theorem B1 {h Bqz:Heap}:∀{l:List Env},h.FunFrames base l->(∀b∈frs l,Bqz.get? b=none)->h.FunFrames Bqz l
 | [],_,_=>trivial
 |env::r,⟨hk,⟨Lqz,o,hf,hn,ho,hd⟩,hr⟩,n=>
  ⟨hk,⟨Lqz,o,hf,n Lqz (by unfold frs;rw[List.filterMap_cons,hf];exact List.mem_cons_self),ho,hd⟩,B1 hr λb hb=>n b (by unfold frs;rw[List.filterMap_cons,hf];exact List.mem_cons_of_mem _ hb)⟩
section
variable {h0 h:Heap}{T:Addr}{cls a0:Value}{l:List Env}
theorem Fl.fly (x:Fl h0 h H a T cls)(hl:h.FunFrames base l):∃a0,Heap.FlyingW (OZ h (frs l) a T) l a cls a0 h:=by
 obtain⟨oe,vs,oT,ts,a0,ha,hc,iE,hd,h1,hT,gr,h3⟩:=x.obj
 exact⟨a0,λb o e=>(El e).1,V6 (.inr (.inl rfl)),B1 hl λb hb=>V6 (.inl hb),oe,vs,T,oT,ts,ha,⟨hc,iE⟩,hd,h1,V6 (.inr (.inr rfl)),x.ne,hT,gr,h3⟩
theorem Un.traced (hl:h.FunFrames base l)(keep:∀b o,b∉frs l->b≠a->b≠T->h.get? b=some o->h'.get? b=some o)(up:h.UpToSlots h'):Un (frs l) [a,T] H H h h' where
 keep:=λb o e _ hb hx=>keep b o hb (λz=>hx (by simp[z])) (λz=>hx (by simp[z])) e
 slot:=λb o e _ hb _=>by
  obtain⟨_,o2,ca,cb⟩:=hl.mem hb
  rw[e] at ca;cases ca
  exact up b o e cb
 free:=λb o e n _=>n
 there:=λb o e hx=>by
  by_cases hb:b∈frs l
  ·obtain⟨_,o2,ca,cb⟩:=hl.mem hb
   obtain⟨sl,q⟩:=up b o2 ca cb
   exact⟨_,q⟩
  ·exact⟨o,keep b o hb (λz=>hx (by simp[z])) (λz=>hx (by simp[z])) e⟩
 tups:=λ_ _ q=>q
 frzs:=λ_ _ _ q=>q
 tbls:=λ_ ps q=>⟨#[],by simpa using q⟩
theorem HOk.traced (hok:HOk P w H h)(eX:∀b∈frs l,H b=none)(fa:H a=none)(fT:H T=none)(keep:∀b o,b∉frs l->b≠a->b≠T->h.get? b=some o->h'.get? b=some o):HOk P w H h':=λb o e=>by
 refine(hok b o e).stay (λc u hc q=>?_) (λ_ q=>q) λ_ _ q=>q
 have hn:H c≠none:=by
  rcases hc with z |z
  ·rw[z,e];exact λy=>nomatch y
  ·rw[z];exact λy=>nomatch y
 exact keep c u (λz=>hn (eX c z)) (λz=>hn (z▸fa)) (λz=>hn (z▸fT)) q
theorem Fl.after (x:Fl h0 h H a T cls)(hl:h.FunFrames base l)(eX:∀b∈frs l,H b=none)(hok:HOk P w H h)(th:∀b o,h0.get? b=some o->∃o',h.get? b=some o')
  (st:(OZ h (frs l) a T).StaysIn h')(tr:h'.TracedW (OZ h (frs l) a T) a cls a0)(up:h.UpToSlots h'):∃T',Fl h0 h' H a T' cls/\HOk P w H h'/\Un (frs l) [a,T] H H h h':=by
 obtain⟨oe,vs,T',oT,ts,ha,⟨hc,iE⟩,hd,h1,iF,hne,hT,gr,h3⟩:=tr
 have key:T'=T∨h.get? T'=none:=by
  cases q:h.get? T' with
  |none=>exact .inr rfl
  |some o=>
   by_cases hf:T'∈frs l
   ·obtain⟨_,o2,ca,cb⟩:=hl.mem hf
    obtain⟨sl,e2⟩:=up T' o2 ca cb
    rw[hT] at e2;cases e2
    exact absurd gr (cb ts)
   ·by_cases hz:T'=T
    ·exact .inl hz
    ·rw[Ky q hf hne hz] at iF;cases iF
 have keep:∀b o,b∉frs l->b≠a->b≠T->h.get? b=some o->h'.get? b=some o:=λb o n1 n2 n3 e=>st b o (Ky e n1 n2 n3)
 refine⟨T',⟨x.na,?_,x.fa,?_,hne,oe,vs,oT,ts,a0,ha,hc,iE,hd,h1,hT,gr,h3⟩,hok.traced eX x.fa x.fT keep,Un.traced hl keep up⟩
 ·rcases key with e |e
  ·rw[e];exact x.nT
  ·cases q:h0.get? T' with
   |none=>rfl
   |some o=>obtain⟨o',e'⟩:=th _ _ q;rw[e] at e';cases e'
 ·rcases key with e |e
  ·rw[e];exact x.fT
  ·exact hok.un0 e
end
section
variable {fs fs2 ex ex2:List Addr}{H0:Hp}{h0 h:Heap}
theorem Un.past (u:Un fs ex H0 H h0 h)(v:Un fs2 ex2 H H' h h')(n:∀b,b∈ex2->h0.get? b=none)(f:∀b,b∈fs2->b∈fs∨h0.get? b=none):Un fs ex H0 H' h0 h' where
 keep:=λb o e m hb hx=>v.keep b o (u.keep b o e m hb hx) (u.free b o e m hx) (λz=>(f b z).elim hb λy=>by rw[e] at y;cases y) λz=>by rw[n b z] at e;cases e
 slot:=λb o e m hb hx=>by
  obtain⟨sl,q⟩:=u.slot b o e m hb hx
  obtain⟨gP,q2⟩:=v.any q (u.free b o e m hx) (λz=>by rw[n b z] at e;cases e)
  exact⟨gP,q2⟩
 free:=λb o e m hx=>by
  obtain⟨o',q⟩:=u.there b o e hx
  exact v.free b o' q (u.free b o e m hx) (λz=>by rw[n b z] at e;cases e)
 there:=λb o e hx=>by
  obtain⟨o',q⟩:=u.there b o e hx
  exact v.there b o' q (λz=>by rw[n b z] at e;cases e)
 tups:=λb xs q=>v.tups b xs (u.tups b xs q)
 frzs:=λb o x q=>v.frzs b o x (u.frzs b o x q)
 tbls:=λb ps q=>by
  obtain⟨m1,e1⟩:=u.tbls b ps q
  obtain⟨m2,e2⟩:=v.tbls b _ e1
  exact⟨m1++m2,by rw[e2,Array.append_assoc]⟩
end
theorem Inv.past (I:Inv X aa U H s)(u:Un (frs X.stack) ch H H' s.heap h')(hok:HOk X.prog X.w H' h')
  (cT:∀b∈ch,X.s₀.heap.get? b=none/\b≠X.env.locals/\(∀x c,X.env.cells.lookup x=some c->c≠b)/\∀p∈X.pn++aa,p.1≠b):Inv X aa U H' {s with heap:=h'}:=by
 have nL:X.s₀.heap.get? X.env.locals=none:=Heap.get?_none_of_le I.ok.above
 obtain⟨m,⟨o,es,ep,ho,hd,hr⟩,hl⟩:=id I.loc
 have lch:X.env.locals∉ch:=λz=>(cT _ z).2.1 rfl
 obtain⟨sl,hL⟩:=u.any ho I.free lch
 have cl:∀x c v,X.env.cells.lookup x=some c->s.heap.IsCell c v->h'.IsCell c v:=λx c v e ⟨oc,e1,e2⟩=>by
  obtain⟨sl,q⟩:=u.any e1 (I.freeC x c e) λz=>(cT c z).2.2.1 x c e rfl
  exact⟨_,q,e2⟩
 refine⟨I.ok,I.os,I.bare,I.base.past u (λb hb=>(cT b hb).1) λb hb=>?_,⟨m,⟨_,es,ep,hL,hd,hr⟩,λi x v e1 e2 e3=>?_⟩,λx c e=>?_,u.free _ o ho I.free lch,λx c e=>?_,λp hp=>?_,hok,I.len⟩
 ·rcases List.mem_cons.mp (I.stkSub b hb) with z |z
  ·exact .inr (z▸nL)
  ·exact .inl z
 ·obtain⟨u',r,q⟩:=hl i x v e1 e2 e3
  refine⟨u',r,?_⟩
  rcases q with q | ⟨k,c,e,z⟩
  ·exact .inl q
  ·exact .inr ⟨k,c,e,cl x c _ e z⟩
 ·obtain⟨v,z⟩:=I.cell x c e
  exact⟨v,cl x c v e z⟩
 ·obtain⟨v,oc,e1,_⟩:=I.cell x c e
  exact u.free c oc e1 (I.freeC x c e) λz=>(cT c z).2.2.1 x c e rfl
 ·obtain⟨e,n,ne,nf,d⟩:=I.pin p hp
  have fw:p.1∉ch:=λz=>(cT p.1 z).2.2.2 p hp rfl
  exact⟨u.keep p.1 p.2 e n (λz=>(List.mem_cons.mp (I.stkSub _ z)).elim ne nf) fw,u.free p.1 p.2 e n fw,ne,nf,d⟩
def CXE (P:Program)(w:World):CXT:=λouter H s E e s'=>∃ a T C H',e= .ref a/\Fl s.heap s'.heap H' a T (.ref C)/\s'.os=s.os/\AllBare s'.gens/\Un (frs outer) [] H H' s.heap s'.heap/\HOk P w H' s'.heap/\E (.ref C) none H'
theorem WA:Fw (CXE P w) X E0:=λ_ _ _ _ _ _ _ r9=>by obtain⟨_,_,_,_,_,_,_,_,_,_,q⟩:=r9;exact q.elim
section
variable {qual:Str}{f:Addr}{cd:Value}{outer:List Env}{s0:Shared}{H0:Hp}{E:XK}
theorem Gm:Fw (CXE P w) (Ca (CXE P w) P w K mg base N qual scope f cd A outer s0 H0 E) E:=by
 intro aa U H s e s' I ⟨a,T,C,H',he,x,os,bare,un,hok,q⟩
 subst he
 have I2:=I.call' os un hok bare (λb z=>nomatch z)
 have th:∀b o,s0.heap.get? b=some o->∃o',s.heap.get? b=some o':=λb o e=>I.base.there b o e (λz=>nomatch z)
 have nn:∀b,s.heap.get? b=none->s0.heap.get? b=none:=λb n=>by
  cases q:s0.heap.get? b with
  |none=>rfl
  |some o=>obtain⟨o',e⟩:=th b o q;rw[n] at e;cases e
 have x0:Fl s0.heap s'.heap H' a T (.ref C):=⟨nn _ x.na,nn _ x.nT,x.fa,x.fT,x.ne,x.obj⟩
 obtain⟨a0,fl⟩:=x0.fly I2.stack
 refine wpAny_leaves_onW I.ok.frames rfl fl λh' fl' up=>?_
 obtain⟨T',y1,y2,y3⟩:=x0.after I2.stack I2.stkFree hok (λb o e=>I2.base.there b o e (λz=>nomatch z)) fl'.1 fl'.2.2.2 up
 refine⟨a,T',C,H',rfl,y1,I2.os,bare,I2.base.past y3 (λb hb=>?_) λb hb=>?_,y2,q⟩
 ·rcases List.mem_cons.mp hb with z |z
  ·rw[z];exact x0.na
  ·rw[List.mem_singleton.mp z];exact x0.nT
 ·rcases List.mem_cons.mp (I2.stkSub b hb) with z |z
  ·exact .inr (z▸Heap.get?_none_of_le I.ok.above)
  ·exact .inl z
def Oq (X:Cx)(E:XK):Prop:=∀ (aa:List (Addr×Obj)) (U:St) (H:Hp) (s:Shared) (C e:Addr) (vs:List Value) (h':Heap),Inv X aa U H s->Heap.MadeExcOf s.heap h' e (.ref C) vs->E (.ref C) none H->X.xe (.ref e) {s with heap:=h'}
theorem OC:Oq (Ca (CXE P w) P w K mg base N qual scope f cd A outer s0 H0 E) E:=by
 intro aa U H s C e vs h' I hx q
 have nn:∀b,s.heap.get? b=none->s0.heap.get? b=none:=λb n=>by
  cases q:s0.heap.get? b with
  |none=>rfl
  |some o=>obtain⟨o',e⟩:=I.base.there b o q (λz=>nomatch z);rw[n] at e;cases e
 refine wpAny_leaves_madeW (base:=OZ s.heap (frs (Ca (CXE P w) P w K mg base N qual scope f cd A outer s0 H0 E).stack) e e) (h:=s.heap) I.ok.frames rfl (λb o z=>(El z).1) (B1 I.stack λb hb=>V6 (.inl hb)) hx λh2 t fl _ _ up=>?_
 obtain⟨st,_,_,oe,us,T,oT,ts,ha,⟨hc,iE⟩,hd,h1,iF,hne,hT,gr,h3⟩:=fl
 have up2:s.heap.UpToSlots h2:=λb o z n=>up b o (hx.keeps b o z) n
 have hT0:s.heap.get? T=none:=by
  cases q:s.heap.get? T with
  |none=>rfl
  |some o=>
   by_cases hf:T∈frs (Ca (CXE P w) P w K mg base N qual scope f cd A outer s0 H0 E).stack
   ·obtain⟨_,o2,ca,cb⟩:=I.stack.mem hf
    obtain⟨sl,e2⟩:=up2 T o2 ca cb
    rw[hT] at e2;cases e2
    exact absurd gr (cb ts)
   ·rw[Ky q hf hne hne] at iF;cases iF
 have keep:∀b o,b∉frs (Ca (CXE P w) P w K mg base N qual scope f cd A outer s0 H0 E).stack->b≠e->b≠T->s.heap.get? b=some o->h2.get? b=some o:=λb o n1 n2 _ z=>st b o (Ky z n1 n2 n2)
 have fe:=I.hok.un0 hx.new
 have fT:=I.hok.un0 hT0
 refine⟨e,T,C,H,rfl,⟨nn _ hx.new,nn _ hT0,fe,fT,hne,oe,us,oT,ts,_,ha,hc,iE,hd,h1,hT,gr,h3⟩,I.os,I.bare,I.base.past (Un.traced I.stack keep up2) (λb hb=>?_) λb hb=>?_,I.hok.traced I.stkFree fe fT keep,q⟩
 ·rcases List.mem_cons.mp hb with z |z
  ·rw[z];exact nn _ hx.new
  ·rw[List.mem_singleton.mp z];exact nn _ hT0
 ·rcases List.mem_cons.mp (I.stkSub b hb) with z |z
  ·exact .inr (z▸Heap.get?_none_of_le I.ok.above)
  ·exact .inl z
end
structure FnX (P:Program)(w:World)(K:W.Frag)(mg:Str->Option Value)(base:Heap)(k:Nat)(x:Str)(ps:List Str)(sp:Sp):Prop where
 ex:∃f fd,FnOk P w K mg base (CXE P w) k f fd ps sp/\Bo K fd ps []/\W.keepIn K (.ref f)=true/\mg x=some (.ref f)
section
variable {sp:Sp}{t:TA}{p:Pos}{E:XK}
theorem Jf (G:FnX X.prog X.w X.K X.mg X.base k x ps sp)(hr:Room j X.A)(hj:k<=j)(hx:Fw (CXE X.prog X.w) X E)(ha:PA X (e::es) t)(hg:Gl X x:=by rfl)(c7:(x==("__debug__":Str))=false:=by decide)
  (he:starEach (e::es) X.env=(false,eval e X.env)::starEach es X.env:=by rfl)(hpl:(backTo pos (starEach es X.env)).any (·.1)=false:=by rfl):
  PE X (.Call (.Name x p) (e::es) [] pos) (Qy sp [] E t):=by
 obtain⟨f,fd,F,b,kp,m⟩:=G.ex
 exact Le F (hr.mono hj) hg m kp b .nil hx ha c7 he hpl
end
theorem Lu {st:Stmt}{sp:Sp}(D:Def K mg x st ps)(S:FnScope N ps (Xg st))(len:∀vs H Q E,sp vs H Q E->vs.length=ps.length)
  (bQ:∀(f:Addr) (ah:Value) (A:Around) (outer:List Env) (s:Shared) (H:Hp) (vs:List V) (Q:VK) (E:XK),Room k (A.deeper (envOfC x (Xg st) s.heap.objs.size f ah))->sp vs H Q E->
   ∃t,PSs (Ca (CXE P w) P w K mg base N x (Xg st) f ah A outer s H E) (X3 st) t/\t {nx:=λ_ H'=>Q .non H',rt:=Q} (Kh N vs) H):FnX P w K mg base (k+1) x ps sp:=by
 obtain⟨f,fd,F,b,m⟩:=D
 obtain⟨oc,od,kV,doc,pm,an,ah,ct,cz,rfl,lk,dG⟩:=F.ex
 exact⟨f,_,T9 lk dG S len λA outer s H vs Q E hr cA=>bQ f ah A outer s H vs Q E hr cA,b,F.kp,m⟩
theorem RV {C:Addr}(X:K.In h)(q:PySem.W.excIn K C bmB fE=true):
  ∃bm N nm q bs hdct sn sub ab col dd k0 k1 k2 k3 k5 mN,h.get? C=some (excClassObj nm q C N bs bm hdct sn sub ab col dd k0 k1 k2 k3 k5 fE)/\h.Ns N mN/\mN "__init__" =none/\OwnTail h bmB bm:=by
 unfold PySem.W.excIn at q
 split at q
 ·rename_i dd cd sl ho
  split at q
  ·rename_i C' bm k0 k1 k2 k3 n k5 hm hs
   simp only[Bool.and_eq_true,beq_iff_eq,Bool.not_eq_true'] at q
   obtain⟨⟨⟨⟨⟨q1,q2⟩,q3⟩,q4⟩,q5⟩,q6⟩:=q
   subst q1 q2
   obtain⟨nm,bs,mro,ns,qn,hd,sn,sub,ab,col,del⟩:=cd
   have e1:mro=_:=hm
   have e2:del=false:=q3
   subst e1 e2
   obtain⟨l⟩:=sl
   have e3:l=_:=hs
   subst e3
   exact⟨bm,ns,nm,qn,bs,hd,sn,sub,ab,col,dd,k0,k1,k2,k3,k5,_,X _ _ ho, .of_isNs (PySem.W.isNs_of_in X q5),PySem.W.nsMap_none_of_in X q5 q6,PySem.W.tail_of_in X q4⟩
  ·cases q
 ·cases q
abbrev vEr:List Value:=[.type "ValueError", .type "Exception", .type "BaseException", .type "object"]
def OG (C:Addr)(E:XK)(t:TA):TS:=λ_ U H=>t U H λvs H1=>vs.length<=9/\E (.ref C) none H1
section
variable {E:XK}{C:Addr}{t:TA}{np am:Pos}
theorem EZ (hR:Oq X E)(hc:X.calm=true)(hq:PySem.W.excIn X.K C vEr "ValueError.__new__" =true)(hg:Gl X x)(hm:X.mg x=some (.ref C))(ha:PA X (e::es) t)(c7:(x==("__debug__":Str))=false:=by decide)
  (he:starEach (e::es) X.env=(false,eval e X.env)::starEach es X.env:=by rfl)(hpl:(backTo am (starEach es X.env)).any (·.1)=false:=by rfl):
  PS X (.Raise (some (.Call (.Name x np) (e::es) [] am)) none pos) (OG C E t):=by
 intro aa s U H D I h
 obtain⟨bm,N,nm,q,bs,hdct,sn,sub,ab,col,dd,k0,k1,k2,k3,k5,mN,hC,hN,hni,T⟩:=RV I.ok.mod.kin hq
 refine wpAny_Raise_call_subU (C:=C) (nm:=nm) (q:=q) (N:=N) (bs:=bs) (bm:=bm) (hdct:=hdct) (sn:=sn) (sub:=sub) (ab:=ab) (col:=col) (dd:=dd) (k0:=k0) (k1:=k1) (k2:=k2) (k3:=k3) (k5:=k5) (bmB:=vEr)
  PySem.F.excBase_ValueError rfl PySem.F.excBase_ValueError (mN:=mN) (T.hasType rfl) (I.ok.hd hc) (by rw[he];show(false || (backTo am (starEach es X.env)).any (·.1))=false;rw[hpl];rfl) hni (GV I hg hm ⟨rfl,?_⟩ c7)
 have h2:=ha am aa s U H _ I h
 rw[he] at h2⊢
 refine Calls.evalArgs_plain (wpAny_mono h2 (λus s2 ⟨vs,H1,I1,r,hl,hE⟩=>⟨rfl,?_,I1.bk _ _ hC,hN.keeps I1.bk,T.keeps I1.bk,λh' a hx=>hR aa U H1 s2 C a us h' I1 hx hE⟩) λ_ _ y=>y)
 have:us.length<=9:=by rw[←r.length];exact hl
 exact Nat.le_trans this (by decide)
end
abbrev TJ:=St->Hp->(Hp->Prop)->Prop
def PJ (X:Cx)(es:List Expr)(n:Nat)(t:TJ):Prop:=
 ∀(aa:List (Addr×Obj)) (s:Shared) (U:St) (H:Hp) (Q:Hp->Prop) (out:Str),Inv X aa U H s->out.length<=n->t U H Q->
  wpAny (model X.prog X.w) X.A (joinParts out (evalEach es X.env)) (λu s'=>∃ x tk H',u=Value.str x tk/\Inv X aa U H' s'/\Q H') X.xe s
def tJn:TJ:=λ_ H Q=>Q H
def tJs (te:TE)(t:TJ):TJ:=λU H Q=>te U H λv H1=>∃ x:Str,v= .str x/\x.length<=1000/\t U H1 Q
def tJi (te:TE)(t:TJ):TJ:=λU H Q=>te U H λv H1=>∃ i:Int,v= .int i/\i.natAbs.log2<1920/\t U H1 Q
def tF (t:TJ):TE:=λU H Q=>t U H λH1=>∀ x,Q (.str x) H1
section
variable {t:TJ}{p:Pos}
theorem S6 (h:n<=sizeLine:=by exact Nat.le_of_ble_eq_true rfl):PJ X [] n tJn:=λaa s U H Q out I hl q=>
 joinParts_nil ⟨_,_,H,rfl,I.tok _,q⟩ (Nat.le_trans hl h)
theorem Td (he:PE X e te)(hr:PJ X es (n+1000) t)(hz:n+1000<=sizeLine:=by exact Nat.le_of_ble_eq_true rfl):PJ X (e::es) n (tJs te t):=λaa s U H Q out I hl q=>by
 refine joinParts_cons (wpAny_mono (he aa s U H _ I q) (λu s1 r9=>?_) λ_ _ z=>z)
 obtain⟨v,H1,I1,r,x,hv,hx,q1⟩:=r9
 subst hv
 obtain⟨tk,hu⟩:∃tk,u=Value.str x tk:=r
 subst hu
 have gt:(out++x).length<=n+1000:=by rw[strLen_append];omega
 exact⟨Nat.le_trans gt hz,hr aa s1 U H1 Q _ I1 gt q1⟩
theorem TW (he:PE X e te)(hr:PJ X es (n+2000) t)(hz:n+2000<=sizeLine:=by exact Nat.le_of_ble_eq_true rfl):PJ X (.FormattedValue e (-1) none p::es) n (tJi te t):=λaa s U H Q out I hl q=>by
 refine joinParts_cons (FormattedValue_plain (wpAny_mono (he aa s U H _ I q) (λu s1 r9=>?_) λ_ _ z=>z))
 obtain⟨v,H1,I1,r,i,hv,hx,q1⟩:=r9
 subst hv
 obtain⟨tk,hu⟩:∃tk,u=Value.int i tk:=r
 subst hu
 refine formatField_int_small hx ?_
 have h1:(Str.ofString (toString i)).length<=1921:=by
  have:=int_text_length_le (k:=1920) (by decide) hx
  rw[PySem.ofString_length]
  exact this
 have gt:(out++(toString i:Str)).length<=n+2000:=by
  rw[strLen_append]
  show out.length+(Str.ofString (toString i)).length<=_
  omega
 exact⟨Nat.le_trans gt hz,hr aa _ U H1 Q _ (I1.tok _) gt q1⟩
theorem AL (h:PJ X (e::e₁::es) 0 t):PE X (.JoinedStr (e::e₁::es) pos) (tF t):=λaa s U H Q I q=>
 JoinedStr_many (wpAny_mono (h aa s U H _ Str.empty I (Nat.le_refl _) q) (λu s' r9=>by obtain⟨x,tk,H',hu,I',q'⟩:=r9;exact⟨.str x,H',I',⟨tk,hu⟩,q' x⟩) λ_ _ z=>z)
end
abbrev Cx.alt (X:Cx)(pn:List (Addr×Obj))(xe:Value->Shared->Prop):Cx:={X with pn:=pn,xe:=xe}
abbrev Cx.held (X:Cx)(a:Addr)(pn:List (Addr×Obj)):Cx:={X with A:=X.A.mark (some (.ref a)),calm:=false,pn:=pn,xe:=λ_ _=>False}
theorem Cx.Ok.alt (ok:X.Ok)(pn:List (Addr×Obj))(xe:Value->Shared->Prop):(X.alt pn xe).Ok:=
 ⟨ok.mod,ok.kind,ok.glob,ok.blt,ok.above,ok.inj,ok.has,ok.cab,ok.hd,ok.frames,ok.stk,ok.exf,ok.bs,ok.bsz,ok.noex,ok.exfs,ok.funs,ok.frf⟩
theorem Cx.Ok.held (ok:X.Ok)(a:Addr)(pn:List (Addr×Obj)):(X.held a pn).Ok:=
 ⟨ok.mod,ok.kind,ok.glob,ok.blt,ok.above,ok.inj,ok.has,ok.cab,(λz=>nomatch z),ok.frames,ok.stk,ok.exf,ok.bs,ok.bsz,ok.noex,ok.exfs,ok.funs,ok.frf⟩
section
end
section
variable {body cM:List Stmt}{b₀:Stmt}{cn n:Str}{Ch:Addr}{i:Nat}{tb:XK->TS}{ts:Addr->Addr->TS}{np hpos:Pos}
end
section
variable {α6:Type}{E:XK}
def ErE (mg:Str->Option Value)(E:XK):Exc->Hp->Prop:=λx H=>∀ C,mg x.cls=some (.ref C)->E (.ref C) none H
structure PX {L:Type}(Er:Exc->Hp->Prop)(F:L->Hp->Prop)(H:Hp)(m:Rs L):Prop where
 z:PZ Er F H m
def M8 (mg:Str->Option Value)(r1:Enc α1)(r2:Enc α2)(o:OE ρ)(f:α1->α2->Rs ρ)(K:W.Frag):Sp:=λvs H Q E=>∃ v1 v2 a1 a2,vs=[v1,v2]/\r1 K H v1 a1/\r2 K H v2 a2/\PX (ErE mg E) (FF K o Q) H (f a1 a2)
def WX (mg:Str->Option Value)(r1:Enc α1)(r2:Enc α2)(r3:Enc α3)(o:OE ρ)(f:α1->α2->α3->Rs ρ)(K:W.Frag):Sp:=λvs H Q E=>∃ v1 v2 v3 a1 a2 a3,vs=[v1,v2,v3]/\r1 K H v1 a1/\r2 K H v2 a2/\r3 K H v3 a3/\PX (ErE mg E) (FF K o Q) H (f a1 a2 a3)
theorem Oj {o:OE ρ}[FlatO o]{Q:VK}{m:Rs ρ}(w:W OO H)(P:PZ Er (FO K OO OO o Q) H m):PZ Er (FF K o Q) H m:=by
 cases m with
 |bad=>exact P
 |err x=>exact P
 |ok b=>exact Vn w P
theorem Wc {o:OE ρ}[FlatO o]{Q:VK}{m:Rs ρ}(w:W OO H)(P:PZ Er (FO K OO OO o Q) H (noE m)):PZ (ErE mg E0) (FF K o Q) H m:=by
 cases m with
 |bad=>exact P
 |err x=>exact P.elim
 |ok b=>exact Vn w P
theorem YX [z1:MonoE r1]{o:OE ρ}[FlatO o]{f:α1->α2->Rs ρ}{ma:Rs α1}{mb:Rs α2}(ha:EvB K (ErE mg E) S OO U ta r1 ma)(hb:EvB K (ErE mg E) S OO U tb r2 mb):
  Ev K (ErE mg E) S OO OO U (Qy (M8 mg r1 r2 o f K) [] E (Xr ta (Xr tb YE))) o (ma.bind λa=>mb.bind λb=>f a b):=λH Q w s P=>
 ha.run w s FO.tr P λa x H1 s1 w1 q1 r1 P1=>hb.run w1 q1 FO.tr P1 λb y H2 s2 w2 q2 r2 P2=>⟨x,y,a,b,rfl,z1.mono s2 r1,r2,⟨Oj w2 P2⟩⟩
theorem Ls [z1:MonoE r1][z2:MonoE r2]{o:OE ρ}[FlatO o]{f:α1->α2->α3->Rs ρ}{ma:Rs α1}{mb:Rs α2}{mc:Rs α3}(ha:EvB K (ErE mg E) S OO U ta r1 ma)(hb:EvB K (ErE mg E) S OO U tb r2 mb)(hc:EvB K (ErE mg E) S OO U tc r3 mc):
  Ev K (ErE mg E) S OO OO U (Qy (WX mg r1 r2 r3 o f K) [] E (Xr ta (Xr tb (Xr tc YE)))) o (ma.bind λa=>mb.bind λb=>mc.bind λc=>f a b c):=λH Q w s P=>
 ha.run w s FO.tr P λa x H1 s1 w1 q1 r1 P1=>hb.run w1 q1 FO.tr P1 λb y H2 s2 w2 q2 r2 P2=>hc.run w2 q2 FO.tr P2 λc z H3 s3 w3 q3 r3 P3=>⟨x,y,z,a,b,c,rfl,z1.mono (s2.trans s3) r1,z2.mono s3 r2,r3,⟨Oj w3 P3⟩⟩
theorem Io [z1:MonoE r1]{o:OE ρ}[FlatO o]{f:α1->α2->Rs ρ}{ma:Rs α1}{mb:Rs α2}(ha:EvB K Er S OO U ta r1 ma)(hb:EvB K Er S OO U tb r2 mb):
  Ev K Er S OO OO U (Qy (M8 mg r1 r2 o f K) [] E0 (Xr ta (Xr tb YE))) o (ma.bind λa=>mb.bind λb=>noE (f a b)):=λH Q w s P=>
 ha.run w s FO.tr P λa x H1 s1 w1 q1 r1 P1=>hb.run w1 q1 FO.tr P1 λb y H2 s2 w2 q2 r2 P2=>⟨x,y,a,b,rfl,z1.mono s2 r1,r2,⟨Wc w2 P2⟩⟩
theorem Od {o:OE ρ}[MonoO o]{m:Rs ρ}{Q:VK}(n:Nat)(h:Sv (ErE mg E) S (List.replicate n []) U t (FTd K o) m)(hs:S.p H)(PP:PX (ErE mg E) (FF K o Q) H m)(hD:D.rt=Q):t D U H:=by
 have P:=PP.z
 refine h H D (Ph n H) (by rw[Hn];exact hs) ?_
 rw[Hn]
 cases m with
 |bad=>exact P
 |err x=>exact P
 |ok b=>
  intro v C OO' H' w mm ho
  rw[hD]
  exact Mj P v C OO' H' w mm ho
theorem Tp {m:Rs Unit}{Q:VK}(n:Nat)(h:Sv (ErE mg E) S (List.replicate n []) U t (FNd J) m)(hs:S.p H)(PP:PX (ErE mg E) (FF K oU Q) H m)(hD:∀U H,D.nx U H=Q .non H):t D U H:=by
 have P:=PP.z
 refine h H D (Ph n H) (by rw[Hn];exact hs) ?_
 rw[Hn]
 cases m with
 |bad=>exact P
 |err x=>exact P
 |ok b=>
  intro x H' w mm ho
  rw[hD]
  have hs:Xu (hid H' (J.oo x)) (hid H' [[]]):=Qv (Xu.refl _) λb hb=>by simp[fl] at hb
  exact P .non [] H' ⟨λc hc=>by simp at hc,by simp[fl],λc hc=>by simp at hc⟩ (mm.trans hs) ⟨rfl,rfl⟩
def FJ (Q:Hp->Prop)(_:Unit)(H:Hp):Prop:=∀ H',Xu H H'->Q H'
theorem FJ.tr {Q:Hp->Prop}:∀(b:Unit) (H H':Hp),Xu H H'->FJ Q b H->FJ Q b H':=λ_ _ _ s h H2 s2=>h H2 (s.trans s2)
def EvJ (Er:Exc->Hp->Prop)(S:SC)(OO:List (List XG))(U:St)(t:TJ)(m:Rs Unit):Prop:=∀ H Q,W OO H->S.p (hid H OO)->PZ Er (FJ Q) H m->t U H Q
theorem RX:EvJ Er S OO U tJn (.ok ()):=λH Q _ _ P=>P H (Xu.refl _)
theorem Rj {m:Rs Unit}(h:EvJ Er S OO U t m)(hx:x.length<=1000:=by first |decide |decide+kernel):EvJ Er S OO U (tJs (tC (.str x)) t) m:=λH Q w s P=>⟨x,rfl,hx,h H Q w s P⟩
theorem Sc {ma:Rs Int}{m:Rs Unit}(ha:EvB K Er S OO U te Xf ma)(h:EvJ Er S OO U t m):EvJ Er S OO U (tJi te t) (ma.bind λi=>chk (i.natAbs.log2<1920) m):=λH Q w s P=>
 ha.run w s FJ.tr P λi v H' s1 w1 q1 r1 P1=>by
  by_cases hc:i.natAbs.log2<1920
  ·rw[Xi hc] at P1
   exact⟨i,r1,hc,h H' Q w1 q1 P1⟩
  ·unfold chk at P1
   rw[if_neg hc] at P1
   exact P1.elim
def EvX (Er:Exc->Hp->Prop)(S:SC)(OO:List (List XG))(U:St)(t:TE)(m:Rs Unit):Prop:=∀ H (Q:VK),W OO H->S.p (hid H OO)->PZ Er (FJ λH=>∀ v,Q v H) H m->t U H Q
theorem WY {m:Rs Unit}(h:EvJ Er S OO U t m):EvX Er S OO U (tF t) m:=λH Q w s P=>h H _ w s (by
 cases m with
 |bad=>exact P
 |err x=>exact P
 |ok b=>exact λH' s' x=>P H' s' _)
theorem RM:EvX Er S OO U (tC (.str x)) (.ok ()):=λH Q _ _ P=>P H (Xu.refl _) _
variable [fd:FdOk Fd]{u:TS}
theorem Ez {m:Rs Unit}{C:Addr}{n:Str}(hm:mg n=some (.ref C))(h:EvX (ErE mg E) S OO U te m):Sv (ErE mg E) S OO U (Zn (OG C E (Xr te YE)) u) Fd (m.bind λ_=>.err ⟨n, .non⟩):=λH D w s P=>
 h H _ w s (by
  cases m with
  |bad=>exact P
  |err x=>exact λH' s'=>P H' (Xv.trans s')
  |ok b=>exact λH' s' v=>⟨Nat.le_of_ble_eq_true rfl,P H' (Xv.trans s') C hm⟩)
def Ui (n d:Str):Bool:=n==d || d==("PlaitError":Str)
def erA (K:W.Frag)(C:Addr):Bool:=W.findIn K (.ref C) "__getattribute__" ==some (some (.builtin "BaseException.__getattribute__"))&&W.findIn K (.ref C) "__getattr__" ==some none&&W.findIn K (.ref C) "__class__" ==some (some (.builtin "object.__class__"))&&
 PySem.W.specialIn K (.builtin "object.__class__") "__get__" ==some (some (.builtin "getset_descriptor.__get__"))&&PySem.W.takesIn K (.builtin "object.__class__")==some true&&PySem.W.mroIn K C (.type "object")==some true&&(PySem.W.clsIn K C).isSome&&PySem.W.mroIn K C (.type "BaseException")==some true
def GG (n:Str):Bool:=!(n==("NotADrawing":Str))&&!(n==("NoChain":Str))
def RY (K:W.Frag)(cs:List (Str×Addr)):Bool:=cs.all λp=>(!(GG p.1) || PySem.W.excIn K p.2 vEr "ValueError.__new__")&&erA K p.2&&W.kitOne K (.ref p.2) (.type "ValueError")==some true&&
 cs.all λq=>W.kitOne K (.ref p.2) (.ref q.2)==some (Ui p.1 q.1)&&PySem.W.exmOne K (.ref p.2) (.ref q.2)==some (Ui p.1 q.1)
structure Ecs (ns:List Str)(K:W.Frag)(mg:Str->Option Value):Prop where
 adr:∀n∈ns,∃C,mg n=some (.ref C)/\(GG n=true->PySem.W.excIn K C vEr "ValueError.__new__" =true)
 att:∀n∈ns,∀C,mg n=some (.ref C)->erA K C=true
 val:∀n∈ns,∀C,mg n=some (.ref C)->W.kitOne K (.ref C) (.type "ValueError")=some true
 kit:∀n∈ns,∀d∈ns,∀C D,mg n=some (.ref C)->mg d=some (.ref D)->W.kitOne K (.ref C) (.ref D)=some (Ui n d)
 exm:∀n∈ns,∀d∈ns,∀C D,mg n=some (.ref C)->mg d=some (.ref D)->PySem.W.exmOne K (.ref C) (.ref D)=some (Ui n d)
theorem SW (h:RY K cs=true)(hn:∀p∈cs,mg p.1=some (.ref p.2)):Ecs (cs.map (·.1)) K mg:=by
 have key:∀n∈cs.map (·.1),∀C,mg n=some (.ref C)->(n,C)∈cs:=λn hm C hC=>by
  obtain⟨⟨n',C'⟩,hp,rfl⟩:=List.mem_map.mp hm
  have:=hn _ hp
  rw[hC] at this
  cases this
  exact hp
 have hp:∀p∈cs,_:=List.all_eq_true.mp h
 simp only[Bool.and_eq_true,List.all_eq_true,beq_iff_eq,Bool.or_eq_true] at hp
 refine⟨λn hm=>?_,λn hm C hC=>(hp _ (key n hm C hC)).1.1.2,λn hm C hC=>(hp _ (key n hm C hC)).1.2,λn hm d hd C D hC hD=>((hp _ (key n hm C hC)).2 _ (key d hd D hD)).1,λn hm d hd C D hC hD=>((hp _ (key n hm C hC)).2 _ (key d hd D hD)).2⟩
 obtain⟨⟨n',C'⟩,hq,rfl⟩:=List.mem_map.mp hm
 exact⟨C',hn _ hq,λe=>(hp _ hq).1.1.1.resolve_left (by rw[e];exact Bool.false_ne_true)⟩
def cau (ns:List Str)(n d:Str):Bool:=decide (n∈ns)&&Ui n d
def Rs.tryC (m:Rs M)(f:M->Rs L)(g:Exc->Rs L):Rs L:=match m with
 | .bad=>.bad
 | .err x=>g x
 | .ok a=>f a
theorem Ml [Decidable c]{m:Rs L}{F:L->Hp->Prop}(P:PZ Er F H (chk c m)):c/\PZ Er F H m:=by
 by_cases hc:c
 ·rw[Xi hc] at P;exact⟨hc,P⟩
 ·unfold chk at P
  rw[if_neg hc] at P
  exact P.elim
section
variable {te:XK->TE}{m:Rs M}{ts:Addr->Addr->TS}{N i:Nat}{Ch:Addr}{o:OE ρ}{g:Exc->Rs ρ}{ns:List Str}{d:Str}
end
theorem TQ {o:OE ρ}(hc:EvT Er S OO U c mc)(h1:Sv Er S OO U t1 (FTd K o) m1)(h2:Sv Er S OO U u Fd m2):Sv Er S OO U (Zn (R1 c t1 DE) u) Fd (mc.bind λb=>if b=true then m1.bind (λ_=>.bad) else m2):=λH D w s P=>
 hc.st (Fd:=Fd) w s P λb H' w' s' P'=>by
  cases b with
  |true=>
   rw[if_pos rfl] at P'⊢
   refine h1 H' _ w' s' ?_
   cases m1 with
   |bad=>exact P'
   |err x=>exact P'
   |ok a=>exact P'.elim
  |false=>exact h2 H' D w' s' P'
end
end L2
namespace L2
open PySem PySem.Spec PyProof.Rows PySem.W PySem.Builtin PySem.Builtin.ObjectAttr PySem.Builtin.Getset_descriptor
section
variable {K:Frag}{x D:Addr}
end
theorem SN (h:∃u,X.mg x=some u/\XZ v u)(hg:Gl X x)(hd:(x==("__debug__":Str))=false:=by decide):PE X (.Name x pos) (tC v):=by
 obtain⟨u,hm,r⟩:=h
 exact R3 hg hm r hd
theorem PS.nox {st:Stmt}{t:TS}(h:PS X.nox st t):PS X st t:=λaa s U H D I hw=>
 wpAny_mono (h aa s U H D (I.wish _) hw) (λ_ _ q=>q.unwish) λ_ _ z=>False.elim z
section
variable {C D:Addr}{b:Bool}
theorem Mo (h1:W.findIn K (.ref C) "__getattribute__" =some (some (.builtin "BaseException.__getattribute__")))(h2:W.findIn K (.ref C) "__getattr__" =some none)(h3:W.findIn K (.ref C) "__class__" =some (some (.builtin "object.__class__")))
  (h6:PySem.W.mroIn K C (.type "object")=some true)(h7:PySem.W.isClsIn K C=true)(h8:PySem.W.mroIn K C (.type "BaseException")=some true)(h4:PySem.W.specialIn K (.builtin "object.__class__") "__get__" =some (some (.builtin "getset_descriptor.__get__")))(h5:PySem.W.takesIn K (.builtin "object.__class__")=some true):erA K C=true:=by
 unfold erA
 unfold PySem.W.isClsIn at h7
 rw[h1,h2,h3,h4,h5,h6,h7,h8]
 rfl
theorem Ed (h:PySem.W.subIn K (.ref C) (.type "ValueError")=some true):W.kitOne K (.ref C) (.type "ValueError")=some true:=by
 have e:W.kitOne K (.ref C) (.type "ValueError")=PySem.W.subIn K (.ref C) (.type "ValueError"):=rfl
 rw[e,h]
theorem Dd (s:PySem.W.subIn K (.ref C) (.ref C)=some true)(h:PySem.W.subIn K (.ref C) (.ref D)=some b)(h7:PySem.W.isClsIn K D=true)(ht:PySem.W.typeIn K (.ref D)=some (.type "type"))(hb:PySem.W.subIn K (.ref D) (.type "BaseException")=some true):
  W.kitOne K (.ref C) (.ref D)=some b/\PySem.W.exmOne K (.ref C) (.ref D)=some b:=by
 have e:PySem.W.kitCls K (.ref C) (.ref D)=some b:=by
  unfold PySem.W.kitCls
  unfold PySem.W.isClsIn at h7
  dsimp only
  rw[h7,ht,h]
  rfl
 constructor
 ·unfold W.kitOne
  rw[e]
  split
  ·rename_i q
   have q:=eq_of_beq q
   rw[←q,s] at h
   exact h
  ·rfl
 ·unfold PySem.W.exmOne
  rw[hb,e]
  rfl
end
end L2
namespace L2
open PySem PySem.Spec PyProof.Rows
section
variable [fd:FdOk Fd]{u:TS}
end
section
theorem RN {a b:Str}:(a==b)=decide (a=b):=by rw[Bool.eq_iff_iff];simp
theorem W5:EqOk Kq 0 where
 uniq:=λ_ h1 h2=>by
  have bD:_=V.str _:=h1
  have br:_=V.str _:=h2
  rw[bD] at br;injection br
 eq:=fun {X aa U H s x y v u a b A} I rx ry h1 h2 _=>by
  have bD:x=V.str a:=h1
  have br:y=V.str b:=h2
  subst bD br
  obtain⟨t,rfl⟩:=rx
  obtain⟨t',rfl⟩:=ry
  rw[←RN];exact SeqAt.EqAt.str_str a t b t'
 rc:=fun {X aa U H s x y v u a b A} I rx ry h1 h2 _=>by
  have bD:x=V.str a:=h1
  have br:y=V.str b:=h2
  subst bD br
  obtain⟨t,rfl⟩:=rx
  obtain⟨t',rfl⟩:=ry
  rw[←RN];exact SeqAt.RcAt.str_str a t b t'
 ne:=fun {X aa U H s x y v u a b A} I rx ry h1 h2 _=>by
  have bD:x=V.str a:=h1
  have br:y=V.str b:=h2
  subst bD br
  obtain⟨t,rfl⟩:=rx
  obtain⟨t',rfl⟩:=ry
  rw[←RN];exact SeqAt.RcNeAt.str_str a t b t'
 keep:=λ_ h=>h
theorem PV {a b:Bool}:(a==b)=decide (a=b):=by rw[Bool.eq_iff_iff];simp
theorem WL:EqOk Xw 0 where
 uniq:=λ_ h1 h2=>by
  have bD:_=V.bl _:=h1
  have br:_=V.bl _:=h2
  rw[bD] at br;injection br
 eq:=fun {X aa U H s x y v u a b A} I rx ry h1 h2 _=>by
  have bD:x=V.bl a:=h1
  have br:y=V.bl b:=h2
  subst bD br
  cases rx;cases ry
  rw[←PV];exact SeqAt.EqAt.bool_bool a b
 rc:=fun {X aa U H s x y v u a b A} I rx ry h1 h2 _=>by
  have bD:x=V.bl a:=h1
  have br:y=V.bl b:=h2
  subst bD br
  cases rx;cases ry
  rw[←PV];exact SeqAt.RcAt.bool_bool a b
 ne:=fun {X aa U H s x y v u a b A} I rx ry h1 h2 _=>by
  have bD:x=V.bl a:=h1
  have br:y=V.bl b:=h2
  subst bD br
  cases rx;cases ry
  rw[←PV];exact SeqAt.RcNeAt.bool_bool a b
 keep:=λ_ h=>h
end
section
variable {ζ:Type}
variable [fd:FdOk Fd]{u:TS}
end
end L2
namespace L2
theorem Tz {us:List M}(h:us.length=1):∃a,us=[a]:=List.length_eq_one_iff.mp h
theorem T7 {us:List M}(h:us.length=2):∃a0 a1,us=[a0,a1]:=by
 cases us with
 |nil=>cases h
 |cons a0 t=>
  obtain⟨a1,rfl⟩:=Tz (Nat.succ.inj h)
  exact⟨a0,a1,rfl⟩
theorem Tw {us:List M}(h:us.length=3):∃a0 a1 a2,us=[a0,a1,a2]:=by
 cases us with
 |nil=>cases h
 |cons a0 t=>
  obtain⟨a1,a2,rfl⟩:=T7 (Nat.succ.inj h)
  exact⟨a0,a1,a2,rfl⟩
theorem T1 {us:List M}(h:us.length=4):∃a0 a1 a2 a3,us=[a0,a1,a2,a3]:=by
 cases us with
 |nil=>cases h
 |cons a0 t=>
  obtain⟨a1,a2,a3,rfl⟩:=Tw (Nat.succ.inj h)
  exact⟨a0,a1,a2,a3,rfl⟩
theorem WC {us:List M}(h:us.length=5):∃a0 a1 a2 a3 a4,us=[a0,a1,a2,a3,a4]:=by
 cases us with
 |nil=>cases h
 |cons a0 t=>
  obtain⟨a1,a2,a3,a4,rfl⟩:=T1 (Nat.succ.inj h)
  exact⟨a0,a1,a2,a3,a4,rfl⟩
end L2
namespace L2
open PySem PySem.Spec PyProof.Rows
section
end
section
end
section
variable {ζ:Type}
variable [fd:FdOk Fd]{u:TS}
theorem P6:Ev K Er S OO OO U (tC .non) (oF (LP r)) (.ok none):=λH Q w s P=>P _ [] H (Xu.refl _) w.nil (by rw[ZS];exact Xu.refl _) ⟨rfl,rfl⟩
theorem NS {m:Rs M}(hn:∀{K h v a C},oF r K h v a C->v≠ .non)(he:Ev K Er S OO OO' U te (oF r) m):Ev K Er S OO OO' U te (oF (LP r)) (m.bind λa=>.ok (some a)):=λH Q w s P=>by
 refine he H Q w s ?_
 cases m with
 |bad=>exact P
 |err x=>exact P
 |ok a=>exact λv C H' s' w' m' ho=>P v C H' s' w' m' ⟨ho.1,hn ho,ho.2⟩
end
section
end
section
variable {ζ:Type}
variable [fd:FdOk Fd]{u:TS}
end
set_option maxRecDepth 100000
section
theorem BR:typeLookup (.type "list") "keys" =pure none:=by rw[typeLookup_type,builtinLookup_eq_fast];kernel_rfl
theorem NB {o:Obj}{xs:Array Value}{R:Option Value->Shared->Prop}(hx:s.heap.get? a=some o)(hc:o.cls= .type "list")(c9:o.data= .seq xs k)(hd:o.dict=none)(hA:A.handled=none)
    (h:∀g tk,(∀b u,s.heap.get? b=some u->g.get? b=some u)->R none {s with heap:=g,toks:=tk}):wpAny (model prog w) A (getAttr? (.ref a) "keys") R E s:=by
  obtain⟨c,dct,dat,sl⟩:=o
  simp only at hc c9 hd
  subst hc c9 hd
  obtain⟨hp,g,d,tk,os⟩:=s
  have hT:∀tk',(⟨hp,g,d,tk',os⟩:Shared).TypeIs (.ref a) "list":=λ_=>⟨_,hx,rfl⟩
  have f1:=sub_AttributeError
  have f3:=F.slot_list_getattribute.lookup
  have f4:=F.slot_list_getattribute.bind (.ref a)
  have f5:=am_list_getattr_none
  unfold getAttr? getAttrBy? getAttrBy
  repeat (any_goals (first
    |assumption
    |exact hT _
    | ((with_reducible show wpAny _ _ (call (Value.builtin "list.__getattribute__") _ _) _ _ _)
       refine call_meets F.slot_list_getattribute (hT _) am_entry_list_getattribute (F.args_list_getattribute_2 _ _) (meets_getattribute_miss_list a xs k sl "keys" _ BR (by decide+kernel)) ⟨hx,hA,λh' tk' e fz=>?_⟩)
    |wp_step))
  obtain⟨t',u',he⟩:=fz.there
  show wpAny _ _ (getattributeRaised _ _ _ _ _ _ _) _ _ _
  unfold getattributeRaised
  repeat (any_goals (first |wp_step |assumption))
  exact h _ _ fz.keeps
theorem Q6:plainId "dict.update.loop" =true:=by decide+kernel
theorem Gi:entryFor table "dict.update.loop" =some Builtin.«dict.update.loop»:=entryFor_of_fast (by kernel_rfl)
end
section
variable {K:Type}[DecidableEq K]{knd:KeyKind prog w K}
def O9 (knd:KeyKind prog w K)(h:Heap)(its:Array Value)(kv:List (K×Value)):Prop:=its.size=kv.length/\∀(j:Nat) (x:Value) (p:K×Value),its[j]?=some x->kv[j]?=some p->∃t key,x= .ref t/\h.IsTuple t #[key,p.2]/\knd.is p.1 key=true
def DC (acc kv:List (K×Value)):List (K×Value):=kv.foldl (λa p=>stored a p.1 p.2) acc
theorem Hx (acc:List (K×Value))(k:K)(v:Value):(stored acc k v).length<=acc.length+1:=by
 unfold stored
 split
 ·simp
 ·simp
theorem CD {h:Heap}{t l:Addr}{i:Nat}{xs:Array Value}(ht:h.IsTuple t xs)(it:h.IsListIter I l i):t≠I:=λe=>by
 subst e
 obtain⟨o,ho,hc,_⟩:=ht
 obtain⟨o',cv,dn,_⟩:=it
 rw[ho] at cv
 cases cv
 rw[hc] at dn
 exact absurd dn (by decide)
theorem IJ {h:Heap}{t:Addr}{xs:Array Value}{acc:List (K×Value)}(ht:h.IsTuple t xs)(hd:h.DictOf knd d acc):t≠d:=λe=>by
 subst e
 obtain⟨o,ho,hc,_⟩:=ht
 obtain⟨o',_,_,cv,dn,_⟩:=hd
 rw[ho] at cv
 cases cv
 have:=dn.1
 rw[hc] at this
 exact absurd this (by decide)
theorem WV (hh:A.in1.handled=none)(hdI:d≠I)(hlI:l≠I)(hld:l≠d){its:Array Value}:
  ∀(k i:Nat) (s:Shared) (acc:List (K×Value)),its.size-i=k->i<=its.size->s.heap.IsListIter I l i->s.heap.IsList l its->O9 knd s.heap its kv->s.heap.DictOf knd d acc->acc.length+its.size<=sizeLine+i->
  (∀g tk,g.DictOf knd d (DC acc (kv.drop i))->(∀b o,b≠I->b≠d->s.heap.get? b=some o->g.get? b=some o)->R (.ok (.ret .none)) {s with heap:=g,toks:=tk})->
  codeAny (model prog w) A (.builtin "dict.update.loop" ⟨[.ref d, .ref I,rawInt i, .none],[]⟩) R s:=by
 intro k
 induction k with
 |zero=>
  intro i s acc hk hi it hl hp hd hz r
  refine codeAny_builtin Gi ?_
  rw[Around.under_plainId Q6 _]
  show wpAny _ A.in1 (pyNext (.ref I) >>= _) _ _ s
  refine wpAny_bind (wpAny_pyNext_list_end hh it hl (by simp;omega) λg hx=>?_)
  show wpAny _ _ (Builtin.Dict.addKeywords d [] >>= λ_=>ret Value.none) _ _ _
  refine wpAny_bind (wpAny_pure (wpAny_pure (r g s.toks ?_ λb o hb _ e=>hx b o hb e)))
  have e:kv.drop i=[]:=List.drop_eq_nil_of_le (by have:=hp.1;omega)
  rw[e]
  exact hd.extBut hx hdI
 |succ k ih=>
  intro i s acc hk hi it hl hp hd hz r
  have lt:i<its.size:=by omega
  refine codeAny_builtin Gi ?_
  rw[Around.under_plainId Q6 _]
  show wpAny _ A.in1 (pyNext (.ref I) >>= _) _ _ s
  refine wpAny_bind (wpAny_pyNext_list_item it hl (x:=its[i]) (by simp[lt]) λg it' hx=>?_)
  have lt2:i<kv.length:=by have:=hp.1;omega
  obtain⟨t,key,et,ht,gd⟩:=hp.2 i its[i] kv[i] (by simp[lt]) (by simp[lt2])
  have htI:t≠I:=CD ht it
  have ht1:g.IsTuple t #[key,kv[i].2]:=ht.extBut hx.extBut htI
  obtain⟨o,ho,hc,n,hdt⟩:=id ht1
  rw[et]
  show wpAny _ _ (holding [Value.ref t] _ >>= λ_=>again (.builtin "dict.update.loop" ⟨[.ref d, .ref I,rawInt ((i:Int)+1), .none],[]⟩)) _ _ _
  refine wpAny_bind (wpAny_holding ?_)
  refine wpAny_bind (wpAny_tryCatch ?_)
  unfold Builtin.Dict.pairItems
  refine wpAny_bind (wpAny_typeOf (s:={s with heap:=g}) ⟨o,ho,hc⟩ ?_)
  rw[if_pos (by decide)]
  refine wpAny_bind (wpAny_seqItems (s:={s with heap:=g}) ho hdt (wpAny_pure ?_))
  show wpAny _ _ (holding [key,kv[i].2] (dictSet d key kv[i].2)) _ _ _
  refine wpAny_holding (wpAny_dictSet_pairs (s:={s with heap:=g}) gd (hd.extBut hx.extBut hdI) (λg2 cb cV=>?_) (by omega))
  refine wpAny_pure ⟨plainId_quiet Q6 _,?_⟩
  have hne:∀{b:Addr}{u:Obj},s.heap.get? b=some u->b≠I->b≠d->g2.get? b=some u:=fun {b u} e h1 h2=>(cV.2 b h2).trans (hx.extBut b u h1 e)
  refine ih (i+1) {s with heap:=g2,toks:=s.toks+1} (stored acc kv[i].1 kv[i].2) (by omega) (by omega) ?_ ?_ ?_ cb ?_ ?_
  ·exact it'.extBut cV.extBut (λe=>hdI e.symm)
  ·exact(hl.extBut hx.extBut hlI).extBut cV.extBut hld
  ·refine⟨hp.1,λj x p h1 h2=>?_⟩
   obtain⟨t2,gu,e2,ht2,d8⟩:=hp.2 j x p h1 h2
   exact⟨t2,gu,e2,(ht2.extBut hx.extBut (CD ht2 it)).extBut cV.extBut (IJ ht2 hd),d8⟩
  ·have:=Hx acc kv[i].1 kv[i].2
   omega
  ·intro g3 tk hd3 kp
   refine r g3 tk ?_ λb o h1 h2 e=>kp b o h1 h2 (hne e h1 h2)
   rw[List.drop_eq_getElem_cons lt2]
   exact hd3
theorem HE (hh:A.handled=none){o:Obj}{its:Array Value}(hx:s.heap.get? l=some o)(hc:o.cls= .type "list")(c9:o.data= .seq its n)(hd:o.dict=none)(hp:O9 knd s.heap its kv)(hz:its.size<=sizeLine)
  (r:∀g tk,g.DictOf knd s.heap.objs.size (DC [] kv)->(∀b u,s.heap.get? b=some u->g.get? b=some u)->Q (.ref s.heap.objs.size) {s with heap:=g,toks:=tk}):wpAny (model prog w) A (call (.type "dict") [.ref l]) Q E s:=by
 refine callType_codes (Q₁:=λobj s₁=>obj= .ref s.heap.objs.size/\s₁={s with heap:=s.heap.push {cls:=.type "dict",data:=.dict #[]}}) F.kt_called_dict (F.kt_typeCall_dict_1 _) F.entry_dict_init (kt_code_dict_new _ ⟨rfl,rfl⟩) ?_
 rintro obj s₁ ⟨rfl,rfl⟩
 have eE:(s.heap.push {cls:=.type "dict",data:=.dict #[]}).DictOf knd s.heap.objs.size []:=Heap.DictOf.new s.heap
 have eN:(s.heap.push {cls:=.type "dict",data:=.dict #[]}).get? l=some o:=Heap.get?_push_of_some _ hx
 refine⟨eE.typeIs,F.args_dict_init_2 _ _,?_⟩
 unfold Builtin.«dict.__init__»
 refine wpAny_bind ?_
 unfold Builtin.Dict.selfAndRest
 refine wpAny_bind (wpAny_notOrdered_dict eE.typeIs ?_)
 show wpAny _ _ (pure (s.heap.objs.size,[Value.ref l])) _ _ _
 refine wpAny_pure ?_
 show wpAny _ _ (Builtin.Dict.updateFrom "dict.__init__" s.heap.objs.size (.ref l) [] .none) _ _ _
 unfold Builtin.Dict.updateFrom
 refine wpAny_bind (wpAny_typeOf ⟨o,eN,hc⟩ ?_)
 rw[if_pos (by decide)]
 refine wpAny_bind (NB eN hc c9 hd hh λg tk kp=>?_)
 rw[if_pos (show(none:Option Value).isNone=true from rfl)]
 refine wpAny_bind (wpAny_rule ?_)
 have hlg:g.IsList l its:=⟨o,kp _ _ eN,hc,n,c9⟩
 have hdg:g.DictOf knd s.heap.objs.size []:=by
  obtain⟨o',es,ep,ho,q⟩:=eE
  exact⟨o',es,ep,kp _ _ ho,q⟩
 have gv:s.heap.objs.size<g.objs.size:=by
  obtain⟨o',es,ep,ho,q⟩:=hdg
  exact Heap.lt_size ho
 have iG:l<s.heap.objs.size:=Heap.lt_size hx
 refine wpAny_bind (wpAny_pyIter_list (s:={s with heap:=g,toks:=tk}) hlg ?_)
 refine wpAny_pure ⟨plainId_quiet Q6 _,?_⟩
 refine WV (A:=A.in1) (show A.in1.in1.handled=none from hh) (d:=s.heap.objs.size) (I:=g.objs.size) (l:=l) (its:=its) (kv:=kv) (Nat.ne_of_lt gv) (Nat.ne_of_lt (Nat.lt_trans iG gv)) (Nat.ne_of_lt iG) its.size 0 _ [] rfl (Nat.zero_le _) ⟨_,Heap.get?_push_size _ rfl,rfl,rfl⟩ (hlg.push _) ?_ (hdg.push _) (by simpa using hz) ?_
 ·refine⟨hp.1,λj x p h1 h2=>?_⟩
  obtain⟨t2,gu,e2,⟨ot,hot,q⟩,d8⟩:=hp.2 j x p h1 h2
  exact⟨t2,gu,e2,⟨ot,Heap.get?_push_of_some _ (kp _ _ (Heap.get?_push_of_some _ hot)),q⟩,d8⟩
 ·intro g2 tk2 cb kp2
  refine⟨rfl,r g2 tk2 cb λb u e=>?_⟩
  have hb:=Heap.lt_size e
  exact kp2 b u (Nat.ne_of_lt (Nat.lt_trans hb gv)) (Nat.ne_of_lt hb) (Heap.get?_push_of_some _ (kp _ _ (Heap.get?_push_of_some _ e)))
end
section
def Uc (acc kvs:List (Key×V)):List (Key×V):=kvs.foldl (λa p=>GY a p.1 p.2) acc
theorem NI (kvs:List (Key×V))(k:Key)(v:V):(GY kvs k v).length<=kvs.length+1:=by
 unfold GY
 split<;> simp
theorem Fp:∀(kvs acc:List (Key×V)),(Uc acc kvs).length<=acc.length+kvs.length
 | [],acc=>by simp[Uc]
 |p::kvs,acc=>by
  have h1:=Fp kvs (GY acc p.1 p.2)
  have h2:=NI acc p.1 p.2
  show(Uc (GY acc p.1 p.2) kvs).length<=_
  rw[List.length_cons]
  omega
theorem KV.all (t:KV kvs vs):∀{acc:List (Key×V)}{cB:List (Key×Value)},KV acc cB->KV (Uc acc kvs) (DC cB vs):=by
 induction t with
 |nil=>intro acc cB h;exact h
 | @cons p q kvs vs r _ ih=>
  intro acc cB h
  have h2:=h.put p.1 r.2
  have e:stored cB p.1 q.2=stored cB q.1 q.2:=by rw[r.1]
  rw[e] at h2
  exact ih h2
def Ou (K:W.Frag):List V->Hp->VK->Prop:=λxs H Q=>∃ l ps kvs,xs=[.ref l]/\SqL K H l ps/\Paired (λp (kv:Key×V)=>∃ t,p= .ref t/\SqT K H t [kV kv.1,kv.2]) ps kvs/\∀d,H d=none->Q (.ref d) (upd H d (.dK (Uc [] kvs)))
theorem S2 (I:Inv X aa U H s):∀{ps:List V}{kvs:List (Key×V)}{its:List Value},Paired (λp (kv:Key×V)=>∃ t,p= .ref t/\SqT X.K H t [kV kv.1,kv.2]) ps kvs->X9 ps its->∃kv,KV kvs kv/\O9 (Yw X.prog X.w) s.heap its.toArray kv:=fun {ps kvs its} p=>by
 induction p generalizing its with
 |nil=>
  intro v
  cases v
  exact⟨[], .nil,rfl,λj x p h=>by simp at h⟩
 | @cons _ b _ _ r _ ih=>
  intro v
  cases v with
  |cons rv v=>
   obtain⟨kv,h1,h2,h3⟩:=ih v
   obtain⟨t,rfl,ht⟩:=r
   cases rv
   obtain⟨i2,v2,tp,_⟩:=I.tuple ht
   obtain⟨key,val,rfl,e1,e2⟩:=X9.two v2
   refine⟨(b.1,val)::kv, .cons ⟨rfl,e2⟩ h1,by simpa using h2,λj x p hj hp=>?_⟩
   cases j with
   |zero=>
    simp at hj hp
    subst hj hp
    exact⟨t,key,rfl,tp,HA e1⟩
   |succ j=>exact h3 j x p (by simpa using hj) (by simpa using hp)
theorem YM (K:W.Frag)(hK:X.K=K)(hc:X.calm=true):ZX X (.type "dict") (Ou K):=by
 subst hK
 intro aa s U H xs us Q I r h
 obtain⟨l,ps,kvs,rfl,hq,hp,q⟩:=h
 obtain⟨u,rfl,ru⟩:=Vg r
 cases ru
 obtain⟨its,rv,⟨o,n,ho,hcl,hdn,c9⟩,hz⟩:=I.list hq
 obtain⟨kv,h1,h2⟩:=S2 I hp rv
 have ag:=rv.length
 have hl2:=Paired.len hp
 refine HE (knd:=Yw X.prog X.w) (I.ok.hd hc) ho hcl c9 hdn h2 (by simpa[←ag] using hz) λg tk hd kp=>?_
 refine⟨.ref s.heap.objs.size,_,I.laid (t':=tk) kp (Nat.le_refl _) (show YG X.prog X.w _ g _ (.dK (Uc [] kvs)) from⟨Nat.le_trans (Fp kvs []) (by simp;omega),beq_eq_false_iff_ne.mpr (Ne.symm (Nat.ne_of_lt I.big)),_,KV.all h1 .nil,hd⟩),rfl,q _ (I.hok.fresh (Nat.le_refl _))⟩
def Yr (ns:List Int):List Int:=ns.mergeSort λa b=>decide (a<=b)
theorem YF (ns:List Int):(Yr ns).Perm ns:=List.mergeSort_perm ns _
theorem Fu (ns:List Int):(Yr ns).Pairwise (· <= ·):=by
 have h:=List.pairwise_mergeSort (le:=λa b:Int=>decide (a<=b)) (λa b c h1 h2=>by rw[decide_eq_true_eq] at h1 h2⊢;omega) (λa b=>by rw[Bool.or_eq_true,decide_eq_true_eq,decide_eq_true_eq];omega) ns
 exact h.imp λh=>by simpa using h
theorem DK {a b:List Int}(h:a.Perm b)(r:a.Pairwise (· <= ·)):a=Yr b:=List.Perm.eq_of_pairwise (le:=(· <= ·)) (λ_ _ _ _ h1 h2=>Int.le_antisymm h1 h2) r (Fu b) (h.trans (YF b).symm)
theorem F4:∀{ns:List Int}{vs:List Value},X9 (ns.map V.int) vs->IntsAre vs ns:=fun {ns}=>by
 induction ns with
 |nil=>intro vs h;cases h;exact .nil
 |cons n ns ih=>
  intro vs h
  cases h with
  |cons r t=>
   obtain⟨k,rfl⟩:=r
   exact .cons n k (ih t)
def Oz (K:W.Frag):List V->Hp->VK->Prop:=λxs H Q=>∃ l ns,xs=[.ref l]/\SqL K H l (ns.map V.int)/\ns.length<64/\∀p,H p=none->Q (.ref p) (upd H p (.lst ((Yr ns).map V.int)))
theorem YC (K:W.Frag)(hK:X.K=K):ZX X (.builtin "sorted") (Oz K):=by
 subst hK
 intro aa s U H xs us Q I r h
 obtain⟨l,ns,rfl,hq,eZ,q⟩:=h
 obtain⟨u,rfl,ru⟩:=Vg r
 cases ru
 obtain⟨its,rv,pl,hz⟩:=I.list hq
 have ag:=rv.length
 rw[List.length_map] at ag
 refine sorted_ints pl.isList (F4 rv) (by omega) λout ns' a1 a2 a3=>?_
 obtain⟨e,he⟩:=sortedAll_at s.heap its out
 have en:ns'=Yr ns:=DK a2 a3
 have v:=Gu a1
 rw[en] at v
 have dL:H (s.heap.objs.size+1)=none:=I.hok.fresh (Nat.le_succ _)
 refine⟨.ref (s.heap.objs.size+1),_,I.laid (t':=s.toks) (λb o e=>sortedAll_old e) (Nat.le_succ _) (show YG X.prog X.w _ _ _ (.lst ((Yr ns).map V.int)) from⟨?_,out.toList,e,v,he⟩),rfl,q _ dL⟩
 rw[List.length_map,(YF ns).length_eq]
 rw[List.length_map] at hz
 exact hz
end
section
variable {o:Obj}
theorem MS {k:Key}(h:G5 k u=true):XZ (kV k) u:=by
 cases k with
 |inl n=>
  cases u<;> simp[G5,Value.isInt] at h
  subst h
  exact⟨_,rfl⟩
 |inr x=>
  cases u<;> simp[G5,Value.isStrOf] at h
  subst h
  exact⟨_,rfl⟩
end
section
theorem Vi {o:Obj}(hb:b≠a)(e:h.get? b=some o):(sortedHeap h a vs out).get? b=some o:=
 Heap.get?_update_of_ne _ hb.symm (Heap.get?_push_of_some _ (Heap.get?_push_of_some _ (Heap.get?_update_of_ne _ hb.symm e)))
end
section
variable [fd:FdOk Fd]{u:TS}
theorem Kx (h:Paired (Xf K H) xs ns):xs=ns.map V.int:=by
 induction h with
 |nil=>rfl
 |cons r _ ih=>rw[List.map_cons,ih,show _=V.int _ from r]
theorem Hb (ns:List Int):Paired (Xf K H) (ns.map V.int) ns:=by
 induction ns with
 |nil=>exact .nil
 |cons n ns ih=>exact .cons rfl ih
theorem JX {ma:Rs (List Int)}(ha:EvL K Er S OO U ta Xf ma):Ev K Er S OO OO U (tCB (Oz K) (Xr ta YE)) (oL (oF Xf)) (ma.bind λas=>chk (as.length<64) (.ok (Yr as))):=λH Q w s P=>
 ha.run w s FO.tr P λas x H1 s1 w1 q1 ⟨p,xs,e,q,pr⟩ P1=>by
  obtain⟨hl,P2⟩:=PZ.chk P1
  exact⟨p,as,by rw[e],SqL.of (by rw[←Kx pr];exact q),hl,Ij w1 (Hb _) P2⟩
theorem Eg {d:List (Int×M)}(pr:Paired (rDP r K H) kvs d):kvs.map (λkv=>kv.1)=(d.map λkx=>kx.1).map Sum.inl:=by
 induction pr with
 |nil=>rfl
 |cons r _ ih=>rw[List.map_cons,List.map_cons,List.map_cons,r.1,ih]
theorem NM [z:FlatE r](ha:EvB K Er S OO U ta (rPL r) ma):Ev K Er S OO OO U (tCB (Db K) (Xr ta YE)) (oL (oF r)) (ma.bind λas=>.ok as):=λH Q w s P=>
 ha.run w s FO.tr P λas x H1 s1 w1 q1 r9 P1=>by obtain⟨p,xs,e,q,pr⟩:=r9;exact⟨p,xs,by rw[e], .inr (SqT.of q),Ij w1 (Paired.imp2 (λ_ _ h=>z.flat w1.i h) pr) P1⟩
theorem LX {q:Enc B}{m:Rs (M×B)}(ha:EvB K Er S OO U ta (rP2 r q) m):EvB K Er S OO U (tCB (V4 K) (Xr ta YE)) Xf (m.bind λ_=>.ok (2:Int)):=λH Q w s P=>
 ha.run w s FB.tr P λa x H1 s1 w1 q1 r9 P1=>by obtain⟨p,x1,x2,e,q,h1,h2⟩:=r9;exact⟨p,[x1,x2],by rw[e], .inr (SqT.of q),P1 _ H1 (Xu.refl _) rfl⟩
def HG (d ps:List (Int×M)):List (Int×M):=ps.foldl (λd p=>G8 d p.1 p.2) d
theorem Ci {ps:List (Int×M)}(h:Paired (rDP r K H) kvs ps):∀{acc:List (Key×V)}{d:List (Int×M)},Paired (rDP r K H) acc d->Paired (rDP r K H) (Uc acc kvs) (HG d ps):=by
 induction h with
 |nil=>intro acc d h;exact h
 | @cons kv kx _ _ r _ ih=>
  intro acc d h
  have:=Gx (k:=kx.1) r.2 h
  rw[←r.1] at this
  exact ih this
theorem L7 (hs:Xu h H){ps:List (Int×M)}(p:Paired (rP2 Xf r K h) xs ps):∃kvs,Paired (λp (kv:Key×V)=>∃ t,p= .ref t/\SqT K H t [kV kv.1,kv.2]) xs kvs/\Paired (rDP r K h) kvs ps:=by
 induction p with
 |nil=>exact⟨[], .nil, .nil⟩
 | @cons x pr _ _ q _ ih=>
  obtain⟨kvs,h1,h2⟩:=ih
  obtain⟨t,a,b,e,ht,e1,e2⟩:=q
  have e1:a= .int pr.1:=e1
  subst e1
  exact⟨(.inl pr.1,b)::kvs, .cons ⟨t,e,SqT.of (hs _ _ ht)⟩ h1, .cons ⟨rfl,e2⟩ h2⟩
theorem Q1 [z:MonoE r]{ma:Rs (List (Int×M))}(ha:EvL K Er S OO U ta (rP2 Xf r) ma):Ev K Er S OO OO U (tCB (Ou K) (Xr ta YE)) (oD r) (ma.bind λps=>.ok (HG [] ps)):=λH Q w s P=>
 ha.run w s FO.tr P λps x H1 s1 w1 q1 ⟨p,xs,e,q,pr⟩ P1=>by
  obtain⟨kvs,h1,h2⟩:=L7 (Xv (H:=H1) (OO:=OO)) pr
  refine⟨p,xs,kvs,by rw[e],SqL.of q,h1,λd hd=>?_⟩
  have hn:=UI (OO:=OO) hd (o:=.dK (Uc [] kvs))
  exact P1 (.ref d) [(d, .dK (Uc [] kvs))] _ (XR hd _) (w1.new hd rfl) hn ⟨d,_,rfl,Paired.imp2 (λ_ _ h=>⟨h.1,z.mono hn h.2⟩) (Ci h2 .nil),rfl⟩
end
section
end
section
end
section
variable [fd:FdOk Fd]{u:TS}
end
section
end
section
end
section
def Ob (K:W.Frag):List V->Hp->VK->Prop:=λxs H Q=>∃ p ys,xs=[.ref p]/\((SqL K H p ys/\∀l,H l=none->Q (.ref l) (upd H l (.tup ys)))∨(SqT K H p ys/\Q (.ref p) H))
theorem Fb (K:W.Frag)(h:X.K=K):ZX X (.type "tuple") (Ob K):=by subst h;exact FR
theorem Ib [z:MonoE r](ha:EvB K Er S OO U ta (rV r) ma):EvB K Er S OO U (tCB (Ob K) (Xr ta YE)) (rPL r) (ma.bind λa=>.ok a):=λH Q w s P=>
 ha.run w s FB.tr P λa x H1 s1 w1 q1 r9 P1=>by obtain⟨p,xs,e,q,pr⟩:=r9;exact⟨p,xs,by rw[e], .inl ⟨SqL.of q,λl hl=>P1 (.ref l) _ (XR hl _) ⟨l,xs,rfl,Yg,Paired.imp2 (λ_ _ h=>z.mono (XR hl _) h) pr⟩⟩⟩
def tk (k:List Int):List Key:=k.map Sum.inl
variable [fd:FdOk Fd]{u:TS}
end
section
variable [DecidableEq M]{d:Nat}
open Classical in
end
section
def M7 [DecidableEq M](a:M)(l:List M):Bool:=decide (a∈l)
end
section
end
section
variable {ip:Pos}
end
section
end
section
end
section
variable [fd:FdOk Fd]{u:TS}
end
section
variable {u:TS}
end
section
end
section
end
section
variable {o:Obj}
end
section
end
section
variable {OO3:List (List XG)}{ζ:Type}
variable [fd:FdOk Fd]{u:TS}
def oT3 (o:OE M)(q:OE L)(t:OE B):OE (M×L×B):=λK h v a C=>∃ p x y z C1 C2 C3,v= .ref p/\h p=some (.tup [x,y,z])/\o K h x a.1 C1/\q K h y a.2.1 C2/\t K h z a.2.2 C3/\C=C1++(C2++C3)
instance {o:OE M}{q:OE L}{t:OE B}[m:MonoO o][n:MonoO q][k:MonoO t]:MonoO (oT3 o q t):=⟨λs r9=>by obtain⟨p,x,y,z,C1,C2,C3,e,h,h1,h2,h3,c⟩:=r9;exact⟨p,x,y,z,C1,C2,C3,e,s _ _ h,m.mono s h1,n.mono s h2,k.mono s h3,c⟩⟩
instance {o:OE M}{q:OE L}{t:OE B}[m:FlatO o][n:FlatO q][k:FlatO t]:FlatO (oT3 o q t):=⟨λs r9=>by obtain⟨p,x,y,z,C1,C2,C3,e,h,h1,h2,h3,c⟩:=r9;exact⟨p,x,y,z,C1,C2,C3,e,s _ _ h rfl,m.flat s h1,n.flat s h2,k.flat s h3,c⟩⟩
instance {o:OE M}{q:OE L}{t:OE B}{ro:Enc M}{rq:Enc L}{rt:Enc B}[m:FrzC o ro][n:FrzC q rq][k:FrzC t rt]:FrzC (oT3 o q t) (rP3 ro rq rt):=⟨λ⟨p,x,y,z,C1,C2,C3,e,h,h1,h2,h3,c⟩ s hc=>by
 subst c
 exact⟨p,x,y,z,e,s _ _ h,m.frz h1 s λc hm=>hc c (by simp[hm]),n.frz h2 s λc hm=>hc c (by simp[hm]),k.frz h3 s λc hm=>hc c (by simp[hm])⟩⟩
end
section
variable {ζ:Type}
variable [fd:FdOk Fd]{u:TS}
theorem KJ {ma:Rs Bool}(ha:EvB K Er S OO U ta Xw ma):EvB K Er S OO U (tCB (λxs H Q=>(∃i,xs=[.int i]/\Q (.int i) H)∨∃k,xs=[.bl k]/\Q (.int (if k then 1 else 0)) H) (Xr ta YE)) Xf (ma.bind λb=>.ok (if b=true then(1:Int) else 0)):=λH Q w s P=>
 ha.run w s FB.tr P λb x H1 s1 w1 q1 r1 P1=>.inr ⟨b,by rw[show x= .bl b from r1],P1 _ H1 (Xu.refl _) rfl⟩
end
section
variable {ζ:Type}
variable [fd:FdOk Fd]{u:TS}
end
section
variable {ζ:Type}
variable [fd:FdOk Fd]{u:TS}
end
end L2
namespace L2
open PySem
def Inc (xs:Array Nat):Prop:=xs.toList.Pairwise (· < ·)
theorem Inc.lt {xs:Array Nat}(h:Inc xs){i j v u:Nat}(b9:i<j)(hi:xs[i]?=some v)(hj:xs[j]?=some u):v<u:=by
 rw[←Array.getElem?_toList] at hi hj
 obtain⟨a,rfl⟩:=List.getElem?_eq_some_iff.mp hi
 obtain⟨b,rfl⟩:=List.getElem?_eq_some_iff.mp hj
 exact List.pairwise_iff_getElem.mp h i j a b b9
theorem Inc.le {xs:Array Nat}(h:Inc xs){i j v u:Nat}(b9:i<=j)(hi:xs[i]?=some v)(hj:xs[j]?=some u):v<=u:=by
 rcases Nat.lt_or_eq_of_le b9 with z |z
 ·exact Nat.le_of_lt (h.lt z hi hj)
 ·subst z;rw[hi] at hj;cases hj;exact Nat.le_refl _
structure TOk (t:SetTable)(led:Bool):Prop where
 inc:Inc t.place
 dum:t.dummies= #[]
 led:t.led=led
theorem TOk.fresh (f m:Nat)(led:Bool):TOk (.fresh f m led) led:=⟨List.Pairwise.nil,rfl,rfl⟩
end L2
namespace L2
open PySem PySem.Spec PyProof.Rows
theorem N3 (h:IntsAre vs ms)(k:Int):(∃v∈vs,Value.isInt k v=true)↔k∈ms:=by
 induction h with
 |nil=>simp
 |cons n t _ ih=>
  rw[List.mem_cons, ←ih]
  constructor
  ·rintro⟨v,hv,e⟩
   rcases List.mem_cons.mp hv with z |z
   ·subst z;obtain⟨t',e'⟩:=Value.isInt_shape e;cases e';exact .inl rfl
   ·exact .inr ⟨v,z,e⟩
  ·rintro(z | ⟨v,hv,e⟩)
   ·subst z;exact⟨_, .head _,beq_self_eq_true _⟩
   ·exact⟨v, .tail _ hv,e⟩
theorem IY (p:vs'.Perm vs):∀{ms:List Int},IntsAre vs ms->∃ms',IntsAre vs' ms'/\ms'.Perm ms:=by
 induction p with
 |nil=>intro ms h;exact⟨ms,h, .refl _⟩
 |cons x _ ih=>
  intro ms h
  cases h with
  |cons n t h=>obtain⟨m,a,b⟩:=ih h;exact⟨n::m, .cons n t a,b.cons _⟩
 |swap x y l=>
  intro ms h
  cases h with
  |cons n t h=>cases h with
   |cons m u h=>exact⟨_, .cons m u (.cons n t h), .swap ..⟩
 |trans _ _ ih1 ih2=>
  intro ms h
  obtain⟨m,a,b⟩:=ih2 h
  obtain⟨m',a',b'⟩:=ih1 a
  exact⟨m',a',b'.trans b⟩
def dd (l:List Int):List Int:=l.foldl step_dedup []
structure SCore (prog:Program)(w:World)(es:Array (Int×Value))(t:SetTable)(ns:List Int):Prop where
 el:ElemsOf (intKind prog w) es.toList
 pm:∃ms,IntsAre (es.toList.map (·.2)) ms/\ms.Perm ns
 sz:es.size<scanBound
 fit:t.fits es.size=true
 tok:TOk t (!w.params.followText "set-order")
def TM (prog:Program)(w:World)(h:Heap)(a:Addr)(ns:List Int):Prop:=
 ∃o es ep t,h.get? a=some o/\o.ExactSet/\o.data= .set es ep t/\SCore prog w es t ns
section
theorem SCore.len {es:Array (Int×Value)}(c:SCore prog w es t ns):es.size=ns.length:=by
 obtain⟨ms,a,b⟩:=c.pm
 rw[←b.length_eq, ←IntsAre.length a,List.length_map,Array.length_toList]
theorem SCore.mem {es:Array (Int×Value)}(c:SCore prog w es t ns)(k:Int):(∃e∈es.toList,Value.isInt k e.2=true)↔k∈ns:=by
 obtain⟨ms,a,b⟩:=c.pm
 rw[←b.mem_iff, ←N3 a k]
 constructor
 ·rintro⟨e,h,z⟩;exact⟨e.2,List.mem_map_of_mem h,z⟩
 ·rintro⟨v,h,z⟩
  obtain⟨e,h1,rfl⟩:=List.mem_map.mp h
  exact⟨e,h1,z⟩
theorem SCore.perm {es:Array (Int×Value)}(c:SCore prog w es t ns)(p:c6.toList.Perm es.toList)(f:t'.fits c6.size=true)(k:TOk t' (!w.params.followText "set-order")):SCore prog w c6 t' ns:=by
 obtain⟨ms,a,b⟩:=c.pm
 obtain⟨m,a',b'⟩:=IY (p.map (·.2)) a
 have e:c6.size=es.size:=by rw[←Array.length_toList,p.length_eq,Array.length_toList]
 exact⟨c.el.perm p,⟨m,a',b'.trans b⟩,by rw[e];exact c.sz,f,k⟩
theorem TM.put {h:Heap}{o:Obj}{es c6:Array (Int×Value)}{ep:Nat}{t t':SetTable}(ho:h.get? a=some o)(hx:o.ExactSet)(hd:o.data= .set es ep t):
  (h.update a (Obj.putSet c6 t')).get? a=some {o with data:=.set c6 (ep+1) t'}/\(SCore prog w c6 t' ns->TM prog w (h.update a (Obj.putSet c6 t')) a ns):=by
 have g:=Heap.get?_update_self (Obj.putSet c6 t') ho (by rw[putSet_of c6 t' hd];rfl)
 rw[putSet_of c6 t' hd] at g
 exact⟨g,λc=>⟨_,_,_,_,g,hx,rfl,c⟩⟩
end
section
theorem TM.at (x:TM prog w h a ns)(k:∀o,h.get? a=some o->h'.get? a=some o):TM prog w h' a ns:=
 let ⟨o,es,ep,t,ho,r⟩:=x;⟨o,es,ep,t,k o ho,r⟩
end
section
variable {Mqz:Model}
end
section
variable {o:Obj}{es:Array (Int×Value)}{ep:Nat}{t:SetTable}
end
section
variable {tp:Addr}{o:Obj}{es:Array (Int×Value)}{ep:Nat}{t:SetTable}{Lqz:List (Int×Value)}
end
section
variable {tp:Addr}{o:Obj}{es:Array (Int×Value)}{ep:Nat}{t:SetTable}{Lqz:List (Int×Value)}
end
section
end
section
variable {u:TS}
variable [fd:FdOk Fd]
end
section
end
section
variable {E:XK}
end
section
def Ov (K:W.Frag):R2:=λx y H Q=>∃ a b xs ys,x= .ref a/\y= .ref b/\SqT K H a xs/\SqT K H b ys/\ys≠ []/\xs.length+ys.length<=sizeLine/\
 (xs=[]->Q (.ref b) H)/\(xs≠ []->∀p,H p=none->Q (.ref p) (upd H p (.tup (xs++ys))))
theorem F1 (K:W.Frag)(hK:X.K=K):OpR X (binaryOp .Add) (Ov K):=by
 subst hK
 intro aa s U H x y v u Q I rx ry h
 obtain⟨a,b,xs,ys,e1,e2,ha,hb,hy,hz,q1,q2⟩:=h
 by_cases hx:xs=[]
 ·subst e1 e2
  cases rx
  cases ry
  obtain⟨its,r1,p1,_⟩:=I.tuple ha
  obtain⟨aB,r2,p2,_⟩:=I.tuple hb
  obtain⟨⟨cls,dd,data,sl⟩,ho,hc,n,hd⟩:=id p1
  obtain⟨⟨cls2,dd2,data2,gP⟩,ca,cU,n2,cb⟩:=id p2
  simp only at hc hd cU cb
  subst hc hd cU cb
  have e0:its=[]:=r1.nil_iff.mpr hx
  exact concat_meets ⟨_,ho,rfl⟩ ⟨_,ca,rfl⟩ noFill_tuple_add seq_tuple_add PySem.F.slot_tuple_add PySem.F.entry_tuple_add (PySem.F.args_tuple_add_2 _ _)
   (tuple_addW0 a b its.toArray aB.toArray n n2 dd dd2 sl gP (by simp[e0])) ⟨ho,ca,⟨.ref b,H,I,rfl,q1 hx⟩⟩
 ·exact R5 aa s U H x y v u Q I rx ry ⟨a,b,xs,ys,e1,e2,ha,hb,hx,hz,λz=>absurd z hy,λ_=>q2 hx⟩
end
section
theorem DZ [z:MonoE r]{mb:Rs (List M)}(ha:EvB K Er S OO U ta (rPL r) ma)(hb:EvB K Er S OO U tb (rPL r) mb):EvB K Er S OO U (tOp (Ov K) ta tb) (rPL r) (ma.bind λas=>mb.bind λbs=>chk (0<bs.length/\as.length+bs.length<=sizeLine) (.ok (as++bs))):=λH Q w s P=>
 ha.run w s FB.tr P λas x H1 s1 w1 q1 ⟨p,xs,e,q,pr⟩ P1=>hb.run w1 q1 FB.tr P1 λbs y H2 s2 w2 q2 ⟨p',ys,e',q',d7⟩ P2=>by
  obtain⟨⟨h1,h2⟩,P3⟩:=PZ.chk P2
  have hl:=Paired.len pr
  have hl':=Paired.len d7
  have fD:Paired (r K H2) xs as:=Paired.imp2 (λ_ _ h=>z.mono s2 h) pr
  refine⟨p,p',xs,ys,e,e',SqT.of (s2 _ _ q),SqT.of q',λz=>by rw[z] at hl';simp at hl';omega,by rw[hl,hl'];exact h2,λhz=>?_,λ_ a ha=>P3 _ _ (XR ha _) ⟨a,_,rfl,Yg,Paired.imp2 (λ_ _ h=>z.mono (XR ha _) h) (Paired.app fD d7)⟩⟩
  subst hz
  have ha:as=[]:=List.length_eq_zero_iff.mp (by rw[←hl];rfl)
  subst ha
  exact P3 _ H2 (Xu.refl _) ⟨p',ys,rfl,q',d7⟩
variable {u:TS}[fd:FdOk Fd]
end
section
variable {u:TS}[fd:FdOk Fd]
end
section
end
def AS (A:Around)(s:Shared)(v u:Value)(b:Bool):Prop:=
 ∀(prog:Program) (w:World) (E:Value->Shared->Prop) (Q:Value->Shared->Prop),Q (.bool b) s->wpAny (model prog w) A (richCompare .Lt v u) Q E s
structure LtOk {M:Type}(r:Enc M)(lt:M->M->Bool)(d:Nat):Prop where
 at':∀{X:Cx}{aa:List (Addr×Obj)}{U:St}{H:Hp}{s:Shared}{x y:V}{v u:Value}{a b:M}{A:Around},Inv X aa U H s->XZ x v->XZ y u->r X.K H x a->r X.K H y b->A.units+d<cLine->AS A s v u (lt a b)
def ltI (a b:Int):Bool:=decide (a<b)
theorem lt_int:LtOk Xf ltI 0:=⟨fun {X aa U H s x y v u a b A} I rx ry h1 h2 _ prog w E Q q=>by
 have e1:x=V.int a:=h1
 have e2:y=V.int b:=h2
 subst e1 e2
 obtain⟨t,rfl⟩:=rx
 obtain⟨t',rfl⟩:=ry
 exact CmpOf.ints_lt (P:=λj v=>∃ t,v= .int (if j=0 then a else b) t) (λj=>if j=0 then a else b) (λ_ _ h=>h) 0 1 _ _ _ _ _ ⟨t,rfl⟩ ⟨t',rfl⟩ q⟩
section
variable [DecidableEq M]{lt:M->M->Bool}{d:Nat}
end
section
def kp (kf:Value->M)(d:M)(xs:Array Keyed)(i:Nat):M:=(xs[i]?.map λp=>kf p.1).getD d
theorem Nv {d:M}{xs:Array Keyed}(h:xs[i]?=ys[j]?):kp kf d xs i=kp kf d ys j:=by unfold kp;rw[h]
structure Ord (lt:M->M->Bool):Prop where
 irr:∀a,lt a a=false
 tr:∀{a b c},lt a b=true->lt b c=true->lt a c=true
structure SB (κ:SortKind)(a0:Array Keyed)(st:SortSt):Prop where
 perm:(arrOf st).Perm a0
 kind:kindOf st=κ
 failed:failedOf st=none
 pend:pendingOf st= #[]
theorem SB.size {κ:SortKind}{a0:Array Keyed}{st:SortSt}(h:SB κ a0 st):(arrOf st).size=a0.size:=h.perm.size_eq
theorem SB.setArr {κ:SortKind}{a0:Array Keyed}{st:SortSt}(h:SB κ a0 st){xs:Array Keyed}(hp:xs.Perm (arrOf st)):SB κ a0 (setArr st xs):=⟨hp.trans h.perm,h.kind,h.failed,h.pend⟩
structure Asks (prog:Program)(w:World)(A:Around)(E:Value->Shared->Prop)(s:Shared)(κ:SortKind)(lt:M->M->Bool)(kf:Value->M)(d:M)(a0:Array Keyed):Prop extends Ord lt where
 ask:∀{st:SortSt}{i j:Nat}{Q:Option Bool->SortSt->Prop},SB κ a0 st->i<a0.size->j<a0.size->Q (some (lt (kp kf d (arrOf st) i) (kp kf d (arrOf st) j))) st->wpS (model prog w) A E s (ltAt' i j) Q st
 two:∀{st:SortSt}{i j:Nat},SB κ a0 st->i<a0.size->j<a0.size->i≠j->lt (kp kf d (arrOf st) i) (kp kf d (arrOf st) j)=true∨lt (kp kf d (arrOf st) j) (kp kf d (arrOf st) i)=true
variable {κ:SortKind}{lt:M->M->Bool}{kf:Value->M}{d:M}{a0:Array Keyed}
def Ris (lt:M->M->Bool)(k:Nat->M)(n:Nat):Prop:=∀ i j,i<j->j<n->lt (k i) (k j)=true
def Fal (lt:M->M->Bool)(k:Nat->M)(n:Nat):Prop:=∀ i j,i<j->j<n->lt (k j) (k i)=true
theorem Ris.more (O:Ord lt){k:Nat->M}(h:Ris lt k n)(q:0<n->lt (k (n-1)) (k n)=true):Ris lt k (n+1):=λi j b9 hj=>by
 rcases Nat.lt_or_ge j n with z |z
 ·exact h i j b9 z
 ·have e:j=n:=by omega
  subst e
  rcases Nat.lt_or_ge i (j-1) with y |y
  ·exact O.tr (h i (j-1) y (by omega)) (q (by omega))
  ·rw[show i=j-1 by omega];exact q (by omega)
theorem Fal.more (O:Ord lt){k:Nat->M}(h:Fal lt k n)(q:0<n->lt (k n) (k (n-1))=true):Fal lt k (n+1):=λi j b9 hj=>by
 rcases Nat.lt_or_ge j n with z |z
 ·exact h i j b9 z
 ·have e:j=n:=by omega
  subst e
  rcases Nat.lt_or_ge i (j-1) with y |y
  ·exact O.tr (q (by omega)) (h i (j-1) y (by omega))
  ·rw[show i=j-1 by omega];exact q (by omega)
theorem Asks.other (Lqz:Asks prog w A E s κ lt kf d a0){st:SortSt}{i j:Nat}(Bqz:SB κ a0 st)(hi:i<a0.size)(hj:j<a0.size)(n:i≠j)(h:lt (kp kf d (arrOf st) i) (kp kf d (arrOf st) j)=false):lt (kp kf d (arrOf st) j) (kp kf d (arrOf st) i)=true:=(Lqz.two Bqz hi hj n).resolve_left (by rw[h];decide)
theorem Oh (Lqz:Asks prog w A E s κ lt kf d a0){st:SortSt}{a m:Nat}{Q:AscSt->SortSt->Prop}(Bqz:SB κ a0 st)(hm:m<=a0.size)(h1:1<=a)(ham:a<=m)(R:Ris lt (kp kf d (arrOf st)) a)
  (q:∀n,a<=n->n<=m->Ris lt (kp kf d (arrOf st)) n->(n≠m->lt (kp kf d (arrOf st) n) (kp kf d (arrOf st) (n-1))=true)->Q (none,n) st):wpS (model prog w) A E s (ascLoop a m) Q st:=by
 unfold ascLoop
 refine wpS_forRange (I:=λx c t=>t=st/\c=(none,x)/\Ris lt (kp kf d (arrOf st)) x) ?_ ?_ ⟨rfl,rfl,R⟩
 ·intro x c t hx hxm hI
  obtain⟨rfl,rfl,R'⟩:=hI
  refine wpS_bind (Lqz.ask Bqz (by omega) (by omega) ?_)
  cases e:lt (kp kf d (arrOf t) x) (kp kf d (arrOf t) (x-1)) with
  |true=>exact wpS_pure (q x hx (by omega) R' λ_=>e)
  |false=>exact wpS_pure ⟨rfl,rfl,R'.more Lqz.toOrd λ_=>Lqz.other Bqz (by omega) (by omega) (by omega) e⟩
 ·intro c t hI
  obtain⟨rfl,rfl,R'⟩:=hI
  have e:max a m=m:=by omega
  rw[e] at R'⊢
  exact q m ham (Nat.le_refl _) R' λz=>absurd rfl z
theorem Oa (Lqz:Asks prog w A E s κ lt kf d a0){st:SortSt}{a m:Nat}{Q:DescSt->SortSt->Prop}(Bqz:SB κ a0 st)(hm:m<=a0.size)(h1:1<=a)(ham:a<=m)(R:Fal lt (kp kf d (arrOf st)) a)
  (q:∀n,a<=n->n<=m->Fal lt (kp kf d (arrOf st)) n->Q (none,n,0) st):wpS (model prog w) A E s (descLoop a m) Q st:=by
 unfold descLoop
 refine wpS_forRange (I:=λx c t=>t=st/\c=(none,x,0)/\Fal lt (kp kf d (arrOf st)) x) ?_ ?_ ⟨rfl,rfl,R⟩
 ·intro x c t hx hxm hI
  obtain⟨rfl,rfl,R'⟩:=hI
  show wpS _ _ _ _ (ltAt' x (x-1) >>= _) _ _
  refine wpS_bind (Lqz.ask Bqz (by omega) (by omega) ?_)
  cases e:lt (kp kf d (arrOf t) x) (kp kf d (arrOf t) (x-1)) with
  |true=>exact wpS_pure ⟨rfl,rfl,R'.more Lqz.toOrd λ_=>e⟩
  |false=>
   show wpS _ _ _ _ (ltAt' (x-1) x >>= _) _ _
   refine wpS_bind (Lqz.ask Bqz (by omega) (by omega) ?_)
   rw[Lqz.other Bqz (by omega) (by omega) (by omega) e]
   exact wpS_pure (q x hx (by omega) R')
 ·intro c t hI
  obtain⟨rfl,rfl,R'⟩:=hI
  have e:max a m=m:=by omega
  rw[e] at R'⊢
  exact q m ham (Nat.le_refl _) R'
theorem Lr {xs:Array Keyed}(hn:n<=xs.size)(hi:i<n):kp kf d (mirror xs 0 n ((n-0)/2)) i=kp kf d xs (n-1-i):=by
 have e:=getElem?_mirror_all (i:=0) hn i
 rw[if_pos ⟨Nat.zero_le _,hi⟩,Nat.zero_add] at e
 exact Nv e
theorem TY (Lqz:Asks prog w A E s κ lt kf d a0){st:SortSt}{m:Nat}{Q:Option Nat->SortSt->Prop}(Bqz:SB κ a0 st)(hm:m<=a0.size)(h1:1<=m)
  (q:∀n t,SB κ a0 t->n<=m->Ris lt (kp kf d (arrOf t)) n->Q (some n) t):wpS (model prog w) A E s (countRun' 0 m) Q st:=by
 rw[countRun0_eq]
 refine wpS_bind (Oh Lqz Bqz hm (Nat.le_refl 1) h1 (λi j b9 hj=>by omega) λn hn hnm R z=>?_)
 show wpS _ _ _ _ (if(n==m)=true then _ else _) _ _
 by_cases e:n=m
 ·subst e
  rw[if_pos (beq_self_eq_true n)]
  exact wpS_pure (q n st Bqz (Nat.le_refl _) R)
 ·rw[if_neg (by rw[beq_eq_false_iff_ne.mpr e];decide)]
  have z:=z e
  by_cases g:n > 1
  ·show wpS _ _ _ _ (if n > 1 then _ else _) _ _
   rw[if_pos g]
   show wpS _ _ _ _ (ltAt' 0 (n-1) >>= _) _ _
   refine wpS_bind (Lqz.ask Bqz (by omega) (by omega) ?_)
   rw[show lt (kp kf d (arrOf st) 0) (kp kf d (arrOf st) (n-1))=true from R 0 (n-1) (by omega) (by omega)]
   exact wpS_pure (q n st Bqz hnm R)
  ·have e1:n=1:=by omega
   subst e1
   show wpS _ _ _ _ (descPart 1 m) _ _
   unfold descPart
   refine wpS_bind (wpS_lift (wpAny_rule ⟨rfl,?_⟩))
   have F2:Fal lt (kp kf d (arrOf st)) 2:=Fal.more Lqz.toOrd (n:=1) (λi j b9 hj=>by omega) λ_=>z
   refine wpS_bind (Oa Lqz Bqz hm (by omega) (by omega) F2 λn hn2 hnm2 F=>?_)
   show wpS _ _ _ _ (tail3 n m) _ _
   unfold tail3
   refine wpS_bind (wpS_reverse ?_)
   have B2:SB κ a0 (setArr st (mirror (arrOf st) 0 n ((n-0)/2))):=Bqz.setArr (mirror_perm _ _ _ _)
   have hsz:n<=(arrOf st).size:=by rw[Bqz.size];omega
   refine wpS_bind (Oh Lqz B2 hm (by omega) hnm2 (λi j b9 hj=>?_) λk _ hk R2 _=>wpS_pure (q k _ B2 hk R2))
   show lt (kp kf d (mirror (arrOf st) 0 n ((n-0)/2)) i) (kp kf d (mirror (arrOf st) 0 n ((n-0)/2)) j)=true
   rw[Lr hsz (by omega),Lr hsz hj]
   exact F (n-1-j) (n-1-i) (by omega) (by omega)
theorem SI (O:Ord lt){xs:Array Keyed}(hk:k<xs.size)(hl:l<=k)(R:Ris lt (kp kf d xs) k)(lo:∀i,i<l->lt (kp kf d xs i) (kp kf d xs k)=true)(hi:∀i,l<=i->i<k->lt (kp kf d xs k) (kp kf d xs i)=true):Ris lt (kp kf d (bubble xs k (k-l))) (k+1):=by
 have g:∀p,kp kf d (bubble xs k (k-l)) p=if p=l then kp kf d xs k else if l<p/\p<=k then kp kf d xs (p-1) else kp kf d xs p:=λp=>by
  have e:=getElem?_bubble hk (k-l) (by omega) p
  rw[show k-(k-l)=l by omega] at e
  by_cases h1:p=l
  ·rw[if_pos h1] at e⊢;exact Nv e
  ·rw[if_neg h1] at e⊢
   by_cases h2:l<p/\p<=k
   ·rw[if_pos h2] at e⊢;exact Nv e
   ·rw[if_neg h2] at e⊢;exact Nv e
 intro i j b9 hj
 rw[g,g]
 rcases Nat.lt_trichotomy i l with cL |cL |cL
 ·rw[if_neg (by omega),if_neg (by omega)]
  rcases Nat.lt_trichotomy j l with cu |cu |cu
  ·rw[if_neg (by omega),if_neg (by omega)];exact R i j b9 (by omega)
  ·rw[if_pos cu];exact lo i cL
  ·rw[if_neg (by omega),if_pos (by omega)];exact R i (j-1) (by omega) (by omega)
 ·rw[if_pos cL,if_neg (by omega),if_pos (by omega)];exact hi (j-1) (by omega) (by omega)
 ·rw[if_neg (by omega),if_pos (by omega),if_neg (by omega),if_pos (by omega)];exact R (i-1) (j-1) (by omega) (by omega)
theorem Wi (Lqz:Asks prog w A E s κ lt kf d a0){st:SortSt}{n ok:Nat}{Q:Bool->SortSt->Prop}(Bqz:SB κ a0 st)(hn:n<=a0.size)(hok:ok<=n)(R:Ris lt (kp kf d (arrOf st)) ok)
  (q:∀t,SB κ a0 t->Ris lt (kp kf d (arrOf t)) n->Q true t):wpS (model prog w) A E s (binarySort' 0 n ok) Q st:=by
 rw[binarySort'_eq]
 simp only[Nat.zero_add]
 refine wpS_bind (wpS_mono (wpS_forRange (I:=λk c t=>c=(none,())/\SB κ a0 t/\Ris lt (kp kf d (arrOf t)) (if k<=n then k else n)) (Q:=λc t=>c=(none,())/\SB κ a0 t/\Ris lt (kp kf d (arrOf t)) n) ?_ ?_ ?_) ?_)
 ·intro k c t hk fF hI
  obtain⟨rfl,Bt,Rt⟩:=hI
  rw[if_pos (Nat.le_of_lt fF)] at Rt
  refine wpS_bind (wpS_mono (wpS_forRange (I:=λx c u=>u=t/\∃l r,c=(none,l,r)/\l<=r/\r<=k/\r+x<=k+l/\(∀i,i<l->lt (kp kf d (arrOf t) i) (kp kf d (arrOf t) k)=true)/\(∀i,r<=i->i<k->lt (kp kf d (arrOf t) k) (kp kf d (arrOf t) i)=true))
   (Q:=λc u=>u=t/\∃l,c=(none,l,l)/\l<=k/\(∀i,i<l->lt (kp kf d (arrOf t) i) (kp kf d (arrOf t) k)=true)/\(∀i,l<=i->i<k->lt (kp kf d (arrOf t) k) (kp kf d (arrOf t) i)=true)) ?_ ?_ ?_) ?_)
  ·intro x c u _ hx hI
   obtain⟨rfl,l,r,rfl,hlr,hrk,hm,lo,hi⟩:=hI
   by_cases hge:l≥r
   ·have e:r=l:=by omega
    subst e
    show wpS _ _ _ _ (if r≥r then _ else _) _ _
    rw[if_pos (Nat.le_refl _)]
    exact wpS_pure ⟨rfl,r,rfl,hrk,lo,hi⟩
   ·show wpS _ _ _ _ (if l≥r then _ else _) _ _
    rw[if_neg hge]
    show wpS _ _ _ _ (ltAt' k ((l+r)/2) >>= _) _ _
    refine wpS_bind (Lqz.ask Bt (by omega) (by omega) ?_)
    cases e:lt (kp kf d (arrOf u) k) (kp kf d (arrOf u) ((l+r)/2)) with
    |true=>
     refine wpS_pure ⟨rfl,l,(l+r)/2,rfl,by omega,by omega,by omega,lo,λi h1 h2=>?_⟩
     rcases Nat.eq_or_lt_of_le h1 with y |y
     ·rw[←y];exact e
     ·exact Lqz.tr e (Rt _ _ y h2)
    |false=>
     have e':=Lqz.other Bt (by omega) (by omega) (by omega) e
     refine wpS_pure ⟨rfl,(l+r)/2+1,r,rfl,by omega,by omega,by omega,λi h1=>?_,hi⟩
     rcases Nat.eq_or_lt_of_le (Nat.le_of_lt_succ h1) with y |y
     ·rw[y];exact e'
     ·exact Lqz.tr (Rt _ _ y (by omega)) e'
  ·intro c u hI
   obtain⟨rfl,l,r,rfl,hlr,hrk,hm,lo,hi⟩:=hI
   have e:r=l:=by omega
   subst e
   exact⟨rfl,r,rfl,hrk,lo,hi⟩
  ·exact⟨rfl,0,k,rfl,by omega,by omega,by omega,λi hi=>by omega,λi h1 h2=>by omega⟩
  ·intro c u hI
   obtain⟨rfl,l,rfl,hlk,lo,hi⟩:=hI
   show wpS _ _ _ _ (moveDown' k l >>= _) _ _
   rw[moveDown'_eq]
   refine wpS_bind (wpS_modify (wpS_pure ⟨rfl,Bt.setArr (bubble_perm _ _ _),?_⟩))
   rw[if_pos (show k+1<=n from fF)]
   exact SI Lqz.toOrd (by rw[Bt.size];omega) hlk Rt lo hi
 ·intro c t hI
  obtain⟨hc,Bt,Rt⟩:=hI
  refine⟨hc,Bt,?_⟩
  have e:(if max (max ok 1) n<=n then max (max ok 1) n else n)=n:=by split<;> omega
  rwa [e] at Rt
 ·refine⟨rfl,Bqz,λi j b9 hj=>?_⟩
  refine R i j b9 ?_
  split at hj<;> omega
 ·intro c t hI
  obtain⟨rfl,Bt,Rt⟩:=hI
  exact wpS_pure (q t Bt Rt)
theorem Pt (Lqz:Asks prog w A E s κ lt kf d a0){st:SortSt}{Q:Unit->SortSt->Prop}(Bqz:SB κ a0 st)(h2:2<=a0.size)(eZ:a0.size<64)
  (q:∀t,(arrOf t).Perm a0->failedOf t=none->Ris lt (kp kf d (arrOf t)) a0.size->Q () t):wpS (model prog w) A E s sortRuns' Q st:=by
 rw[sortRuns'_eq]
 refine wpS_bind (wpS_get ?_)
 have hmr:minRun' a0.size a0.size 0=a0.size:=by
  cases e:a0.size with
  |zero=>omega
  |succ f=>rw[minRun'_succ,if_pos (by omega)]
 have hs:=Bqz.size
 show wpS _ _ _ _ (forIn [0:(arrOf st).size] _ _ >>= _) _ _
 rw[hs,hmr]
 let Dn:SortSt->Prop:=λt=>(arrOf t).Perm a0/\failedOf t=none/\pendingOf t= #[(0,a0.size,0)]/\Ris lt (kp kf d (arrOf t)) a0.size
 have fin:∀t,SB κ a0 t->Ris lt (kp kf d (arrOf t)) a0.size->Dn (setPending t ((pendingOf t).push (0,a0.size,0))):=λt Bt Rt=>⟨Bt.perm,Bt.failed,by show(pendingOf t).push _=_;rw[Bt.pend];rfl,Rt⟩
 refine wpS_bind (wpS_mono (wpS_forRange (I:=λx c t=>if x=0 then c=(none,0)/\SB κ a0 t else c=(none,a0.size)/\Dn t) (Q:=λc t=>c=(none,a0.size)/\Dn t) ?_ ?_ ?_) ?_)
 ·intro x c t _ hx hI
  by_cases hx0:x=0
  ·rw[if_pos hx0] at hI
   obtain⟨rfl,Bt⟩:=hI
   show wpS _ _ _ _ (if 0≥a0.size then _ else _) _ _
   rw[if_neg (by omega)]
   refine wpS_bind (TY Lqz Bt (by omega) (by omega) λm u Bu hm Ru=>?_)
   have hb:∀v,SB κ a0 v->(pendingOf v).back?=none:=λv Bv=>by rw[Bv.pend];rfl
   by_cases ap:m<a0.size
   ·show wpS _ _ _ _ (if m<a0.size then _ else _) _ _
    rw[if_pos ap]
    refine wpS_bind (wpS_lift (wpAny_rule ⟨rfl,?_⟩))
    rw[Nat.sub_zero,Nat.min_self]
    refine wpS_bind (Wi Lqz Bu (Nat.le_refl _) hm Ru λv Bv Rv=>?_)
    show wpS _ _ _ _ (get >>= _) _ _
    refine wpS_bind (wpS_get ?_)
    rw[hb v Bv]
    refine wpS_bind (wpS_modify (wpS_pure ?_))
    show if x+1=0 then _ else _
    rw[if_neg (by omega)]
    exact⟨by rw[Nat.zero_add],fin v Bv Rv⟩
   ·have e:m=a0.size:=by omega
    subst e
    show wpS _ _ _ _ (if a0.size<a0.size then _ else _) _ _
    rw[if_neg ap]
    refine wpS_bind (wpS_get ?_)
    rw[hb u Bu]
    refine wpS_bind (wpS_modify (wpS_pure ?_))
    show if x+1=0 then _ else _
    rw[if_neg (by omega)]
    exact⟨by rw[Nat.zero_add],fin u Bu Ru⟩
  ·rw[if_neg hx0] at hI
   obtain⟨rfl,D⟩:=hI
   show wpS _ _ _ _ (if a0.size≥a0.size then _ else _) _ _
   rw[if_pos (Nat.le_refl _)]
   exact wpS_pure ⟨rfl,D⟩
 ·intro c t hI
  rw[if_neg (by omega)] at hI
  exact hI
 ·rw[if_pos rfl];exact⟨rfl,Bqz⟩
 ·intro c t hI
  obtain⟨rfl,D1,D2,D3,D4⟩:=hI
  refine wpS_bind (wpS_mono (wpS_forRange (I:=λ_ c u=>u=t/\c=(none,())) (Q:=λc u=>u=t/\c=(none,())) ?_ (λ_ _ h=>h) ⟨rfl,rfl⟩) ?_)
  ·intro x c u _ _ hI
   obtain⟨rfl,rfl⟩:=hI
   refine wpS_bind (wpS_get ?_)
   rw[if_pos (by rw[D3];exact Nat.le_refl 1)]
   exact wpS_pure ⟨rfl,rfl⟩
  ·intro c u hI
   obtain⟨rfl,rfl⟩:=hI
   exact wpS_pure (q _ D1 D2 D4)
end
section
theorem Lf {f:M->L}{k:List L}(h:l'.Perm k):∀{l:List M},k=l.map f->∃m:List M,m.Perm l/\m.map f=l':=by
 induction h with
 |nil=>intro l e;cases l with
  |nil=>exact⟨[], .nil,rfl⟩
  |cons a l=>cases e
 |cons x _ ih=>intro l e;cases l with
  |nil=>cases e
  |cons a l=>
   injection e with e1 e2
   obtain⟨m,hm,em⟩:=ih e2
   exact⟨a::m,hm.cons a,by rw[List.map_cons,em,e1]⟩
 |swap x y t=>intro l e;cases l with
  |nil=>cases e
  |cons a l=>cases l with
   |nil=>cases e
   |cons b l=>
    injection e with e1 e2
    injection e2 with e2 e3
    exact⟨b::a::l, .swap ..,by rw[List.map_cons,List.map_cons,e1,e2,e3]⟩
 |trans _ _ ih1 ih2=>
  intro l e
  obtain⟨m2,h2,e2⟩:=ih2 e
  obtain⟨m1,h1,e1⟩:=ih1 e2.symm
  exact⟨m1,h1.trans h2,e1⟩
structure OrdT (lt:M->M->Bool):Prop extends Ord lt where
 tot:∀{a b},a≠b->lt a b=true∨lt b a=true
section
variable [DecidableEq M]{lt:M->M->Bool}
end
def SD (lt:M->M->Bool)(a:M):List M->List M
 | []=>[a]
 |b::l=>if lt a b=true then a::b::l else b::SD lt a l
def Ze (lt:M->M->Bool)(l:List M):List M:=l.foldr (SD lt) []
theorem Gg (lt:M->M->Bool)(a:M):∀l,(SD lt a l).Perm (a::l)
 | []=>.refl _
 |b::l=>by
  rw[SD]
  split
  ·exact .refl _
  ·exact((Gg lt a l).cons b).trans (.swap ..)
theorem YQ (lt:M->M->Bool):∀l:List M,(Ze lt l).Perm l
 | []=>.refl _
 |a::l=>(Gg lt a _).trans ((YQ lt l).cons a)
theorem Cu (O:OrdT lt){a:M}:∀{l:List M},(∀b∈l,a≠b)->l.Pairwise (λx y=>lt x y=true)->(SD lt a l).Pairwise λx y=>lt x y=true
 | [],_,_=>List.pairwise_singleton ..
 |b::l,hn,h=>by
  rw[List.pairwise_cons] at h
  rw[SD]
  split
  ·rename_i hab
   refine List.pairwise_cons.mpr ⟨λc hc=>?_,List.pairwise_cons.mpr h⟩
   rcases List.mem_cons.mp hc with z |z
   ·rw[z];exact hab
   ·exact O.tr hab (h.1 c z)
  ·rename_i hab
   refine List.pairwise_cons.mpr ⟨λc hc=>?_,Cu O (λc hc=>hn c (List.mem_cons_of_mem _ hc)) h.2⟩
   rcases List.mem_cons.mp ((Gg lt a l).mem_iff.mp hc) with z |z
   ·rw[z];exact(O.tot (hn b List.mem_cons_self)).resolve_left hab
   ·exact h.1 c z
theorem UE (O:OrdT lt):∀{l:List M},l.Nodup->(Ze lt l).Pairwise λx y=>lt x y=true
 | [],_=>.nil
 |a::l,h=>by
  rw[List.nodup_cons] at h
  exact Cu O (λb hb e=>h.1 ((YQ lt l).mem_iff.mp (e▸hb))) (UE O h.2)
theorem Kt (O:OrdT lt){a b:List M}(hn:b.Nodup)(h:a.Perm b)(r:a.Pairwise λx y=>lt x y=true):a=Ze lt b:=
 List.Perm.eq_of_pairwise (le:=λx y=>lt x y=true) (λx y _ _ h1 h2=>by have:=O.tr h1 h2;rw[O.irr] at this;cases this) r (UE O hn) (h.trans (YQ lt b).symm)
end
section
def mid (h:Heap)(a:Addr)(vs:List Value):Heap:=((h.update a (Obj.mapSeq λ_=>#[])).push (seqObj "tuple" vs.toArray 0)).push (seqObj "list" #[] 0)
theorem Ss {o:Obj}(hne:b≠a)(hb:h.get? b=some o):(mid h a vs).get? b=some o:=by
 have ap:=Heap.lt_size hb
 unfold mid
 rw[Heap.get?_push_ne _ _ _ (by rw[size_push',Heap.size_update];exact Nat.ne_of_lt (Nat.lt_succ_of_lt ap)),Heap.get?_push_ne _ _ _ (by rw[Heap.size_update];exact Nat.ne_of_lt ap),Heap.get?_update_ne _ _ _ _ hne]
 exact hb
theorem RW {d:M}{Q:Fin->Shared->Prop}(ho:s.heap.get? a=some (seqObj "list" vs.toArray n))(eZ:vs.length<64)
  (hk:2<=vs.length->∀{Q:SortKind->Shared->Prop},Q κ {s with heap:=mid s.heap a vs}->wpAny (model prog w) A (keyKind' vs.toArray) Q E {s with heap:=mid s.heap a vs})(Lqz:Asks prog w A E {s with heap:=mid s.heap a vs} κ lt kf d (pairsOf vs))
  (q:∀out:Array Keyed,out.Perm (pairsOf vs)->Ris lt (kp kf d out) vs.length->Q (.done (.ret .none)) {s with heap:=sortedHeap s.heap a vs (out.map (·.2))}):
  wpAny (model prog w) A (Builtin.«list.sort» ⟨[.ref a],[]⟩) Q E s:=by
 rw[list_sort_plain]
 have ap:=Heap.lt_size ho
 obtain⟨e1,ho1⟩:∃e,(s.heap.update a (Obj.mapSeq λ_=>#[])).get? a=some (seqObj "list" #[] e):=⟨_,get?_update_seq ho λ_=>#[]⟩
 have ca:(mid s.heap a vs).get? a=some (seqObj "list" #[] e1):=by
  unfold mid
  rw[Heap.get?_push_ne _ _ _ (by rw[size_push',Heap.size_update];exact Nat.ne_of_lt (Nat.lt_succ_of_lt ap)),Heap.get?_push_ne _ _ _ (by rw[Heap.size_update];exact Nat.ne_of_lt ap)]
  exact ho1
 refine wpAny_bind (listItems_at ho rfl (wpAny_bind (listUpdate_at ho rfl (wpAny_bind (seqEpoch_at ho1 rfl (wpAny_bind (wpAny_newTuple (wpAny_bind (wpAny_newList (wpAny_holding ?_))))))))))
 show wpAny (model prog w) A _ Q E {s with heap:=mid s.heap a vs}
 have tail:∀(st:SortSt),(arrOf st).Perm (pairsOf vs)->failedOf st=none->Ris lt (kp kf d (arrOf st)) vs.length->wpAny (model prog w) A (do
   let fk:=(←seqEpoch a) !=e1
   Builtin.List.listUpdate (.ref a) λ_=>(arrOf st).map (·.2)
   if let some e:=failedOf st then rule "list.sort.comparison-raised";throw e
   if fk then rule "list.sort.modified";raiseError "ValueError" "list modified during sort"
   ret .none) Q E {s with heap:=mid s.heap a vs}:=λst hp hf hr=>by
  refine wpAny_bind (seqEpoch_at ca rfl (wpAny_bind (listUpdate_at ca rfl ?_ (hsz2:=?_))))
  ·rw[hf]
   simp only[bne_self_eq_false,Bool.false_eq_true,if_false]
   exact wpAny_pure (q (arrOf st) hp hr)
  ·have:=hp.size_eq
   rw[pairsOf_size] at this
   rw[Array.size_map,this,sizeLine_eq];omega
 have hsz:vs.toArray.size=vs.length:=List.size_toArray
 by_cases h2:vs.toArray.size<2
 ·rw[if_pos h2,if_pos h2]
  refine wpAny_bind (wpAny_pure ?_)
  show wpAny _ _ ((pure ():StateT SortSt Sem Unit).run (SortSt.mk' general' (vs.toArray.zip vs.toArray) #[] 7 none) >>= _) _ _ _
  rw[StateT.run_pure]
  exact wpAny_bind (wpAny_pure (tail (SortSt.mk' general' (vs.toArray.zip vs.toArray) #[] 7 none) (Array.Perm.refl _) rfl λi j b9 hj=>by omega))
 ·rw[if_neg h2,if_neg h2]
  refine wpAny_bind (hk (by rw[←hsz];omega) ?_)
  refine wpAny_bind (wpAny_mono (Pt Lqz (st:=SortSt.mk' κ (vs.toArray.zip vs.toArray) #[] 7 none) (Q:=λ_ st=>(arrOf st).Perm (pairsOf vs)/\failedOf st=none/\Ris lt (kp kf d (arrOf st)) vs.length) ⟨Array.Perm.refl _,rfl,rfl,rfl⟩ (by rw[pairsOf_size];omega) (by rw[pairsOf_size];exact eZ) λt a1 a2 a3=>⟨a1,a2,by rw[pairsOf_size] at a3;exact a3⟩) ?_ λ_ _ e=>e)
  intro p s' hh
  obtain⟨⟨⟩,st⟩:=p
  obtain⟨rfl,hp,hf,hr⟩:=hh
  exact tail st hp hf hr
end
section
variable {d:B}{T:List (Value×V×B)}
open Classical in
def kfG (d:B)(T:List (Value×V×B))(v:Value):B:=if h:∃t,t∈T/\t.1=v then(Classical.choose h).2.2 else d
theorem IG (hu:∀t u,t∈T->u∈T->t.1=u.1->t.2.2=u.2.2)(ht:t∈T):kfG d T t.1=t.2.2:=by
 have h:∃u,u∈T/\u.1=t.1:=⟨t,ht,rfl⟩
 unfold kfG
 rw[dif_pos h]
 exact hu _ _ (Classical.choose_spec h).1 ht (Classical.choose_spec h).2
theorem trG:∀{its:List Value}{ys:List V}{as:List B}{G:V->B->Prop},Paired XZ ys its->Paired G ys as->∃T:List (Value×V×B),T.map (·.1)=its/\T.map (λt=>(t.2.1,t.2.2))=ys.zip as/\T.map (·.2.2)=as/\∀t∈T,XZ t.2.1 t.1/\G t.2.1 t.2.2
 |_,_,_,_, .nil, .nil=>⟨[],rfl,rfl,rfl,λt h=>nomatch h⟩
 |_,_,_,_, .cons r1 p1, .cons r2 p2=>by
  obtain⟨T,e1,e2,e3,hT⟩:=trG p1 p2
  exact⟨(_,_,_)::T,by rw[List.map_cons,e1],by rw[List.map_cons,e2];rfl,by rw[List.map_cons,e3],λt ht=>(List.mem_cons.mp ht).elim (λz=>z▸⟨r1,r2⟩) (hT t)⟩
variable {κ:SortKind}{lt:B->B->Bool}
structure Sb (X:Cx)(aa:List (Addr×Obj))(U:St)(H:Hp)(κ:SortKind)(lt:B->B->Bool)(G:V->B->Prop)(c:Nat):Prop where
 hq:∀{s:Shared},Inv X aa U H s->∀{v y z a b},XZ y v->XZ z v->G y a->G z b->a=b
 hk:∀{A:Around}{Er:Value->Shared->Prop}{s:Shared},Inv X aa U H s->∀T:List (Value×V×B),(∀t∈T,XZ t.2.1 t.1/\G t.2.1 t.2.2)->2<=T.length->∀{Q:SortKind->Shared->Prop},Q κ s->wpAny (model X.prog X.w) A (keyKind' (T.map (·.1)).toArray) Q Er s
 ha:∀{A:Around}{Er:Value->Shared->Prop}{s:Shared},Inv X aa U H s->∀{v w y z a b},XZ y v->XZ z w->G y a->G z b->A.units+c<cLine->∀{Q:Bool->Shared->Prop},Q (lt a b) s->wpAny (model X.prog X.w) A (keyLt' κ v w) Q Er s
theorem ER (d:B){Er:Value->Shared->Prop}{as:List B}{R:Addr->Shared->Prop}(I:Inv X aa U H s)(rv:X9 ys its)(hp:Paired G ys as)(dM:as.Nodup)(eZ:as.length<64)(OL:OrdT lt)(hu:A.units+(c+1)<cLine)(Bqz:Sb X aa U H κ lt G c)
  (q:∀zs s',Inv X aa U (upd H s.heap.objs.size (.lst zs)) s'->H s.heap.objs.size=none->(zs.zip (Ze lt as)).Perm (ys.zip as)->zs.length=as.length->R s.heap.objs.size s'):
  wpAny (model X.prog X.w) A (newList its >>= λl=>holding [l] (call (.builtin "list.sort") [l] []) >>= λ_=>ret l) (λfin s'=>∃ p,fin= .done (.ret (.ref p))/\R p s') Er s:=by
 obtain⟨hq,hk,ha⟩:=Bqz
 obtain⟨T,e1,e2,e3,hT⟩:=trG rv hp
 have ag:its.length=as.length:=by rw[←e1, ←e3,List.length_map,List.length_map]
 have huq:∀t u,t∈T->u∈T->t.1=u.1->t.2.2=u.2.2:=λt u ht hu' e=>hq I (hT t ht).1 (e▸(hT u hu').1) (hT t ht).2 (hT u hu').2
 refine wpAny_bind (wpAny_newList ?_ (by rw[ag,sizeLine_eq];omega))
 let g0:=s.heap.push (seqObj "list" its.toArray 0)
 have ie:g0.get? s.heap.objs.size=some (seqObj "list" its.toArray 0):=Heap.get?_push_size _ rfl
 have iH:∀b o,s.heap.get? b=some o->g0.get? b=some o:=λb o hb=>Heap.get?_push_of_some _ hb
 show wpAny _ _ _ _ _ {s with heap:=g0}
 have hne:∀{b o},s.heap.get? b=some o->b≠s.heap.objs.size:=λhb=>Nat.ne_of_lt (Heap.lt_size hb)
 have I2:Inv X aa U H {s with heap:=mid g0 s.heap.objs.size its,toks:=s.toks}:=I.kept λb o hb=>Ss (hne hb) (iH b o hb)
 have hitm:∀v,v∈its->∃t,t∈T/\t.1=v:=λv hv=>by rw[←e1] at hv;exact List.mem_map.mp hv
 have key:∀{st:SortSt}{i:Nat},SB κ (pairsOf its) st->i<(pairsOf its).size->∃t p,t∈T/\(arrOf st)[i]?=some (t.1,p)/\kp (kfG d T) d (arrOf st) i=t.2.2:=fun {st i} Bqz hi=>by
  have cL:i<(arrOf st).size:=by rw[Bqz.size];exact hi
  have hm:(arrOf st)[i]∈(pairsOf its).toList:=(Array.perm_iff_toList_perm.mp Bqz.perm).mem_iff.mp (by simp)
  rw[pairsOf_toList] at hm
  obtain⟨t,ht,e⟩:=hitm _ (mem_zip_self hm).2
  have eg:(arrOf st)[i]?=some (arrOf st)[i]:=getElem?_pos _ i cL
  refine⟨t,(arrOf st)[i].2,ht,by rw[eg,e],?_⟩
  unfold kp
  rw[eg,Option.map_some,Option.getD_some, ←e]
  exact IG huq ht
 have f8:∀{st:SortSt},SB κ (pairsOf its) st->((arrOf st).toList.map λp=>kfG d T p.1).Perm as:=fun {st} Bqz=>by
  have h1:(arrOf st).toList.Perm (its.zip its):=by rw[←pairsOf_toList];exact Array.perm_iff_toList_perm.mp Bqz.perm
  have h2:=h1.map λp=>kfG d T p.1
  have h3:(its.zip its).map (λp=>kfG d T p.1)=as:=by
   have:(its.zip its).map (λp=>kfG d T p.1)=((its.zip its).map Prod.fst).map (kfG d T):=by rw[List.map_map];rfl
   rw[this,List.map_fst_zip (Nat.le_refl _), ←e1, ←e3,List.map_map]
   exact List.map_congr_left λt ht=>IG huq ht
  rwa [h3] at h2
 have kat:∀{st:SortSt}{i:Nat} (hi:i<(arrOf st).size),kp (kfG d T) d (arrOf st) i=((arrOf st).toList.map λp=>kfG d T p.1)[i]'(by simpa using hi):=fun {st i} hi=>by
  unfold kp
  rw[getElem?_pos (arrOf st) i hi]
  simp
 have LK:∀(A:Around) (Er:Value->Shared->Prop),A.units+c<cLine->Asks X.prog X.w A Er {s with heap:=mid g0 s.heap.objs.size its} κ lt (kfG d T) d (pairsOf its):=λA Er hA=>{
  irr:=OL.irr
  tr:=OL.tr
  ask:=fun {st i j Q} Bqz hi hj qq=>by
   obtain⟨t,p,ht,et,kt⟩:=key Bqz hi
   obtain⟨t',p',ht',et',kt'⟩:=key Bqz hj
   rw[kt,kt'] at qq
   rw[ltAt'_eq]
   refine wpS_bind (wpS_get ?_)
   show wpS _ _ _ _ (elem' (arrOf st) i >>= λx=>elem' (arrOf st) j >>= λy=>lt' x y) Q st
   rw[elem'_eq,elem'_eq,et,et']
   refine wpS_bind (wpS_pure (wpS_bind (wpS_pure ?_)))
   rw[lt'_eq]
   refine wpS_bind (wpS_get ?_)
   rw[Bqz.kind]
   exact wpS_bind (wpS_lift (wpAny_attempt (ha I2 (hT t ht).1 (hT t' ht').1 (hT t ht).2 (hT t' ht').2 hA ⟨rfl,wpS_pure qq⟩)))
  two:=fun {st i j} Bqz hi hj hne=>by
   have cL:i<(arrOf st).size:=by rw[Bqz.size];exact hi
   have cu:j<(arrOf st).size:=by rw[Bqz.size];exact hj
   rw[kat cL,kat cu]
   refine OL.tot λe=>hne ?_
   have hN:=(f8 Bqz).nodup_iff.mpr dM
   have hP:=List.pairwise_iff_getElem.mp hN
   rcases Nat.lt_trichotomy i j with z |z |z
   ·exact absurd e (hP i j (by simpa using cL) (by simpa using cu) z)
   ·exact z
   ·exact absurd e.symm (hP j i (by simpa using cu) (by simpa using cL) z)}
 refine wpAny_bind (wpAny_holding (wpAny_call_entry slot_list_sort ⟨_,ie,rfl⟩ entry_list_sort (RW ie (by omega) (λh2 _ hq=>by have:=hk (A:=A.in1) (Er:=Er) I2 T hT (by rw[←List.length_map (f:=(·.1)),e1];exact h2) hq;rw[e1] at this;exact this) (LK _ _ (by rw[ZD];omega)) λout hp hr=>⟨_,rfl,wpAny_pure ⟨_,rfl,?_⟩⟩) (args_list_sort _)))
 have hpl:out.toList.Perm (its.zip its):=by rw[←pairsOf_toList];exact Array.perm_iff_toList_perm.mp hp
 have iI:∀p∈out.toList,p.1=p.2:=λp iC=>(mem_zip_self (hpl.mem_iff.mp iC)).1
 have iJ:out.toList.map (·.1)=(out.map (·.2)).toList:=by
  rw[Array.toList_map];exact List.map_congr_left λp iC=>iI p iC
 have iK:((out.map (·.2)).toList).Perm its:=by
  have:=hpl.map Prod.fst
  rw[List.map_fst_zip (Nat.le_refl _)] at this
  rw[←iJ];exact this
 obtain⟨T',iL,eT'⟩:=Lf iK (l:=T) (f:=(·.1)) e1.symm
 have d8:T'.map (·.2.2)=out.toList.map λp=>kfG d T p.1:=by
  have h1:T'.map (·.2.2)=(T'.map (·.1)).map (kfG d T):=by
   rw[List.map_map];exact List.map_congr_left λt ht=>(IG huq (iL.mem_iff.mp ht)).symm
  rw[h1,eT', ←iJ,List.map_map];rfl
 have hol:out.size=its.length:=by have:=hp.size_eq;rwa [pairsOf_size] at this
 have iM:T'.map (·.2.2)=Ze lt as:=by
  refine Kt OL dM (by rw[←e3];exact iL.map _) ?_
  rw[d8,List.pairwise_iff_getElem]
  intro i j hi hj b9
  have cL:i<out.size:=by simpa using hi
  have cu:j<out.size:=by simpa using hj
  have:=hr i j b9 (by omega)
  unfold kp at this
  rw[getElem?_pos out i cL,getElem?_pos out j cu] at this
  simpa using this
 have vv:∀{Uqz:List (Value×V×B)},(∀t∈Uqz,XZ t.2.1 t.1)->X9 (Uqz.map (·.2.1)) (Uqz.map (·.1)):=fun {Uqz}=>by
  induction Uqz with
  |nil=>intro _;exact .nil
  |cons t Uqz ih=>intro h;exact .cons (h t List.mem_cons_self) (ih λu hu'=>h u (List.mem_cons_of_mem _ hu'))
 obtain⟨e,he⟩:=sortedHeap_at (out:=out.map (·.2)) ie
 have dL:H s.heap.objs.size=none:=I.hok.fresh (Nat.le_refl _)
 have hvv:X9 (T'.map (·.2.1)) (out.map (·.2)).toList:=by rw[←eT'];exact vv λt ht=>(hT t (iL.mem_iff.mp ht)).1
 have gT:(T'.map (·.2.1)).length=as.length:=by rw[List.length_map,iL.length_eq, ←e3,List.length_map]
 refine q (T'.map (·.2.1)) _ (I.laid (t':=s.toks) (λb o e=>?_) (Nat.le_refl _) (show YG X.prog X.w _ _ _ (.lst (T'.map (·.2.1))) from⟨?_,(Array.map (λp:Keyed=>p.2) out).toList,e,hvv,he⟩)) dL ?_ gT
 ·exact L2.Vi (hne e) (iH _ _ e)
 ·rw[gT,sizeLine_eq];omega
 ·rw[←iM, ←e2]
  have:(T'.map (·.2.1)).zip (T'.map (·.2.2))=T'.map λt=>(t.2.1,t.2.2):=by
   rw[List.zip_map']
  rw[this]
  exact iL.map _
theorem CJ {G:Hp->V->B->Prop}{c:Nat}(d:B)(OL:OrdT lt)(hu:X.A.units+(c+2)<cLine)(Bqz:∀aa U H,Sb X aa U H κ lt (G H) c):ZX X (.builtin "sorted") (λxs H Q=>∃ l ys as,xs=[.ref l]/\SqL X.K H l ys/\Paired (G H) ys as/\as.Nodup/\as.length<64/\∀p zs,H p=none->(zs.zip (Ze lt as)).Perm (ys.zip as)->zs.length=as.length->Q (.ref p) (upd H p (.lst zs))):=by
 intro aa s U H xs us Q I rr h
 obtain⟨l,ys,as,rfl,hq,hp,dM,eZ,q⟩:=h
 obtain⟨u,rfl,ru⟩:=Vg rr
 cases ru
 obtain⟨its,rv,pl,hz⟩:=I.list hq
 have ag:its.length=as.length:=by rw[←Paired.len hp];exact rv.length.symm
 refine Calls.call_function_entry kind_sorted plain_sorted entry_sorted (args_sorted1 _) ?_
 unfold Builtin.«sorted»
 refine wpAny_bind (m:=checkCount "sorted" 1 1 _) (wpAny_pure (wpAny_bind (collect_list pl.isList ?_ (by rw[ag,sizeLine_eq];omega))))
 have I1:Inv X aa U H {s with heap:=(s.heap.push (seqObj "list" #[] 0)).update s.heap.objs.size (Obj.mapSeq (· ++its.toArray)),toks:=s.toks}:=I.kept λb o hb=>by
  have ap:=Heap.lt_size hb
  rw[Heap.get?_update_ne _ _ _ _ (Nat.ne_of_lt ap),Heap.get?_push_ne _ _ _ (Nat.ne_of_lt ap)]
  exact hb
 refine wpAny_mono (ER d (A:=X.A.in1) I1 rv hp dM eZ OL (by rw[ZD];omega) (Bqz aa U H) (R:=λp s'=>EP X aa U Q (.ref p) s') λzs s' I' hf eK gT=>⟨.ref _,_,I',rfl,q _ zs hf eK gT⟩) (λfin s' r9=>?_) λ_ _ x=>x
 obtain⟨p,e,r⟩:=r9
 subst e
 exact⟨_,rfl,r⟩
end
section
variable [DecidableEq L]{r:Enc L}{lt:L->L->Bool}{d:Nat}
end
section
end
section
end
section
variable {u:TS}[fd:FdOk Fd]
end
section
variable {u:TS}
def Wo (K:W.Frag)(o:OE ρ)(Cf:List XG)(Q:VK)(b:ρ)(h:Hp):Prop:=∀ v C H',W [C++Cf] H'->Xu h (hid H' [C++Cf])->o K (hid H' [C++Cf]) v b C->Q v H'
def HB (K:W.Frag)(o:OE ρ)(k:Nat)(Cf:List XG)(D:Ends)(b:ρ)(h:Hp):Prop:=∀ v C OO' H',OO'[k]?=some Cf->W (C::OO') H'->Xu h (hid H' (C::OO'))->o K (hid H' (C::OO')) v b C->D.rt v H'
instance {o:OE ρ}{k:Nat}{Cf:List XG}:FdOk (HB K o k Cf):=⟨λD b h h' s q v C O H' e w m x=>q v C O H' e w (s.trans m) x⟩
def Ap (r1:Enc α1)(r2:Enc α2)(o:OE ρ)(f:α1->α2->Rs ρ)(K:W.Frag):Sp:=λvs H Q _=>∃ v1 v2 a1 a2 b,vs=[v1,v2]/\∃Cf,W [Cf] H/\r1 K (hid H [Cf]) v1 a1/\r2 K (hid H [Cf]) v2 a2/\f a1 a2= .ok b/\Wo K o Cf Q b (hid H [Cf])
theorem Q0 {o:OE ρ}{m:Rs ρ}(k:Nat)(hk:OO'[k]?=some Cf)(he:Ev K Er S OO OO' U te o m):Sv Er S OO U (Zn (Ww te) u) (HB K o k Cf) m:=λH D w s P=>
 he H _ w s (by
  cases m with
  |bad=>exact P
  |err x=>exact λH' s'=>P H' (Xv.trans s')
  |ok a=>exact λv C H' s' w' m' ho=>P v C OO' H' hk w' m' ho)
theorem Oo {o:OE ρ}[zo:MonoO o]{m:Rs ρ}{Q:VK}{b:ρ}(n:Nat)(h:Sv (λ_ _=>False) S (List.replicate n []++[Cf]) U t (HB K o n Cf) m)(w:W [Cf] H)(hs:S.p (hid H [Cf]))(hm:m= .ok b)(qf:Wo K o Cf Q b (hid H [Cf]))(hD:D.rt=Q):t D U H:=by
 have pe:(List.replicate n ([]:List XG)++[Cf]).flatten.Perm [Cf].flatten:=by
  rw[List.flatten_append,Yh,List.nil_append]
 refine h H D (w.of pe) (by rw[XM pe];exact hs) ?_
 subst hm
 rw[XM pe]
 intro v C OO' H' hk w' m' ho
 rw[hD]
 have hp:=XQ hk
 have wk:W (C::Cf::OO'.set n []) H':=w'.of (by rw[List.flatten_cons,List.flatten_cons (l:=C)];exact hp.append_left C)
 have eh:hid H' (C::OO')=hid H' (C::Cf::OO'.set n []):=(XM (by rw[List.flatten_cons,List.flatten_cons (l:=C)];exact hp.append_left C)).symm
 have ar:Xu (hid H' (C::OO')) (hid H' [C++Cf]):=by
  rw[eh]
  exact Qv (Xu.refl _) λb hb=>by
   rw[XS,XS, ←List.append_assoc]
   refine List.mem_append_left _ ?_
   simpa[fl] using hb
 exact qf v C H' (wk.sub (by simp)) (m'.trans ar) (zo.mono ar ho)
theorem TD {o:OE ρ}{Q:VK}{b:ρ}(w:W OO H)(P:FO K OO OO o Q b H):Wo K o OO.flatten Q b (hid H OO):=λv C H' w' m' ho=>by
 have e1:([C++OO.flatten]:List (List XG)).flatten=(C::OO).flatten:=by simp
 have e2:hid H' [C++OO.flatten]=hid H' (C::OO):=by unfold hid fl;rw[e1]
 rw[e2] at m' ho
 have w2:W (C::OO) H':=w'.of (by rw[e1])
 refine P v C H' (λx ob hx=>?_) w2 m' ho
 by_cases hb:x∈fl OO
 ·obtain⟨oo,hoo⟩:=HZ hb
  have h1:=w.tr _ hoo
  rw[hx] at h1
  cases h1
  exact w2.tail.tr _ hoo
 ·exact(X5 (m' _ _ (Zr hx hb))).1
theorem C0:hid H [OO.flatten]=hid H OO:=by unfold hid fl;rw[show([OO.flatten]:List (List XG)).flatten=OO.flatten by simp]
theorem W.one (w:W OO H):W [OO.flatten] H:=w.of (by simp)
theorem MW [z1:MonoE r1][MonoE r2]{o:OE ρ}{f:α1->α2->Rs ρ}{ma:Rs α1}{mb:Rs α2}(ha:EvS K Er S OO U ta r1 ma)(hb:EvS K Er S OO U tb r2 mb):
  Ev K Er S OO OO U (Qy (Ap r1 r2 o f K) [] E0 (Xr ta (Xr tb YE))) o (ma.bind λa=>mb.bind λb=>noE (f a b)):=λH Q w s P=>
 ha.run w s FO.tr P λa x H1 s1 w1 q1 r1 P1=>hb.run w1 q1 FO.tr P1 λb y H2 s2 w2 q2 r2 P2=>by
  obtain⟨c,hc,P3⟩:=P2.okOf λx=>FG
  exact⟨x,y,a,b,c,rfl,OO.flatten,w2.one,by rw[C0];exact z1.mono (Xh s2) r1,by rw[C0];exact r2,Fy hc,by rw[C0];exact TD w2 P3⟩
end
section
variable [fd:FdOk Fd]{u:TS}
end
section
end
section
end
section
end
section
variable {lt:M->M->Bool}{d:Nat}
end
section
end
section
variable {s0:Shared}
end
section
end
section
variable {E:XK}
end
section
variable {o:Expr}{to:TE}{t:TA}{name:Str}{aJ am:Pos}{id:String}{r:V->List V->Hp->VK->Prop}
end
section
end
section
variable [fd:FdOk Fd]{u:TS}
theorem R0 {q:Enc B}[z:MonoE r][y:MonoE q][MonoE t]{ma:Rs M}{mb:Rs B}{mc:Rs δ}{f:M->B->δ->Rs L}(i j k:Nat)(ha:EvS K Er S OO U ta r ma)(hb:EvS K Er S OO U tb q mb)(hc:EvS K Er S OO U tc t mc)
  (hr:∀a b c v w x,Sv Er (((S.add K r v a).add K q w b).add K t x c) OO (((U.set i (some v)).set j (some w)).set k (some x)) u Fd (f a b c)):Sv Er S OO U (Zn (Sa i j k (Xr ta (Xr tb (Xr tc YE)))) u) Fd (ma.bind λa=>mb.bind λb=>mc.bind λc=>f a b c):=λH D w s P=>
 ha.st w s P λa v1 H1 s1 w1 q1 r1 P1=>hb.st w1 q1 P1 λb v2 H2 s2 w2 q2 r2 P2=>hc.st w2 q2 P2 λc v3 H3 s3 w3 q3 r3 P3=>
  ⟨v1,v2,v3,rfl,hr a b c v1 v2 v3 H3 D w3 ⟨⟨⟨q3,z.mono (Xh s3) (z.mono (Xh s2) r1)⟩,y.mono (Xh s3) r2⟩,r3⟩ P3⟩
end
end L2
namespace HT
open PySem PySem.Spec PyProof PyProof.Rows
section
end
end HT
namespace L2
open PySem PySem.Spec PyProof.Rows
section
end
section
end
section
variable [fd:FdOk Fd]{u:TS}
theorem Ep [MonoE r]{a:Option M}(h:∀x,S.p x->LP r K x v a)(hr:∀b,Sv Er (S.add K r v b) OO U u Fd (f b)):Sv Er S OO U u Fd ((Nh a).bind f):=λH D w s P=>by
 cases a with
 |none=>exact P.elim
 |some b=>exact hr b H D w ⟨s,(h _ s).2⟩ P
end
section
variable {E:XK}{u:TS}
end
section
def ltP (a b:Int×Int):Bool:=if a.1=b.1 then decide (a.2<b.2) else decide (a.1<b.1)
theorem Gh:OrdT ltP:=⟨⟨λa=>by simp[ltP],fun {a b c} h1 h2=>by
 unfold ltP at*
 split at h1<;> split at h2<;> split<;> simp only[decide_eq_true_eq] at* <;> omega⟩,fun {a b} h=>by
 unfold ltP
 by_cases e:a.1=b.1
 ·rw[if_pos e,if_pos e.symm,decide_eq_true_eq,decide_eq_true_eq]
  have:a.2≠b.2:=λz=>h (Prod.ext e z)
  omega
 ·rw[if_neg e,if_neg (Ne.symm e),decide_eq_true_eq,decide_eq_true_eq];omega⟩
theorem Lc {x y:V}(h:X9 [x,y] us):∃a b,us=[a,b]/\XZ x a/\XZ y b:=by
 cases h with
 |cons a b=>cases b with
  |cons c d=>cases d with
   |nil=>exact⟨_,_,rfl,a,c⟩
def OF (K:W.Frag):List V->Hp->VK->Prop:=λxs H Q=>∃ l ys,∃as:QPs,xs=[.ref l]/\SqL K H l ys/\Paired (rP2 Xf Xf K H) ys as/\as.Nodup/\as.length<64/\
 ∀p zs,H p=none->(zs.zip (Ze ltP as)).Perm (ys.zip as)->zs.length=as.length->Q (.ref p) (upd H p (.lst zs))
theorem AC (I:Inv X aa U H s):∀(T:List (Value×V×Int×Int)),(∀t∈T,XZ t.2.1 t.1/\rP2 Xf Xf X.K H t.2.1 t.2.2)->∃fs,PySem.W.KatTups s.heap (T.map (·.1)) fs/\fs.length=T.length/\∀v∈fs,∃i t,v= .int i t
 | [],_=>⟨[], .nil,rfl,λv h=>nomatch h⟩
 |t::T,h=>by
  obtain⟨fs,k1,k2,k3⟩:=AC I T λu hu=>h u (List.mem_cons_of_mem _ hu)
  obtain⟨r1,a,x,y,w1,m1,h1,h2⟩:=h t List.mem_cons_self
  rw[w1] at r1
  have iN:t.1= .ref a:=r1
  obtain⟨its,rv,⟨o,g1,c1,n,d1⟩,_⟩:=I.tuple (SqT.of m1)
  have e1:x= .int t.2.2.1:=h1
  subst e1
  obtain⟨u1,us,rfl,⟨tk,e2⟩,rr⟩:∃u1 us,its=u1::us/\XZ (.int t.2.2.1) u1/\X9 [y] us:=by
   cases rv with
   |cons a b=>exact⟨_,_,rfl,a,b⟩
  refine⟨u1::fs,?_,by simp[k2],λv hv=>?_⟩
  ·rw[List.map_cons,iN]
   exact .cons g1 c1 d1 (by simp) k1
  ·rcases List.mem_cons.mp hv with z |z
   ·exact⟨_,_,z.trans e2⟩
   ·exact k3 v z
theorem Am:Sb X aa U H (tuples' true) ltP (rP2 Xf Xf X.K H) 1 where
 hq:=fun {s} I {v y z a b} r1 r2 l1 l2=>by
  obtain⟨b1,x1,y1,w1,m1⟩:=id l1
  obtain⟨b2,x2,y2,w2,m2⟩:=id l2
  rw[w1] at r1 l1
  rw[w2] at r2 l2
  have iN:v= .ref b1:=r1
  have r2':v= .ref b2:=r2
  rw[iN] at r2'
  cases r2'
  exact(Ea eq_int eq_int).uniq I l1 l2
 hk:=fun {A Er s} I T hT h2 Q q=>by
  obtain⟨fs,k1,k2,k3⟩:=AC I T hT
  refine PySem.W.kat_kind (T:=.type "int") k1 (by rw[k2];omega) (λv hv=>?_) rfl q
  obtain⟨i,t,rfl⟩:=k3 v hv
  exact .now
 ha:=fun {A Er s} I {v w y z a b} r1 r2 l1 l2 hA Q qq=>by
  obtain⟨a1,x1,y1,v1,m1,eN,hy1⟩:=l1
  obtain⟨a2,x2,y2,v2,m2,cV,hy2⟩:=l2
  rw[v1] at r1
  rw[v2] at r2
  have iN:v= .ref a1:=r1
  have r2':w= .ref a2:=r2
  obtain⟨is1,rv1,⟨o1,g1,_,n1,d1⟩,_⟩:=I.tuple (SqT.of m1)
  obtain⟨is2,iO,⟨o2,g2,_,n2,d2⟩,_⟩:=I.tuple (SqT.of m2)
  rw[show x1=V.int a.1 from eN,show y1=V.int a.2 from hy1] at rv1
  rw[show x2=V.int b.1 from cV,show y2=V.int b.2 from hy2] at iO
  obtain⟨p1,p2,rfl,q1,q2⟩:=Lc rv1
  obtain⟨p3,p4,rfl,q3,q4⟩:=Lc iO
  rw[iN,r2']
  refine PySem.W.kat_lt g1 d1 g2 d2 ?_
  show PySem.W.KatLex _ _ _ true _ _ [(p1,p3),(p2,p4)] 0 _
  refine PySem.W.kat_cons (eq_int.eq (A:=A) I q1 q3 rfl rfl (by omega) _ _ _ _ ?_)
  refine PySem.W.kat_go (λz=>PySem.W.kat_yes (PySem.W.kat_cons (eq_int.eq (A:=A) I q2 q4 rfl rfl (by omega) _ _ _ _ (PySem.W.kat_go (λy=>PySem.W.kat_yes (PySem.W.kat_nil ?_)) λy=>PySem.W.kat_no (PySem.W.kat_one _ _ ?_))))) λz=>PySem.W.kat_no ?_
  ·have z:=of_decide_eq_true z
   have y:=of_decide_eq_true y
   unfold ltP at qq
   rwa [if_pos z,decide_eq_false (by omega)] at qq
  ·have z:=of_decide_eq_true z
   have y:=of_decide_eq_false y
   unfold ltP at qq
   rw[if_pos z] at qq
   exact lt_int.at' (A:=A) I q2 q4 rfl rfl (by omega) _ _ _ _ qq
  ·have z:=of_decide_eq_false z
   unfold ltP at qq
   rw[if_neg z] at qq
   obtain⟨tk1,rfl⟩:=q1
   obtain⟨tk3,rfl⟩:=q3
   exact oneLt_int qq
theorem JD (K:W.Frag)(hK:X.K=K)(hu:X.A.units+4<cLine):ZX X (.builtin "sorted") (OF K):=by
 subst hK
 exact CJ (G:=λH=>rP2 Xf Xf X.K H) (0,0) Gh (by omega) λ_ _ _=>Am
end
section
theorem Tf {l sl:Addr}{items ys:List Value}{vl vu:Value}{lo hi:Option Int}{Q:Unit->Shared->Prop}(hl:s.heap.get? l=some {cls:=.type "list",data:=.seq items.toArray n})
  (hs:s.heap.IsSliceOf sl vl vu .none)(pl:IsPart vl lo)(pu:IsPart vu hi)(hb:s.heap.IsList b ys.toArray)(hne:l≠b)(hz:items.length+ys.length<=sizeLine)
  (h:Q () {s with heap:=s.heap.update l (Obj.mapSeq λxs=>xs.extract 0 (HT.sIx items.length 0 lo)++ys.toArray++xs.extract (max (HT.sIx items.length 0 lo) (HT.sIx items.length items.length hi)) xs.size)}):
  wpAny (model prog w) A (setItem (.ref l) (.ref sl) (.ref b)) Q E s:=by
 have hL:s.heap.IsList l items.toArray:=PySem.IsL.isList (n:=n) hl
 obtain⟨ob,hob,hbc,nb,hbd⟩:=id hb
 obtain⟨os,d6,eY,fC⟩:=id hs
 have hTs:s.TypeIs (.ref sl) "slice":=⟨os,d6,eY⟩
 unfold setItem
 try with_reducible refine wpAny_holding ?_
 first |refine wpAny_bind (wpAny_pure ?_) |skip
 refine wpAny_bind (wpAny_sequenceKey hL.typeIs (by decide) ?_)
 refine wpAny_bind (wpAny_callSpecial?_slot (name:=Str.ofString "__setitem__") hL.typeIs slot_list_setitem
  (wpAny_call_entry slot_list_setitem hL.typeIs entry_list_setitem ?_ (args_list_setitem _ _ _)))
 show wpAny _ _ (Builtin.List.listSubscript? (.ref sl) >>= _) _ _ s
 refine wpAny_bind ?_
 unfold Builtin.List.listSubscript?
 refine wpAny_bind (wpAny_specialOf hTs slice_no_index ?_)
 simp only[Option.isNone_none,if_true]
 refine wpAny_pure ?_
 show wpAny _ _ (typeOf (.ref sl) >>= _) _ _ s
 refine wpAny_bind (wpAny_typeOf hTs ?_)
 rw[if_neg (by decide)]
 rw[listSliceParts_eq]
 refine wpAny_bind (wpAny_bind (wpAny_field d6 fC (x:=.none) rfl (wpAny_bind (wpAny_listPart .none ?_))))
 rw[if_neg (show ¬((rawPart none==rawInt 0)=true) from Bool.false_ne_true)]
 refine wpAny_bind (wpAny_field d6 fC (x:=vl) rfl (wpAny_bind (wpAny_listPart pl ?_)))
 refine wpAny_bind (wpAny_field d6 fC (x:=vu) rfl (wpAny_bind (wpAny_listPart pu (wpAny_pure ?_))))
 dsimp only
 rw[if_neg (by
  have:(l==b)=false:=by rw[beq_eq_false_iff_ne];exact hne
  simp[Builtin.List.listSameRef,this])]
 unfold Builtin.List.listAllItems
 refine wpAny_bind (wpAny_bind (wpAny_typeOf hb.typeIs ?_))
 rw[if_pos (by decide)]
 unfold Builtin.List.listItems
 refine wpAny_bind (wpAny_seqItems hob hbd (wpAny_pure ?_))
 refine wpAny_bind (wpAny_bind (wpAny_seqItems hl rfl (wpAny_pure ?_)))
 obtain⟨b1,b2,b3⟩:=U6 lo hi items.length
 refine wpAny_bind (wpAny_of_eq ((sliceIndices_raw lo hi none items.toArray.size (by simp)).trans (congrArg (pure:Int×Int×Int->Sem (Int×Int×Int)) (show sliceBounds lo hi none items.toArray.size=(((HT.sIx items.length 0 lo:Nat):Int),((HT.sIx items.length items.length hi:Nat):Int),1) by rw[List.size_toArray];exact Prod.ext b1 (Prod.ext b2 b3)))) ?_)
 show wpAny _ _ (if((1:Int)==1)=true then _ else _) _ _ s
 rw[if_pos (by decide)]
 refine wpAny_bind (wpAny_rule ?_)
 have hsz:items.toArray.size+ys.toArray.size<=sizeLine:=by rw[List.size_toArray,List.size_toArray];exact hz
 first
  |simp only[KH hsz,Bool.false_eq_true,if_false]
  |refine PySem.W.KFB.if_not (KH hsz) ?_
 first |refine wpAny_bind (wpAny_pure ?_) |skip
 have hmax:(max ((HT.sIx items.length 0 lo:Nat):Int) ((HT.sIx items.length items.length hi:Nat):Int)).toNat=max (HT.sIx items.length 0 lo) (HT.sIx items.length items.length hi):=by omega
 show wpAny _ _ (updateSeq l (λxs=>xs.extract 0 (((HT.sIx items.length 0 lo:Nat):Int)).toNat++ys.toArray++xs.extract (max ((HT.sIx items.length 0 lo:Nat):Int) ((HT.sIx items.length items.length hi:Nat):Int)).toNat xs.size) >>= _) _ _ s
 rw[hmax,Int.toNat_natCast]
 refine wpAny_bind (wpAny_updateSeq (hz:=Nat.le_trans (Nat.le_add_right _ _) hsz) (_hz':=by
  simp only[Array.size_append,Array.size_extract,List.size_toArray]
  have:HT.sIx items.length 0 lo<=items.length:=HT.sIx_le _ _ (Nat.zero_le _) lo
  omega) hl rfl ?_)
 refine wpAny_bind (wpAny_letGo ?_)
 first
  |exact wpAny_bind (wpAny_pure (wpAny_pure ⟨.none,rfl,wpAny_pure h⟩))
  |exact wpAny_pure ⟨.none,rfl,wpAny_pure h⟩
end
def spl (xs:List M)(lo hi:Option Int)(ys:List M):List M:=xs.take (HT.sIx xs.length 0 lo)++ys++xs.drop (max (HT.sIx xs.length 0 lo) (HT.sIx xs.length xs.length hi))
section
variable {o:Expr}{lo hi:Option Expr}{p2:Pos}{to:TE}{tl th:TO}
def gSl (to:TE)(tl th:TO):TG:=λv U H Q=>to U H λx H1=>tl U H1 λl H2=>th U H2 λu H3=>∃ p xs b ys,x= .ref p/\v= .ref b/\H3 p=some (.lst xs)/\H3 b=some (.lst ys)/\p≠b/\xs.length+ys.length<=sizeLine/\Q U (upd H3 p (.lst (spl xs l u ys)))
theorem WI (ho:PE X o to)(hl:PO X lo tl)(hu:PO X hi th)
  (ha:∀v,assign (.Subscript o (.Slice lo hi none p2) pos) X.env v=(do
   let ov ←holding [v] (eval o X.env)
   let iv ←holding [v,ov] (eval (.Slice lo hi none p2) X.env)
   standAt pos
   holding [v,ov,iv] (setItem ov iv v)
   release [iv,v,ov] []):=by intro _;rfl):PG X (.Subscript o (.Slice lo hi none p2) pos) (gSl to tl th):=by
 intro aa s U H v u Q I r h
 rw[ha]
 refine wpAny_bind (wpAny_holding (thn (ho aa s U H _ I h) λov s1 r9=>?_))
 obtain⟨x,H1,I1,r1,q1⟩:=r9
 refine wpAny_bind (wpAny_holding (wpAny_Slice (thn (hl aa s1 U H1 _ I1 q1) λvl s2 ⟨l,H2,I2,pl,q2⟩=>thn (hu aa s2 U H2 _ I2 q2) λvu s3 r9=>?_)))
 obtain⟨u',H3,I3,pu,q3⟩:=r9
 rw[evalPart_none]
 refine wpAny_pure ?_
 have I4:Inv X aa U H3 {s3 with heap:=s3.heap.push {cls:=.type "slice",data:=.fields #[vl,vu, .none]}}:=I3.kept (t':=s3.toks) λb ob q=>Heap.get?_push_of_some _ q
 obtain⟨p,xs,b,ys,rfl,rfl,e1,e2,hne,hz,q⟩:=q3
 cases r1
 cases r
 obtain⟨its,n,rv,g1,z1⟩:=I4.lst e1
 obtain⟨aB,n2,iO,g2,z2⟩:=I4.lst e2
 have l1:=rv.length
 have l2:=iO.length
 refine wpAny_bind (wpAny_standAt (wpAny_bind (wpAny_holding (Tf g1 (Heap.IsSliceOf.new ..) pl pu (PySem.IsL.isList (n:=n2) g2) hne (by omega) ?_))))
 refine wpAny_release ⟨U,_,?_,q⟩
 rw[←l1]
 refine I4.lset (t':=s3.toks) (its':=its.take (HT.sIx xs.length 0 l)++aB++its.drop (max (HT.sIx xs.length 0 l) (HT.sIx xs.length xs.length u'))) e1 g1 (IF its aB _ _) ?_ ?_
 ·exact X9.append (X9.append (rv.take _) iO) (rv.drop _)
 ·unfold spl
  rw[List.length_append,List.length_append,List.length_take,List.length_drop]
  have:HT.sIx xs.length 0 l<=xs.length:=HT.sIx_le _ _ (Nat.zero_le _) l
  omega
end
section
variable {G:Hp}
def H9 (H G:Hp):Hp:=λb=>match G b with
 |some o=>some o
 |none=>H b
theorem CK {o:HO}(h:G b=some o):H9 H G b=some o:=by unfold H9;rw[h]
theorem V0 (h:G b=none):H9 H G b=H b:=by unfold H9;rw[h]
theorem Inv.laidG {t':Nat}(I:Inv X aa U H s)(k:∀b u,s.heap.get? b=some u->h'.get? b=some u)(hp:∀a o,G a=some o->s.heap.objs.size<=a)(new:∀a o,G a=some o->YG X.prog X.w (H9 H G) h' a o):
  Inv X aa U (H9 H G) {s with heap:=h',toks:=t'}:=by
 have bR:∀b u,H b=some u->H9 H G b=some u:=λb u e=>by
  cases hg:G b with
  |none=>rw[V0 hg];exact e
  |some o=>have:=I.hok.fresh (hp b o hg);rw[this] at e;cases e
 have oldN:∀b,b<s.heap.objs.size->H9 H G b=H b:=λb hb=>by
  cases hg:G b with
  |none=>exact V0 hg
  |some o=>have:=hp b o hg;omega
 refine I.un ⟨λb u q _ _ _=>k b u q,λb u q _ _ _=>⟨u.slots,k b u q⟩,λb u q n _=>by rw[oldN b (Heap.lt_size q)];exact n,λb u q _=>⟨u,k b u q⟩,λb xs q=>bR b _ q,λb u xs q=>bR b _ q,λb ps q=>⟨#[],by rw[bR b _ q];simp⟩⟩ λb u e=>?_
 cases hg:G b with
 |some o=>rw[CK hg] at e;cases e;exact new b _ hg
 |none=>
  rw[V0 hg] at e
  exact(I.hok b u e).stay (λc v _ q=>k c v q) (λc q=>bR c _ q) λc xs q=>bR c _ q
theorem K1 {R:M->L->Prop}:∀{xs:List M}{ys:List L},xs.length=ys.length->(∀(j:Nat) x y,xs[j]?=some x->ys[j]?=some y->R x y)->Paired R xs ys
 | [],[],_,_=>.nil
 | [],_::_,h,_=>by simp at h
 |_::_,[],h,_=>by simp at h
 |x::xs,y::ys,h,r=>.cons (r 0 x y rfl rfl) (K1 (by simpa using h) λj a b ha hb=>r (j+1) a b (by simpa using ha) (by simpa using hb))
theorem Hy {R:M->L->Prop}{xs:List M}(h:Paired R xs ys):∀{p:M×L},p∈xs.zip ys->R p.1 p.2:=by
 induction h with
 |nil=>intro p hp;simp at hp
 |cons r _ ih=>
  intro p hp
  rw[List.zip_cons_cons] at hp
  rcases List.mem_cons.mp hp with z |z
  ·rw[z];exact r
  ·exact ih z
theorem Fi {R:M->L->Prop}{as:List L}(hl:zs.length=bs.length)(hm:∀{p:M×L},p∈zs.zip bs↔p∈ys.zip as)(h:Paired R ys as):Paired R zs bs:=K1 hl λj x y hx hy=>by
 have:(x,y)∈zs.zip bs:=by
  rw[List.mem_iff_getElem?]
  exact⟨j,by rw[List.getElem?_zip_eq_some];exact⟨hx,hy⟩⟩
 exact Hy h (hm.mp this)
def OM (tl:TE)(K:W.Frag):TE:=λU H Q=>tl U H λx H1=>∃ l,∃d:QPs,x= .ref l/\H1 l=some (.dK (d.map λe=>(Sum.inl e.1,V.int e.2)))/\d.Nodup/\d.length<64/\
 ∀p H2 zs,Xu H1 H2->H1 p=none->H2 p=some (.lst zs)->Paired (rP2 Xf Xf K H2) zs (Ze ltP d)->Q (.ref p) H2
open Classical in
def MO (as:List Addr)(d:QPs):Hp:=λb=>if h:∃j:Nat,as[j]?=some b then(d[Classical.choose h]?).map λe=>HO.tup [.int e.1, .int e.2] else none
theorem PL {as:List Addr}{d:QPs}(hn:as.Nodup){e:Int×Int}(ha:as[j]?=some a)(he:d[j]?=some e):MO as d a=some (.tup [.int e.1, .int e.2]):=by
 have h:∃j:Nat,as[j]?=some a:=⟨j,ha⟩
 unfold MO
 rw[dif_pos h]
 have hs:=Classical.choose_spec h
 have:Classical.choose h=j:=by
  obtain⟨h1,e1⟩:=List.getElem?_eq_some_iff.mp hs
  obtain⟨h2,e2⟩:=List.getElem?_eq_some_iff.mp ha
  exact(List.getElem_inj hn).mp (e1.trans e2.symm)
 rw[this,he]
 rfl
theorem Dl {as:List Addr}{d:QPs}{o:HO}(h:MO as d a=some o):∃(j:Nat) (e:Int×Int),as[j]?=some a/\d[j]?=some e/\o= .tup [.int e.1, .int e.2]:=by
 unfold MO at h
 split at h
 ·rename_i hx
  have hs:=Classical.choose_spec hx
  obtain⟨e,he,rfl⟩:=Option.map_eq_some_iff.mp h
  exact⟨_,e,hs,he,rfl⟩
 ·cases h
theorem KV.dget {d:QPs}:∀{vs:List (Key×Value)},KV (d.map λe=>(Sum.inl e.1,V.int e.2)) vs->∀{j:Nat}{k:Key}{x:Value},vs[j]?=some (k,x)->∃e,d[j]?=some e/\k=Sum.inl e.1/\XZ (.int e.2) x:=by
 induction d with
 |nil=>intro vs h j k x e;cases h;simp at e
 |cons c d ih=>
  intro vs h j k x e
  cases h with
  |cons r t=>
   cases j with
   |zero=>
    have e:=Option.some.inj e
    subst e
    exact⟨c,rfl,r.1.symm,r.2⟩
   |succ j=>exact ih t (by simpa using e)
end
section
variable {l:Expr}{tl:TE}{npos aJ am:Pos}
theorem Ka (hc:X.calm=true)(hg:Gl X "sorted")(hm:X.mg "sorted" =none)(hl:PE X l tl)(hu:X.A.units+4<cLine)
  (eA:attributeBase l "items" X.env (eval l X.env)=eval l X.env:=by rfl)(eB:(aJ.endLine==am.line)=true:=by rfl)
  (he:starEach [.Call (.Attribute l "items" aJ) [] [] am] X.env=(false,eval (.Call (.Attribute l "items" aJ) [] [] am) X.env)::starEach [] X.env:=by rfl)(hpl:(backTo pos (starEach [] X.env)).any (·.1)=false:=by rfl):
  PE X (.Call (.Name "sorted" npos) [.Call (.Attribute l "items" aJ) [] [] am] [] pos) (OM tl X.K):=by
 intro aa s U H Q I h
 refine wpAny_Call_Name_kw (U9 I hg hm boot_sorted ?_ (by decide) (by decide))
 refine callWith_builtin1 ?_ he hpl
 rw[he]
 show wpAny _ _ (spliced ((false,eval (.Call (.Attribute l "items" aJ) [] [] am) X.env)::backTo pos (starEach [] X.env))) _ _ s
 refine Calls.spliced_cons ?_
 refine wpAny_Call_method0_late eA eB (thn (hl aa s U H _ I h) λv s1 r9=>?_)
 obtain⟨x,H1,I1,r1,q1⟩:=r9
 obtain⟨a,d,rfl,hd,dM,eZ,q⟩:=q1
 cases r1
 obtain⟨hz,hs,vs,bM,hm⟩:=(show YG X.prog X.w H1 s1.heap a (.dK (d.map λe=>(Sum.inl e.1,V.int e.2))) from I1.hok a _ hd)
 refine⟨"dict","dict.items",F.plainAttrs_dict,F.slot_dict_items,F.type_dict_items,hm.typeIs,hm.mapOf.noDict,?_⟩
 refine method_meetsIn F.slot_dict_items F.entry_dict_items rfl (PySem.evalArgs_none ⟨rfl,hm.typeIs,F.args_dict_items_1 _,_,meets_dict_items (Yw X.prog X.w) a hs,⟨vs,hm⟩,?_⟩)
 obtain⟨ep,hat⟩:∃ep,s1.heap.DictAt (Yw X.prog X.w) a vs ep:=by
  obtain⟨o,es,ep,g1,g2,g3,g4⟩:=hm
  exact⟨ep,o,es,g1,g2,g3,g4⟩
 have hvw:(s1.heap.push {cls:=.type "dict_items",data:=.fields #[.ref a]}).IsItemsView s1.heap.objs.size a:=⟨_,Heap.get?_push_size _ rfl,rfl,rfl⟩
 refine wpAny_pure ?_
 have hl:=bM.length
 rw[List.length_map] at hl
 refine Calls.call_function_entry kind_sorted plain_sorted entry_sorted (args_sorted1 _) ?_
 unfold Builtin.«sorted»
 refine wpAny_bind (m:=checkCount "sorted" 1 1 _) (wpAny_pure (wpAny_bind (PySem.W.kdx_collect (A:=X.A.in1) (knd:=Yw X.prog X.w) (kvs:=vs) (ep:=ep) (I.ok.hd hc) hvw (hat.push _) (by rw[←hl,sizeLine_eq];omega) λh' tk as hk hla hG=>?_)))
 have hnA:as.Nodup:=hG.rise.imp λh=>Nat.ne_of_lt h
 have iP:∀(j:Nat) (b:Addr),as[j]?=some b->∃e,d[j]?=some e/\MO as d b=some (.tup [.int e.1, .int e.2])/\∃its:List Value,X9 [.int e.1, .int e.2] its/\VV h' b its.toArray:=λj b hb=>by
  obtain⟨key,k,x,e1,e2,e3⟩:=hG.pairs j b hb
  obtain⟨e,he,rfl,rx⟩:=bM.dget e1
  exact⟨e,he,PL hnA hb he,[key,x], .cons (MS (show G5 (Sum.inl e.1) key=true from e2)) (.cons rx .nil),⟨_,e3,⟨rfl,rfl⟩,_,rfl⟩⟩
 have I2:Inv X aa U (H9 H1 (MO as d)) {s1 with heap:=h',toks:=tk}:=I1.laidG (λb u e=>hk b u (Heap.get?_push_of_some _ e)) (λb o e=>by
  obtain⟨j,_,hb,_⟩:=Dl e
  have this:(s1.heap.push {cls:=.type "dict_items",data:=.fields #[.ref a]}).objs.size<b:=hG.above b (List.mem_of_getElem? hb)
  rw[Heap.size_push] at this
  omega) λb o e=>by
   obtain⟨j,e0,hb,he,rfl⟩:=Dl e
   obtain⟨e1,he1,_,its,v1,v2⟩:=iP j b hb
   rw[he] at he1
   cases he1
   exact⟨by show 2<=sizeLine;decide,its,v1,v2⟩
 have hpr:Paired (rP2 Xf Xf X.K (H9 H1 (MO as d))) (as.map V.ref) d:=K1 (by rw[List.length_map,hla, ←hl]) λj y b hy hb=>by
  rw[List.getElem?_map] at hy
  obtain⟨c,dn,rfl⟩:=Option.map_eq_some_iff.mp hy
  obtain⟨e,he,ht,_⟩:=iP j c dn
  rw[hb] at he
  cases he
  exact⟨c,_,_,rfl,CK ht,rfl,rfl⟩
 have hvv:∀l:List Addr,X9 (l.map V.ref) (l.map Value.ref):=λl=>by
  induction l with
  |nil=>exact .nil
  |cons a l ih=>exact .cons rfl ih
 have fG:Xu H1 (H9 H1 (MO as d)):=λb o e=>by
  cases hg:MO as d b with
  |none=>rw[V0 hg];exact e
  |some u=>
   obtain⟨j,_,hb,_⟩:=Dl hg
   have this:(s1.heap.push {cls:=.type "dict_items",data:=.fields #[.ref a]}).objs.size<b:=hG.above b (List.mem_of_getElem? hb)
   rw[Heap.size_push] at this
   have:=I1.hok.fresh (a:=b) (by omega)
   rw[this] at e;cases e
 refine wpAny_mono (ER (0,0) (A:=X.A.in1) I2 (hvv as) hpr dM eZ Gh (c:=1) (by rw[ZD];omega) Am (R:=λp s'=>EP X aa U Q (.ref p) s') λzs s' I' hf eK gT=>⟨.ref _,_,I',rfl,?_⟩) (λfin s' ⟨p,e,r⟩=>?_) λ_ _ x=>x
 ·have gn:Xu (H9 H1 (MO as d)) (upd (H9 H1 (MO as d)) h'.objs.size (.lst zs)):=λb o e=>by rw[X8 (YD e hf)];exact e
  refine q _ _ zs (fG.trans gn) ?_ Yg ?_
  ·cases e:H1 h'.objs.size with
   |none=>rfl
   |some o=>have:=fG _ _ e;rw[hf] at this;cases this
  ·exact Fi (by rw[gT,(YQ ltP d).length_eq]) (eK.mem_iff) (Paired.imp2 (λ_ _ z=>MonoE.mono gn z) hpr)
 ·subst e
  exact⟨_,rfl,r⟩
end
section
def OR (K:W.Frag):List V->Hp->VK->Prop:=λxs H Q=>∃ l ns,xs=[.ref l]/\SqT K H l (ns.map V.int)/\ns.length<64/\∀p,H p=none->Q (.ref p) (upd H p (.lst ((Yr ns).map V.int)))
theorem UZ (K:W.Frag)(hK:X.K=K):ZX X (.builtin "sorted") (OR K):=by
 subst hK
 intro aa s U H xs us Q I r h
 obtain⟨l,ns,rfl,hq,eZ,q⟩:=h
 obtain⟨u,rfl,ru⟩:=Vg r
 cases ru
 obtain⟨its,rv,⟨o,g1,c1,n1,d1⟩,hz⟩:=I.tuple hq
 have ag:=rv.length
 rw[List.length_map] at ag
 refine Calls.call_function_entry kind_sorted plain_sorted entry_sorted (args_sorted1 _) ?_
 show wpAny _ _ (checkCount "sorted" 1 1 1 >>= λ_=>collect (.ref l) >>= λxs=>newList xs >>= λl=>holding [l] (call (.builtin "list.sort") [l] []) >>= λ_=>ret l) _ _ _
 refine wpAny_bind (wpAny_pure ?_)
 refine wpAny_bind (PySem.wpAny_collect_seq l (.inr rfl) g1 c1 d1 (λg bR=>?_) (by rw[List.size_toArray,sizeLine_eq];omega))
 refine wpAny_bind (wpAny_newList ?_ (by simp;rw[sizeLine_eq];omega))
 have iw:IntsAre its.toArray.toList ns:=F4 (by simpa using rv)
 have gl:(g.push {cls:=Value.type "list",data:=Data.seq its.toArray.toList.toArray}).get? g.objs.size=some (seqObj "list" its.toArray.toList.toArray 0):=Heap.get?_push_size _ rfl
 refine wpAny_bind (wpAny_holding (wpAny_call_entry slot_list_sort ⟨_,gl,rfl⟩ entry_list_sort (list_sort_tree gl iw (by simp;omega) λout ns' a1 a2 a3=>⟨_,rfl,?_⟩) (args_list_sort _)))
 refine wpAny_pure ⟨_,rfl,?_⟩
 obtain⟨e,hat⟩:=sortedHeap_at (out:=out) gl
 have en:ns'=Yr ns:=DK a2 a3
 have v:=Gu a1
 rw[en] at v
 have I1:Inv X aa U H {s with heap:=g,toks:=s.toks}:=I.kept (t':=s.toks) bR
 have dL:H g.objs.size=none:=I1.hok.fresh (Nat.le_refl _)
 refine⟨.ref g.objs.size,_,I1.laid (t':=s.toks) (λb o e=>Vi (Nat.ne_of_lt (Heap.lt_size e)) (Heap.get?_push_of_some _ e)) (Nat.le_refl _) (show YG X.prog X.w _ _ _ (.lst ((Yr ns).map V.int)) from⟨?_,out.toList,e,v,hat⟩),rfl,q _ dL⟩
 rw[List.length_map,(YF ns).length_eq]
 have:ns.length<=64:=by omega
 exact Nat.le_trans this (by decide)
theorem Jx (K:W.Frag)(hK:X.K=K)(hc:X.calm=true):ZX X (.builtin "min") (NQ K NY):=by
 subst hK
 intro aa s U H xs us Q I r h
 obtain⟨a,ns,rfl,hq,hne,q⟩:=h
 obtain⟨u,rfl,ru⟩:=Vg r
 cases ru
 obtain⟨its,rv,pl,hz⟩:=I.tuple hq
 have ag:its.length=ns.length:=by have:=rv.length;simpa using this.symm
 have ap:a<s.heap.objs.size:=by obtain⟨o,ho,_⟩:=pl;exact Heap.lt_size ho
 refine call_min_walk (wpAny_pyIter_tuple pl ?_)
 refine⟨s.heap.objs.size,_,_,_,_,_,_,rfl,Walks.tuple (prog:=X.prog) (w:=X.w) (A:=X.A.in1) (I.ok.hd hc) s.heap.objs.size a (Nat.ne_of_lt ap) its.toArray,⟨⟨_,Heap.get?_push_size _ rfl,rfl,rfl⟩,(show s.heap.IsTuple a its.toArray from pl).at λo e=>Heap.get?_push_of_some _ e⟩,λb hb=>?_,by rw[List.size_toArray,ag];exact hne,CmpOf.ints_lt (λi=>ns.getD i 0) (Dg rv),λv h' tk hP hk=>?_⟩
 ·rcases List.mem_cons.mp hb with e |hb
  ·rw[e,Heap.size_push];exact Nat.lt_succ_self _
  ·rw[List.mem_singleton.mp hb,Heap.size_push];exact Nat.lt_succ_of_lt ap
 ·have I2:Inv X aa U H {s with heap:=h',toks:=tk}:=I.kept (t':=tk) λb o e=>hk b o (λhm=>by
   rw[List.mem_singleton.mp hm] at e
   exact absurd (Heap.lt_size e) (Nat.lt_irrefl _)) (Heap.get?_push_of_some _ e)
  obtain⟨t,rfl⟩:=Dg rv _ _ hP
  refine⟨.int (NY ns),H,I2,⟨t,?_⟩,q⟩
  rw[List.size_toArray,ag,He ns (ns.length-1) (by omega),show ns.length-1+1=ns.length by omega,List.take_length]
end
inductive Mx where
 |i (n:Int) |s (x:Str) |b (v:Bool)
 deriving DecidableEq
def Mx.v:Mx->V
 | .i n=>.int n
 | .s x=>.str x
 | .b v=>.bl v
def rMx:Enc Mx:=λ_ _ v m=>v=m.v
instance:FlatE rMx:=⟨λ_ h=>h⟩
def mxI:Mx->Rs Int
 | .i n=>.ok n
 |_=>.bad
def mxS:Mx->Rs Str
 | .s x=>.ok x
 |_=>.bad
def mxB:Mx->Rs Bool
 | .b v=>.ok v
 |_=>.bad
def mx2:List Mx->Rs (Int×Int)
 | [.i a, .i b]=>.ok (a,b)
 |_=>.bad
section
variable {OO3:List (List XG)}{u:TS}
theorem Zt {te:TE}{m:Rs Mx}(he:EvB K Er S OO U te rMx m):EvB K Er S OO U te Xf (m.bind mxI):=λH Q w s P=>by
 refine he H Q w s ?_
 cases m with
 |bad=>exact P
 |err x=>exact P
 |ok a=>cases a with
  |i n=>exact λv H' s' ho=>P v H' s' ho
  |s x=>exact P.elim
  |b x=>exact P.elim
theorem RB {te:TE}{m:Rs Mx}(he:EvB K Er S OO U te rMx m):EvB K Er S OO U te Kq (m.bind mxS):=λH Q w s P=>by
 refine he H Q w s ?_
 cases m with
 |bad=>exact P
 |err x=>exact P
 |ok a=>cases a with
  |i n=>exact P.elim
  |s x=>exact λv H' s' ho=>P v H' s' ho
  |b x=>exact P.elim
theorem PK {te:TE}{m:Rs Mx}(he:EvB K Er S OO U te rMx m):EvB K Er S OO U te Xw (m.bind mxB):=λH Q w s P=>by
 refine he H Q w s ?_
 cases m with
 |bad=>exact P
 |err x=>exact P
 |ok a=>cases a with
  |i n=>exact P.elim
  |s x=>exact P.elim
  |b x=>exact λv H' s' ho=>P v H' s' ho
theorem GD {te:TE}{m:Rs (List Mx)}(he:EvB K Er S OO U te (rPL rMx) m):EvB K Er S OO U te (rP2 Xf Xf) (m.bind mx2):=λH Q w s P=>by
 refine he H Q w s ?_
 cases m with
 |bad=>exact P
 |err x=>exact P
 |ok l=>
  match l,P with
  | [.i a, .i b],P=>
   rintro v H' s' ⟨p,xs,e,h,pr⟩
   cases pr with
   |cons r1 t=>cases t with
    |cons r2 t=>cases t with
     |nil=>exact P v H' s' ⟨p,_,_,e,h,r1,r2⟩
  | [],P=>exact P.elim
  | [_],P=>exact(show False by revert P;rename_i x;cases x<;> exact id).elim
  | .i _:: .s _::_,P=>exact P.elim
  | .i _:: .b _::_,P=>exact P.elim
  | .i _:: .i _::_::_,P=>exact P.elim
  | .s _::_::_,P=>exact P.elim
  | .b _::_::_,P=>exact P.elim
theorem R8 {te:TE}{m:Rs Int}(he:EvS K Er S OO U te Xf m):EvS K Er S OO U te rMx (m.bind λa=>.ok (.i a)):=λH Q w s P=>by
 refine he H Q w s ?_
 cases m with
 |bad=>exact P
 |err x=>exact P
 |ok a=>exact P
theorem PH {te:TE}{m:Rs Str}(he:EvS K Er S OO U te Kq m):EvS K Er S OO U te rMx (m.bind λa=>.ok (.s a)):=λH Q w s P=>by
 refine he H Q w s ?_
 cases m with
 |bad=>exact P
 |err x=>exact P
 |ok a=>exact P
theorem Pg {te:TE}{m:Rs Bool}(he:EvS K Er S OO U te Xw m):EvS K Er S OO U te rMx (m.bind λa=>.ok (.b a)):=λH Q w s P=>by
 refine he H Q w s ?_
 cases m with
 |bad=>exact P
 |err x=>exact P
 |ok a=>exact P
theorem WP {H:Hp}{xs:List V}{l:List Int}(pr:Paired (Xf K H) xs l):Paired (rMx K H) xs (l.map Mx.i):=by
 induction pr with
 |nil=>exact .nil
 |cons r _ ih=>exact .cons r ih
theorem FX {m:Rs (List Int)}(he:EvB K Er S OO U te (rPL Xf) m):EvB K Er S OO U te (rPL rMx) (m.bind λl=>.ok (l.map Mx.i)):=λH Q w s P=>by
 refine he H Q w s ?_
 cases m with
 |bad=>exact P
 |err x=>exact P
 |ok l=>
  rintro v H' s' ⟨p,xs,e,h,pr⟩
  exact P v H' s' ⟨p,xs,e,h,WP pr⟩
theorem Cg {ma:Rs QPs}(ha:EvL K Er S OO U ta (rP2 Xf Xf) ma):Ev K Er S OO OO U (tCB (OF K) (Xr ta YE)) (oL (oF (rP2 Xf Xf))) (ma.bind λas=>chk (as.length<64/\as.Nodup) (.ok (Ze ltP as))):=λH Q w s P=>
 ha.run w s FO.tr P λas x H1 s1 w1 q1 ⟨p,xs,e,q,pr⟩ P1=>by
  obtain⟨⟨hl,hn⟩,P2⟩:=PZ.chk P1
  have d7:Paired (rP2 Xf Xf K H1) xs as:=Paired.imp2 (λ_ _ h=>MonoE.mono Xv h) pr
  refine⟨p,xs,as,by rw[e],SqL.of q,d7,hn,hl,λp2 zs il eK ag=>?_⟩
  exact Ij w1 (Paired.imp2 (λ_ _ h=>FlatE.flat w1.i h) (Fi (by rw[ag,(YQ ltP as).length_eq]) eK.mem_iff d7)) P2 p2 il
theorem FH {ma:Rs (List Int)}(ha:EvB K Er S OO U ta (rPL Xf) ma):Ev K Er S OO OO U (tCB (OR K) (Xr ta YE)) (oL (oF Xf)) (ma.bind λas=>chk (as.length<64) (.ok (Yr as))):=λH Q w s P=>
 ha.run w s FO.tr P λas x H1 s1 w1 q1 ⟨p,xs,e,q,pr⟩ P1=>by
  obtain⟨hl,P2⟩:=PZ.chk P1
  exact⟨p,as,by rw[e],SqT.of (by rw[←Kx pr];exact q),hl,Ij w1 (Hb _) P2⟩
theorem NK {d:QPs}(pr:Paired (rDP Xf K H) kvs d):kvs=d.map λe=>(Sum.inl e.1,V.int e.2):=by
 induction pr with
 |nil=>rfl
 |cons r _ ih=>rw[List.map_cons, ←ih];exact congrArg (· ::_) (Prod.ext r.1 r.2)
theorem CY {ma:Rs QPs}(ha:EvB K Er S OO U ta (rD Xf) ma):Ev K Er S OO OO U (OM ta K) (oL (oF (rP2 Xf Xf))) (ma.bind λd=>chk (d.length<64/\d.Nodup) (.ok (Ze ltP d))):=λH Q w s P=>
 ha.run w s FO.tr P λd x H1 s1 w1 q1 ⟨p,kvs,e,q,pr⟩ P1=>by
  obtain⟨⟨hl,hn⟩,P2⟩:=PZ.chk P1
  have PF:FO K OO OO (oL (oF (rP2 Xf Xf))) Q (Ze ltP d) H1:=P2
  rw[NK pr] at q
  refine⟨p,d,e,q,hn,hl,λp2 H2 zs hs hp hz hpr=>?_⟩
  have w2:W ([(p2, .lst zs)]::OO) H2:=by
   refine⟨λc hc=>?_,?_,λc hc=>?_⟩
   ·rw[List.flatten_cons,List.mem_append] at hc
    rcases hc with hc |hc
    ·rw[List.mem_singleton] at hc;subst hc;exact hz
    ·exact hs _ _ (w1.tr c hc)
   ·rw[XS]
    exact List.nodup_cons.mpr ⟨w1.fresh hp,w1.nd⟩
   ·rw[List.flatten_cons,List.mem_append] at hc
    rcases hc with hc |hc
    ·rw[List.mem_singleton] at hc;subst hc;rfl
    ·exact w1.mu c hc
  refine PF (.ref p2) [(p2, .lst zs)] H2 hs w2 (λb o q=>?_) ⟨p2,zs,_,rfl,(L2.P3.of (Paired.imp2 (λ_ _ h=>FlatE.flat w2.i h) hpr)).imp λ_ _ _ h=>h,by rw[Yh]⟩
  obtain⟨q1,q2⟩:=X5 q
  refine Zr (hs _ _ q1) ?_
  rw[XS]
  exact λz=>(List.mem_cons.mp z).elim (λz=>YD q1 hp z) q2
theorem Jl {ma:Rs (List Int)}(ha:EvB K Er S OO U ta (rPL Xf) ma):EvB K Er S OO U (tCB (NQ K NY) (Xr ta YE)) Xf (ma.bind An):=λH Q w s P=>
 ha.run w s FB.tr P λa x H1 s1 w1 q1 ⟨p,xs,e,q,pr⟩ P1=>by
  obtain⟨h1,P1⟩:=PZ.chk P1
  exact⟨p,a,by rw[e],SqT.of (by rw[←Kx pr];exact q),h1,P1 _ H1 (Xu.refl _) rfl⟩
end
section
variable {OO3:List (List XG)}{u:TS}
variable [fd:FdOk Fd]
theorem EvP.st {m:Rs (Option Int)}(he:EvP Er S OO U t m){Q:Option Int->Hp->Prop}(w:W OO H)(s:S.p (hid H OO)){f:Option Int->Rs L}(P:PZ Er (Fd D) (hid H OO) (m.bind f))
  (hk:∀a H',Xu H H'->W OO H'->S.p (hid H' OO)->PZ Er (Fd D) (hid H' OO) (f a)->Q a H'):t U H Q:=by
 refine he H Q w s ?_
 cases m with
 |bad=>exact P
 |err x=>exact λH' s'=>P H' (Xv.trans s')
 |ok a=>exact λH' s'=>hk a H' s' (w.keep s') (S.mono _ _ (Xh s') s) (PZ.tr (fd.tr D) (Xh s') P)
theorem Aj {a:List M}{b d:List L}(h:Paired F a b)(k:Paired F c d):Paired F (a++c) (b++d):=by
 induction h with
 |nil=>exact k
 |cons r _ ih=>exact .cons r ih
theorem Hm {xs:List M}{as:List L}(h:Paired F xs as)(k:Paired F ys bs)(lo hi:Option Int):Paired F (spl xs lo hi ys) (spl as lo hi bs):=by
 unfold spl
 rw[Paired.len h]
 exact Aj (Aj (Paired.take' _ h) k) (Paired.drop' _ h)
theorem NO {m:Rs (List Int)}{f:List Int->Rs L}{as:List Int}(i k:Nat)(hσ:U[i]?=some (some v))(cI:OO'[k]?=some C)(h:∀x,S.p x->oL (oF Xf) K x v as C)(he:Ev K Er S OO OO' U te (oL (oF Xf)) m)(hl:∀D,EvP Er S (D::OO') U tl ml)(hh:∀D,EvP Er S (D::OO') U th mh)
  (hr:∀bs C',Sv Er (S.addO K (oL (oF Xf)) v bs C') (OO'.set k C') U u Fd (f bs)):Sv Er S OO U (Zn (G7 te (gSl (Ji i) tl th)) u) Fd (m.bind λbs=>ml.bind λlo=>mh.bind λhi=>chk (as.length+bs.length<=sizeLine) (f (spl as lo hi bs))):=λH D w s P=>
 he.st w s P λbs y D' H1 w1 s1 ho P1=>⟨v,hσ,(hl D').st w1 s1 P1 λlo H2 s2 w2 q2 P2=>(hh D').st w2 q2 P2 λhi H3 s3 w3 q3 aR=>by
  obtain⟨hsz,aR⟩:=PZ.chk aR
  obtain⟨p,xs,Cs,e,q,c⟩:=h _ q3
  obtain⟨pr,cf⟩:=P3.flat q
  rw[cf] at c
  subst c
  have ho3:oL (oF Xf) K (hid H3 (D'::OO')) y bs D':=MonoO.mono ((Xh s2).trans (Xh s3)) ho
  obtain⟨b,ys,Cs',e',q',c'⟩:=ho3
  obtain⟨d7,cf'⟩:=P3.flat q'
  rw[cf'] at c'
  subst c'
  have hp:H3 p=some (.lst xs):=w3.tr (p, .lst xs) (by rw[List.flatten_cons];exact List.mem_append_right _ (List.mem_flatten.mpr ⟨_,List.mem_of_getElem? cI,List.mem_cons_self⟩))
  have hb:H3 b=some (.lst ys):=w3.tr (b, .lst ys) (by simp)
  have hne:p≠b:=λz=>by
   have nd:=w3.nd
   rw[XS] at nd
   have bx:p∈fl OO':=U0 (c:=(p, .lst xs)) (List.mem_flatten.mpr ⟨_,List.mem_of_getElem? cI,List.mem_cons_self⟩)
   exact(List.nodup_append.mp nd).2.2 b (by simp) p bx z.symm
  obtain⟨w4,m4⟩:=IX (D:=[(b, .lst ys)]) (C':=[(p, .lst (spl xs lo hi ys))]) (p:=p) (o:=.lst (spl xs lo hi ys)) w3 cI (by simp) (by simp) (by simp) (λz hz=>by
   have:z=p:=by simpa using hz
   subst this;simp) (λc hc=>by
   have:c=(p, .lst (spl xs lo hi ys)):=by simpa using hc
   rw[this];exact Yg) (λc hc=>by
   have:c=(p, .lst (spl xs lo hi ys)):=by simpa using hc
   rw[this];rfl)
  have l1:=Paired.len pr
  have l2:=Paired.len d7
  refine⟨p,xs,b,ys,e,e',hp,hb,hne,by omega,hr (spl as lo hi bs) _ _ D w4 ⟨S.mono _ _ m4 q3,?_⟩ (PZ.tr (fd.tr D) m4 aR)⟩
  exact⟨p,_,_,e,(P3.of (Hm (F:=Xf K _) (Paired.imp2 (λ_ _ h=>h) pr) (Paired.imp2 (λ_ _ h=>h) d7) lo hi)).imp λ_ _ _ h=>h,by rw[Yh]⟩⟩
def ZQ (d:List (Int×M))(k:Int):List (Int×M):=d.filter λe=>decide (e.1≠k)
theorem Ej {k:Int}{d:List (Int×M)}(h:Paired (rDP r K H) kvs d):Paired (rDP r K H) (K0 kvs (.inl k)) (ZQ d k):=by
 unfold K0 ZQ
 induction h with
 |nil=>exact .nil
 | @cons a b l m r0 _ ih=>
  rw[List.filter_cons,List.filter_cons]
  by_cases c:b.1=k
  ·rw[if_neg (by rw[r0.1,c];simp),if_neg (by rw[c];simp)];exact ih
  ·rw[if_pos (by rw[r0.1];simpa using c),if_pos (by simpa using c)];exact .cons r0 ih
theorem B3 [z:MonoE r]{f:List (Int×M)->Rs L}{d:List (Int×M)}(i k:Nat)(hσ:U[i]?=some (some v))(hk:OO[k]?=some C)(h:∀x,S.p x->oD r K x v d C)(hy:EvB K Er S OO U ty Xf mk)
  (hr:∀d' C',Sv Er (S.addO K (oD r) v d' C') (OO.set k C') U u Fd (f d')):Sv Er S OO U (Zn (Fe (Op (Ji i) ty)) u) Fd (mk.bind λn=>chk ((QI d n).isSome=true) (f (ZQ d n))):=λH D w s P=>by
 obtain⟨p,kvs,e,pr,c⟩:=h _ s
 subst c e
 have hH:H p=some (.dK kvs):=w.tr (p, .dK kvs) (List.mem_flatten.mpr ⟨_,List.mem_of_getElem? hk,by simp⟩)
 refine⟨_,hσ,p,rfl, .inl ⟨kvs, .inl hH⟩,hy.st w s P λn vn H2 s2 w2 q2 r2 P2=>?_⟩
 obtain⟨iQ,P2⟩:=PZ.chk P2
 have gk:H2 p=some (.dK kvs):=s2 _ _ hH
 have fD:Paired (rDP r K (hid H2 OO)) kvs d:=Paired.imp2 (λ_ _ h=>⟨h.1,z.mono (Xh s2) h.2⟩) pr
 obtain⟨a,ha⟩:=Option.isSome_iff_exists.mp iQ
 obtain⟨va,hva,_⟩:=(QT (k:=n) fD).1 a ha
 obtain⟨w3,m3⟩:=IX (D:=[]) (C':=[(p, .dK (K0 kvs (.inl n)))]) (p:=p) (o:=.dK (K0 kvs (.inl n))) w2.nil hk (by simp) (by simp) (by simp) (λb hb=>by simpa using hb) (λc hc=>by
  have:c=(p, .dK (K0 kvs (.inl n))):=by simpa using hc
  rw[this];exact Yg) (λc hc=>by
  have:c=(p, .dK (K0 kvs (.inl n))):=by simpa using hc
  rw[this];rfl)
 rw[ZS] at m3
 exact⟨kvs, .inl n,va,gk,r2,hva,hr _ _ _ D w3 ⟨S.mono _ _ m3 q2,⟨p,_,rfl,Paired.imp2 (λ_ _ h=>⟨h.1,z.mono m3 h.2⟩) (Ej fD),rfl⟩⟩ (PZ.tr (fd.tr D) m3 P2)⟩
theorem E3 {m:Rs (Str×Str)}(ha:EvB K Er S OO U ta (rP2 Kq Kq) m):EvB K Er S OO U ta (rPL Kq) (m.bind λp=>.ok [p.1,p.2]):=λH Q w s P=>
 ha.run w s FB.tr P λa x H1 s1 w1 q1 r9 P1=>by obtain⟨p,x1,x2,e,q,h1,h2⟩:=r9;exact P1 _ H1 (Xu.refl _) ⟨p,_,e,q, .cons h1 (.cons h2 .nil)⟩
theorem CF [z:MonoE r](he:EvL K Er S OO U te r m)(hs:EvB K Er S OO U ts Xf ms):Ev K Er S OO OO U (Ag K te ts) (oL (oF r)) (m.bind λas=>ms.bind λk=>chk (k= -1) (.ok as.reverse)):=λH Q w s P=>
 he.run w s FO.tr P λas x H1 s1 w1 q1 ⟨p,xs,e,q,pr⟩ P1=>hs.run w1 q1 FO.tr P1 λk y H2 s2 w2 q2 r2 P2=>by
  obtain⟨hn,P3⟩:=PZ.chk P2
  exact⟨by rw[show y= .int k from r2,hn],p,xs,e,SqL.of (s2 _ _ q),Ij w2 (L2.Paired.rev' (Paired.imp2 (λ_ _ h=>z.mono (Xh s2) h) pr)) P3⟩
def FFu (K:W.Frag)(q:OE B)(v1:V)(Q:VK)(x:B)(h:Hp):Prop:=∀ C' H',W [C'] H'->Xu h (hid H' [C'])->q K (hid H' [C']) v1 x C'->Q .non H'
def Ao (q:OE B)(r2:Enc α2)(r3:Enc α3)(f:B->α2->α3->Rs B)(K:W.Frag):Sp:=λvs H Q _=>∃ v1 v2 v3 a1 a2 a3 b,vs=[v1,v2,v3]/\∃C,W [C] H/\q K (hid H [C]) v1 a1 C/\r2 K (hid H [C]) v2 a2/\r3 K (hid H [C]) v3 a3/\f a1 a2 a3= .ok b/\FFu K q v1 Q b (hid H [C])
def At (q:OE B)(r2:Enc α2)(r3:Enc α3)(r4:Enc α4)(r5:Enc α5)(f:B->α2->α3->α4->α5->Rs B)(K:W.Frag):Sp:=λvs H Q _=>∃ v1 v2 v3 v4 v5 a1 a2 a3 a4 a5 b,vs=[v1,v2,v3,v4,v5]/\∃C,W [C] H/\q K (hid H [C]) v1 a1 C/\r2 K (hid H [C]) v2 a2/\r3 K (hid H [C]) v3 a3/\r4 K (hid H [C]) v4 a4/\r5 K (hid H [C]) v5 a5/\f a1 a2 a3 a4 a5= .ok b/\FFu K q v1 Q b (hid H [C])
def FNu (K:W.Frag)(q:OE B)(v1:V)(D:Ends)(x:B)(h:Hp):Prop:=∀ C' OO' U' H',W (C'::OO') H'->Xu h (hid H' (C'::OO'))->q K (hid H' (C'::OO')) v1 x C'->D.nx U' H'
instance {q:OE B}{v1:V}:FdOk (FNu K q v1):=⟨λD b h h' s q C O U H' w m x=>q C O U H' w (s.trans m) x⟩
theorem LN {q:OE B}{a:B}(k:Nat)(hk:OO[k]?=some C)(hf:∀x,S.p x->q K x v1 a C):Sv Er S OO U DE (FNu K q v1) (.ok a):=λH D w s P=>by
 have hp:=XQ hk
 have P:FNu K q v1 D a (hid H OO):=P
 exact P C (OO.set k []) U H (w.of hp) (by rw[XM hp];exact Xu.refl _) (by rw[XM hp];exact hf _ s)
theorem Mp {q:OE B}[zq:MonoO q]{m:Rs B}{Q:VK}{b:B}(n k:Nat)(fF:k<n)(h:Sv (λ_ _=>False) S ((List.replicate n []).set k C) U t (FNu K q v1) m)(w:W [C] H)(hs:S.p (hid H [C]))(hm:m= .ok b)(qf:FFu K q v1 Q b (hid H [C]))(hD:∀U H,D.nx U H=Q .non H):t D U H:=by
 have pe:((List.replicate n []).set k C).flatten.Perm [C].flatten:=by
  have h1:=XQ (OO:=(List.replicate n []).set k C) (k:=k) (C:=C) (by simp[fF])
  have e:((List.replicate n ([]:List XG)).set k C).set k []=List.replicate n []:=by
   rw[List.set_set]
   apply List.ext_getElem?
   intro m
   by_cases hm:m=k
   ·subst hm;simp[fF]
   ·rw[List.getElem?_set_ne (λe=>hm e.symm)]
  rw[e,List.flatten_cons,Yh] at h1
  simpa using h1.symm
 refine h H D (w.of pe) (by rw[XM pe];exact hs) ?_
 subst hm
 rw[XM pe]
 intro C' OO' U' H' w' m' h1
 rw[hD]
 have ar:Xu (hid H' (C'::OO')) (hid H' [C']):=Qv (Xu.refl _) λb hb=>by
  rw[XS]
  refine List.mem_append_left _ ?_
  simpa[fl] using hb
 exact qf C' H' (w'.sub (by simp)) (m'.trans ar) (zq.mono ar h1)
theorem Nj (w:W OO H)(hk:OO[k]?=some Cy):W [Cy] H/\Xu (hid H OO) (hid H [Cy])/\W (OO.set k []) (hid H [Cy])/\(∀b,b∈fl (OO.set k [])->b∈fl OO):=by
 have hp:=XQ hk
 have wk:W (Cy::OO.set k []) H:=w.of hp
 refine⟨wk.sub (by simp),?_,⟨λcc hc=>Zr (wk.tail.tr cc hc) (λz=>by
   have nd:=wk.nd
   rw[XS] at nd
   exact(List.nodup_append.mp nd).2.2 cc.1 (by simpa[fl] using z) cc.1 (U0 hc) rfl),wk.tail.nd,wk.tail.mu⟩,λb hb=>by
   rw[←UN hp,XS]
   exact List.mem_append_right _ hb⟩
 rw[←XM hp]
 exact Qv (Xu.refl _) λb hb=>by
  rw[XS]
  refine List.mem_append_left _ ?_
  simpa[fl] using hb
theorem TK (w:W OO H)(hk:OO[k]?=some Cy)(w':W [C'] H')(m':Xu (hid H [Cy]) (hid H' [C'])):W (OO.set k C') H'/\Xu (hid H OO) (hid H' (OO.set k C'))/\BQ (hid H' [C']) (hid H' (C'::OO.set k []))/\Xu (hid H' (C'::OO.set k [])) (hid H' (OO.set k C')):=by
 obtain⟨_,m0,wo,bx⟩:=Nj w hk
 have gq:k<OO.length:=(List.getElem?_eq_some_iff.mp hk).1
 obtain⟨w4,n4,i4⟩:=Pb wo w' m'
 have nn:Xu (hid H OO) (hid H' (C'::OO.set k [])):=by
  refine Xu.trans (λbb uu hb=>?_) n4
  obtain⟨b1,b2⟩:=X5 hb
  exact Zr (m0 _ _ hb) λz=>b2 (bx _ z)
 obtain⟨w6,m6⟩:=SE (k:=k) w4 (by rw[List.length_set];exact gq)
 rw[List.set_set] at w6 m6
 exact⟨w6,nn.trans m6,i4,m6⟩
theorem C8 [z2:MonoE r2][z3:MonoE r3]{q:OE B}[zq:FlatO q][mq:MonoO q]{f:B->α2->α3->Rs B}(i k:Nat)(hσ:U[i]?=some (some vy))(hk:OO[k]?=some Cy)(h:∀x,S.p x->q K x vy ay Cy)
  (h2:EvS K Er S OO U t2 r2 m2)(h3:EvS K Er S OO U t3 r3 m3)(hr:∀b C',Sv Er (S.addO K q vy b C') (OO.set k C') U u Fd (g b)):
  Sv Er S OO U (Zn (Fe (Qy (Ao q r2 r3 f K) [] E0 (Xr (Ji i) (Xr t2 (Xr t3 YE))))) u) Fd (m2.bind λb=>m3.bind λc=>(noE (f ay b c)).bind g):=λH D w s P=>
 ⟨vy,hσ,h2.st w s P λb z H2 s2 w2 q2 e2 P2=>h3.st w2 q2 P2 λc y H3 s3 w3 q3 e3 P3=>by
  cases en:f ay b c with
  |bad=>rw[en] at P3;exact P3.elim
  |err ex=>rw[en] at P3;exact P3.elim
  |ok r=>
   rw[en] at P3
   have P3:PZ Er (Fd D) (hid H3 OO) (g r):=P3
   obtain⟨wl,m0,_,_⟩:=Nj w3 hk
   refine⟨vy,z,y,ay,b,c,r,rfl,Cy,wl,mq.mono m0 (h _ q3),z2.mono ((Xh s3).trans m0) e2,z3.mono m0 e3,en,λC' H' w' m' hq=>?_⟩
   obtain⟨w6,n6,i4,m6⟩:=TK w3 hk w' m'
   exact hr r C' H' D w6 ⟨S.mono _ _ n6 q3,mq.mono m6 (zq.flat i4 hq)⟩ (PZ.tr (fd.tr D) n6 P3)⟩
theorem K8 [z2:MonoE r2][z3:MonoE r3][z4:MonoE r4][z5:MonoE r5]{q:OE B}[zq:FlatO q][mq:MonoO q]{f:B->α2->α3->α4->α5->Rs B}(i k:Nat)(hσ:U[i]?=some (some vy))(hk:OO[k]?=some Cy)(h:∀x,S.p x->q K x vy ay Cy)
  (h2:EvS K Er S OO U t2 r2 m2)(h3:EvS K Er S OO U t3 r3 m3)(h4:EvS K Er S OO U t4 r4 m4)(h5:EvS K Er S OO U t5 r5 m5)(hr:∀b C',Sv Er (S.addO K q vy b C') (OO.set k C') U u Fd (g b)):
  Sv Er S OO U (Zn (Fe (Qy (At q r2 r3 r4 r5 f K) [] E0 (Xr (Ji i) (Xr t2 (Xr t3 (Xr t4 (Xr t5 YE))))))) u) Fd (m2.bind λb=>m3.bind λc=>m4.bind λd=>m5.bind λe=>(noE (f ay b c d e)).bind g):=λH D w s P=>
 ⟨vy,hσ,h2.st w s P λb z H2 s2 w2 q2 e2 P2=>h3.st w2 q2 P2 λc y H3 s3 w3 q3 e3 P3=>h4.st w3 q3 P3 λd y4 H4 s4 w4 q4 e4 P4=>h5.st w4 q4 P4 λe y5 H5 s5 w5 q5 e5 P5=>by
  cases en:f ay b c d e with
  |bad=>rw[en] at P5;exact P5.elim
  |err ex=>rw[en] at P5;exact P5.elim
  |ok r=>
   rw[en] at P5
   have P5:PZ Er (Fd D) (hid H5 OO) (g r):=P5
   obtain⟨wl,m0,_,_⟩:=Nj w5 hk
   have n3:=Xh (OO:=OO) s3
   have n4:=Xh (OO:=OO) s4
   have n5:=Xh (OO:=OO) s5
   refine⟨vy,z,y,y4,y5,ay,b,c,d,e,r,rfl,Cy,wl,mq.mono m0 (h _ q5),z2.mono (n3.trans (n4.trans (n5.trans m0))) e2,z3.mono (n4.trans (n5.trans m0)) e3,z4.mono (n5.trans m0) e4,z5.mono m0 e5,en,λC' H' w' m' hq=>?_⟩
   obtain⟨w6,n6,i4,m6⟩:=TK w5 hk w' m'
   exact hr r C' H' D w6 ⟨S.mono _ _ n6 q5,mq.mono m6 (zq.flat i4 hq)⟩ (PZ.tr (fd.tr D) n6 P5)⟩
def AF (q:OE B)(r2:Enc α2)(r3:Enc α3)(o:OE ρ)(f:B->α2->α3->Rs ρ)(K:W.Frag):Sp:=λvs H Q _=>∃ v1 v2 v3 a1 a2 a3 b,vs=[v1,v2,v3]/\∃C,W [C] H/\q K (hid H [C]) v1 a1 C/\r2 K (hid H [C]) v2 a2/\r3 K (hid H [C]) v3 a3/\f a1 a2 a3= .ok b/\FF K o Q b (hid H [C])
theorem Np [z2:MonoE r2][z3:MonoE r3]{q:OE B}[mq:MonoO q]{o:OE ρ}[zo:FlatO o]{f:B->α2->α3->Rs ρ}(i k:Nat)(hσ:U[i]?=some (some vy))(hk:OO[k]?=some Cy)(h:∀x,S.p x->q K x vy ay Cy)
  (h2:EvS K Er S OO U t2 r2 m2)(h3:EvS K Er S OO U t3 r3 m3):
  Sv Er S OO U (Zn (Ww (Qy (AF q r2 r3 o f K) [] E0 (Xr (Ji i) (Xr t2 (Xr t3 YE))))) u) (FTd K o) (m2.bind λb=>m3.bind λc=>noE (f ay b c)):=λH D w s P=>
 ⟨vy,hσ,h2.st (Fd:=FTd K o) w s P λb z H2 s2 w2 q2 e2 P2=>h3.st (Fd:=FTd K o) w2 q2 P2 λc y H3 s3 w3 q3 e3 P3=>by
  cases en:f ay b c with
  |bad=>rw[en] at P3;exact P3.elim
  |err ex=>rw[en] at P3;exact P3.elim
  |ok r=>
   rw[en] at P3
   have P3:FTd K o D r (hid H3 OO):=P3
   obtain⟨wl,m0,wo,bx⟩:=Nj w3 hk
   refine⟨vy,z,y,ay,b,c,r,rfl,Cy,wl,mq.mono m0 (h _ q3),z2.mono ((Xh s3).trans m0) e2,z3.mono m0 e3,en,λv C' H' w' m' ho=>?_⟩
   obtain⟨w4,n4,i4⟩:=Pb wo w' m'
   refine P3 v C' (OO.set k []) H' w4 (Xu.trans (λbb uu hb=>?_) n4) (zo.flat i4 ho)
   obtain⟨b1,b2⟩:=X5 hb
   exact Zr (m0 _ _ hb) λz=>b2 (bx _ z)⟩
theorem WZ {o:OE ρ}[MonoO o]{m:Rs ρ}{Q:VK}{b:ρ}(n k:Nat)(fF:k<n)(h:Sv (λ_ _=>False) S ((List.replicate n []).set k C) U t (FTd K o) m)(w:W [C] H)(hs:S.p (hid H [C]))(hm:m= .ok b)(q:FF K o Q b (hid H [C]))(hD:D.rt=Q):t D U H:=by
 have pe:((List.replicate n []).set k C).flatten.Perm [C].flatten:=by
  have h1:=XQ (OO:=(List.replicate n []).set k C) (k:=k) (C:=C) (by simp[fF])
  have e:((List.replicate n ([]:List XG)).set k C).set k []=List.replicate n []:=by
   rw[List.set_set]
   apply List.ext_getElem?
   intro m
   by_cases hm:m=k
   ·subst hm;simp[fF]
   ·rw[List.getElem?_set_ne (λe=>hm e.symm)]
  rw[e,List.flatten_cons,Yh] at h1
  simpa using h1.symm
 refine h H D (w.of pe) (by rw[XM pe];exact hs) ?_
 subst hm
 rw[XM pe]
 intro v C1 OO' H' w' mm ho
 rw[hD]
 exact Mj q v C1 OO' H' w' mm ho
section
variable {o:OE ρ}{kf:Nat}{Cf:List XG}{J:Jn B ι}
def O1 (K:W.Frag)(o:OE ρ)(kf:Nat)(Cf:List XG)(J:Jn B ι)(D:Ends)(c:Ctl ρ B)(h:Hp):Prop:=match c with
 | .ret r=>HB K o kf Cf D r h
 | .nx g=>FNd J D g h
instance:FdOk (O1 K o kf Cf J):=⟨λD b h h' s q=>by
 cases b with
 |ret r=>exact λv C O H' e w m x=>q v C O H' e w (s.trans m) x
 |nx g=>exact λx H' w m y=>q x H' w (s.trans m) y⟩
theorem E9 {m:Rs B}(h:Sv Er S OO U t (FNd J) m):Sv Er S OO U t (O1 K o kf Cf J) (m.bind λr=>.ok (.nx r)):=λH D w s P=>h H D w s (by
 cases m with
 |bad=>exact P
 |err x=>exact P
 |ok a=>exact P)
theorem Kz (hc:EvT Er S OO U c mc)(h1:Sv Er S OO U t1 (HB K o kf Cf) m1)(h2:Sv Er S OO U u (HB K o kf Cf) m2):Sv Er S OO U (Zn (R1 c t1 DE) u) (HB K o kf Cf) (mc.bind λb=>if b=true then m1 else m2):=λH D w s P=>
 hc.st (Fd:=HB K o kf Cf) w s P λb H' w' s' P'=>by
  cases b with
  |true=>rw[if_pos rfl] at P'⊢;exact h1 H' _ w' s' P'
  |false=>exact h2 H' D w' s' P'
theorem MP (hc:EvT Er S OO U c mc)(h1:Sv Er S OO U t1 (HB K o kf Cf) m1)(h2:Sv Er S OO U u (O1 K o kf Cf J) m2):Sv Er S OO U (Zn (R1 c t1 DE) u) (O1 K o kf Cf J) (mc.bind λb=>if b=true then m1.bind (λr=>.ok (.ret r)) else m2):=λH D w s P=>
 hc.st (Fd:=O1 K o kf Cf J) w s P λb H' w' s' P'=>by
  cases b with
  |true=>
   rw[if_pos rfl] at P'⊢
   refine h1 H' _ w' s' ?_
   cases m1 with
   |bad=>exact P'
   |err x=>exact P'
   |ok a=>exact P'
  |false=>exact h2 H' D w' s' P'
theorem Mr {m:Rs (Ctl ρ B)}{f:B->Rs ρ}(hb:Sv Er S OO U t (O1 K o kf Cf J) m)(hr:∀g x,Sv Er (J.sc g x) (J.oo x) (J.ss x) u (HB K o kf Cf) (f g)):Sv Er S OO U (Zn t u) (HB K o kf Cf) (m.bind (G6 f)):=λH D w s P=>
 hb H _ w s (by
  cases m with
  |bad=>exact P
  |err x=>exact P
  |ok g=>
   cases g with
   |ret r=>exact P
   |nx g=>exact λx H' w' m' q=>hr g x H' D w' q (PZ.tr (FdOk.tr D) m' P))
end
def AA (r1:Enc α1)(r2:Enc α2)(r3:Enc α3)(r4:Enc α4)(o:OE ρ)(f:α1->α2->α3->α4->Rs ρ)(K:W.Frag):Sp:=λvs H Q _=>∃ v1 v2 v3 v4 a1 a2 a3 a4 b,vs=[v1,v2,v3,v4]/\∃Cf,W [Cf] H/\r1 K (hid H [Cf]) v1 a1/\r2 K (hid H [Cf]) v2 a2/\r3 K (hid H [Cf]) v3 a3/\r4 K (hid H [Cf]) v4 a4/\f a1 a2 a3 a4= .ok b/\Wo K o Cf Q b (hid H [Cf])
theorem Cm [z1:MonoE r1][z2:MonoE r2][z3:MonoE r3][z4:MonoE r4]{o:OE ρ}{f:α1->α2->α3->α4->Rs ρ}{ma:Rs α1}{mb:Rs α2}{mc:Rs α3}(ha:EvS K Er S OO U ta r1 ma)(hb:EvS K Er S OO U tb r2 mb)(hc:EvS K Er S OO U tc r3 mc)(hd:EvS K Er S OO U td r4 md):
  Ev K Er S OO OO U (Qy (AA r1 r2 r3 r4 o f K) [] E0 (Xr ta (Xr tb (Xr tc (Xr td YE))))) o (ma.bind λa=>mb.bind λb=>mc.bind λc=>md.bind λd=>noE (f a b c d)):=λH Q w s P=>
 ha.run w s FO.tr P λa x H1 s1 w1 q1 r1 P1=>hb.run w1 q1 FO.tr P1 λb y H2 s2 w2 q2 r2 P2=>hc.run w2 q2 FO.tr P2 λc z H3 s3 w3 q3 r3 P3=>hd.run w3 q3 FO.tr P3 λd t H4 s4 w4 q4 r4 P4=>by
  obtain⟨e,he,P5⟩:=P4.okOf λx=>FG
  have n2:=Xh (OO:=OO) s2
  have n3:=Xh (OO:=OO) s3
  have n4:=Xh (OO:=OO) s4
  exact⟨x,y,z,t,a,b,c,d,e,rfl,OO.flatten,w4.one,by rw[C0];exact z1.mono (n2.trans (n3.trans n4)) r1,by rw[C0];exact z2.mono (n3.trans n4) r2,by rw[C0];exact z3.mono n4 r3,by rw[C0];exact r4,Fy he,by rw[C0];exact TD w4 P5⟩
theorem N5 [MonoO o1][MonoO o2][MonoO o3]{f:Rs L}(i j l k1 k2 k3:Nat)(h1:k1<OO.length)(h2:k2<OO.length)(h3:k3<OO.length)
  (hr:∀v w x C1 C2 C3,Sv Er (((S.addO K (oL o1) v [] C1).addO K (oL o2) w [] C2).addO K (oL o3) x [] C3) (((OO.set k1 C1).set k2 C2).set k3 C3) (((U.set i (some v)).set j (some w)).set l (some x)) u Fd f):Sv Er S OO U (Zn (Sa i j l (Xr (M6 YE) (Xr (M6 YE) (Xr (M6 YE) YE)))) u) Fd f:=λH D w s P=>by
 refine⟨Nat.zero_le _,λp1 hp1=>⟨Nat.zero_le _,λp2 il=>⟨Nat.zero_le _,λp3 hp3=>⟨_,_,_,rfl,?_⟩⟩⟩⟩
 have key:∀{OO:List (List XG)}{H:Hp}{p:Addr}{k:Nat},W OO H->H p=none->k<OO.length->W (OO.set k [(p, .lst [])]) (upd H p (.lst []))/\Xu (hid H OO) (hid (upd H p (.lst [])) (OO.set k [(p, .lst [])])):=λw hp hk=>by
  obtain⟨a,b⟩:=SE (w.new hp (o:=.lst []) rfl) hk
  exact⟨a,(UI hp (o:=.lst [])).trans b⟩
 obtain⟨w1,m1⟩:=key w hp1 h1
 obtain⟨w2,m2⟩:=key w1 il (k:=k2) (by simpa using h2)
 obtain⟨w3,m3⟩:=key w2 hp3 (k:=k3) (by simpa using h3)
 have nl:∀{τ:Type}{o:OE τ}{h:Hp}{p:Addr},oL o K h (.ref p) [] [(p, .lst [])]:=fun {τ o h p}=>⟨p,[],[],rfl, .nil,rfl⟩
 exact hr _ _ _ _ _ _ _ D w3 ⟨⟨⟨S.mono _ _ ((m1.trans m2).trans m3) s,nl⟩,nl⟩,nl⟩ (PZ.tr (fd.tr D) ((m1.trans m2).trans m3) P)
end
section
variable {u:TS}[fd:FdOk Fd]
theorem NJ {tb:TS}[z:MonoE r]{f:B->Rs L}{as:List (List M)}(n k:Nat)(hσ:U[n]?=some (some v))(hk:OO[k]?=some C)(h:∀x,S.p x->oL (oL (oF r)) K x v as C)(hi:EvB K Er S OO U ti Xf mi)
  (J:Jn B ι)(T:∀OO,Tgt K OO g r κ)(x0:ι)(g0:B)(hC:∀x,(J.oo x)[k]?=some C)(h1:OO=J.oo x0)(h2:U=J.ss x0)(h3:∀h,S.p h->(J.sc g0 x0).p h)
  (hb:∀g x a v,Sv Er ((T (J.oo x)).sc a v (J.sc g x)) (J.oo x) ((T (J.oo x)).set v (J.ss x)) tb (FNd J) (body g a))
  (hr:∀g x,Sv Er (J.sc g x) (J.oo x) (J.ss x) u Fd (f g)):Sv Er S OO U (Zn (M5 (HU K (tOp (HJ K) (Ji n) ti)) g tb) u) Fd (mi.bind λi=>(atR as i).bind λrow=>(forN row g0 body).bind f):=λH0 D w0 s0 P0=>
 ⟨v,hσ,hi.st w0 s0 P0 λix vi H s1 w s r1 P=>by
  obtain⟨p,xs,Cs,e,q,c⟩:=h _ s
  subst c
  cases er:atR as ix with
  |bad=>rw[er] at P;exact P.elim
  |err x=>exact absurd er K6
  |ok row=>
   rw[er] at P
   have P:PZ Er (Fd D) (hid H OO) ((forN row g0 body).bind f):=P
   obtain⟨j,hj,aE⟩:=Ma er
   obtain⟨a,c,ha,hc,ho⟩:=P3.get q aE
   obtain⟨p',ys,Cs',e',q',c'⟩:=ho
   have pr:=(P3.flat q').1
   have hpin:(p,HO.lst xs)∈OO.flatten:=List.mem_flatten.mpr ⟨_,List.mem_of_getElem? hk,List.mem_cons_self⟩
   have bx:∀x,(p',HO.lst ys)∈(J.oo x).flatten:=λx=>List.mem_flatten.mpr ⟨_,List.mem_of_getElem? (hC x),List.mem_cons_of_mem _ (List.mem_flatten.mpr ⟨c,List.mem_of_getElem? hc,by rw[c'];exact List.mem_cons_self⟩)⟩
   have hH:H p=some (.lst xs):=w.tr _ hpin
   have iA:H p'=some (.lst ys):=w.tr (p', .lst ys) (by rw[h1];exact bx x0)
   refine⟨p,xs,ix,a,e,r1,SqL.of hH,?_,?_⟩
   ·unfold atI
    rw[(P3.len q).1,hj]
    exact ha
   refine⟨p',e',⟨ys,SqL.of iA⟩,?_⟩
   refine⟨λi mm U' H2=>mm=row.length-i/\i<=row.length/\∃x gg,U'=J.ss x/\W (J.oo x) H2/\Xu (hid H OO) (hid H2 (J.oo x))/\(J.sc gg x).p (hid H2 (J.oo x))/\PZ Er (Fd D) (hid H2 (J.oo x)) ((forN (row.drop i) gg body).bind f),⟨row.length,rfl,Nat.zero_le _,x0,g0,h2,?_,?_,?_,?_⟩,?_⟩
   ·rw[←h1];exact w
   ·rw[←h1];exact Xu.refl _
   ·rw[←h1];exact h3 _ s
   ·rw[←h1,List.drop_zero];exact P
   ·rintro i mm U' H2 ⟨rfl,cL,x,gg,rfl,w2,m2,dN,P2⟩
    have hq:SqL K H2 p' ys:=SqL.of (w2.tr (p', .lst ys) (bx x))
    by_cases ap:i<row.length
    ·right
     obtain⟨y0,hy0,ry⟩:=Paired.getR pr (List.getElem?_eq_getElem ap)
     refine⟨⟨ys,y0,hq,hy0⟩,λσ3 H3=>∃ x gg,σ3=J.ss x/\W (J.oo x) H3/\Xu (hid H OO) (hid H3 (J.oo x))/\(J.sc gg x).p (hid H3 (J.oo x))/\PZ Er (Fd D) (hid H3 (J.oo x)) ((forN (row.drop (i+1)) gg body).bind f),λσ3 H3 q=>⟨row.length-(i+1),Nat.sub_lt_sub_left ap (Nat.lt_succ_self i),rfl,ap,q⟩,λy H3 hy=>?_⟩
     obtain⟨rfl,hy2⟩:=hy
     have:=hy2 ys hq
     rw[hy0] at this
     cases this
     refine(T (J.oo x)).ok (z.mono m2 ry) dN λv hv=>hb gg x row[i] v H3 _ w2 hv ?_
     rw[List.drop_eq_getElem_cons ap] at P2
     have P3:PZ Er (Fd D) (hid H3 (J.oo x)) ((body gg row[i]).bind λg'=>(forN (row.drop (i+1)) g' body).bind f):=by rw[←Yo];exact P2
     cases eb:body gg row[i] with
     |bad=>rw[eb] at P3;exact P3
     |err x=>rw[eb] at P3;exact P3
     |ok g'=>
      rw[eb] at P3
      exact λx' H4 w4 m4 gp=>⟨x',g',rfl,w4,m2.trans m4,gp,PZ.tr (fd.tr D) m4 P3⟩
    ·left
     have e:i=row.length:=Nat.le_antisymm cL (Nat.not_lt.mp ap)
     subst e
     refine⟨⟨ys,hq,by rw[Paired.len pr];exact Nat.le_refl _⟩,hr gg x H2 D w2 dN ?_⟩
     rw[List.drop_length] at P2
     exact P2⟩
end
section
variable {u:TS}
end
section
variable {Mqz:Model}{env:Env}{outer l:List Env}{e:Addr}{oe:Obj}{vs:Array Value}{head cls fl:Value}{od:Option Addr}{Q:Unit->Shared->Prop}
end
section
variable {h0 h:Heap}{T:Addr}{cls:Value}{od:Option Addr}{l:List Env}
end
section
variable {qual:Str}{f:Addr}{cd:Value}{outer:List Env}{s0:Shared}{H0:Hp}{E:XK}
end
section
variable {sp:Sp}{t:TA}{p:Pos}{E:XK}
end
end L2
namespace L2
open PySem PySem.Spec PyProof.Rows PySem.W PySem.Builtin PySem.Builtin.ObjectAttr
section
variable {K:Frag}{x C P:Addr}{cd:ClassData}{vs:Array Value}{sl:Array (Option Value)}{name:Str}{v:Value}
theorem getD (X:K.In s.heap)(hx:s.heap.get? x=some ⟨.ref C,some dx, .fields vs,sl⟩)(du:s.heap.Ns1 dx mA)(hv:mA name=some v)(hh:handedIn v=true)
  (ga:findIn K (.ref C) "__getattribute__" =some (some (.builtin "BaseException.__getattribute__")))(gh:findIn K (.ref C) "__getattr__" =some none)(mb:mroIn K C (.type "BaseException")=some true)(hd:hasDictIn K C=true)(hn:findIn K (.ref C) name=some none)
  (h:Q v {s with toks:=s.toks+1}):wpAny (model prog w) A (getAttr (.ref x) name iR) Q E s:=by
 obtain⟨hh',g,d,t,os⟩:=s
 obtain⟨oD,es,ep,hoD,hdD,hks,dM,hfi⟩:=id du
 have I:InstAt hh' x ⟨.ref C,some dx, .fields vs,sl⟩ C (some oD):=⟨hx,rfl,rfl,hoD⟩
 have hl:lookIn name oD=some (some v):=by
  unfold lookIn
  rw[hdD]
  have q:=hfi name
  rw[hv] at q
  unfold nsFind findBy at q
  rw[←Array.find?_toList] at q
  dsimp only
  cases z:List.find? (λx=>x.key.isStr name) es.toList with
  |none=>rw[z] at q;cases q
  |some en=>rw[z] at q;exact congrArg some q
 have L0:=I.type (M:=model prog w)
 have L1:=looks_findIn (M:=model prog w) X ga
 have L2:=looks_findIn (M:=model prog w) X gh
 have LB:=looks_mroIn (M:=model prog w) X mb
 have LF:=looks_find (M:=model prog w) X I (findObj_own hd hn rfl hl)
 have f3:=PySem.F.attr_ValueError.ga.bind (.ref x)
 have cV:(Value.builtin "BaseException.__getattribute__" ==Value.builtin "object.__getattribute__")=false:=by decide+kernel
 unfold getAttr getAttrBy
 refine wpAny_bind (wpAny_mkText (wpAny_holding (wpAny_bind (L0.at (wpAny_bind (L1.at ?_))))))
 dsimp only
 rw[cV,Bool.and_false,if_neg Bool.false_ne_true]
 unfold getAttrByItsOwn hookBefore callGetattribute boundAndCalled
 refine wpAny_bind (L2.at ?_)
 have hx0:(iR&&onTheHeap (Value.builtin "BaseException.__getattribute__"))=false:=by cases iR<;> rfl
 refine wpAny_bind (wpAny_attempt (wpAny_holding ?_))
 rw[hx0,if_neg Bool.false_ne_true,f3]
 refine wpAny_bind (wpAny_pure ?_)
 refine wpAny_call (codeAny_call_builtin PySem.F.attr_ValueError.ga.plain PySem.F.entry_bexc_ga ?_)
 have hk:builtinKind "BaseException.__getattribute__" =some .slot:=by decide+kernel
 have gx:splitId "BaseException.__getattribute__" =some ("BaseException","__getattribute__"):=by decide+kernel
 have ha:=PySem.F.args_bexc_ga (.ref x) (Value.str name t)
 simp only[checkBuiltinCall,hk,gx]
 unfold isInstance
 refine wpAny_bind (wpAny_bind (L0.at ?_))
 refine LB.at ?_
 rw[if_neg (by decide)]
 have fin:∀s1:Shared,s1=⟨hh',g,d,t+1,os⟩->wpAny (model prog w) A.in1 («object.__getattribute__» {pos:=[Value.ref x]++[Value.str name t]}) (λfin s'=>match fin with | .done (.ret u)=>u=v/\s'=s1 |_=>False) (λ_ _=>False) s1:=by
  intro s1 hs1
  subst hs1
  unfold «object.__getattribute__» bindTo
  repeat (any_goals lk)
  exact⟨rfl,rfl⟩
 unfold argsOk at ha
 have sg2:∀gy,Manifest.signature? "BaseException.__getattribute__" =some gy->Bind.checkArgs "BaseException.__getattribute__" gy {pos:=[Value.ref x,Value.str name t]}=pure ():=λgy e=>by
  rw[e] at ha
  exact ha
 have QB:∀{P:Unit->Shared->Prop}{E':Value->Shared->Prop}{s1:Shared},P () s1->wpAny (model prog w) A.in1 (match Manifest.signature? "BaseException.__getattribute__" with |some gy=>Bind.checkArgs "BaseException.__getattribute__" gy {pos:=[Value.ref x]++[Value.str name t]} |_=>pure ()) P E' s1:=fun {P E' s1} p=>by
  split
  ·rename_i gy e
   rw[show[Value.ref x]++[Value.str name t]=[Value.ref x,Value.str name t] from rfl,sg2 gy e]
   exact wpAny_pure p
  ·exact wpAny_pure p
 refine QB ?_
 refine wpAny_mono (fin _ rfl) (λfi s' z=>?_) λ_ _ z=>z.elim
 rcases fi with(_ |_ |_ |u) |_
 all_goals first |exact z.elim |skip
 obtain⟨rfl,rfl⟩:=z
 show wpAny _ _ (handedOut _) _ _ _
 rw[handedOut_of hh]
 exact wpAny_pure h
end
section
variable {h:Heap}{g:Array GenState}{d:Drawn}{t:Nat}{os:OsState}
variable {nm q:Str}{C N:Addr}{bs bm bmB:List Value}{hdct:Bool}{sn:List Str}{sub:List Value}{ab:Bool}{col:Option Bool}{dd:Option Addr}{k0 k1 k2 k3 k5:Option Value}
end
section
variable {fs ex:List Addr}{h:Heap}{e dx:Addr}{o o1 o2:HO}{φ:Heap->Prop}
end
section
variable {Mqz:Model}{env:Env}
variable {nm q:Str}{C N:Addr}{bs bm:List Value}{hdct:Bool}{sn:List Str}{sub:List Value}{ab:Bool}{col:Option Bool}{dd:Option Addr}{k0 k1 k2 k3 k5:Option Value}{fE:String}
end
section
variable {E:XK}{C P fI:Addr}{f a b:Str}{t:TA}{np am:Pos}
end
section
variable {body cM:List Stmt}{b₀:Stmt}{cn n:Str}{Ch:Addr}{i:Nat}{tb:XK->TS}{ts:Addr->Addr->Option Addr->TS}{np hpos:Pos}
end
end L2
namespace L2
open PySem PySem.Spec PyProof.Rows PySem.W
section
end
section
variable {cM:List Stmt}{b₀:Stmt}{cn n fx:Str}{Ch:Addr}{i:Nat}{ts:Addr->Addr->Option Addr->TS}{np hpos p am epos:Pos}{sp:Sp}{t:TA}
end
end L2
namespace L2
open PySem PySem.Spec PyProof.Rows
section
variable {E:XK}{u:TS}
variable [fd:FdOk Fd]
theorem EvB.stB {m:Rs M}(he:EvB K Er S OO U te r m){Q:VK}(w:W OO H)(s:S.p (hid H OO))(P:PZ Er (Fd D) (hid H OO) (m.bind f))
  (hk:∀a v H',Xu H H'->W OO H'->S.p (hid H' OO)->r K H' v a->PZ Er (Fd D) (hid H' OO) (f a)->Q v H'):te U H Q:=by
 refine he H Q w s ?_
 cases m with
 |bad=>exact P
 |err x=>exact λH' s'=>P H' (Xv.trans s')
 |ok a=>exact λv H' s' r=>hk a v H' s' (w.keep s') (S.mono _ _ (Xh s') s) r (PZ.tr (fd.tr D) (Xh s') P)
end
section
end
section
variable {u:TS}[fd:FdOk Fd]
end
def Al (C:List XG)(kk:Nat)(v:V):Prop:=∃ p xs R,C=(p, .lst xs)::R/\xs[kk]?=some v
def rAl (C:List XG):Enc Nat:=λ_ _ v kk=>Al C kk v
instance {C:List XG}:MonoE (rAl C):=⟨λ_ h=>h⟩
section
variable {u:TS}[fd:FdOk Fd]
theorem LS [z:MonoE r]{y:V}{as:List (List M)}(w:W OO H)(hk:OO[k]?=some C)(o:oL (oL (oF r)) K (hid H OO) v as C)(al:Al C kk y)(aE:as[kk]?=some row):
  ∃q ys,y= .ref q/\H q=some (.lst ys)/\Paired (r K (hid H OO)) ys row/\∀ys' row',Paired (r K (hid H OO)) ys' row'->∃C',W (OO.set k C') (upd H q (.lst ys'))/\Xu (hid H OO) (hid (upd H q (.lst ys')) (OO.set k C'))/\oL (oL (oF r)) K (hid (upd H q (.lst ys')) (OO.set k C')) v (as.set kk row') C'/\Al C' kk y:=by
 obtain⟨p,xs,Cs,e,q,c⟩:=o
 subst c e
 obtain⟨p',xs',R,ec,hy⟩:=al
 injection ec with e1 e2
 injection e1 with e3 e4
 injection e4 with e5
 subst e5
 obtain⟨q0,ys,g1,g2,g3⟩:=Du q aE
 rw[g1] at hy
 cases hy
 have bx:∀c∈(p,HO.lst xs)::Cs.flatten,c∈OO.flatten:=λc hc=>List.mem_flatten.mpr ⟨_,List.mem_of_getElem? hk,hc⟩
 have hH:H p=some (.lst xs):=w.tr (p, .lst xs) (bx _ List.mem_cons_self)
 have hm:(q0,HO.lst ys)∈Cs.flatten:=Kr g2 _ (by simp)
 have fj:H q0=some (.lst ys):=w.tr (q0, .lst ys) (bx _ (List.mem_cons_of_mem _ hm))
 have ne:p≠q0:=λz=>by
  have cn:(((p,HO.lst xs)::Cs.flatten).map (·.1)).Nodup:=w.nd.sublist (List.Sublist.map _ (List.sublist_flatten_of_mem (List.mem_of_getElem? hk)))
  rw[List.map_cons,List.nodup_cons] at cn
  exact cn.1 (List.mem_map.mpr ⟨_,hm,z.symm⟩)
 refine⟨q0,ys,rfl,fj,g3,λys' row' pr=>?_⟩
 obtain⟨C',w4,m4,o4⟩:=Ei (ys':=ys') (row':=row') (v:=.ref p) w hk q aE g1 fj g2 pr
 refine⟨C',w4,m4,o4,?_⟩
 obtain⟨p2,xs2,Cs2,ep,_,ec2⟩:=o4
 cases ep
 have ag:k<OO.length:=(List.getElem?_eq_some_iff.mp hk).1
 have h5:=w4.tr (p, .lst xs2) (List.mem_flatten.mpr ⟨C',List.mem_of_getElem? (List.getElem?_set_self ag),by rw[ec2];exact List.mem_cons_self⟩)
 rw[X8 ne,hH] at h5
 cases h5
 exact⟨p,xs,_,ec2,g1⟩
def alR (as:List (List M))(x:Int):Rs Nat:=match ixN as.length x with
 |some kk=>.ok kk
 |none=>.bad
def IE (as:List (List M))(kk:Nat):Rs (List M):=match as[kk]? with
 |some row=>.ok row
 |none=>.bad
theorem SX {x:Int}(h:ixN n x=some kk):kk<n:=by
 unfold ixN at h
 split at h
 ·split at h
  ·cases h;omega
  ·cases h
 ·split at h
  ·cases h;omega
  ·cases h
theorem N7 [MonoE r]{f:Nat->Rs L}{as:List (List M)}(i k j:Nat)(hσ:U[i]?=some (some v))(hk:OO[k]?=some C)(h:∀x,S.p x->oL (oL (oF r)) K x v as C)(hi:EvB K Er S OO U ti Xf mi)
  (hr:∀kk y,Sv Er (S.add K (rAl C) y kk) OO (U.set j (some y)) u Fd (f kk)):
  Sv Er S OO U (Zn (G7 (tOp (HJ K) (Ji i) ti) (X4 j)) u) Fd (mi.bind λx=>(alR as x).bind f):=λH D w s P=>
 ⟨v,hσ,hi.stB (Fd:=Fd) w s P λx vx H2 s2 w2 q2 r2 P2=>by
  unfold alR at P2
  cases dw:ixN as.length x with
  |none=>rw[dw] at P2;exact P2.elim
  |some kk=>
   rw[dw] at P2
   obtain⟨p,xs,Cs,e,q,c⟩:=h _ q2
   subst c e
   obtain⟨row,aE⟩:∃row,as[kk]?=some row:=⟨_,List.getElem?_eq_getElem (SX dw)⟩
   obtain⟨q0,ys,g1,g2,g3⟩:=Du q aE
   have hH:H2 p=some (.lst xs):=w2.tr (p, .lst xs) (List.mem_flatten.mpr ⟨_,List.mem_of_getElem? hk,List.mem_cons_self⟩)
   exact⟨p,xs,x, .ref q0,rfl,r2,SqL.of hH,by unfold atI;rw[q.len.1,dw];exact g1,hr kk (.ref q0) H2 D w2 ⟨q2,p,xs,_,rfl,g1⟩ P2⟩⟩
theorem E4 [z:MonoE r]{y:V}{as:List (List M)}(j k:Nat)(hσ:U[j]?=some (some y))(hk:OO[k]?=some C)(h:∀x,S.p x->oL (oL (oF r)) K x v as C)(ha:∀x,S.p x->rAl C K x y kk):EvB K Er S OO U (Ji j) (rV r) (IE as kk):=λH Q w s P=>by
 unfold IE at P
 cases aE:as[kk]? with
 |none=>rw[aE] at P;exact P.elim
 |some row=>
  rw[aE] at P
  obtain⟨q,ys,e,hq,pr,_⟩:=LS w hk (h _ s) (ha _ s) aE
  exact⟨y,hσ,P y H (Xu.refl _) ⟨q,ys,e,hq,Paired.imp2 (λ_ _ h=>z.mono Xv h) pr⟩⟩
end
section
variable {E:XK}{u:TS}
end
section
end
section
variable {u:TS}[fd:FdOk Fd]
theorem MC [z1:MonoO o1][z2:MonoO o2]{m:Rs (M×B)}{f:M×B->Rs L}(i j k1 k2:Nat)(he:Ev K Er S OO OO' U te (oT2 o1 o2) m)(hk1:k1<OO'.length)(d8:k2<OO'.length)
  (hr:∀a v w C1 C2,Sv Er ((S.addO K o1 v a.1 C1).addO K o2 w a.2 C2) ((OO'.set k1 C1).set k2 C2) ((U.set i (some v)).set j (some w)) u Fd (f a)):Sv Er S OO U (Zn (G7 te (Ii K 2 (YH (X4 i) (YH (X4 j) IK)))) u) Fd (m.bind f):=λH D w s P=>
 he.st w s P λa v C H' w' s' ho P'=>by
  obtain⟨p,x,y,C1,C2,e,hp,h1,h2,c⟩:=ho
  subst c e
  have pm2:(C1::C2::OO').flatten.Perm ((C1++C2)::OO').flatten:=by
   simp only[List.flatten_cons]
   rw[List.append_assoc]
  have w1:W (C1::C2::OO') H':=w'.of pm2
  obtain⟨w2,m2⟩:=SE (k:=k1+1) w1 (by rw[List.length_cons];exact Nat.succ_lt_succ hk1)
  have w2':W (C2::OO'.set k1 C1) H':=w2
  obtain⟨w3,m3⟩:=SE (k:=k2) w2' (by rw[List.length_set];exact d8)
  have m4:Xu (hid H' ((C1++C2)::OO')) (hid H' ((OO'.set k1 C1).set k2 C2)):=by
   rw[←XM pm2]
   exact Xu.trans m2 m3
  exact⟨p,_,rfl,SqT.of (Xv _ _ hp),rfl,x,[y],rfl,y,[],rfl,rfl,hr a x y C1 C2 H' D w3 ⟨⟨S.mono _ _ m4 s',z1.mono m4 h1⟩,z2.mono m4 h2⟩ (PZ.tr (fd.tr D) m4 P')⟩
end
section
end
section
variable {t:TJ}{p:Pos}
end
section
section
variable {u:TS}{te:XK->TE}{m:Rs M}{c:XK->TT}{t2:XK->TS}{ts:Addr->Addr->TS}{N i:Nat}{Ch:Addr}{o:OE ρ}{g:Exc->Rs ρ}{ns:List Str}{d:Str}
end
section
variable {u:TS}[fd:FdOk Fd]
end
end
section
variable {h0 h:Heap}{T:Addr}{cls fl:Value}
end
section
variable {qual:Str}{f:Addr}{cd:Value}{outer:List Env}{s0:Shared}{H0:Hp}{E:XK}
end
section
variable {cl:List (Str×Addr)}{C:Addr}{fp:List Addr}{acc:Value}{E:XK}{use:Option (Value->Sem Unit)}
end
section
variable {bc iter:Expr}{wi:TI}{g:TG}{tt:TT}{E':XK}
end
section
variable {i:Expr}{ty:TE}{ts:List (Str×Int)}{n:Str}{np:Pos}
end
section
end
section
variable {bc iter:Expr}{wi:TI}{g:TG}{tt:TT}{E':XK}
end
section
def Mx.kd:Mx->Nat
 | .i _=>0
 | .s _=>1
 | .b _=>2
theorem WT {x y:V}{a b:Mx}(I:Inv X aa U H s)(rx:XZ x v)(ry:XZ y u)(h1:rMx X.K H x a)(h2:rMx X.K H y b)(hk:a.kd=b.kd)(hu:A.units<cLine):SeqAt.EqAt A s v u (decide (a=b)):=by
 cases a with
 |i n=>cases b with
  |i m=>have:=eq_int.eq (A:=A) I rx ry (show Xf X.K H x n from h1) (show Xf X.K H y m from h2) (by omega);simpa using this
  |s z=>cases hk
  |b z=>cases hk
 |s n=>cases b with
  |i z=>cases hk
  |s m=>have:=W5.eq (A:=A) I rx ry (show Kq X.K H x n from h1) (show Kq X.K H y m from h2) (by omega);simpa using this
  |b z=>cases hk
 |b n=>cases b with
  |i z=>cases hk
  |s z=>cases hk
  |b m=>have:=WL.eq (A:=A) I rx ry (show Xw X.K H x n from h1) (show Xw X.K H y m from h2) (by omega);simpa using this
end
section
variable {t:TJ}{p:Pos}
end
section
def Ie (x y z:Bool):Mx->Bool
 | .i _=>x
 | .s _=>y
 | .b _=>z
theorem ET {m:Rs Mx}(t:String)(x y z:Bool)(hx:W.kitOne K (.type "int") (.type t)=some x)(hy:W.kitOne K (.type "str") (.type t)=some y)(hz:W.kitOne K (.type "bool") (.type t)=some z)(he:EvB K Er S OO U te rMx m):
  EvB K Er S OO U (tCB (λxs H Q=>∃ x n t b,xs=[x, .ty n]/\TyOf K H x t/\W.kitOne K t (.type n)=some b/\Q (.bl b) H) (Xr te (Xr (tC (.ty t)) YE))) Xw (m.bind λa=>.ok (Ie x y z a)):=λH Q w s P=>
 he.run w s FB.tr P λa v H1 s1 w1 q1 r1 P1=>by
  cases(show v=a.v from r1)
  cases a with
  |i n=>exact⟨_,t,_,x,rfl, .int n,hx,P1 _ H1 (Xu.refl _) rfl⟩
  |s n=>exact⟨_,t,_,y,rfl, .str n,hy,P1 _ H1 (Xu.refl _) rfl⟩
  |b n=>exact⟨_,t,_,z,rfl, .bl n,hz,P1 _ H1 (Xu.refl _) rfl⟩
theorem Bd (K:W.Frag):W.kitOne K (.type "str") (.type "bool")=some false:=by
 first
  |rfl
  |decide+kernel
end
section
end
section
end
section
variable {ip:Pos}
end
section
end
section
end
section
end
section
end
end L2
namespace L2
open PySem PySem.Spec PyProof.Rows PySem.MeetsSeq PySem.MeetsSeq2 PySem.MeetsSeq3
open PySem.AutoSeq1 (wpAny_loadPart')
theorem G2 {a b:Int}:(Builtin.Range.rangePlace? a b 1 i).isSome=(decide (a<=i)&&decide (i<b)):=by
 unfold Builtin.Range.rangePlace?
 simp only[gt_iff_lt,Int.zero_lt_one,if_true,Int.emod_one,beq_self_eq_true,Bool.and_true]
 cases h:(decide (a<=i)&&decide (i<b))<;> simp
theorem Jg (r:Addr)(a b:Int)(t u v t0:Tok)(i:Int):
  Meets (Builtin.«range.__contains__» ⟨[.ref r, .int i t0],[]⟩)
   (λA R s=>IsRange s.heap r a b 1 t u v/\R (.ok (.ret (.bool (decide (a<=i)&&decide (i<b))))) s):=
 .of_wp λprog w A R s h=>by
  obtain⟨hp,g,d,tk,os⟩:=s;obtain⟨hl,h⟩:=h
  rw[←G2] at h
  wp_walk using wpAny_loadPart' hl
  exact⟨_,rfl,h⟩
def GZ (i j:Int):Bool:=decide (0<=i)&&decide (i<j)
def AB (p:Bool->Bool)(te:TE)(ta:TA):TE:=λU H Q=>te U H λx H1=>ta U H1 λvs H2=>∃ i j,x= .int i/\vs=[.int j]/\Q (.bl (p (GZ i j))) H2
theorem GS {a:Expr}{ta:TA}{p:Pos}{f:Bool->Bool}(hop:op= .In/\f=id∨op= .NotIn/\f=not)(hg:Gl X "range")(hm:X.mg "range" =none)(he:PE X e te)(ha:PA X [a] ta)(hs:starEach [a] X.env=[(false,eval a X.env)]:=by rfl):PC X op e (.Call (.Name "range" p) [a] [] pos) (AB f te ta):=by
 intro aa s U H Q I h
 refine thn (he aa s U H _ I h) λv s1 r9=>?_
 obtain⟨x,H1,I1,rx,q1⟩:=r9
 refine wpAny_Call_Name_kw (U9 I1 hg hm boot_range ?_)
 refine callWith_type1 (thn (ha pos aa s1 U H1 _ I1 q1) λus s2 r9=>?_) hs rfl
 obtain⟨vs,H2,I2,r2,q2⟩:=r9
 obtain⟨i,j,ex,ev,q⟩:=q2
 subst ex ev
 obtain⟨t0,rfl⟩:=rx
 cases r2 with
 |cons r rr=>
  cases rr
  obtain⟨t,rfl⟩:=r
  refine call_range_1 ?_
  have I3:=I2.kept (t':=s2.toks+1+1) (h':=s2.heap.push {cls:=.type "range",data:=.fields #[.int 0 s2.toks, .int j t, .int 1 (s2.toks+1)]}) λb u e=>Heap.get?_push_of_some _ e
  rcases hop with⟨rfl,rfl⟩ | ⟨rfl,rfl⟩
  ·exact PySem.SeqRoads2.in_meets ⟨_,IsRange.new ..,rfl⟩ F.slot_range_contains F.entry_range_contains (F.args_range_contains_2 _ _) (Jg _ 0 j s2.toks t (s2.toks+1) t0 i) ⟨IsRange.new ..,_,rfl, .bl _,H2,I3,rfl,q⟩
  ·exact PySem.SeqRoads2.notIn_meets ⟨_,IsRange.new ..,rfl⟩ F.slot_range_contains F.entry_range_contains (F.args_range_contains_2 _ _) (Jg _ 0 j s2.toks t (s2.toks+1) t0 i) ⟨IsRange.new ..,_,rfl, .bl _,H2,I3,rfl,q⟩
end L2
namespace L2
open PySem PySem.Spec PyProof.Rows
section
theorem Vs {f:Bool->Bool}{ma:Rs Int}(ha:EvB K Er S OO U ta Xf ma)(hb:EvB K Er S OO U tb Xf mb):EvB K Er S OO U (AB f ta (Xr tb YE)) Xw (ma.bind λa=>mb.bind λb=>.ok (f (GZ a b))):=λH Q w s P=>
 ha.run w s FB.tr P λa x H1 s1 w1 q1 r1 P1=>hb.run w1 q1 FB.tr P1 λb y H2 s2 w2 q2 r2 P2=>⟨a,b,r1,by rw[show y= .int b from r2],P2 _ H2 (Xu.refl _) rfl⟩
end
section
variable {u:TS}[fd:FdOk Fd]
def mx6:List Mx->Rs (Str×Int×Int×Int×Str×Int)
 | [.s a, .i b, .i c, .i d, .s e, .i f]=>.ok (a,b,c,d,e,f)
 |_=>.bad
def mx8:List Mx->Rs (Int×Int×Int×Int×Int×Int×Bool×Int)
 | [.i a, .i b, .i c, .i d, .i e, .i f, .b g, .i h]=>.ok (a,b,c,d,e,f,g,h)
 |_=>.bad
theorem Wd (h:mx6 l= .ok t):l=[.s t.1, .i t.2.1, .i t.2.2.1, .i t.2.2.2.1, .s t.2.2.2.2.1, .i t.2.2.2.2.2]:=by
 unfold mx6 at h
 split at h
 ·cases h;rfl
 ·cases h
theorem TH (h:mx8 l= .ok t):l=[.i t.1, .i t.2.1, .i t.2.2.1, .i t.2.2.2.1, .i t.2.2.2.2.1, .i t.2.2.2.2.2.1, .b t.2.2.2.2.2.2.1, .i t.2.2.2.2.2.2.2]:=by
 unfold mx8 at h
 split at h
 ·cases h;rfl
 ·cases h
theorem T4 {x:Exc}:mx6 l≠ .err x:=by unfold mx6;split<;> exact λz=>nomatch z
theorem S9 {x:Exc}:mx8 l≠ .err x:=by unfold mx8;split<;> exact λz=>nomatch z
theorem Nq {m:Rs (List Mx)}{f:Str×Int×Int×Int×Str×Int->Rs L}(i0 i1 i2 i3 i4 i5:Nat)(he:EvB K Er S OO U te (rPL rMx) m)
  (hr:∀a v0 v1 v2 v3 v4 v5,Sv Er ((((((S.add K Kq v0 a.1).add K Xf v1 a.2.1).add K Xf v2 a.2.2.1).add K Xf v3 a.2.2.2.1).add K Kq v4 a.2.2.2.2.1).add K Xf v5 a.2.2.2.2.2) OO ((((((U.set i0 (some v0)).set i1 (some v1)).set i2 (some v2)).set i3 (some v3)).set i4 (some v4)).set i5 (some v5)) u Fd (f a)):
  Sv Er S OO U (Zn (G7 te (Ii K 6 (YH (X4 i0) (YH (X4 i1) (YH (X4 i2) (YH (X4 i3) (YH (X4 i4) (YH (X4 i5) IK)))))))) u) Fd (m.bind λl=>(mx6 l).bind f):=λH D w s P=>
 he.st w s P λa v H1 s1 w1 q1 ⟨p,xs,e,h,pr⟩ P1=>by
  cases et:mx6 a with
  |bad=>rw[et] at P1;exact P1.elim
  |err x=>exact absurd et T4
  |ok t=>
   rw[et] at P1
   have ea:=Wd et
   subst ea
   cases pr with
   |cons r0 pr=>cases pr with
    |cons r1 pr=>cases pr with
     |cons r2 pr=>cases pr with
      |cons r3 pr=>cases pr with
       |cons r4 pr=>cases pr with
        |cons r5 pr=>
         cases pr
         exact⟨p,_,e,SqT.of h,rfl,_,_,rfl,_,_,rfl,_,_,rfl,_,_,rfl,_,_,rfl,_,_,rfl,rfl,hr t _ _ _ _ _ _ H1 D w1 ⟨⟨⟨⟨⟨⟨q1,r0⟩,r1⟩,r2⟩,r3⟩,r4⟩,r5⟩ P1⟩
theorem Ng {m:Rs (List Mx)}{f:Int×Int×Int×Int×Int×Int×Bool×Int->Rs L}(i0 i1 i2 i3 i4 i5 i6 i7:Nat)(he:EvB K Er S OO U te (rPL rMx) m)
  (hr:∀a v0 v1 v2 v3 v4 v5 v6 v7,Sv Er ((((((((S.add K Xf v0 a.1).add K Xf v1 a.2.1).add K Xf v2 a.2.2.1).add K Xf v3 a.2.2.2.1).add K Xf v4 a.2.2.2.2.1).add K Xf v5 a.2.2.2.2.2.1).add K Xw v6 a.2.2.2.2.2.2.1).add K Xf v7 a.2.2.2.2.2.2.2) OO ((((((((U.set i0 (some v0)).set i1 (some v1)).set i2 (some v2)).set i3 (some v3)).set i4 (some v4)).set i5 (some v5)).set i6 (some v6)).set i7 (some v7)) u Fd (f a)):
  Sv Er S OO U (Zn (G7 te (Ii K 8 (YH (X4 i0) (YH (X4 i1) (YH (X4 i2) (YH (X4 i3) (YH (X4 i4) (YH (X4 i5) (YH (X4 i6) (YH (X4 i7) IK)))))))))) u) Fd (m.bind λl=>(mx8 l).bind f):=λH D w s P=>
 he.st w s P λa v H1 s1 w1 q1 ⟨p,xs,e,h,pr⟩ P1=>by
  cases et:mx8 a with
  |bad=>rw[et] at P1;exact P1.elim
  |err x=>exact absurd et S9
  |ok t=>
   rw[et] at P1
   have ea:=TH et
   subst ea
   cases pr with
   |cons r0 pr=>cases pr with
    |cons r1 pr=>cases pr with
     |cons r2 pr=>cases pr with
      |cons r3 pr=>cases pr with
       |cons r4 pr=>cases pr with
        |cons r5 pr=>cases pr with
         |cons r6 pr=>cases pr with
          |cons r7 pr=>
           cases pr
           exact⟨p,_,e,SqT.of h,rfl,_,_,rfl,_,_,rfl,_,_,rfl,_,_,rfl,_,_,rfl,_,_,rfl,_,_,rfl,_,_,rfl,rfl,hr t _ _ _ _ _ _ _ _ H1 D w1 ⟨⟨⟨⟨⟨⟨⟨⟨q1,r0⟩,r1⟩,r2⟩,r3⟩,r4⟩,r5⟩,r6⟩,r7⟩ P1⟩
end
theorem BF (K:W.Frag):W.kitOne K (.type "str") (.type "int")=some false:=by
 first
  |rfl
  |decide+kernel
theorem Bg (K:W.Frag):W.kitOne K (.type "bool") (.type "int")=some true:=by
 first
  |rfl
  |decide+kernel
end L2
namespace L2
open PySem PySem.Spec PyProof.Rows PySem.W
def Wj (sp:Sp)(K:Frag)(cc:Value)(i:Nat)(t:TA)(ts:TS):TS:=λD U H=>
 t U H λvs H1=>sp vs H1 (λv H2=>D.nx (U.set i (some v)) H2) (λc _ H'=>exmOne K c cc=some true/\ts D U H')
section
variable {cM:List Stmt}{b₀:Stmt}{cn n fx:Str}{Ch:Addr}{i:Nat}{ts:TS}{np hpos p am aJ xpos:Pos}{sp:Sp}{t:TA}
theorem Rx (G:FnX X.prog X.w X.K X.mg X.base k fx ps sp)(hr:Room j X.A)(hj:k<=j)(ha:∀pn xe,PA (X.alt pn xe) (e::es) t)(dZ:X.stack=X.env::X.outer)(hex:X.ex=[])(dL:X.env.frame=some X.env.locals)(hg:Gl X cn)(hm:X.mg cn=some (.ref Ch))(hN:X.N.Nodup)(hi:X.N[i]?=some n)(iS:X.env.scope.names.lookup n=some .local)
  (hs:∀pn a,PSs (X.held a pn) (b₀::cM) ts)
  (hgf:Gl X fx:=by rfl)(gi:(fx==("__debug__":Str))=false:=by decide)(hsw:swapsWith (.Call (.Name fx p) (e::es) [] am) (some (.Name n xpos)) aJ.line X.env=pure false:=by rfl)
  (he:starEach (e::es) X.env=(false,eval e X.env)::starEach es X.env:=by rfl)(hpl:(backTo am (starEach es X.env)).any (·.1)=false:=by rfl)(c7:(cn==("__debug__":Str))=false:=by decide):
  PS X (.Try [.Assign [.Name n xpos] (.Call (.Name fx p) (e::es) [] am) aJ] [.ExceptHandler (some (.Name cn np)) none (b₀::cM) hpos] [] [] pos) (Wj sp X.K (.ref Ch) i t ts):=by
 intro aa s U H D I h
 obtain⟨f,fd,F,b,kp,mf⟩:=G.ex
 refine wpAny_Try_except (wpAny_execs_cons (wpAny_Assign_Name ?_ hsw))
 refine wpAny_Call_Name_kw (GV I hgf mf ?_ gi)
 have I0:∀xe,Inv (X.alt (X.pn++aa) xe) [] U H s:=λxe=>⟨I.ok.alt _ _,I.os,I.bare,I.base,I.loc,I.cell,I.free,I.freeC,λp hp=>I.pin p (by simpa using hp),I.hok,I.len⟩
 have iT:∀{xe pins1 U' H' s'},Inv (X.alt (X.pn++aa) xe) pins1 U' H' s'->Inv X aa U' H' s':=fun {xe pins1 U' H' s'} J=>⟨I.ok,J.os,J.bare,J.base,J.loc,J.cell,J.free,J.freeC,λp hp=>J.pin p (List.mem_append_left _ hp),J.hok,J.len⟩
 refine PySem.W.callWith_K (h₀:=X.base) I.ok.mod.kin kp (wpAny_mono (ha (X.pn++aa) (λ_ _=>False) am [] s U H _ (I0 _) h) (λus s1 ⟨vs,H1,I1',r,q⟩=>have I1:=iT I1';⟨I1.kIn,?_⟩) λe s z=>z.elim) he hpl
 have hl:(us++[]).length=ps.length:=by rw[List.append_nil, ←r.length];exact F.len _ _ _ _ q
 have bb:=b s1 us I1.kIn hl
 rw[List.append_nil] at bb
 refine wpAny_call (codeAny_mono (F.run X.A X.stack s1 H1 ⟨us,[]⟩ us vs _ _ (hr.mono hj) I1.env0 bb r q) λrr s' hq=>?_)
 cases rr with
 |ok fl=>
  cases fl with
  |ret u=>
   obtain⟨v,H2,I2,rv,q2⟩:=I1.after hq
   refine Ql I2 hN hi (.inl iS) rv (λs3 I3=>wpAny_execs_nil (wpAny_execs_nil ⟨_,H2,I3,q2⟩)) (.inr iS)
  |next=>exact False.elim hq
  |brk=>exact False.elim hq
  |cont=>exact False.elim hq
 |error e=>
  obtain⟨a,T,C,H',he,x,os,bare,un,hok,hexm,hts⟩:=hq
  subst he
  have J:Inv X aa U H' s':=I1.call' os un hok bare (λb z=>nomatch z)
  have q1:∀b,s1.heap.get? b=none->X.s₀.heap.get? b=none/\b≠X.env.locals/\(∀y c,X.env.cells.lookup y=some c->c≠b)/\∀p∈X.pn++aa,p.1≠b:=λb nb=>by
   refine⟨?_,λz=>?_,λy c hy z=>?_,λp hp z=>?_⟩
   ·cases q:X.s₀.heap.get? b with
    |none=>rfl
    |some o=>obtain⟨o',e⟩:=I1.base.there b o q (by rw[hex];simp);rw[nb] at e;cases e
   ·obtain⟨m,⟨o,es,ep,ho,_⟩,_⟩:=I1.loc
    rw[←z,nb] at ho;cases ho
   ·obtain⟨v,o,ho,_⟩:=I1.cell y c hy
    rw[z,nb] at ho;cases ho
   ·obtain⟨e,_⟩:=I1.pin p hp
    rw[z,nb] at e;cases e
  have hl:s'.heap.FunFrames X.base (X.env::X.outer):=dZ▸J.stack
  have eX:∀b∈frs (X.env::X.outer),H' b=none:=dZ▸J.stkFree
  have hA:X.A.frames=some (X.env::X.outer):=dZ▸I.ok.frames
  obtain⟨a0,fl⟩:=x.fly hl
  refine wpAny_looks_onW hA dL fl λh2 cb up2=>?_
  refine wpAny_landsW cb λh3 fl3 up3=>?_
  obtain⟨T3,x3,iU,un3⟩:=x.after hl eX hok (λb o e=>un.there b o e (λz=>nomatch z)) fl3.1 fl3.2.2.2 (up2.trans up3)
  have ch:∀{Uqz:Addr},s1.heap.get? Uqz=none->∀b∈[a,Uqz],X.s₀.heap.get? b=none/\b≠X.env.locals/\(∀y c,X.env.cells.lookup y=some c->c≠b)/\∀p∈X.pn++aa,p.1≠b:=fun {Uqz} nU b hb=>by
   rcases List.mem_cons.mp hb with z |z
   ·rw[z];exact q1 a x.na
   ·rw[List.mem_singleton.mp z];exact q1 Uqz nU
  have J3:Inv X aa U H' {s' with heap:=h3}:=J.past (by rw[dZ];exact un3) iU (ch x.nT)
  have hh:∀{s4:Shared},Inv X aa U H' s4->Inv (X.held a (X.pn++aa)) [] U H' s4:=fun {s4} J4=>
   ⟨I.ok.held _ _,J4.os,J4.bare,J4.base,J4.loc,J4.cell,J4.free,J4.freeC,λp hp=>J4.pin p (by simpa using hp),J4.hok,J4.len⟩
  have hl3:h3.FunFrames X.base (X.env::X.outer):=dZ▸J3.stack
  obtain⟨oe,vs,oT,tts,a1,ha3,hc3,_⟩:=id x3.obj
  refine wpAny_handleBy_cons (codeAny_handlers_test (GV (hh J3) hg hm ?_ c7)) (by intro q;cases q)
  have LT:PySem.W.Looks (model X.prog X.w) h3 (typeOf (.ref a)) (.ref C):=hc3▸(PySem.W.Looks.ld ha3).andThen .now
  refine PySem.W.exm_one J3.kIn LT hexm _ _ _ _ (λ_ _ e=>e) ?_
  refine codeAny_handlers_suite ?_
  obtain⟨a2,fl4⟩:=x3.fly hl3
  refine lands_againW fl4 λh5 fl5 up5=>?_
  obtain⟨T5,x5,hok5,un5⟩:=x3.after hl3 eX iU (λb o e=>by
   obtain⟨o',e'⟩:=un.there b o e (λz=>nomatch z)
   by_cases z:b∈[a,T]
   ·rcases List.mem_cons.mp z with z |z
    ·rw[z,x.na] at e;cases e
    ·rw[List.mem_singleton.mp z,x.nT] at e;cases e
   ·exact un3.there b o' e' z) fl5.1 fl5.2.2.2 up5
  have J5:Inv X aa U H' {s' with heap:=h5}:=J3.past (by rw[dZ];exact un5) hok5 (ch x3.nT)
  refine wpAny_mono (hs _ a [] _ _ H' _ (hh J5) hts) (λf s7 hq=>?_) λ_ _ z=>z.elim
  have back:∀{σ7 H7},Inv (X.held a (X.pn++aa)) [] σ7 H7 s7->Inv X aa σ7 H7 s7:=fun {σ7 H7} J8=>
   ⟨I.ok,J8.os,J8.bare,J8.base,J8.loc,J8.cell,J8.free,J8.freeC,λp hp=>J8.pin p (by simpa using hp),J8.hok,J8.len⟩
  cases f with
  |next=>obtain⟨σ7,H7,J7,q⟩:=hq;exact⟨_,H7,back J7,q⟩
  |brk=>obtain⟨σ7,H7,J7,q⟩:=hq;exact⟨_,H7,back J7,q⟩
  |cont=>obtain⟨σ7,H7,J7,q⟩:=hq;exact⟨_,H7,back J7,q⟩
  |ret u=>obtain⟨v,σ7,H7,J7,r,q⟩:=hq;exact⟨v,_,H7,back J7,r,q⟩
end
end L2
namespace L2
open PySem PySem.Spec PyProof.Rows
section
variable {u:TS}[fd:FdOk Fd]
theorem SR {m:Rs L}(j:Nat)(hr:Sv Er S OO (U.set j (some .non)) u Fd m):Sv Er S OO U (Zn (G7 (tC .non) (X4 j)) u) Fd m:=λH D w s P=>hr H D w s P
theorem Pf:EvB K Er S OO U te r .bad:=λH Q w s P=>P.elim
theorem RS [z1:MonoE r1][FlatO o1][MonoO o1]{f:α1->α2->Rs B}{ma:Rs α1}{mb:Rs α2}{ns:List Str}{d:Str}(i k:Nat)(Y:Ecs ns K mg)(hd:d∈ns)(hm:mg d=some (.ref Ch))(hk:k<OO.length)
  (ha:EvB K Er S OO U ta r1 ma)(hb:EvB K Er S OO U tb r2 mb)
  (hr:∀a v C,Sv Er (S.addO K o1 v a C) (OO.set k C) (U.set i (some v)) u Fd (kk a))
  (hs:Sv Er S OO U (Zn ts u) Fd g):
  Sv Er S OO U (Zn (Wj (M8 mg r1 r2 o1 f K) K (.ref Ch) i (Xr ta (Xr tb YE)) ts) u) Fd
   (ma.bind λa=>mb.bind λb=>(f a b).tryC kk (λx=>chk (cau ns x.cls d=true) g)):=λH D w s P=>by
 refine ha.stB (Fd:=Fd) w s P λa v1 H1 s1 w1 q1 ra P1=>?_
 refine hb.stB (Fd:=Fd) w1 q1 P1 λb v2 H2 s2 w2 q2 rb P2=>?_
 refine⟨v1,v2,a,b,rfl,z1.mono s2 ra,rb,⟨?_⟩⟩
 generalize f a b=m at P2⊢
 cases m with
 |bad=>exact P2
 |ok c=>
  refine Vn w2 λv C H' s' w' m' ho=>?_
  obtain⟨w3,h3⟩:=SE w' hk
  exact hr c v C H' D w3 ⟨S.mono _ _ (m'.trans h3) q2,MonoO.mono h3 ho⟩ (PZ.tr (fd.tr D) (m'.trans h3) P2)
 |err x=>
  intro H' s' C hC
  obtain⟨dn,P4⟩:=Ml (c:=cau ns x.cls d=true) (m:=g) P2
  unfold cau at dn
  rw[Bool.and_eq_true,decide_eq_true_eq] at dn
  exact⟨by rw[Y.exm _ dn.1 d hd C Ch hC hm,dn.2],hs H' D (w2.keep s') (S.mono _ _ (Xh s') q2) (PZ.tr (fd.tr D) (Xh s') P4)⟩
theorem Md [z:MonoE r]{m:Rs (M×M)}{f:List (List M)->Rs L}{y:V}{as:List (List M)}(j k:Nat)(hσ:U[j]?=some (some y))(hk:OO[k]?=some C)(h:∀x,S.p x->oL (oL (oF r)) K x v as C)(ha:∀x,S.p x->rAl C K x y kk)(he:EvS K Er S OO U ta (rP2 r r) m)(hi:EvB K Er S OO U ti Xf mi)(hj:∀bs C',EvB K Er ((S.addO K (oL (oL (oF r))) v bs C').add K (rAl C') y kk) (OO.set k C') U tj Xf mj)
  (hr:∀bs C',Sv Er ((S.addO K (oL (oL (oF r))) v bs C').add K (rAl C') y kk) (OO.set k C') U u Fd (f bs)):
  Sv Er S OO U (Zn (G7 ta (Ii K 2 (YH (Sx (Ji j) ti HK) (YH (Sx (Ji j) tj HK) IK)))) u) Fd (m.bind λa=>mi.bind λx=>(IE as kk).bind λrow=>(Ve row x a.1).bind λrow'=>mj.bind λx2=>(Ve row' x2 a.2).bind λfm=>f (as.set kk fm)):=λH D w s P=>
 he.st w s P λa va H1 s1 w1 q1 r1 P1=>by
  obtain⟨p,x1,x2,rfl,hp,ra,rb⟩:=r1
  refine⟨p,[x1,x2],rfl,SqT.of (Xv _ _ hp),rfl,x1,[x2],rfl,y,hσ,hi.stB (Fd:=Fd) w1 q1 P1 λx vx H2 s2 w2 q2 r2 P2=>?_⟩
  have gq:=(List.getElem?_eq_some_iff.mp hk).1
  unfold IE at P2
  cases aE:as[kk]? with
  |none=>rw[aE] at P2;exact P2.elim
  |some row=>
   rw[aE] at P2
   obtain⟨q,ys,e,hq,pr,up⟩:=LS w2 hk (h _ q2) (ha _ q2) aE
   have P3:PZ Er (Fd D) (hid H2 OO) ((Ve row x a.1).bind λrow'=>mj.bind λx2=>(Ve row' x2 a.2).bind λfm=>f (as.set kk fm)):=P2
   cases eb:Ve row x a.1 with
   |bad=>rw[eb] at P3;exact P3.elim
   |err ex=>exact absurd eb DJ
   |ok row'=>
    rw[eb] at P3
    obtain⟨jj,hjj,er⟩:=Ce eb
    obtain⟨C',w4,m4,o4,al4⟩:=up (ys.set jj x1) _ (J9 (z.mono (Xh s2) ra) jj pr)
    rw[←er] at o4
    refine⟨q,ys,x,jj,e,r2,hq,by rw[Paired.len pr];exact hjj,x2,[],rfl,y,hσ,?_⟩
    refine(hj _ C').stB (Fd:=Fd) w4 ⟨⟨S.mono _ _ m4 q2,o4⟩,al4⟩ (PZ.tr (fd.tr D) m4 P3) λx3 vx3 H5 s5 w5 q5 r5 P5=>?_
    obtain⟨⟨q6,o6⟩,al6⟩:=q5
    obtain⟨q',ys5,e5,hq5,pr5,up5⟩:=LS w5 (List.getElem?_set_self gq) o6 al6 (List.getElem?_set_self (List.getElem?_eq_some_iff.mp aE).1)
    cases eb2:Ve row' x3 a.2 with
    |bad=>rw[eb2] at P5;exact P5.elim
    |err ex=>exact absurd eb2 DJ
    |ok fm=>
     rw[eb2] at P5
     obtain⟨jj2,hjj2,er2⟩:=Ce eb2
     obtain⟨C2,w7,m7,o7,al7⟩:=up5 (ys5.set jj2 x2) _ (J9 (z.mono ((Xh s2).trans (m4.trans (Xh s5))) rb) jj2 pr5)
     rw[←er2,List.set_set,List.set_set] at o7
     rw[List.set_set] at w7 m7
     exact⟨q',ys5,x3,jj2,e5,r5,hq5,by rw[Paired.len pr5];exact hjj2,rfl,hr _ C2 _ D w7 ⟨⟨S.mono _ _ m7 q6,o7⟩,al7⟩ (PZ.tr (fd.tr D) m7 P5)⟩
end
section
variable {x y:V}{v:Value}{as bs:List Mx}
theorem Ra [DecidableEq M]{a:M}:M7 a l=true↔a∈l:=decide_eq_true_iff
theorem P7 {a b:Mx}(h1:rMx K H x a)(h2:rMx K H x b):a=b:=by
 cases a<;> cases b<;> cases h1<;> cases h2<;> rfl
theorem FQ:∀{xs:List V}{as bs:List Mx},Paired (rMx K H) xs as->Paired (rMx K H) xs bs->as=bs
 |_,_,_, .nil, .nil=>rfl
 |_,_,_, .cons h t, .cons h' t'=>by rw[P7 h h',FQ t t']
theorem eqM (I:Inv X aa U H s)(rx:XZ x v)(ry:XZ y u)(h1:rPL rMx X.K H x as)(h2:rPL rMx X.K H y bs)(hk:as.map Mx.kd=bs.map Mx.kd)(hu:A.units+1<cLine):SeqAt.EqAt A s v u (decide (as=bs)):=by
 obtain⟨a,xs,rfl,q1,p1⟩:=h1
 obtain⟨b,ys,rfl,q2,p2⟩:=h2
 cases rx;cases ry
 by_cases ab:a=b
 ·subst ab
  rw[q1] at q2
  cases q2
  rw[FQ p1 p2,decide_eq_true rfl]
  exact SeqAt.EqAt.same _
 obtain⟨its,r1,l1,_⟩:=I.tuple (SqT.of q1)
 obtain⟨aB,r2,l2,_⟩:=I.tuple (SqT.of q2)
 have n1:=r1.length
 have n2:=r2.length
 have m1:=Paired.len p1
 have m2:=Paired.len p2
 have:=SeqAt.RcAt.tuples (A:=A) (e:=λj=>decide (as[j]?=bs[j]?)) l1 l2 (by omega) (λj h1 h2=>by
  have bD:j<its.length:=by simpa using h1
  have br:j<aB.length:=by simpa using h2
  obtain⟨x,ex,rx⟩:=Paired.getR (i:=j) (b:=its[j]) r1 (by simp[bD])
  obtain⟨y,ey,ry⟩:=Paired.getR (i:=j) (b:=aB[j]) r2 (by simp[br])
  obtain⟨a,ea,ra⟩:=Paired.getL p1 ex
  obtain⟨b,eb,rb⟩:=Paired.getL p2 ey
  have kk:a.kd=b.kd:=by
   have z:=congrArg (λl=>l[j]?) hk
   simpa[ea,eb] using z
  have:=WT (A:=A.in1) I rx ry ra rb kk (by rw[ZD];omega)
  simp only[ea,eb]
  simpa using this)
 rw[show its.toArray.size=as.length by simp only[List.size_toArray];omega,show aB.toArray.size=bs.length by simp only[List.size_toArray];omega,RP] at this
 exact .of_refs ab this
def Ax (K:W.Frag):R2:=λx y H Q=>∃ l xs,∃(bs:List (List Mx)) (a:List Mx),y= .ref l/\SqL K H l xs/\Paired (rPL rMx K H) xs bs/\rPL rMx K H x a/\(∀b∈bs,b.map Mx.kd=a.map Mx.kd)/\Q (.bl (M7 a bs)) H
open Classical in
theorem IS (K:W.Frag)(hK:X.K=K)(hu:X.A.units+2<cLine):OpR X (compareOp .In) (Ax K):=by
 subst hK
 intro aa s U H x y v u Q I rx ry h
 obtain⟨l,xs,bs,a,rfl,hq,pr,hx,hk,q⟩:=h
 cases ry
 obtain⟨its,rr,pl,hz⟩:=I.list hq
 let e:Value->Bool:=λw=>decide (∃i:Nat,its[i]?=some w/\bs[i]?=some a)
 have he:∀(i:Nat) (w:Value) (b:List Mx),its[i]?=some w->bs[i]?=some b->e w=decide (b=a):=by
  intro i w b h1 h2
  rw[Bool.eq_iff_iff]
  simp only[e,decide_eq_true_eq]
  constructor
  ·rintro⟨j,h3,h4⟩
   obtain⟨x1,eN,rx1⟩:=Paired.getR rr h1
   obtain⟨x2,cV,rx2⟩:=Paired.getR rr h3
   obtain⟨c1,iV,rc1⟩:=Paired.getL pr eN
   obtain⟨c2,cU,rc2⟩:=Paired.getL pr cV
   rw[h2] at iV;rw[h4] at cU
   cases iV;cases cU
   have:=XZ.inj rx1 rx2
   subst this
   obtain⟨p,ys,e1,q1,p1⟩:=rc1
   obtain⟨p',ys',e2,q2,p2⟩:=rc2
   rw[e1] at e2;cases e2
   rw[q1] at q2;cases q2
   exact FQ p1 p2
  ·rintro rfl;exact⟨i,h1,h2⟩
 refine SeqAt.in_listAt e pl.isList (λw hw=>?_) ⟨.bl _,H,I,rfl,?_⟩
 ·obtain⟨i,hi⟩:=List.getElem?_of_mem (show w∈its by simpa using hw)
  obtain⟨x1,eN,rx1⟩:=Paired.getR rr hi
  obtain⟨c1,iV,rc1⟩:=Paired.getL pr eN
  rw[he i w c1 hi iV]
  exact eqM I rx1 rx rc1 hx (hk c1 (List.mem_of_getElem? iV)) (by rw[ZD];omega)
 ·rw[show its.toArray.any e=M7 a bs from ?_]
  ·exact q
  rw[show its.toArray.any e=its.any e by simp,Bool.eq_iff_iff,List.any_eq_true,Ra]
  constructor
  ·rintro⟨w,hw,h⟩
   simp only[e,decide_eq_true_eq] at h
   obtain⟨i,_,h2⟩:=h
   exact List.mem_of_getElem? h2
  ·intro h
   obtain⟨i,hi⟩:=List.getElem?_of_mem h
   obtain⟨x1,eN,rc1⟩:=Paired.getR pr hi
   obtain⟨w,hw,_⟩:=rr.get eN
   exact⟨w,List.mem_of_getElem? hw,by rw[he i w a hw hi];simp⟩
end
section
theorem B9 {ma:Rs (List Mx)}{mb:Rs (List (List Mx))}(ha:EvB K Er S OO U ta (rPL rMx) ma)(hb:EvB K Er S OO U tb (rV (rPL rMx)) mb):EvB K Er S OO U (tOp (Ax K) ta tb) Xw (ma.bind λa=>mb.bind λb=>chk (∀c∈b,c.map Mx.kd=a.map Mx.kd) (.ok (M7 a b))):=λH Q w s P=>
 ha.run w s FB.tr P λa x H1 s1 w1 q1 r1 P1=>hb.run w1 q1 FB.tr P1 λb v H2 s2 w2 q2 ⟨p,xs,e,q,pr⟩ P2=>by
  obtain⟨hc,P3⟩:=Ml P2
  exact⟨p,xs,b,a,e,SqL.of q,pr,(inferInstance:MonoE (rPL rMx)).mono s2 r1,hc,P3 _ H2 (Xu.refl _) rfl⟩
end
section
def N1 (P:Program)(w:World)(p:Addr)(n:Nat):HO:=.ext λh=>∃ S,h.SetOf (intKind P w) p S n
def Ta (K:W.Frag)(P:Program)(w:World):List V->Hp->VK->Prop:=λxs H Q=>∃ l ns,xs=[.ref l]/\SqL K H l (ns.map V.int)/\ns.length<64/\∀p,H p=none->Q (.ref p) (upd H p (N1 P w p (dd ns).length))
theorem TX (ns:List Int):firstMet (λi=>ns.getD i 0) ns.length=dd ns:=by
 unfold firstMet dd
 congr 1
 exact List.ext_getElem (by simp) λi h1 h2=>by simp[h2]
theorem LA (K:W.Frag)(hK:X.K=K)(hc:X.calm=true):ZX X (.type "set") (Ta K X.prog X.w):=by
 subst hK
 intro aa s U H xs us Q I r h
 obtain⟨l,ns,rfl,hq,eZ,q⟩:=h
 obtain⟨u,rfl,ru⟩:=Vg r
 cases ru
 obtain⟨its,rv,pl,hz⟩:=I.list hq
 have hn:its.toArray.size=ns.length:=by have:=rv.length;simpa using this.symm
 refine call_set_list (I.ok.hd hc) pl.isList (F4 rv) (by have:scanBound=4096:=rfl;omega) λh' tk hS bR=>?_
 rw[hn,TX] at hS
 refine⟨.ref s.heap.objs.size,_,I.laid (t':=tk) (λb o e=>bR b o (Heap.lt_size e) e) (Nat.le_refl _) (show YG X.prog X.w _ _ _ (N1 X.prog X.w s.heap.objs.size (dd ns).length) from⟨⟨_,hS⟩,?_,λh1 h2 r9 k=>by obtain⟨S,o,es,ep,t,ho,x⟩:=r9;exact⟨S,o,es,ep,t,k o ho,x⟩⟩),rfl,q _ (I.hok.fresh (Nat.le_refl _))⟩
 obtain⟨o,_,_,_,ho,_⟩:=hS
 exact⟨o,ho⟩
def Wb (P:Program)(w:World):List V->Hp->VK->Prop:=λxs H Q=>∃ l n,xs=[.ref l]/\H l=some (N1 P w l n)/\Q (.int n) H
theorem MX:ZX X (.builtin "len") (Wb X.prog X.w):=by
 intro aa s U H xs us Q I r h
 obtain⟨l,n,rfl,he,q⟩:=h
 obtain⟨u,rfl,ru⟩:=Vg r
 cases ru
 obtain⟨S,o,es,ep,t,ho,hex,hd,_,_,hb,hf,rfl⟩:=(show YG X.prog X.w H s.heap l (N1 X.prog X.w l n) from I.hok l _ he).1
 exact call_len_set ho hex hd hf (by have:scanBound=4096:=rfl;omega) ⟨.int es.size,H,I.tok _,⟨_,rfl⟩,q⟩
end
section
theorem Et {ma:Rs (List Int)}(ha:EvL K Er S OO U ta Xf ma):EvB K Er S OO U (tCB (Wb P w0) (Xr (tCB (Ta K P w0) (Xr ta YE)) YE)) Xf (ma.bind λas=>chk (as.length<64) (.ok ((dd as).length:Int))):=λH Q w s Pz=>
 ha.run w s FB.tr Pz λas x H1 s1 w1 q1 ⟨p,xs,e,q,pr⟩ P1=>by
  obtain⟨hl,P2⟩:=PZ.chk P1
  have P3:FB K Xf Q ((dd as).length:Int) H1:=P2
  refine⟨p,as,by rw[e],SqL.of (by rw[←Kx pr];exact q),hl,λS hS=>?_⟩
  exact⟨S,_,rfl,Yg,P3 _ _ (XR hS _) rfl⟩
end
end L2
end
namespace L2
open PySem PySem.Spec PyProof.Rows
theorem Ix {X:Cx}{M:Type}[DecidableEq M]{r:Enc M}{d:Nat}(K:W.Frag)(h:X.K=K)(E:EqOk r d)(hu:X.A.units+d<cLine):OpR X (compareOp .Eq) (Wn K r):=by subst h;exact SM E hu
theorem K2 {X:Cx}{M:Type}[DecidableEq M]{r:Enc M}{d:Nat}(K:W.Frag)(h:X.K=K)(E:EqOk r d)(hu:X.A.units+d<cLine):OpR X (compareOp .NotEq) (Wx K r):=by subst h;exact Tj E hu
section
variable {M L B δ ρ:Type}{K:W.Frag}{Er:Exc->Hp->Prop}{S T:SC}{OO:List (List XG)}{U l:St}{i j k n:Nat}{v w:V}{x:Option V}{r:Enc M}{q:Enc L}{t:Enc B}{o:OE M}{a:M}{C D:List XG}{te ta tb tc:TE}
class Nn (i j:Nat):Prop where h:i≠j
instance:Nn 0 (j+1):=⟨by omega⟩
instance:Nn (i+1) 0:=⟨by omega⟩
instance [x:Nn i j]:Nn (i+1) (j+1):=⟨by have:=x.h;omega⟩
class Lk {L:Type}(l:List L)(k:Nat):Prop where h:k<l.length
instance {b:L}{l:List L}:Lk (b::l) 0:=⟨by simp⟩
instance {b:L}{l:List L}[x:Lk l k]:Lk (b::l) (k+1):=⟨by simpa using x.h⟩
instance {b:L}{l:List L}[x:Lk l k]:Lk (l.set j b) k:=⟨by simpa using x.h⟩
instance {b:L}:Lk (List.replicate (n+1) b) 0:=⟨by simp⟩
instance {b:L}[x:Lk (List.replicate n b) k]:Lk (List.replicate (n+1) b) (k+1):=⟨by simpa using x.h⟩
instance {l m:List L}[x:Lk l k]:Lk (l++m) k:=⟨by have:=x.h;simp;omega⟩
class Sl (U:St)(i:Nat)(v:outParam V):Prop where h:U[i]?=some (some v)
instance:Sl (some v::l) 0 v:=⟨rfl⟩
instance [y:Sl l i v]:Sl (x::l) (i+1) v:=⟨y.h⟩
instance [y:Lk U i]:Sl (U.set i (some v)) i v:=⟨by simp[y.h]⟩
instance [y:Sl U i v][z:Nn j i]:Sl (U.set j x) i v:=⟨by rw[List.getElem?_set_ne z.h];exact y.h⟩
class Cp (caps:List (Nat×Str))(j:Nat)(i:outParam Nat):Prop where h:∃s,caps[j]?=some (i,s)
instance {s:Str}{c:List (Nat×Str)}:Cp ((i,s)::c) 0 i:=⟨s,rfl⟩
instance {p:Nat×Str}{c:List (Nat×Str)}[y:Cp c j i]:Cp (p::c) (j+1) i:=⟨y.h⟩
instance {s:Str}{z:List Str}{c:List (Nat×Str)}:Lk (Yf (List.length (s::z)) c U) 0:=⟨by unfold Yf;simp;omega⟩
instance {s s':Str}{z:List Str}{c:List (Nat×Str)}:Lk (Yf (List.length (s::s'::z)) c U) 1:=⟨by unfold Yf;simp;omega⟩
instance {s:Str}{c:List (Nat×Str)}[y:Cp c j i][z:Sl U i v]:Sl (Yf (List.length [s]) c U) (j+1) v:=⟨by
 obtain⟨s,h⟩:=y.h
 unfold Yf
 rw[List.getElem?_append_right (by simp),List.getElem?_map]
 simp[h,z.h]⟩
instance {s s':Str}{c:List (Nat×Str)}[y:Cp c j i][z:Sl U i v]:Sl (Yf (List.length [s,s']) c U) (j+2) v:=⟨by
 obtain⟨s,h⟩:=y.h
 unfold Yf
 rw[List.getElem?_append_right (by simp),List.getElem?_map]
 simp[h,z.h]⟩
instance {s s' s2:Str}{z:List Str}{c:List (Nat×Str)}:Lk (Yf (List.length (s::s'::s2::z)) c U) 2:=⟨by unfold Yf;simp;omega⟩
instance {s s' s2:Str}{c:List (Nat×Str)}[y:Cp c j i][z:Sl U i v]:Sl (Yf (List.length [s,s',s2]) c U) (j+3) v:=⟨by
 obtain⟨s,h⟩:=y.h
 unfold Yf
 rw[List.getElem?_append_right (by simp),List.getElem?_map]
 simp[h,z.h]⟩
class Ow (OO:List (List XG))(k:outParam Nat)(C:List XG):Prop where h:OO[k]?=some C
instance:Ow (C::OO) 0 C:=⟨rfl⟩
instance [y:Ow OO k C]:Ow (D::OO) (k+1) C:=⟨y.h⟩
instance [y:Lk OO k]:Ow (OO.set k C) k C:=⟨by simp[y.h]⟩
instance [y:Ow OO k C][z:Nn j k]:Ow (OO.set j D) k C:=⟨by rw[List.getElem?_set_ne z.h];exact y.h⟩
class Fc (S:SC)(K:W.Frag)(v:V){M:outParam Type}(r:outParam (Enc M))(a:outParam M):Prop where h:∀x,S.p x->r K x v a
instance [MonoE r]:Fc (S.and (SC.one K r v a)) K v r a:=⟨λ_ s=>s.2⟩
instance (priority:=900)[y:Fc S K v r a]:Fc (S.and T) K v r a:=⟨λx s=>y.h x s.1⟩
class Fo (S:SC)(K:W.Frag)(v:V){M:outParam Type}(o:outParam (OE M))(a:outParam M)(C:outParam (List XG)):Prop where h:∀x,S.p x->o K x v a C
instance [MonoO o]:Fo (S.and (SC.oneO K o v a C)) K v o a C:=⟨λ_ s=>s.2⟩
instance (priority:=900)[y:Fo S K v o a C]:Fo (S.and T) K v o a C:=⟨λx s=>y.h x s.1⟩
class Su (S T:SC):Prop where h:∀x,S.p x->T.p x
instance:Su S S:=⟨λ_ s=>s⟩
instance (priority:=900):Su S SC.nil:=⟨λ_ _=>SC.t⟩
instance (priority:=800)[MonoE r][y:Su S T][z:Fc S K v r a]:Su S (T.and (SC.one K r v a)):=⟨λx s=>⟨y.h x s,z.h x s⟩⟩
instance (priority:=800)[MonoO o][y:Su S T][z:Fo S K v o a C]:Su S (T.and (SC.oneO K o v a C)):=⟨λx s=>⟨y.h x s,z.h x s⟩⟩
instance (priority:=700){T':SC}[y:Su S T']:Su (S.and T) T':=⟨λx s=>y.h x s.1⟩
variable (K Er S OO U te) in
class CB {M:outParam Type}(r:outParam (Enc M))(m:outParam (Rs M)):Prop where h:EvB K Er S OO U te r m
variable (K Er S OO U te) in
class CW {M:Type}(r:Enc M)(m:outParam (Rs M)):Prop where h:EvB K Er S OO U te r m
variable (K Er S OO U te) in
class CS {M:outParam Type}(r:outParam (Enc M))(m:outParam (Rs M)):Prop where h:EvS K Er S OO U te r m
variable (K Er S OO U te) in
class CV {M:Type}(r:Enc M)(m:outParam (Rs M)):Prop where h:EvS K Er S OO U te r m
variable (K Er S OO U te) in
class CN {M:outParam Type}(o:outParam (OE M))(m:outParam (Rs M)):Prop where h:Ev K Er S OO OO U te o m
variable (K Er S OO U te) in
class CM {M:outParam Type}(o:outParam (OE M))(m:outParam (Rs M)):Prop where h:Ev K Er S OO OO U te o m
variable (K Er S OO U te) in
class CO {M:Type}(o:OE M)(m:outParam (Rs M)):Prop where h:Ev K Er S OO OO U te o m
variable (K Er S OO U te) in
class CL {M:outParam Type}(r:outParam (Enc M))(m:outParam (Rs (List M))):Prop where h:EvL K Er S OO U te r m
class CT (K:W.Frag)(Er:Exc->Hp->Prop)(S:SC)(OO:List (List XG))(U:St)(tt:TT)(m:outParam (Rs Bool)):Prop where h:EvT Er S OO U tt m
class CP (K:W.Frag)(Er:Exc->Hp->Prop)(S:SC)(OO:List (List XG))(U:St)(tt:TO)(m:outParam (Rs (Option Int))):Prop where h:EvP Er S OO U tt m
variable (K Er S OO U) in
class CA {M:Type}(t:TA)(r:Enc M)(m:outParam (Rs (List M))):Prop where h:EvA K Er S OO U t r m
variable (K Er S OO U) in
class Cw (wi:TI){M:outParam Type}(r:outParam (Enc M))(m:outParam (Rs (List M))):Prop where h:Walk K Er S OO U wi r m
variable {m m':Rs M}{ml:Rs (List M)}{mi mj:Rs Int}{mb mc:Rs Bool}{ms:Rs Str}{tt tu:TT}
theorem qb [c:CW K Er S OO U te r m]:EvB K Er S OO U te r m:=c.h
theorem qB [c:CB K Er S OO U te r m]:EvB K Er S OO U te r m:=c.h
theorem qs [c:CV K Er S OO U te r m]:EvS K Er S OO U te r m:=c.h
theorem qS [c:CS K Er S OO U te r m]:EvS K Er S OO U te r m:=c.h
theorem qn [c:CO K Er S OO U te o m]:Ev K Er S OO OO U te o m:=c.h
theorem qN [c:CN K Er S OO U te o m]:Ev K Er S OO OO U te o m:=c.h
theorem qM [c:CM K Er S OO U te o m]:Ev K Er S OO OO U te o m:=c.h
theorem ql [c:CL K Er S OO U te r ml]:EvL K Er S OO U te r ml:=c.h
variable (K) in
theorem qt [c:CT K Er S OO U tt mb]:EvT Er S OO U tt mb:=c.h
variable (K) in
theorem qp {tt:TO}{m:Rs (Option Int)}[c:CP K Er S OO U tt m]:EvP Er S OO U tt m:=c.h
theorem qa {t:TA}[c:CA K Er S OO U t r ml]:EvA K Er S OO U t r ml:=c.h
theorem qw {wi:TI}[c:Cw K Er S OO U wi r ml]:Walk K Er S OO U wi r ml:=c.h
-- as wanted
instance [c:CB K Er S OO U te r m]:CW K Er S OO U te r m:=⟨c.h⟩
instance (priority:=900){m:Rs Mx}[c:CB K Er S OO U te rMx m]:CW K Er S OO U te Xf (m.bind mxI):=⟨Zt c.h⟩
instance (priority:=900){m:Rs Mx}[c:CB K Er S OO U te rMx m]:CW K Er S OO U te Kq (m.bind mxS):=⟨RB c.h⟩
instance (priority:=900){m:Rs Mx}[c:CB K Er S OO U te rMx m]:CW K Er S OO U te Xw (m.bind mxB):=⟨PK c.h⟩
instance (priority:=900){m:Rs (Option M)}[c:CB K Er S OO U te (LP r) m]:CW K Er S OO U te r (m.bind Nh):=⟨SU c.h⟩
instance (priority:=900){m:Rs (Int×Int)}[c:CB K Er S OO U te (rP2 Xf Xf) m]:CW K Er S OO U te (rPL Xf) (m.bind λp=>.ok [p.1,p.2]):=⟨UD c.h⟩
instance [FlatE r][c:CW K Er S OO U te r m]:CV K Er S OO U te r m:=⟨EvB.sh c.h⟩
instance (priority:=900)[c:CS K Er S OO U te r m]:CV K Er S OO U te r m:=⟨c.h⟩
instance (priority:=800)[c:CV K Er S OO U te Xf mi]:CV K Er S OO U te rMx (mi.bind λa=>.ok (.i a)):=⟨R8 c.h⟩
instance (priority:=800)[c:CV K Er S OO U te Kq ms]:CV K Er S OO U te rMx (ms.bind λa=>.ok (.s a)):=⟨PH c.h⟩
instance (priority:=800)[c:CV K Er S OO U te Xw mb]:CV K Er S OO U te rMx (mb.bind λa=>.ok (.b a)):=⟨Pg c.h⟩
instance [c:CN K Er S OO U te o m]:CO K Er S OO U te o m:=⟨c.h⟩
instance (priority:=900)[c:CV K Er S OO U te r m]:CO K Er S OO U te (oF r) m:=⟨EvS.ev c.h⟩
instance [c:CN K Er S OO U te o m]:CM K Er S OO U te o m:=⟨c.h⟩
instance (priority:=900)[c:CS K Er S OO U te r m]:CM K Er S OO U te (oF r) m:=⟨EvS.ev c.h⟩
instance {o:OE M}:CO K Er S OO U (M6 YE) (oL o) (.ok []):=⟨Kf⟩
-- one of dm other
instance (priority:=500)[FrzC o r][c:CN K Er S OO U te o m]:CB K Er S OO U te r m:=⟨Ev.toB c.h⟩
instance (priority:=600)[FlatE r][c:CB K Er S OO U te r m]:CS K Er S OO U te r m:=⟨EvB.sh c.h⟩
instance (priority:=500)[FrzC o r][c:CN K Er S OO U te o m]:CS K Er S OO U te r m:=⟨Ev.sh c.h⟩
instance (priority:=700)[c:CS K Er S OO U te (rV r) ml]:CL K Er S OO U te r ml:=⟨EvS.ls c.h⟩
instance (priority:=600)[FlatE r][c:CB K Er S OO U te (rV r) ml]:CL K Er S OO U te r ml:=⟨EvB.ls c.h⟩
instance (priority:=800)[MonoE r][c:CN K Er S OO U te (oL (oF r)) ml]:CL K Er S OO U te r ml:=⟨Ev.ls c.h⟩
-- names
instance [y:Sl U i v][z:Fc S K v r a][MonoE r]:CB K Er S OO U (Ji i) r (.ok a):=⟨Zd i y.h z.h⟩
instance (priority:=900)[y:Sl U i v][z:Fo S K v o a C][u:Ow OO k C][FrzC o r]:CB K Er S OO U (Ji i) r (.ok a):=⟨VJ i k y.h u.h z.h⟩
instance [y:Sl U i v][z:Fc S K v r a]:CS K Er S OO U (Ji i) r (.ok a):=⟨RO i y.h z.h⟩
instance {as:List M}[MonoE r][y:Sl U i v][z:Fo S K v (oL (oF r)) as C][u:Ow OO k C]:CL K Er S OO U (Ji i) r (.ok as):=⟨Si i k y.h u.h z.h⟩
-- constants
instance {n:Int}:CB K Er S OO U (tC (.int n)) Xf (.ok n):=⟨Y9 n⟩
instance {b:Bool}:CB K Er S OO U (tC (.bl b)) Xw (.ok b):=⟨SH b⟩
instance {x:Str}:CB K Er S OO U (tC (.str x)) Kq (.ok x):=⟨RQ x⟩
-- numbers
section
variable [x':CW K Er S OO U ta Xf mi][y':CW K Er S OO U tb Xf mj]
instance:CB K Er S OO U (tOp (rI0 λi j=>V.int (i+j)) ta tb) Xf (mi.bind λa=>mj.bind λb=>.ok (a+b)):=⟨DM x'.h y'.h⟩
instance:CB K Er S OO U (tOp (rI0 λi j=>V.int (i-j)) ta tb) Xf (mi.bind λa=>mj.bind λb=>.ok (a-b)):=⟨Uo x'.h y'.h⟩
instance:CB K Er S OO U (tOp (rI TU λi j=>V.int (i*j)) ta tb) Xf (mi.bind λa=>mj.bind λb=>O7 a b):=⟨ZM x'.h y'.h⟩
instance:CB K Er S OO U (tOp (rI (λx j=>(0:Int)<j) λi j=>V.int (i % j)) ta tb) Xf (mi.bind λa=>mj.bind λb=>OI a b):=⟨DQ x'.h y'.h⟩
instance:CB K Er S OO U (tOp (rI (λx j=>(0:Int)<j/\j.natAbs.log2<9000) λi j=>V.int (i/j)) ta tb) Xf (mi.bind λa=>mj.bind λb=>WR a b):=⟨Pj x'.h y'.h⟩
instance:CB K Er S OO U (tOp (rI WW λi j=>V.int (i^j.toNat)) ta tb) Xf (mi.bind λa=>mj.bind λb=>WU a b):=⟨O2 x'.h y'.h⟩
instance:CB K Er S OO U (tOp (rI0 λi j=>V.bl (decide (i<j))) ta tb) Xw (mi.bind λa=>mj.bind λb=>.ok (decide (a<b))):=⟨GH x'.h y'.h⟩
instance:CB K Er S OO U (tOp (rI0 λi j=>V.bl (decide (i<=j))) ta tb) Xw (mi.bind λa=>mj.bind λb=>.ok (decide (a<=b))):=⟨OD x'.h y'.h⟩
instance:CB K Er S OO U (tOp (rI0 λi j=>V.bl (decide (j<i))) ta tb) Xw (mi.bind λa=>mj.bind λb=>.ok (decide (b<a))):=⟨Ft x'.h y'.h⟩
instance:CB K Er S OO U (tOp (rI0 λi j=>V.bl (decide (j<=i))) ta tb) Xw (mi.bind λa=>mj.bind λb=>.ok (decide (b<=a))):=⟨SF x'.h y'.h⟩
instance:CB K Er S OO U (tCB (λxs H Q=>∃ (i:Int),∃(j:Int),xs=[V.int i,V.int j]/\Q (V.int (if j > i then j else i)) H) (Xr ta (Xr tb YE))) Xf (mi.bind λa=>mj.bind λb=>.ok (max a b)):=⟨L9 x'.h y'.h⟩
instance:CB K Er S OO U (tCB (λxs H Q=>∃ (i:Int),∃(j:Int),xs=[V.int i,V.int j]/\Q (V.int (if j<i then j else i)) H) (Xr ta (Xr tb YE))) Xf (mi.bind λa=>mj.bind λb=>.ok (min a b)):=⟨MJ x'.h y'.h⟩
instance:Cw K Er S OO U (Po (Xr ta YE)) Xf (mi.bind λn=>TC (0:Int) n):=⟨BX x'.h⟩
instance:CB K Er S OO U (tUn (rU λi=>V.int (-i)) ta) Xf (mi.bind λa=>.ok (-a)):=⟨Vo x'.h⟩
instance:CB K Er S OO U (tCB (λxs H Q=>∃ (i:Int),xs=[V.int i]/\Q (V.int (if i<(0:Int) then-i else i)) H) (Xr ta YE)) Xf (mi.bind λa=>.ok (a.natAbs:Int)):=⟨Pl x'.h⟩
instance:CP K Er S OO U (RZ ta) (mi.bind λi=>.ok (some i)):=⟨Ny x'.h⟩
instance:CP K Er S OO U B5 (.ok none):=⟨NT⟩
end
section
variable [DecidableEq M][Scal r][MonoE r][y':CB K Er S OO U tb r m'][x':CW K Er S OO U ta r m]
instance:CB K Er S OO U (tOp rEq ta tb) Xw (m.bind λa=>m'.bind λb=>.ok (decide (a=b))):=⟨Je x'.h y'.h⟩
instance:CB K Er S OO U (tOp rNe ta tb) Xw (m.bind λa=>m'.bind λb=>.ok !decide (a=b)):=⟨GB x'.h y'.h⟩
end
section
variable [DecidableEq M][Scal r][MonoE r][x':CB K Er S OO U ta r m][y':CW K Er S OO U tb r m']
instance (priority:=900):CB K Er S OO U (tOp rEq ta tb) Xw (m.bind λa=>m'.bind λb=>.ok (decide (a=b))):=⟨Je x'.h y'.h⟩
instance (priority:=900):CB K Er S OO U (tOp rNe ta tb) Xw (m.bind λa=>m'.bind λb=>.ok !decide (a=b)):=⟨GB x'.h y'.h⟩
end
section
variable {m m':Rs Mx}[x':CB K Er S OO U ta rMx m][y':CB K Er S OO U tb rMx m']
instance:CB K Er S OO U (tOp rEq ta tb) Xw ((m.bind mxI).bind λa=>(m'.bind mxI).bind λb=>.ok (decide (a=b))):=⟨Je (Zt x'.h) (Zt y'.h)⟩
instance:CB K Er S OO U (tOp rNe ta tb) Xw ((m.bind mxI).bind λa=>(m'.bind mxI).bind λb=>.ok !decide (a=b)):=⟨GB (Zt x'.h) (Zt y'.h)⟩
end
section
variable [DecidableEq M][MonoE r][x':CB K Er S OO U ta r m][y':CW K Er S OO U tb r m']
instance:CB K Er S OO U (tOp (Wn K r) ta tb) Xw (m.bind λa=>m'.bind λb=>.ok (decide (a=b))):=⟨Ld x'.h y'.h⟩
instance:CB K Er S OO U (tOp (Wx K r) ta tb) Xw (m.bind λa=>m'.bind λb=>.ok !decide (a=b)):=⟨DT x'.h y'.h⟩
end
-- truths
section
variable [x':CW K Er S OO U ta Xw mb][y':CW K Er S OO U tb Xw mc][u':CT K Er S OO U tt mb][w':CT K Er S OO U tu mc]
instance:CT K Er S OO U (tB ta) mb:=⟨Qx x'.h⟩
instance:CT K Er S OO U (Nd ta) mb:=⟨Xz x'.h⟩
instance:CT K Er S OO U (W6 tt) (mb.bind λb=>.ok !b):=⟨Jb u'.h⟩
instance:CT K Er S OO U (W2 tt tu) (M4 mb mc):=⟨K7 u'.h w'.h⟩
instance:CT K Er S OO U (tOr tt tu) (orR mb mc):=⟨YK u'.h w'.h⟩
instance:CB K Er S OO U (Rl ta) Xw (mb.bind λb=>.ok !b):=⟨Ey x'.h⟩
instance:CB K Er S OO U (O0 ta tb) Xw (M4 mb mc):=⟨YY x'.h y'.h⟩
instance:CB K Er S OO U (WH ta tb) Xw (orR mb mc):=⟨M2 x'.h y'.h⟩
instance:CB K Er S OO U (tCB (λxs H Q=>(∃(i:Int),xs=[V.int i]/\Q (V.int i) H)∨∃(k:Bool),xs=[V.bl k]/\Q (V.int (if k=true then(1:Int) else(0:Int))) H) (Xr ta YE)) Xf (mb.bind λb=>.ok (if b=true then(1:Int) else(0:Int))):=⟨KJ x'.h⟩
end
section
variable [u':CT K Er S OO U tt mb][x':CB K Er S OO U ta r m][y':CW K Er S OO U tb r m']
instance:CB K Er S OO U (tIf tt ta tb) r (mb.bind λb=>if b=true then m else m'):=⟨TZ u'.h x'.h y'.h⟩
end
-- items
section
variable [MonoE r][j':CW K Er S OO U tb Xf mi]
section
variable [x':CB K Er S OO U ta (rV r) ml]
instance:CB K Er S OO U (tOp (HJ K) ta tb) r (ml.bind λas=>mi.bind λi=>atR as i):=⟨Vk x'.h j'.h⟩
end
section
variable [x':CB K Er S OO U ta (rPL r) ml]
instance:CB K Er S OO U (tOp (B7 K) ta tb) r (ml.bind λas=>mi.bind λi=>atR as i):=⟨RG x'.h j'.h⟩
end
section
variable [x':CL K Er S OO U ta r ml]
instance:CS K Er S OO U (tOp (HJ K) ta tb) r (ml.bind λas=>mi.bind λi=>atR as i):=⟨S8 x'.h j'.h⟩
instance:CN K Er S OO U (tOp W4 ta tb) (oL (oF r)) (ml.bind λas=>mi.bind λn=>Oy as n):=⟨Tb x'.h j'.h⟩
end
end
section
variable [x':CB K Er S OO U ta (rV r) ml]
instance:CB K Er S OO U (tCB (V4 K) (Xr ta YE)) Xf (ml.bind λas=>.ok (as.length:Int)):=⟨VL x'.h⟩
end
section
variable [x':CB K Er S OO U ta (rPL r) ml]
instance:CB K Er S OO U (tCB (V4 K) (Xr ta YE)) Xf (ml.bind λas=>.ok (as.length:Int)):=⟨EV x'.h⟩
end
section
variable {m:Rs (Int×Int)}[x':CB K Er S OO U ta (rP2 Xf Xf) m]
instance:CB K Er S OO U (tCB (V4 K) (Xr ta YE)) Xf ((m.bind λp=>.ok [p.fst,p.snd]).bind λas=>.ok (as.length:Int)):=⟨EV (UD x'.h)⟩
end
section
variable {m:Rs (M×L)}[x':CB K Er S OO U ta (rP2 r q) m]
instance:CB K Er S OO U (tOp (B7 K) ta (tC (V.int (0:Int)))) r (m.bind λp=>.ok p.fst):=⟨LW x'.h⟩
instance:CB K Er S OO U (tOp (B7 K) ta (tC (V.int (1:Int)))) q (m.bind λp=>.ok p.snd):=⟨IW x'.h⟩
end
section
variable {m:Rs (M×L)}[y':CS K Er S OO U ta (rP2 r q) m]
instance:CS K Er S OO U (tOp (B7 K) ta (tC (V.int (0:Int)))) r (m.bind λp=>.ok p.fst):=⟨Ro y'.h⟩
instance:CS K Er S OO U (tOp (B7 K) ta (tC (V.int (1:Int)))) q (m.bind λp=>.ok p.snd):=⟨Rh y'.h⟩
end
-- lists, tuples
section
variable [MonoE r]{t:TA}{ml':Rs (List M)}[x':CL K Er S OO U ta r ml][y':CL K Er S OO U tb r ml']{tl th:TO}{pl ph:Rs (Option Int)}[u':CP K Er S OO U tl pl][w':CP K Er S OO U th ph]
instance:CN K Er S OO U (tOp Wz ta tb) (oL (oF r)) (ml.bind λas=>ml'.bind λbs=>Hu as bs):=⟨MN x'.h y'.h⟩
instance:CN K Er S OO U (tSl (S3 K) ta tl th) (oL (oF r)) (ml.bind λas=>pl.bind λlo=>ph.bind λhi=>.ok (Gv as lo hi)):=⟨Nc x'.h u'.h w'.h⟩
instance:CN K Er S OO U (tCB (Db K) (Xr ta YE)) (oL (oF r)) (ml.bind λas=>.ok as):=⟨PU x'.h⟩
end
section
variable [MonoE r]{tl th:TO}{pl ph:Rs (Option Int)}[z':CB K Er S OO U ta (rPL r) ml][u':CP K Er S OO U tl pl][w':CP K Er S OO U th ph]
instance:CB K Er S OO U (tSl (Ws K) ta tl th) (rPL r) (ml.bind λas=>pl.bind λlo=>ph.bind λhi=>chk (¬(HT.sIx as.length 0 lo=0/\HT.sIx as.length as.length hi=as.length)) (.ok (Gv as lo hi))):=⟨YB z'.h u'.h w'.h⟩
end
instance [MonoE r]:CA K Er S OO U YE r (.ok []):=⟨RT⟩
instance [MonoE r]{t:TA}[x':CV K Er S OO U ta r m][y':CA K Er S OO U t r ml]:CA K Er S OO U (Xr ta t) r (m.bind λa=>ml.bind λas=>.ok (a::as)):=⟨YI x'.h y'.h⟩
instance (priority:=1100)[MonoE r]{t:TA}[x':CA K Er S OO U t r ml]:CO K Er S OO U (M6 t) (oL (oF r)) (ml.bind λas=>chk (as.length<=sizeLine) (.ok as)):=⟨Kc x'.h⟩
instance (priority:=1100)[MonoE r]{t:TA}[x':CA K Er S OO U t r ml]:CW K Er S OO U (M6 t) (rV r) (ml.bind λas=>chk (as.length<=sizeLine) (.ok as)):=⟨Ev.toB (Kc x'.h)⟩
section
variable {t:TA}[MonoE r][x':CS K Er S OO U ta r m][y':CA K Er S OO U t r ml]
instance:CN K Er S OO U (M6 (Xr ta t)) (oL (oF r)) ((m.bind λa=>ml.bind λas=>.ok (a::as)).bind λas=>chk (as.length<=sizeLine) (.ok as)):=⟨Kc (YI x'.h y'.h)⟩
end
section
variable {m1:Rs L}[MonoE r][MonoE q][x':CS K Er S OO U ta r m][y':CS K Er S OO U tb q m1]
instance:CS K Er S OO U (SA (Xr ta (Xr tb YE))) (rP2 r q) (m.bind λa=>m1.bind λb=>.ok (a,b)):=⟨Zf x'.h y'.h⟩
end
instance [MonoE r][x':CS K Er S OO U ta (rV r) ml]:Cw K Er S OO U (HU K ta) r ml:=⟨Z6 x'.h⟩
instance [MonoE r][x':CS K Er S OO U ta (rPL r) ml]:Cw K Er S OO U (Wq K ta) r ml:=⟨Hg x'.h⟩
-- calls
section
variable {α1 α2 α3 α4:Type}{r1:Enc α1}{r2:Enc α2}{r3:Enc α3}{r4:Enc α4}{m1:Rs α1}{m2:Rs α2}{m3:Rs α3}{m4:Rs α4}{td:TE}{o:OE ρ}[FlatO o][MonoE r1][MonoE r2][MonoE r3]{f1:α1->Rs ρ}{f2:α1->α2->Rs ρ}{f3:α1->α2->α3->Rs ρ}{f4:α1->α2->α3->α4->Rs ρ}[x1:CW K Er S OO U ta r1 m1][x2:CW K Er S OO U tb r2 m2][x3:CW K Er S OO U tc r3 m3][x4:CW K Er S OO U td r4 m4]
instance:CN K Er S OO U (Qy (sp1 r1 o f1 K) [] E0 (Xr ta YE)) o (m1.bind λa=>noE (f1 a)):=⟨EE (o:=o) (f:=f1) x1.h⟩
instance:CN K Er S OO U (Qy (sp2 r1 r2 o f2 K) [] E0 (Xr ta (Xr tb YE))) o (m1.bind λa=>m2.bind λb=>noE (f2 a b)):=⟨EF (o:=o) (f:=f2) x1.h x2.h⟩
instance:CN K Er S OO U (Qy (sp3 r1 r2 r3 o f3 K) [] E0 (Xr ta (Xr tb (Xr tc YE)))) o (m1.bind λa=>m2.bind λb=>m3.bind λc=>noE (f3 a b c)):=⟨N4 (o:=o) (f:=f3) x1.h x2.h x3.h⟩
instance:CN K Er S OO U (Qy (sp4 r1 r2 r3 r4 o f4 K) [] E0 (Xr ta (Xr tb (Xr tc (Xr td YE))))) o (m1.bind λa=>m2.bind λb=>m3.bind λc=>m4.bind λd=>noE (f4 a b c d)):=⟨NR (o:=o) (f:=f4) x1.h x2.h x3.h x4.h⟩
end
end
section
variable {M L B δ ρ ι κ κ2:Type}{K:W.Frag}{Er:Exc->Hp->Prop}{S:SC}{OO:List (List XG)}{U:St}{u t tb:TS}{Fd:Ends->L->Hp->Prop}[fd:FdOk Fd]{o:OE ρ}{wi:TI}{g:TG}{r:Enc M}
abbrev jn (OO:List (List XG))(U:St)(S:SC)(oo:List (List XG)->ι->List (List XG))(ss:St->ι->St)(nf:SC->B->ι->SC):Jn B ι:=⟨oo OO,ss U,nf S⟩
variable (oo:List (List XG)->ι->List (List XG))(ss:St->ι->St)(nf:SC->B->ι->SC)
theorem ZJ {m:Rs B}{f:B->Rs L}(hb:Sv Er S OO U t (FNd (jn OO U S oo ss nf)) m)(hr:∀g x,Sv Er (nf S g x) (oo OO x) (ss U x) u Fd (f g)):Sv Er S OO U (Zn t u) Fd (m.bind f):=BK hb hr
theorem Ir {c:TT}{mc:B->Rs Bool}{body:B->Rs B}{f:B->Rs L}(n:Nat)(x0:ι)(g0:B)(h1:OO=oo OO x0)(h2:U=ss U x0)(h3:∀h,S.p h->(nf S g0 x0).p h)(hc:∀g x,EvT Er (nf S g x) (oo OO x) (ss U x) c (mc g))(hb:∀g x,Sv Er (nf S g x) (oo OO x) (ss U x) tb (FNd (jn OO U S oo ss nf)) (body g))(hr:∀g x,Sv Er (nf S g x) (oo OO x) (ss U x) u Fd (f g)):Sv Er S OO U (Zn (L5 c tb) u) Fd ((GW n g0 mc body).bind f):=Nf (jn OO U S oo ss nf) n x0 g0 h1 h2 h3 hc hb hr
variable (K)
theorem Fj {m:Rs (List M)}{body:B->M->Rs B}{f:B->Rs L}(T:∀OO,Tgt K OO g r κ)(x0:ι)(g0:B)(he:Walk K Er S OO U wi r m)(h1:OO=oo OO x0)(h2:U=ss U x0)(h3:∀h,S.p h->(nf S g0 x0).p h)(hb:∀g x a v,Sv Er ((T (oo OO x)).sc a v (nf S g x)) (oo OO x) ((T (oo OO x)).set v (ss U x)) tb (FNd (jn OO U S oo ss nf)) (body g a))(hr:∀g x,Sv Er (nf S g x) (oo OO x) (ss U x) u Fd (f g)):Sv Er S OO U (Zn (M5 wi g tb) u) Fd (m.bind λas=>(forN as g0 body).bind f):=SY (jn OO U S oo ss nf) T x0 g0 he h1 h2 h3 hb hr
theorem O4 {m:Rs (List M)}{body:B->M->Rs (Ctl ρ B)}{f:B->Rs ρ}(T:∀OO,Tgt K OO g r κ)(x0:ι)(g0:B)(he:Walk K Er S OO U wi r m)(h1:OO=oo OO x0)(h2:U=ss U x0)(h3:∀h,S.p h->(nf S g0 x0).p h)(hb:∀g x a v,Sv Er ((T (oo OO x)).sc a v (nf S g x)) (oo OO x) ((T (oo OO x)).set v (ss U x)) tb (FCd K o (jn OO U S oo ss nf)) (body g a))(hr:∀g x,Sv Er (nf S g x) (oo OO x) (ss U x) u (FTd K o) (f g)):Sv Er S OO U (Zn (M5 wi g tb) u) (FTd K o) (m.bind λas=>(BB as g0 body).bind (G6 f)):=Pp (jn OO U S oo ss nf) T x0 g0 he h1 h2 h3 hb hr
theorem Tc {J2:Jn δ κ2}{m:Rs (List M)}{body:B->M->Rs (Ctl ρ B)}{f:B->Rs (Ctl ρ δ)}(T:∀OO,Tgt K OO g r κ)(x0:ι)(g0:B)(he:Walk K Er S OO U wi r m)(h1:OO=oo OO x0)(h2:U=ss U x0)(h3:∀h,S.p h->(nf S g0 x0).p h)(hb:∀g x a v,Sv Er ((T (oo OO x)).sc a v (nf S g x)) (oo OO x) ((T (oo OO x)).set v (ss U x)) tb (FCd K o (jn OO U S oo ss nf)) (body g a))(hr:∀g x,Sv Er (nf S g x) (oo OO x) (ss U x) u (FCd K o J2) (f g)):Sv Er S OO U (Zn (M5 wi g tb) u) (FCd K o J2) (m.bind λas=>(BB as g0 body).bind (Fk f)):=Nz (jn OO U S oo ss nf) T x0 g0 he h1 h2 h3 hb hr
theorem S1 {ti:TE}[MonoE r]{mi:Rs Int}{body:B->M->Rs B}{f:B->Rs L}{v:V}{as:List (List M)}{C:List XG}{n k:Nat}[y:Sl U n v][z:Fo S K v (oL (oL (oF r))) as C][q:Ow OO k C](hi:EvB K Er S OO U ti Xf mi)(T:∀OO,Tgt K OO g r κ)(x0:ι)(g0:B)(hC:∀x,(oo OO x)[k]?=some C)(h1:OO=oo OO x0)(h2:U=ss U x0)(h3:∀h,S.p h->(nf S g0 x0).p h)
  (hb:∀g x a v,Sv Er ((T (oo OO x)).sc a v (nf S g x)) (oo OO x) ((T (oo OO x)).set v (ss U x)) tb (FNd (jn OO U S oo ss nf)) (body g a))(hr:∀g x,Sv Er (nf S g x) (oo OO x) (ss U x) u Fd (f g)):Sv Er S OO U (Zn (M5 (HU K (tOp (HJ K) (Ji n) ti)) g tb) u) Fd (mi.bind λi=>(atR as i).bind λrow=>(forN row g0 body).bind f):=NJ n k y.h q.h z.h hi (jn OO U S oo ss nf) T x0 g0 hC h1 h2 h3 hb hr
theorem Sn {kf:Nat}{Cf:List XG}{m:Rs (Ctl ρ B)}{f:B->Rs ρ}(hb:Sv Er S OO U t (O1 K o kf Cf (jn OO U S oo ss nf)) m)(hr:∀g x,Sv Er (nf S g x) (oo OO x) (ss U x) u (HB K o kf Cf) (f g)):Sv Er S OO U (Zn t u) (HB K o kf Cf) (m.bind (G6 f)):=Mr hb hr
end
section
variable {M L B δ ρ:Type}(K:W.Frag){Er:Exc->Hp->Prop}{S:SC}{OO OO':List (List XG)}{U:St}{u:TS}{Fd:Ends->L->Hp->Prop}[fd:FdOk Fd]{o:OE M}{r:Enc M}{te ta:TE}{i k:Nat}{m:Rs M}{f:M->Rs L}{v:V}{as:List M}{C:List XG}
theorem Ya [MonoE r](he:EvS K Er S OO U te r m)(hr:∀a v,Sv Er (S.add K r v a) OO (U.set i (some v)) u Fd (f a)):Sv Er S OO U (Zn (G7 te (X4 i)) u) Fd (m.bind f):=Ll i he hr
theorem Zm [MonoO o](k:Nat)[y:Lk OO k](he:Ev K Er S OO OO U te o m)(hr:∀a v C,Sv Er (S.addO K o v a C) (OO.set k C) (U.set i (some v)) u Fd (f a)):Sv Er S OO U (Zn (G7 te (X4 i)) u) Fd (m.bind f):=Rz i k he y.h hr
variable {K} in
theorem JS {a:M}[y:Sl U i v][z:Fo S K v o a C][q:Ow OO k C]:Ev K Er S OO (OO.set k []) U (Ji i) o (.ok a):=BJ i k y.h q.h z.h
theorem EA {f:List M->Rs L}[MonoO o][y:Sl U i v][z:Fo S K v (oL o) as C](he:Ev K Er S OO OO' U ta o m)[q:Ow OO k C][q':Ow OO' k C](hr:∀zs C',Sv Er (S.addO K (oL o) v zs C') (OO'.set k C') U u Fd (f zs)):Sv Er S OO U (Zn (Fe (tBM K "list" DX (Ji i) (Xr ta YE))) u) Fd (m.bind λa=>chk (as.length<sizeLine) (f (as++[a]))):=S5 i k y.h q.h q'.h z.h he λa C'=>hr _ C'
theorem Az {m:Rs (List M)}{f:List M->Rs L}[MonoO o][y:Sl U i v][z:Fo S K v (oL o) as C](he:Ev K Er S OO OO' U ta (oL o) m)[q:Ow OO k C][q':Ow OO' k C](hr:∀zs C',Sv Er (S.addO K (oL o) v zs C') (OO'.set k C') U u Fd (f zs)):Sv Er S OO U (Zn (Fe (tBM K "list" B6 (Ji i) (Xr ta YE))) u) Fd (m.bind λbs=>chk (as.length+bs.length<=sizeLine) (f (as++bs))):=Tg i k y.h q.h q'.h z.h he λa C'=>hr _ C'
theorem AG {ti:TE}{mi:Rs Int}{x:Nat}[MonoE r]{f:M->List M->Rs L}[y:Sl U i v][z:Fo S K v (oL (oF r)) as C][q:Ow OO k C](hi:EvB K Er S OO U ti Xf mi)(hr:∀a bs y C',Sv Er ((S.add K r y a).addO K (oL (oF r)) v bs C') (OO.set k C') (U.set x (some y)) u Fd (f a bs)):Sv Er S OO U (Zn (G7 (tBM K "list" EM (Ji i) (Xr ti YE)) (X4 x)) u) Fd (mi.bind λj=>(Nx as j).bind λp=>f p.1 p.2):=Tu x i k y.h q.h z.h hi λa bs y C'=>hr a bs y C'
theorem Jt {ti:TE}{mi:Rs Int}{f:List M->Rs L}[MonoO o][y:Sl U i v][z:Fo S K v (oL o) as C][q:Ow OO k C](he:Ev K Er S OO OO U ta o m)(hi:∀D,EvB K Er S (D::OO) U ti Xf mi)(hr:∀bs C',Sv Er (S.addO K (oL o) v bs C') (OO.set k C') U u Fd (f bs)):Sv Er S OO U (Zn (G7 ta (Sx (Ji i) ti HK)) u) Fd (m.bind λa=>mi.bind λj=>(Ve as j a).bind f):=EG i k y.h q.h z.h he hi hr
theorem HI {tv ty:TE}[MonoE r]{mk:Rs Int}{f:List (Int×M)->Rs L}{d:List (Int×M)}[y:Sl U i v][z:Fo S K v (oD r) d C][q:Ow OO k C](hv:EvS K Er S OO U tv r m)(hy:EvB K Er S OO U ty Xf mk)(hr:∀d' C',Sv Er (S.addO K (oD r) v d' C') (OO.set k C') U u Fd (f d')):Sv Er S OO U (Zn (O8 (Ji i) ty tv) u) Fd (m.bind λa=>mk.bind λn=>chk (d.length<sizeLine) (f (G8 d n a))):=Pc i k y.h q.h z.h hv hy hr
variable {B' ι:Type}{J:Jn B ι}
theorem Yq {J:Jn B ι}(x:ι)(g:B)(h1:OO=J.oo x)(h2:U=J.ss x)[h3:Su S (J.sc g x)]:Sv Er S OO U DE (FNd J) (.ok g):=FK x g h1 h2 h3.h
end
theorem JZ {N:List Str}{vs:List V}{j:Nat}(h:N.length=j+vs.length):Kh N vs=vs.map some++List.replicate j none:=by
 unfold Kh
 rw[show N.length-vs.length=j by omega]
section
variable {ρ:Type}{P:Program}{w:World}{K:W.Frag}{mg:Str->Option Value}{base:Heap}{x:Str}{st:Stmt}{N ps:List Str}{k:Nat}{o:OE ρ}[MonoO o]
abbrev Rm (k:Nat)(x:Str)(st:Stmt)(s:Shared)(f:Addr)(ah:Value)(A:Around):Prop:=Room k (A.deeper (envOfC x (Xg st) s.heap.objs.size f ah))
abbrev Au (x:Str)(st:Stmt)(s:Shared)(f:Addr)(ah:Value)(A:Around):Nat:=(A.deeper (envOfC x (Xg st) s.heap.objs.size f ah)).units
theorem go1 {α0:Type}{r0:Enc α0}[MonoE r0]{m:α0->Rs ρ}(D:Def K mg x st ps)(S:FnScope N ps (Xg st))(j n:Nat)(hN:N.length=j+1)(hp:ps.length=1)
  (hb:∀{f:Addr}{ah:Value}{A:Around}{outer:List Env}{s:Shared}{H:Hp}{E:XK},Rm k x st s f ah A->Au x st s f ah A+8<cLine->Au x st s f ah A+1<cLine->∃t,PSs (Ca CX0 P w K mg base N x (Xg st) f ah A outer s H E).nox (X3 st) t/\∀v0 a0,Sv (λ_ _=>False) (SC.add SC.nil K r0 v0 a0) (List.replicate n []) (some v0::List.replicate j none) t (FTd K o) (m a0)):Fn P w K mg base (k+1) x ps (sp1 r0 o m K):=by
 refine Fa D S (λvs H Q E h=>?_) (λf ah A outer s H vs Q E hr h=>?_)
 ·obtain⟨v0,a0,b,rfl,_⟩:=h;exact hp.symm
 obtain⟨v0,a0,b,rfl,h0,hm,q⟩:=h
 obtain⟨t,hx,hy⟩:=hb hr (hu8 hr) (VZ hr)
 refine⟨t,hx,?_⟩
 rw[JZ hN]
 exact Hr (S:=(SC.add SC.nil K r0 v0 a0)) (U:=some v0::List.replicate j none) n (hy v0 a0) (SC.i SC.t h0) hm q rfl
theorem go2 {α0 α1:Type}{r0:Enc α0}[MonoE r0]{r1:Enc α1}[MonoE r1]{m:α0->α1->Rs ρ}(D:Def K mg x st ps)(S:FnScope N ps (Xg st))(j n:Nat)(hN:N.length=j+2)(hp:ps.length=2)
  (hb:∀{f:Addr}{ah:Value}{A:Around}{outer:List Env}{s:Shared}{H:Hp}{E:XK},Rm k x st s f ah A->Au x st s f ah A+8<cLine->Au x st s f ah A+1<cLine->∃t,PSs (Ca CX0 P w K mg base N x (Xg st) f ah A outer s H E).nox (X3 st) t/\∀v0 v1 a0 a1,Sv (λ_ _=>False) (SC.add (SC.add SC.nil K r0 v0 a0) K r1 v1 a1) (List.replicate n []) (some v0::some v1::List.replicate j none) t (FTd K o) (m a0 a1)):Fn P w K mg base (k+1) x ps (sp2 r0 r1 o m K):=by
 refine Fa D S (λvs H Q E h=>?_) (λf ah A outer s H vs Q E hr h=>?_)
 ·obtain⟨v0,v1,a0,a1,b,rfl,_⟩:=h;exact hp.symm
 obtain⟨v0,v1,a0,a1,b,rfl,h0,h1,hm,q⟩:=h
 obtain⟨t,hx,hy⟩:=hb hr (hu8 hr) (VZ hr)
 refine⟨t,hx,?_⟩
 rw[JZ hN]
 exact Hr (S:=(SC.add (SC.add SC.nil K r0 v0 a0) K r1 v1 a1)) (U:=some v0::some v1::List.replicate j none) n (hy v0 v1 a0 a1) (SC.i (SC.i SC.t h0) h1) hm q rfl
theorem Tn {α0 α1:Type}{r0:Enc α0}[MonoE r0]{r1:Enc α1}[MonoE r1]{m:α0->α1->Rs ρ}(D:Def K mg x st ps)(S:FnScope N ps (Xg st))(j n:Nat)(hN:N.length=j+2)(hp:ps.length=2)
  (hb:∀{f:Addr}{ah:Value}{A:Around}{outer:List Env}{s:Shared}{H:Hp}{E:XK},Rm k x st s f ah A->Au x st s f ah A+8<cLine->Au x st s f ah A+1<cLine->∃t,PSs (Ca (CXE P w) P w K mg base N x (Xg st) f ah A outer s H E) (X3 st) t/\∀v0 v1 a0 a1,Sv (ErE mg E) (SC.add (SC.add SC.nil K r0 v0 a0) K r1 v1 a1) (List.replicate n []) (some v0::some v1::List.replicate j none) t (FTd K o) (m a0 a1)):FnX P w K mg base (k+1) x ps (M8 mg r0 r1 o m K):=by
 refine Lu D S (λvs H Q E h=>?_) (λf ah A outer s H vs Q E hr h=>?_)
 ·obtain⟨v0,v1,a0,a1,rfl,_⟩:=h;exact hp.symm
 obtain⟨v0,v1,a0,a1,rfl,h0,h1,hz⟩:=h
 obtain⟨t,hx,hy⟩:=hb hr (hu8 hr) (VZ hr)
 refine⟨t,hx,?_⟩
 rw[JZ hN]
 exact Od (S:=(SC.add (SC.add SC.nil K r0 v0 a0) K r1 v1 a1)) (U:=some v0::some v1::List.replicate j none) n (hy v0 v1 a0 a1) (SC.i (SC.i SC.t h0) h1) hz rfl
theorem go3 {α0 α1 α2:Type}{r0:Enc α0}[MonoE r0]{r1:Enc α1}[MonoE r1]{r2:Enc α2}[MonoE r2]{m:α0->α1->α2->Rs ρ}(D:Def K mg x st ps)(S:FnScope N ps (Xg st))(j n:Nat)(hN:N.length=j+3)(hp:ps.length=3)
  (hb:∀{f:Addr}{ah:Value}{A:Around}{outer:List Env}{s:Shared}{H:Hp}{E:XK},Rm k x st s f ah A->Au x st s f ah A+8<cLine->Au x st s f ah A+1<cLine->∃t,PSs (Ca CX0 P w K mg base N x (Xg st) f ah A outer s H E).nox (X3 st) t/\∀v0 v1 v2 a0 a1 a2,Sv (λ_ _=>False) (SC.add (SC.add (SC.add SC.nil K r0 v0 a0) K r1 v1 a1) K r2 v2 a2) (List.replicate n []) (some v0::some v1::some v2::List.replicate j none) t (FTd K o) (m a0 a1 a2)):Fn P w K mg base (k+1) x ps (sp3 r0 r1 r2 o m K):=by
 refine Fa D S (λvs H Q E h=>?_) (λf ah A outer s H vs Q E hr h=>?_)
 ·obtain⟨v0,v1,v2,a0,a1,a2,b,rfl,_⟩:=h;exact hp.symm
 obtain⟨v0,v1,v2,a0,a1,a2,b,rfl,h0,h1,h2,hm,q⟩:=h
 obtain⟨t,hx,hy⟩:=hb hr (hu8 hr) (VZ hr)
 refine⟨t,hx,?_⟩
 rw[JZ hN]
 exact Hr (S:=(SC.add (SC.add (SC.add SC.nil K r0 v0 a0) K r1 v1 a1) K r2 v2 a2)) (U:=some v0::some v1::some v2::List.replicate j none) n (hy v0 v1 v2 a0 a1 a2) (SC.i (SC.i (SC.i SC.t h0) h1) h2) hm q rfl
theorem AO {α0 α1 α2:Type}{r0:Enc α0}[MonoE r0]{r1:Enc α1}[MonoE r1]{r2:Enc α2}[MonoE r2]{m:α0->α1->α2->Rs ρ}(D:Def K mg x st ps)(S:FnScope N ps (Xg st))(j n:Nat)(hN:N.length=j+3)(hp:ps.length=3)
  (hb:∀{f:Addr}{ah:Value}{A:Around}{outer:List Env}{s:Shared}{H:Hp}{E:XK},Rm k x st s f ah A->Au x st s f ah A+8<cLine->Au x st s f ah A+1<cLine->∃t,PSs (Ca (CXE P w) P w K mg base N x (Xg st) f ah A outer s H E) (X3 st) t/\∀v0 v1 v2 a0 a1 a2,Sv (ErE mg E) (SC.add (SC.add (SC.add SC.nil K r0 v0 a0) K r1 v1 a1) K r2 v2 a2) (List.replicate n []) (some v0::some v1::some v2::List.replicate j none) t (FTd K o) (m a0 a1 a2)):FnX P w K mg base (k+1) x ps (WX mg r0 r1 r2 o m K):=by
 refine Lu D S (λvs H Q E h=>?_) (λf ah A outer s H vs Q E hr h=>?_)
 ·obtain⟨v0,v1,v2,a0,a1,a2,rfl,_⟩:=h;exact hp.symm
 obtain⟨v0,v1,v2,a0,a1,a2,rfl,h0,h1,h2,hz⟩:=h
 obtain⟨t,hx,hy⟩:=hb hr (hu8 hr) (VZ hr)
 refine⟨t,hx,?_⟩
 rw[JZ hN]
 exact Od (S:=(SC.add (SC.add (SC.add SC.nil K r0 v0 a0) K r1 v1 a1) K r2 v2 a2)) (U:=some v0::some v1::some v2::List.replicate j none) n (hy v0 v1 v2 a0 a1 a2) (SC.i (SC.i (SC.i SC.t h0) h1) h2) hz rfl
theorem go4 {α0 α1 α2 α3:Type}{r0:Enc α0}[MonoE r0]{r1:Enc α1}[MonoE r1]{r2:Enc α2}[MonoE r2]{r3:Enc α3}[MonoE r3]{m:α0->α1->α2->α3->Rs ρ}(D:Def K mg x st ps)(S:FnScope N ps (Xg st))(j n:Nat)(hN:N.length=j+4)(hp:ps.length=4)
  (hb:∀{f:Addr}{ah:Value}{A:Around}{outer:List Env}{s:Shared}{H:Hp}{E:XK},Rm k x st s f ah A->Au x st s f ah A+8<cLine->Au x st s f ah A+1<cLine->∃t,PSs (Ca CX0 P w K mg base N x (Xg st) f ah A outer s H E).nox (X3 st) t/\∀v0 v1 v2 v3 a0 a1 a2 a3,Sv (λ_ _=>False) (SC.add (SC.add (SC.add (SC.add SC.nil K r0 v0 a0) K r1 v1 a1) K r2 v2 a2) K r3 v3 a3) (List.replicate n []) (some v0::some v1::some v2::some v3::List.replicate j none) t (FTd K o) (m a0 a1 a2 a3)):Fn P w K mg base (k+1) x ps (sp4 r0 r1 r2 r3 o m K):=by
 refine Fa D S (λvs H Q E h=>?_) (λf ah A outer s H vs Q E hr h=>?_)
 ·obtain⟨v0,v1,v2,v3,a0,a1,a2,a3,b,rfl,_⟩:=h;exact hp.symm
 obtain⟨v0,v1,v2,v3,a0,a1,a2,a3,b,rfl,h0,h1,h2,h3,hm,q⟩:=h
 obtain⟨t,hx,hy⟩:=hb hr (hu8 hr) (VZ hr)
 refine⟨t,hx,?_⟩
 rw[JZ hN]
 exact Hr (S:=(SC.add (SC.add (SC.add (SC.add SC.nil K r0 v0 a0) K r1 v1 a1) K r2 v2 a2) K r3 v3 a3)) (U:=some v0::some v1::some v2::some v3::List.replicate j none) n (hy v0 v1 v2 v3 a0 a1 a2 a3) (SC.i (SC.i (SC.i (SC.i SC.t h0) h1) h2) h3) hm q rfl
end
section
variable {X:Cx}{a b:Expr}{pos:Pos}{ta tb:TE}(K:W.Frag)(ha:PE X a ta)(hb:PE X b tb)(h:X.K=K:=by rfl)(hs:IZ b:=by exact λ_ _=>rfl)
include ha hb h hs
theorem Xl:PE X (.Subscript a b pos) (tOp (B7 K) ta tb):=VN (Es K h) ha hb hs
theorem Xs:PE X (.Subscript a b pos) (tOp (HJ K) ta tb):=VN (Y0 K h) ha hb hs
end
section
variable {X:Cx}{N P:List Str}{s:Scope}{x:Str}{pos cK:Pos}{e:Expr}{te:TE}
theorem pgn (h:FnScope N P s)(i:Nat)(hN:X.N=N:=by rfl)(hi:X.N[i]?=some x:=by rfl)(hx:Loc X.env.scope x:=by exact Or.inl rfl)(hf:X.fn x=true∨X.env.scope.names.lookup x=some .local:=by first |exact .inl rfl |exact .inr rfl |assumption):PG X (.Name x pos) (X4 i):=Yk (by rw[hN];exact h.nd) hi hx hf
theorem psn (h:FnScope N P s)(i:Nat)(he:PE X e te)(hN:X.N=N:=by rfl)(hi:X.N[i]?=some x:=by rfl)(hx:Loc X.env.scope x:=by exact Or.inl rfl)(hs:swapsWith e (some (.Name x cK)) pos.line X.env=pure false:=by rfl)(hf:X.fn x=true∨X.env.scope.names.lookup x=some .local:=by first |exact .inl rfl |exact .inr rfl |assumption):PS X (.Assign [.Name x cK] e pos) (G7 te (X4 i)):=JT (by rw[hN];exact h.nd) hi hx he hs hf
end
section
variable {X:Cx}{e o tg iter:Expr}{es:List Expr}{t:TA}{to:TE}{p pos am aJ:Pos}{x:Str}{ps:List Str}{sp:Sp}{k j:Nat}
theorem Yp (K:W.Frag)(hm:X.mg "len" =none)(ha:PA X (e::es) t)(hg:Gl X "len":=by rfl)(h:X.K=K:=by rfl)(he:starEach (e::es) X.env=(false,eval e X.env)::starEach es X.env:=by rfl)(hpl:(backTo pos (starEach es X.env)).any (·.1)=false:=by rfl):PE X (.Call (.Name "len" p) (e::es) [] pos) (tCB (V4 K) t):=Xt (Yu K h) hg hm boot_len ha (he:=he) (hpl:=hpl)
theorem pef (G:Fn X.prog X.w X.K X.mg X.base k x ps sp)(hr:Room j X.A)(ha:PA X (e::es) t)(hj:k<=j:=by decide)(hg:Gl X x:=by rfl)(c7:(x==("__debug__":Str))=false:=by decide)(he:starEach (e::es) X.env=(false,eval e X.env)::starEach es X.env:=by rfl)(hpl:(backTo pos (starEach es X.env)).any (·.1)=false:=by rfl):PE X (.Call (.Name x p) (e::es) [] pos) (Qy sp [] E0 t):=NE G hr hj ha hg c7 he hpl
theorem psf {body:List Stmt}{wi:TI}{g:TG}{tb:TS}(hi:PI X tg iter wi)(hg:PG X tg g)(hb:PSs X body tb)(hp:PassesOwn (model X.prog X.w) X.A X.env X.xe:=by exact PassesOwn.never)(hc:X.calm=true:=by rfl)(hs:∀x,foldedSetIterable iter X.env x=pure x:=by intro _;rfl):PS X (.For tg iter body [] pos) (M5 wi g tb):=TB hp hc hi hg hb hs
end
end L2
set_option synthInstance.maxSize 2000
set_option synthInstance.maxHeartbeats 400000
namespace My
open PySem L2
abbrev F9:List Str:=["PlaitError","NoCrossing","NoMove"]
def top (i:Nat):Stmt:=PySem.Challenge.pw_plait_k64_legal.main.body.getD i (.Pass ⟨0,0,0,0⟩)
abbrev QK:Stmt:=top 6
abbrev GI:Stmt:=top 7
abbrev Kv:Stmt:=top 9
abbrev QO:Stmt:=top 10
abbrev Eu:Stmt:=top 12
abbrev GC:Stmt:=top 13
abbrev KU:Stmt:=top 14
abbrev GF:Stmt:=top 15
abbrev V1:Stmt:=top 16
abbrev Jr:Stmt:=top 17
abbrev Qr:Stmt:=top 18
abbrev KL:Stmt:=top 19
abbrev VM:Stmt:=top 20
abbrev QP:Stmt:=top 21
abbrev VD:Stmt:=top 22
abbrev JK:Stmt:=top 23
abbrev UP:Stmt:=top 24
abbrev MH:Stmt:=top 25
abbrev ZO:Stmt:=top 26
abbrev Q3:Stmt:=top 27
abbrev ZB:Stmt:=top 28
abbrev Za:Stmt:=top 29
abbrev Dx:Stmt:=top 30
abbrev Lx:Stmt:=top 31
abbrev Dq:Stmt:=top 32
abbrev Zx:Stmt:=top 33
abbrev Ko:Stmt:=top 34
abbrev IA:Stmt:=top 36
abbrev Rb:Stmt:=top 37
abbrev Sd:Stmt:=top 38
abbrev Dj:Stmt:=top 39
abbrev Zw:Stmt:=top 40
abbrev Do:Stmt:=top 41
abbrev BY:Stmt:=top 42
abbrev Ux:Stmt:=top 43
abbrev J0:Stmt:=top 44
abbrev Dk:Stmt:=top 45
abbrev KN:Stmt:=top 46
abbrev Wu:Stmt:=top 47
abbrev So:Stmt:=top 48
abbrev Ln:Stmt:=top 49
abbrev Na:Stmt:=top 50
abbrev PB:Stmt:=top 51
abbrev LG:Stmt:=top 52
abbrev EC:Stmt:=top 53
abbrev UH:Stmt:=top 54
abbrev JG:Stmt:=top 55
abbrev GQ:Stmt:=top 56
abbrev DH:Stmt:=top 57
abbrev UJ:Stmt:=top 58
abbrev RD:Stmt:=top 59
abbrev LD:Stmt:=top 60
abbrev Qp:Stmt:=top 61
abbrev GP:Stmt:=top 62
abbrev DA:Stmt:=top 63
def L6:Scope:={kind:=PySem.ScopeKind.function,names:=[(PySem.Str.ofString ".0",PySem.NameKind.local),(PySem.Str.ofString "_law_walk",PySem.NameKind.local),(PySem.Str.ofString "_law_far",PySem.NameKind.free)],isGenerator:=false,isCoroutine:=false,more:=[]:PySem.Scope}
structure Blt (mg:Str->Option Value):Prop where
 b_abs:mg "abs" =none
 b_all:mg "all" =none
 b_bool:mg "bool" =none
 b_dict:mg "dict" =none
 b_int:mg "int" =none
 b_isinstance:mg "isinstance" =none
 b_len:mg "len" =none
 b_list:mg "list" =none
 b_max:mg "max" =none
 b_min:mg "min" =none
 b_range:mg "range" =none
 b_set:mg "set" =none
 b_sorted:mg "sorted" =none
 b_tuple:mg "tuple" =none
 c_MOST_CROSSINGS:∃u,mg "MOST_CROSSINGS" =some u/\XZ (.int 40) u
abbrev Pq (p:Program->World->W.Frag->(Str->Option Value)->Heap->Prop):Prop:=∀ {P w K mg base},Ecs F9 K mg->Blt mg->p P w K mg base
theorem BA:FnScope ["drawing"] ["drawing"] (Xg QK):={}
section
variable (P:Program)(w:World)(K:W.Frag)(mg:Str->Option Value)(base:Heap)
abbrev VC (m:QDr->Rs (List Int)):Prop:=Fn P w K mg base 1 "crossings" ["drawing"] (sp1 (rP2 (rV (rV Xf)) (rV (rP2 Xf Xf))) (oL (oF Xf)) m K)
noncomputable def Vr:{m // Pq λP w K mg base=>Def K mg "crossings" QK ["drawing"]->VC P w K mg base m}:=⟨_, @λP w K mg base Y Z D=>go1 D BA 0 0 rfl rfl λhr hu aq=>⟨_,(Xb (Xo (Qd (sc:=(Xg QK)) (N0:=["drawing"]) (tns:=["entry"]) (caps:=[]) rfl (XF (K:=K) rfl (Xl K (pv 0) Xc)) (YU (by decide)) (λcl C s H ex E=>⟨Yk (i:=0) (show List.Nodup (["entry"]:List Str) by decide+kernel) rfl (Or.inl rfl),ZP,(Xl K (pv 0) Xc)⟩)))
  Xe),λac ak=>(Xp (ZN (λ_=>tg1 0) qw (λC2 a3 v4=>qM)))⟩⟩
def VQ:=Vr.1
theorem Fs:FnScope ["drawing","crossing","entry"] ["drawing","crossing"] (Xg GI):={}
abbrev V7 (m:QDr->Int->Rs Int):Prop:=FnX P w K mg base 1 "sign_of" ["drawing","crossing"] (M8 mg (rP2 (rV (rV Xf)) (rV (rP2 Xf Xf))) Xf (oF Xf) m K)
noncomputable def GX:{m // Pq λP w K mg base=>Def K mg "sign_of" GI ["drawing","crossing"]->V7 P w K mg base m}:=⟨_, @λP w K mg base Y Z D=>Tn D Fs 1 0 rfl rfl λhr hu aq=>let ⟨fo,bF,cC⟩:=Y.adr "NoCrossing" (.tail _ (.head _));⟨_,(Xb (PS.nox (psf (XF (K:=K) rfl (Xl K (pv 0) Xc)) (pgn Fs 2)
   (Xb (XA (Xj XO (Xl K (pv 2) Xc) (pv 1) (Xm _))
    (Xb (Xo (Xl K (pv 2) Xc))
    Xe)
    Xe)
   Xe)))
  (Xb (EZ OC rfl (cC (by decide)) rfl bF (Xa (AL (Td Xx (TW (pv 1) S6))) Xd))
  Xe)),λac af ak av=>(O4 K (λO (x2:Option V)=>[]) (λs x2=>[some ac,some af,x2]) (λS (g3:Unit) x2=>S) (λ_=>tg1 2) ((none)) () qw rfl rfl (λ_ s=>s) (λg4 x5 a6 v7=>(K3 (qt K) (Xp qM) (EX (Yq ((some v7)) () rfl rfl)))) λdO ax=>(Ez bF (WY (Rj (Sc (K:=K) qB RX)))))⟩⟩
def QE:=GX.1
theorem Vj:FnScope ["passages","by","start"] ["passages","by"] (Xg QO):={}
abbrev QU (m:(List Int)->Int->Rs (List Int)):Prop:=Fn P w K mg base 1 "begun_later" ["passages","by"] (sp2 (rV Xf) Xf (oL (oF Xf)) m K)
noncomputable def QL:{m // Pq λP w K mg base=>Def K mg "begun_later" QO ["passages","by"]->QU P w K mg base m}:=⟨_, @λP w K mg base Y Z D=>go2 D Vj 1 0 rfl rfl λhr hu aq=>⟨_,(Xb (XA (Xj XO (Yp K Z.b_len (Xa (pv 0) Xd)) Xc (Xm _))
   (Xb (Xo (XC Xd))
   Xe)
   Xe)
  (Xb (psn Vj 2 (Xk X0 (pv 1) (Yp K Z.b_len (Xa (pv 0) Xd))))
  (Xb (Xo (Xk QJ (XB (Ym K rfl) (pv 0) (XE (pv 2)) XV) (XB (Ym K rfl) (pv 0) XV (XE (pv 2)))))
  Xe))),λac af ak av=>(XN (qt K) (Xp (Kf (o:=(oF Xf)))) (Ya K qS λa5 v6=>(Xp qN)))⟩⟩
def QW:=QL.1
theorem Bm:FnScope ["drawing","walk","by","walks"] ["drawing","walk","by"] (Xg Kv):={}
abbrev Dp (m:QDr->Int->Int->Rs QDr):Prop:=Fn P w K mg base 2 "turned" ["drawing","walk","by"] (sp3 (rP2 (rV (rV Xf)) (rV (rP2 Xf Xf))) Xf Xf (oT2 (oL (oL (oF Xf))) (oL (oF (rP2 Xf Xf)))) m K)
noncomputable def DI:{m // Pq λP w K mg base=>Def K mg "turned" Kv ["drawing","walk","by"]->QU P w K mg base QW->Dp P w K mg base m}:=⟨_, @λP w K mg base Y Z D aO=>go3 D Bm 1 1 rfl rfl λhr hu aq=>⟨_,(Xb (JE 3 (Xg Kv) ["drawing","walk","by","walks"] ["passages"] [] rfl Bm.nd rfl rfl (XF (K:=K) rfl (Xl K (pv 0) Xc)) (YU (by decide)) (λcl C s H ex E=>⟨Yk (i:=0) (show List.Nodup (["passages"]:List Str) by decide+kernel) rfl (Or.inl rfl),ZP,(XD (XW K rfl) rfl Z.b_list PyProof.Rows.boot_list (Xa (pv 0) Xd))⟩))
  (Xb (Yt (pef aO hr (Xa (Xs K (pv 3) (pv 1)) (Xa (pv 2) Xd))) (Zo (pv 3) (pv 1) Yc))
  (Xb (Xo (XH (Xa (pv 3) (Xa (XD (XW K rfl) rfl Z.b_list PyProof.Rows.boot_list (Xa (Xl K (pv 0) Xc) Xd)) Xd))))
  Xe))),λac af aV ak av b8=>(Zm K (o:=(oL (oL (oF Xf)))) 0 (ZN (λ_=>tg1 0) qw (λC5 a6 v7=>qN)) λa1 v2 C3=>(Jt K qN (λ_=>qB) λgU C18=>(Xp (Zg JS λ_=>qN))))⟩⟩
def DY:=DI.1
theorem Hq:FnScope ["drawing","walk"] ["drawing","walk"] (Xg GC):={}
abbrev JM (m:QDr->Int->Rs Bool):Prop:=Fn P w K mg base 1 "is_walk" ["drawing","walk"] (sp2 (rP2 (rV (rV Xf)) (rV (rP2 Xf Xf))) Xf (oF Xw) m K)
noncomputable def VU:{m // Pq λP w K mg base=>Def K mg "is_walk" GC ["drawing","walk"]->JM P w K mg base m}:=⟨_, @λP w K mg base Y Z D=>go2 D Hq 0 0 rfl rfl λhr hu aq=>⟨_,(Xb (Xo (Ha Hs Js Xc (pv 1) (Yp K Z.b_len (Xa (Xl K (pv 0) Xc) Xd))))
  Xe),λac af ak av=>(Xp (EvS.ev (EvB.sh (VX qB qB qB))))⟩⟩
def ZE:=VU.1
theorem Fm:FnScope ["drawing","walk","place","passages"] ["drawing","walk","place"] (Xg GF):={}
abbrev Z5 (m:QDr->Int->Int->Rs (Option (Int×Int))):Prop:=Fn P w K mg base 2 "pair_at" ["drawing","walk","place"] (sp3 (rP2 (rV (rV Xf)) (rV (rP2 Xf Xf))) Xf Xf (oF (LP (rP2 Xf Xf))) m K)
noncomputable def V3:{m // Pq λP w K mg base=>Def K mg "pair_at" GF ["drawing","walk","place"]->JM P w K mg base ZE->Z5 P w K mg base m}:=⟨_, @λP w K mg base Y Z D aw=>go3 D Fm 1 0 rfl rfl λhr hu aq=>⟨_,(Xb (XA (PW.pt (Zv (Zq (Yx (pef aw hr (Xa (pv 0) (Xa (pv 1) Xd))))) (Zl (Zq (EI Hs Js Xc (pv 2) (Xk Zp (Yp K Z.b_len (Xa (Xs K (Xl K (pv 0) Xc) (pv 1)) Xd)) Xc))))))
   (Xb (Xo U2)
   Xe)
   Xe)
  (Xb (psn Fm 3 (Xs K (Xl K (pv 0) Xc) (pv 1)))
  (Xb (Xo (XH (Xa (Xs K (pv 3) (pv 2)) (Xa (Xs K (pv 3) (Xk Xy (pv 2) Xc)) Xd))))
  Xe))),λac af aV ak av b8=>(XN (YK (qt K) (Jb (Xz (K:=K) (VX qB qB qB)))) (Xp P6) (Ya K qS λa16 v17=>(Xp (NS WF qM))))⟩⟩
def YJ:=V3.1
theorem BE:FnScope ["pair","passage"] ["pair","passage"] (Xg UP):={}
abbrev Uu (m:(Int×Int)->Int->Rs Int):Prop:=Fn P w K mg base 1 "order_of" ["pair","passage"] (sp2 (rP2 Xf Xf) Xf (oF Xf) m K)
noncomputable def UK:{m // Pq λP w K mg base=>Def K mg "order_of" UP ["pair","passage"]->Uu P w K mg base m}:=⟨_, @λP w K mg base Y Z D=>go2 D BE 0 0 rfl rfl λhr hu aq=>⟨_,(Xb (Xo (J6 (Xj XO (Xl K (pv 0) Xc) (pv 1) (Xm _)) Xc (Yj XJ Xc)))
  Xe),λac af ak av=>(Xp (NH (qt K) qM qM))⟩⟩
def UM:=UK.1
theorem XX:FnScope ["drawing","move","top","mid","low","a","c","b","p","q","r"] ["drawing","move"] (Xg JK):={}
abbrev Jq (m:QDr->(List Mx)->Rs Bool):Prop:=FnX P w K mg base 3 "pass_legal" ["drawing","move"] (M8 mg (rP2 (rV (rV Xf)) (rV (rP2 Xf Xf))) (rPL rMx) (oF Xw) m K)
noncomputable def Qm:{m // Pq λP w K mg base=>Def K mg "pass_legal" JK ["drawing","move"]->Z5 P w K mg base YJ->Uu P w K mg base UM->V7 P w K mg base QE->Jq P w K mg base m}:=⟨_, @λP w K mg base Y Z D ae aK ao=>Tn D XX 9 0 rfl rfl λhr hu aq=>⟨_,(Xb (PS.nox (psn XX 2 (pef ae hr (Xa (pv 0) (Xa (Xl K (pv 1) Xc) (Xa (Xl K (pv 1) Xc) Xd))))))
  (Xb (PS.nox (psn XX 3 (pef ae hr (Xa (pv 0) (Xa (Xl K (pv 1) Xc) (Xa (Xl K (pv 1) Xc) Xd))))))
  (Xb (PS.nox (psn XX 4 (pef ae hr (Xa (pv 0) (Xa (Xl K (pv 1) Xc) (Xa (Xl K (pv 1) Xc) Xd))))))
  (Xb (PS.nox (XA (PW.pt (Zv (Xj MV (pv 2) U2 (Xm _)) (Zv (Xj MV (pv 3) U2 (Xm _)) (Zl (Xj MV (pv 4) U2 (Xm _))))))
   (Xb (Xo Y2)
   Xe)
   Xe))
  (Xb (PS.nox (psn XX 5 (Yj XJ (Xt (Jx K rfl rfl) rfl Z.b_min PyProof.Rows.boot_min (Xa (pv 3) Xd)))))
  (Xb (PS.nox (psn XX 6 (Xt (GL K rfl rfl) rfl Z.b_max PyProof.Rows.boot_max (Xa (pv 3) Xd))))
  (Xb (PS.nox (XA (PW.pt (Zv (Xj Js (Xt (Jx K rfl rfl) rfl Z.b_min PyProof.Rows.boot_min (Xa (pv 2) Xd)) Xc (Xm _)) (Zv (Xj JF (pv 5) (pv 2) rfl) (Zv (Xj Js (pv 6) Xc (Xm _)) (Zl (Xj KR (pv 6) (pv 2) rfl))))))
   (Xb (Xo Y2)
   Xe)
   Xe))
  (Xb (PS.nox (psn XX 7 (J6 (Xj XO (Xl K (pv 2) Xc) (pv 5) (Xm _)) (Xl K (pv 2) Xc) (Xl K (pv 2) Xc))))
  (Xb (PS.nox (XA (Xj (K2 K rfl (HN eq_int) (Vt (by decide) hu)) (Xt (UZ K rfl) rfl Z.b_sorted PyProof.Rows.boot_sorted (Xa (pv 4) Xd)) (Xt (YC K rfl) rfl Z.b_sorted PyProof.Rows.boot_sorted (Xa (XC (Xa (Yj XJ (pv 7)) (Xa (Yj XJ (pv 6)) Xd))) Xd XU)) (Xm _))
   (Xb (Xo Y2)
   Xe)
   Xe))
  (Xb (PS.nox (psn XX 8 (pef aK hr (Xa (pv 2) (Xa (pv 5) Xd)))))
  (Xb (PS.nox (psn XX 9 (pef aK hr (Xa (pv 3) (Xa (Yj XJ (pv 5)) Xd)))))
  (Xb (PS.nox (psn XX 10 (pef aK hr (Xa (pv 4) (Xa (Yj XJ (pv 7)) Xd)))))
  (Xb (XA (Xj BV (Xk XT (pv 8) (Jf ao hr (by decide) Gm (Xa (pv 0) (Xa (pv 7) Xd)))) (Xk XT (pv 9) (Jf ao hr (by decide) Gm (Xa (pv 0) (Xa (pv 6) Xd)))) (Xm _))
   (Xb (PS.nox (Xo Y2))
   Xe)
   Xe)
  (Xb (Xo (XI XO (Xk XT (pv 9) (Jf ao hr (by decide) Gm (Xa (pv 0) (Xa (pv 5) Xd)))) (Xk XT (pv 10) (Jf ao hr (by decide) Gm (Xa (pv 0) (Xa (pv 7) Xd)))) (Xm _)))
  Xe)))))))))))))),λac af ak av=>(Ya K qS λa1 v2=>(Ya K qS λa11 v12=>(Ya K qS λa21 v22=>(XN (YK (Xz (K:=K) (Eb (tb:=tC .non) qB)) (YK (Xz (K:=K) (Eb (tb:=tC .non) qB)) (Xz (K:=K) (Eb (tb:=tC .non) qB)))) (Xp qM) (Ep (K:=K) (r:=(rP2 Xf Xf)) (λ_ s=>s.l.l.r) λa35=>(Ep (K:=K) (r:=(rP2 Xf Xf)) (λ_ s=>s.l.l.r) λiW=>(Ep (K:=K) (r:=(rP2 Xf Xf)) (λ_ s=>s.l.l.r) λa37=>(Ya K (r:=Xf) (EvB.sh (Vo (Jl qb))) λa38 v39=>(Ya K (r:=Xf) (EvB.sh (DR qb)) λa42 v43=>(XN (YK (Xz (K:=K) (GH (Jl qb) qB)) (YK (Xz (K:=K) (FY qB qb)) (YK (qt K) (Xz (K:=K) (JI qB qb))))) (Xp qM) (Ya K qS λa57 v58=>(XN (Xz (K:=K) (DT (Ev.toB (FH qb)) (Ev.toB (JX ql)))) (Xp qM) (Ya K qS λa79 v80=>(Ya K qS λa84 v85=>(Ya K qS λa90 v91=>(XN (Xz (K:=K) (GB (ZM qB (Ev.toB (YX qB qB))) (ZM qB (Ev.toB (YX qB qB))))) (Xp qM) (Xp (EvS.ev (EvB.sh (Je (ZM qB (Ev.toB (YX qB qB))) (ZM qB (Ev.toB (YX qB qB)))))))))))))))))))))))⟩⟩
def Y6:=Qm.1
theorem Ho:FnScope ["drawing","walk","place","more"] ["drawing","walk","place","more"] (Xg KU):={}
abbrev Uf (m:QDr->Int->Int->Int->Rs Bool):Prop:=Fn P w K mg base 2 "can_lay" ["drawing","walk","place","more"] (sp4 (rP2 (rV (rV Xf)) (rV (rP2 Xf Xf))) Xf Xf Xf (oF Xw) m K)
noncomputable def GR:{m // Pq λP w K mg base=>Def K mg "can_lay" KU ["drawing","walk","place","more"]->JM P w K mg base ZE->Uf P w K mg base m}:=⟨_, @λP w K mg base Y Z D aw=>go4 D Ho 0 0 rfl rfl λhr hu aq=>⟨_,(Xb (Xo (Qi (pef aw hr (Xa (pv 0) (Xa (pv 1) Xd))) (Qg (Ha Hs Hs Xc (pv 2) (Xk Xy (Yp K Z.b_len (Xa (Xs K (Xl K (pv 0) Xc) (pv 1)) Xd)) (pv 3))))))
  Xe),λac af aV eO ak av b8 fH=>(Xp (EvS.ev (EvB.sh (YY qB (VX qB qB qB)))))⟩⟩
def Jy:=GR.1
theorem FI:FnScope ["drawing","names","known"] ["drawing","names"] (Xg V1):={}
abbrev Ub (m:QDr->(List Int)->Rs Bool):Prop:=Fn P w K mg base 2 "can_add" ["drawing","names"] (sp2 (rP2 (rV (rV Xf)) (rV (rP2 Xf Xf))) (rV Xf) (oF Xw) m K)
noncomputable def KO:{m // Pq λP w K mg base=>Def K mg "can_add" V1 ["drawing","names"]->VC P w K mg base VQ->Ub P w K mg base m}:=⟨_, @λP w K mg base Y Z D bg=>go2 D FI 1 0 rfl rfl λhr hu aq=>⟨_,(Xb (JT (i:=2) FI.nd rfl (Or.inr rfl) (pef bg hr (Xa (pv 0) Xd)))
  (Xb (XA (PW.pt (Zv (Xj UB (Xk Xy (Yp K Z.b_len (Xa (pv 2) Xd)) (Yp K Z.b_len (Xa (pv 1) Xd))) (SN Z.c_MOST_CROSSINGS rfl) (Xm _)) (Zl (Xj Js (Xt MX rfl Z.b_len boot_len (Xa (XD (LA K rfl rfl) rfl Z.b_set PySem.Pv.boot_set (Xa (pv 1) Xd)) Xd)) (Yp K Z.b_len (Xa (pv 1) Xd)) (Xm _)))))
   (Xb (Xo Y2)
   Xe)
   Xe)
  (Xb (Xo (Xt (Iw rfl) rfl Z.b_all PyProof.Rows.boot_all (Xa (Qd (sc:=(Xg V1)) (N0:=["drawing","names","known"]) (tns:=["name"]) (caps:=[(2,"known")]) rfl (XF (K:=K) rfl (pv 1)) (YU (by decide)) (λcl C s H ex E=>⟨Yk (i:=0) (show List.Nodup (["name","known"]:List Str) by decide+kernel) rfl (Or.inl rfl),ZP,(Qi (XI W3 (pv 0) Xc (Xm _)) (Qg (XI (V5 K rfl) (pv 0) (pv 1) rfl)))⟩)) Xd)))
  Xe))),λac af ak av=>(Ya K qS λa1 v2=>(XN (YK (qt K) (Xz (K:=K) (GH (Et ql) qB))) (Xp qM) (Xp (EvS.ev (EvB.sh (Rk (Ev.toB (ZN (λ_=>tg1 0) qw (λC17 iX v19=>(EvS.ev (EvB.sh (YY qB (R9 qB qB)))))))))))))⟩⟩
def JU:=KO.1
theorem Dm:FnScope ["drawing","move"] ["drawing","move"] (Xg Jr):={}
abbrev JJ (m:QDr->(List Mx)->Rs Bool):Prop:=Fn P w K mg base 3 "curl_legal" ["drawing","move"] (sp2 (rP2 (rV (rV Xf)) (rV (rP2 Xf Xf))) (rPL rMx) (oF Xw) m K)
noncomputable def JQ:{m // Pq λP w K mg base=>Def K mg "curl_legal" Jr ["drawing","move"]->Uf P w K mg base Jy->Ub P w K mg base JU->JJ P w K mg base m}:=⟨_, @λP w K mg base Y Z D aC aH=>go2 D Dm 0 0 rfl rfl λhr hu aq=>⟨_,(Xb (XA (PW.pt (Zv (Zq (Yx (pef aC hr (Xa (pv 0) (Xa (Xl K (pv 1) Xc) (Xa (Xl K (pv 1) Xc) (Xa Xc Xd))))))) (Zl (Zq (Yx (pef aH hr (Xa (pv 0) (Xa (XC (Xa (Xl K (pv 1) Xc) Xd)) Xd XU))))))))
   (Xb (Xo Y2)
   Xe)
   Xe)
  (Xb (Xo (Qi (XI (ZZ K rfl) (Xl K (pv 1) Xc) (XH (Xa Xx (Xa Xx Xd))) rfl) (Qg (XI (ZZ K rfl) (Xl K (pv 1) Xc) (XH (Xa Xc (Xa (Yj XJ Xc) Xd))) rfl))))
  Xe)),λac af ak av=>(XN (qt K) (Xp qM) (Xp (EvS.ev (EvB.sh (YY (JI qb (E3 (Ev.toB qM))) (JI qb (UD (Ev.toB qM))))))))⟩⟩
def JH:=JQ.1
theorem Ia:FnScope ["pair"] ["pair"] (Xg KL):={}
abbrev Ge (m:(Int×Int)->Rs Bool):Prop:=Fn P w K mg base 1 "is_curl" ["pair"] (sp1 (rP2 Xf Xf) (oF Xw) m K)
noncomputable def Gr:{m // Pq λP w K mg base=>Def K mg "is_curl" KL ["pair"]->Ge P w K mg base m}:=⟨_, @λP w K mg base Y Z D=>go1 D Ia 0 0 rfl rfl λhr hu aq=>⟨_,(Xb (Xo (XI XO (Xl K (pv 0) Xc) (Yj XJ (Xl K (pv 0) Xc)) (Xm _)))
  Xe),λac ak=>(Xp qM)⟩⟩
def GO:=Gr.1
theorem JV:FnScope ["drawing","move","pair"] ["drawing","move"] (Xg Qr):={}
abbrev Qw (m:QDr->(List Mx)->Rs Bool):Prop:=Fn P w K mg base 3 "uncurl_legal" ["drawing","move"] (sp2 (rP2 (rV (rV Xf)) (rV (rP2 Xf Xf))) (rPL rMx) (oF Xw) m K)
noncomputable def Qq:{m // Pq λP w K mg base=>Def K mg "uncurl_legal" Qr ["drawing","move"]->Z5 P w K mg base YJ->Ge P w K mg base GO->Qw P w K mg base m}:=⟨_, @λP w K mg base Y Z D ae bH=>go2 D JV 1 0 rfl rfl λhr hu aq=>⟨_,(Xb (psn JV 2 (pef ae hr (Xa (pv 0) (Xa (Xl K (pv 1) Xc) (Xa (Xl K (pv 1) Xc) Xd)))))
  (Xb (Xo (Qi (XI BH (pv 2) U2 (Xm _)) (Qg (pef bH hr (Xa (pv 2) Xd)))))
  Xe)),λac af ak av=>(Ya K qS λa1 v2=>(Xp (EvS.ev (EvB.sh (YY (De (tb:=tC .non) qB) qB)))))⟩⟩
def ZC:=Qq.1
theorem U1:FnScope ["drawing","move","same"] ["drawing","move"] (Xg VM):={}
abbrev VE (m:QDr->(List Mx)->Rs Bool):Prop:=Fn P w K mg base 3 "lay_legal" ["drawing","move"] (sp2 (rP2 (rV (rV Xf)) (rV (rP2 Xf Xf))) (rPL rMx) (oF Xw) m K)
noncomputable def Vx:{m // Pq λP w K mg base=>Def K mg "lay_legal" VM ["drawing","move"]->Uf P w K mg base Jy->Ub P w K mg base JU->VE P w K mg base m}:=⟨_, @λP w K mg base Y Z D aC aH=>go2 D U1 1 0 rfl rfl λhr hu aq=>⟨_,(Xb (XA (PW.pt (Zv (Zq (Yx (pef aC hr (Xa (pv 0) (Xa (Xl K (pv 1) Xc) (Xa (Xl K (pv 1) Xc) (Xa Xc Xd))))))) (Zl (Zq (Yx (pef aH hr (Xa (pv 0) (Xa (XC (Xa (Xl K (pv 1) Xc) (Xa (Xl K (pv 1) Xc) Xd))) Xd XU))))))))
   (Xb (Xo Y2)
   Xe)
   Xe)
  (Xb (psn U1 2 (XI XO (Xl K (pv 1) Xc) (Xl K (pv 1) Xc) (Xm _)))
  (Xb (XA (PW.pt (U4 (Yx (pv 2)) (VO (Xj XO (Xl K (pv 1) Xc) (Xk Xy (Xl K (pv 1) Xc) Xc) (Xm _)))))
   (Xb (Xo Y2)
   Xe)
   Xe)
  (Xb (Xo (Qi (pef aC hr (Xa (pv 0) (Xa (Xl K (pv 1) Xc) (Xa (Xl K (pv 1) Xc) (Xa (J6 (Yx (pv 2)) Xc Xc) Xd))))) (Qg (XI (ZZ K rfl) (Xl K (pv 1) Xc) (XH (Xa Xc (Xa (Yj XJ Xc) Xd))) rfl))))
  Xe)))),λac af ak av=>(XN (qt K) (Xp qM) (Ya K qS λa25 v26=>(XN (qt K) (Xp qM) (Xp (EvS.ev (EvB.sh (YY qB (JI qb (UD (Ev.toB qM))))))))))⟩⟩
def Vm:=Vx.1
theorem Bx:FnScope ["drawing","over","under"] ["drawing","over","under"] (Xg VD):={}
abbrev Vy (m:QDr->(Int×Int)->(Int×Int)->Rs Bool):Prop:=FnX P w K mg base 2 "can_unlay" ["drawing","over","under"] (WX mg (rP2 (rV (rV Xf)) (rV (rP2 Xf Xf))) (rP2 Xf Xf) (rP2 Xf Xf) (oF Xw) m K)
noncomputable def Vz:{m // Pq λP w K mg base=>Def K mg "can_unlay" VD ["drawing","over","under"]->V7 P w K mg base QE->Vy P w K mg base m}:=⟨_, @λP w K mg base Y Z D ao=>AO D Bx 0 0 rfl rfl λhr hu aq=>⟨_,(Xb (PS.nox (XA (PW.pt (Zv (Xj Js (Xt (Jx K rfl rfl) rfl Z.b_min PyProof.Rows.boot_min (Xa (pv 1) Xd)) Xc (Xm _)) (Zl (Xj (K2 K rfl (HN eq_int) (Vt (by decide) hu)) (Xt (UZ K rfl) rfl Z.b_sorted PyProof.Rows.boot_sorted (Xa (pv 2) Xd)) (Xt (YC K rfl) rfl Z.b_sorted PyProof.Rows.boot_sorted (Xa (XC (Xa (Yj XJ (Xl K (pv 1) Xc)) (Xa (Yj XJ (Xl K (pv 1) Xc)) Xd))) Xd XU)) (Xm _)))))
   (Xb (Xo Y2)
   Xe)
   Xe))
  (Xb (Xo (XI BV (Jf ao hr (by decide) Gm (Xa (pv 0) (Xa (Xl K (pv 1) Xc) Xd))) (Jf ao hr (by decide) Gm (Xa (pv 0) (Xa (Xl K (pv 1) Xc) Xd))) (Xm _)))
  Xe)),λac af aV ak av b8=>(XN (YK (Xz (K:=K) (GH (Jl qb) qB)) (Xz (K:=K) (DT (Ev.toB (FH qb)) (Ev.toB (JX ql))))) (Xp qM) (Xp (EvS.ev (EvB.sh (GB (Ev.toB (YX qB qB)) (Ev.toB (YX qB qB)))))))⟩⟩
def VA:=Vz.1
theorem Qt:FnScope ["drawing","move","over","under"] ["drawing","move"] (Xg QP):={}
abbrev QQ (m:QDr->(List Mx)->Rs Bool):Prop:=FnX P w K mg base 3 "unlay_legal" ["drawing","move"] (M8 mg (rP2 (rV (rV Xf)) (rV (rP2 Xf Xf))) (rPL rMx) (oF Xw) m K)
noncomputable def QX:{m // Pq λP w K mg base=>Def K mg "unlay_legal" QP ["drawing","move"]->Z5 P w K mg base YJ->Vy P w K mg base VA->QQ P w K mg base m}:=⟨_, @λP w K mg base Y Z D ae bh=>Tn D Qt 2 0 rfl rfl λhr hu aq=>⟨_,(Xb (PS.nox (psn Qt 2 (pef ae hr (Xa (pv 0) (Xa (Xl K (pv 1) Xc) (Xa (Xl K (pv 1) Xc) Xd))))))
  (Xb (PS.nox (psn Qt 3 (pef ae hr (Xa (pv 0) (Xa (Xl K (pv 1) Xc) (Xa (Xl K (pv 1) Xc) Xd))))))
  (Xb (Xo (Qi (XI BH (pv 2) U2 (Xm _)) (Qi (XI BH (pv 3) U2 (Xm _)) (Qg (Jf bh hr (by decide) Gm (Xa (pv 0) (Xa (pv 2) (Xa (pv 3) Xd))))))))
  Xe))),λac af ak av=>(Ya K qS λa1 v2=>(Ya K qS λa11 v12=>(Xp (EvS.ev (EvB.sh (YY (De (tb:=tC .non) qB) (YY (De (tb:=tC .non) qB) (Ev.toB (Ls qB qb qb)))))))))⟩⟩
def QN:=QX.1
theorem EO:FnScope ["drawing","move","word"] ["drawing","move"] (Xg Eu):={}
abbrev F5 (m:QDr->(List Mx)->Rs Bool):Prop:=FnX P w K mg base 4 "legal" ["drawing","move"] (M8 mg (rP2 (rV (rV Xf)) (rV (rP2 Xf Xf))) (rPL rMx) (oF Xw) m K)
noncomputable def Ju:{m // Pq λP w K mg base=>Def K mg "legal" Eu ["drawing","move"]->Jq P w K mg base Y6->JM P w K mg base ZE->JJ P w K mg base JH->Qw P w K mg base ZC->VE P w K mg base Vm->QQ P w K mg base QN->F5 P w K mg base m}:=⟨_, @λP w K mg base Y Z D aW aw aX aL bi aP=>Tn D EO 1 0 rfl rfl λhr hu aq=>⟨_,(Xb (PS.nox (psn EO 2 (Xl K (pv 1) Xc)))
  (Xb (PS.nox (XA (Xj XO (pv 2) Xx (Xm _))
   (Xb (Xo (pef aw hr (Xa (pv 0) (Xa (Xl K (pv 1) Xc) Xd))))
   Xe)
   Xe))
  (Xb (PS.nox (XA (Xj XO (pv 2) Xx (Xm _))
   (Xb (Xo (pef aX hr (Xa (pv 0) (Xa (pv 1) Xd))))
   Xe)
   Xe))
  (Xb (PS.nox (XA (Xj XO (pv 2) Xx (Xm _))
   (Xb (Xo (pef aL hr (Xa (pv 0) (Xa (pv 1) Xd))))
   Xe)
   Xe))
  (Xb (PS.nox (XA (Xj XO (pv 2) Xx (Xm _))
   (Xb (Xo (pef bi hr (Xa (pv 0) (Xa (pv 1) Xd))))
   Xe)
   Xe))
  (Xb (XA (Xj XO (pv 2) Xx (Xm _))
   (Xb (Xo (Jf aP hr (by decide) Gm (Xa (pv 0) (Xa (pv 1) Xd))))
   Xe)
   Xe)
  (Xb (Xo (Jf aW hr (by decide) Gm (Xa (pv 0) (Xa (pv 1) Xd))))
  Xe))))))),λac af ak av=>(Ya K (r:=Kq) qs λa1 v2=>(XN (qt K) (Xp qN) (XN (qt K) (Xp qN) (XN (qt K) (Xp qN) (XN (qt K) (Xp qN) (XN (qt K) (Xp (YX qB qB)) (Xp (YX qB qB))))))))⟩⟩
def Ye:=Ju.1
theorem UT:FnScope ["drawing","move"] ["drawing","move"] (Xg ZO):={}
abbrev ZR (m:QDr->(List Mx)->Rs Unit):Prop:=FnX P w K mg base 5 "refuse_illegal" ["drawing","move"] (M8 mg (rP2 (rV (rV Xf)) (rV (rP2 Xf Xf))) (rPL rMx) oU m K)
noncomputable def YZ:{m // Pq λP w K mg base=>Def K mg "refuse_illegal" ZO ["drawing","move"]->F5 P w K mg base Ye->ZR P w K mg base m}:=⟨_, @λP w K mg base Y Z D aZ=>by
 refine Lu D UT (λvs H Q E h=>?_) (λf ah A outer s H vs Q E hr h=>?_)
 ·obtain⟨ac,af,ak,av,rfl,_⟩:=h;rfl
 obtain⟨ac,af,ak,av,rfl,da,dP,hz⟩:=h
 obtain⟨eP,bj,bG⟩:=Y.adr "NoMove" (.tail _ (.tail _ (.head _)))
 replace bG:=bG (by decide)
 have hu:=hu8 hr
 have aq:=VZ hr
 refine⟨_,(Xb (XA (Zq (Yx (Jf aZ hr (by decide) Gm (Xa (pv 0) (Xa (pv 1) Xd)))))
   (Xb (EZ OC rfl bG rfl bj (Xa Xx Xd))
   Xe)
   Xe)
  Xe),?_⟩
 refine Tp (J:=({oo:=λx3=>[],ss:=λx3=>[some ac,some af],sc:=λg4 x3=>(SC.add (SC.add SC.nil K (rP2 (rV (rV Xf)) (rV (rP2 Xf Xf))) ac ak) K (rPL rMx) af av)}:Jn (Unit) (Unit))) (K:=K) (S:=(SC.add (SC.add SC.nil K (rP2 (rV (rV Xf)) (rV (rP2 Xf Xf))) ac ak) K (rPL rMx) af av)) (U:=[some ac,some af]) 0 ?_ (SC.i (SC.i SC.t da) dP) hz (λ_ _=>rfl)
 exact(TQ (K:=K) (o:=oU) (Jb (Qx (K:=K) (Ev.toB (YX qB qB)))) (Ez bj RM) (Yq () () rfl rfl))⟩
def Yz:=YZ.1
theorem Jw:FnScope ["drawing","move","walks","at","place","first"] ["drawing","move"] (Xg Ko):={}
abbrev DB (m:QDr->(List Mx)->Rs QDr):Prop:=Fn P w K mg base 1 "passed" ["drawing","move"] (sp2 (rP2 (rV (rV Xf)) (rV (rP2 Xf Xf))) (rPL rMx) (oT2 (oL (oL (oF Xf))) (oL (oF (rP2 Xf Xf)))) m K)
noncomputable def Dw:{m // Pq λP w K mg base=>Def K mg "passed" Ko ["drawing","move"]->DB P w K mg base m}:=⟨_, @λP w K mg base Y Z D=>go2 D Jw 4 1 rfl rfl λhr hu aq=>⟨_,(Xb (JE 2 (Xg Ko) ["drawing","move","walks","at","place","first"] ["walk"] [] rfl Jw.nd rfl rfl (XF (K:=K) rfl (Xl K (pv 0) Xc)) (YU (by decide)) (λcl C s H ex E=>⟨Yk (i:=0) (show List.Nodup (["walk"]:List Str) by decide+kernel) rfl (Or.inl rfl),ZP,(XD (XW K rfl) rfl Z.b_list PyProof.Rows.boot_list (Xa (pv 0) Xd))⟩))
  (Xb (psf (Px (K:=K) rfl (XH (Xa (XH (Xa (Xl K (pv 1) Xc) (Xa (Xl K (pv 1) Xc) Xd))) (Xa (XH (Xa (Xl K (pv 1) Xc) (Xa (Xl K (pv 1) Xc) Xd))) (Xa (XH (Xa (Xl K (pv 1) Xc) (Xa (Xl K (pv 1) Xc) Xd))) Xd))))) (ZT rfl (Xq (pgn Jw 3) (Xq (pgn Jw 4) YT)))
   (Xb (psn Jw 5 (Xs K (Xs K (pv 2) (pv 3)) (pv 4)))
   (Xb (Yt (Xs K (Xs K (pv 2) (pv 3)) (Xk Xy (pv 4) Xc)) (Zo (Xs K (pv 2) (pv 3)) (pv 4) Yc))
   (Xb (Yt (pv 5) (Zo (Xs K (pv 2) (pv 3)) (Xk Xy (pv 4) Xc) Yc))
   Xe))))
  (Xb (Xo (XH (Xa (pv 2) (Xa (XD (XW K rfl) rfl Z.b_list PyProof.Rows.boot_list (Xa (Xl K (pv 0) Xc) Xd)) Xd))))
  Xe))),λac af ak av=>(Zm K (o:=(oL (oL (oF Xf)))) 0 (ZN (λ_=>tg1 0) qw (λC5 a6 v7=>qN)) λa1 v2 C3=>(Fj K (λO (eQ:Option V×Option V×Option V×V×List XG)=>[eQ.2.2.2.2]) (λs eQ=>[some ac,some af,some eQ.2.2.2.1,eQ.1,eQ.2.1,eQ.2.2.1]) (λS (g36:QLs) eQ=>(SC.addO S K (oL (oL (oF Xf))) eQ.2.2.2.1 g36 eQ.2.2.2.2)) (λ_=>tg2 3 4) ((none),(none),(none),v2,C3) (a1) (Hg (ZV (YI (Zf (EvB.sh (Zt qB)) (EvB.sh (Zt qB))) (YI (Zf (EvB.sh (Zt qB)) (EvB.sh (Zt qB))) (YI (Zf (EvB.sh (Zt qB)) (EvB.sh (Zt qB))) qa))))) rfl rfl (λ_ s=>(SC.i s s.r)) (λg37 cN a39 v40=>(Ya K qS λa41 v42=>(Ug (K:=K) (r:=Xf) 2 0 rfl rfl (λ_ s=>s.l.l.l.r) qS qB qB λa56 C57=>(Ug (K:=K) (r:=Xf) 2 0 rfl rfl (λ_ s=>s.r) qS qB qB λa65 C66=>(Yq ((some v40.1),(some v40.2),(some v42),cN.2.2.2.1,C66) (a65) rfl rfl))))) λg69 x70=>(Xp (Zg JS λ_=>qN))))⟩⟩
def Kp:=Dw.1
theorem U5:FnScope ["walks","at","place","pair","told"] ["walks","at","place","pair"] (Xg Q3):={}
abbrev Q5 (m:QLs->Int->Int->(List Int)->Rs QLs):Prop:=Fn P w K mg base 1 "with_pair" ["walks","at","place","pair"] (sp4 (rV (rV Xf)) Xf Xf (rV Xf) (oL (oL (oF Xf))) m K)
noncomputable def Vu:{m // Pq λP w K mg base=>Def K mg "with_pair" Q3 ["walks","at","place","pair"]->Q5 P w K mg base m}:=⟨_, @λP w K mg base Y Z D=>go4 D U5 1 1 rfl rfl λhr hu aq=>⟨_,(Xb (JE 4 (Xg Q3) ["walks","at","place","pair","told"] ["walk"] [] rfl U5.nd rfl rfl (XF (K:=K) rfl (pv 0)) (YU (by decide)) (λcl C s H ex E=>⟨Yk (i:=0) (show List.Nodup (["walk"]:List Str) by decide+kernel) rfl (Or.inl rfl),ZP,(XD (XW K rfl) rfl Z.b_list PyProof.Rows.boot_list (Xa (pv 0) Xd))⟩))
  (Xb (Yt (Xk QJ (Xk QJ (XB (Ym K rfl) (Xs K (pv 4) (pv 1)) XV (XE (pv 2))) (pv 3)) (XB (Ym K rfl) (Xs K (pv 4) (pv 1)) (XE (pv 2)) XV)) (Zo (pv 4) (pv 1) Yc))
  (Xb (Xo (pv 4))
  Xe))),λac af aV eO ak av b8 fH=>(Zm K (o:=(oL (oL (oF Xf)))) 0 (ZN (λ_=>tg1 0) qw (λC4 a5 v6=>qN)) λa1 v2 C3=>(Jt K qN (λ_=>qB) λa27 C28=>(Xp JS)))⟩⟩
def Qb:=Vu.1
theorem GK:FnScope ["drawing","move","crossing","pair"] ["drawing","move"] (Xg Dx):={}
abbrev Dz (m:QDr->(List Mx)->Rs QDr):Prop:=Fn P w K mg base 2 "curled" ["drawing","move"] (sp2 (rP2 (rV (rV Xf)) (rV (rP2 Xf Xf))) (rPL rMx) (oT2 (oL (oL (oF Xf))) (oL (oF (rP2 Xf Xf)))) m K)
noncomputable def Cb:{m // Pq λP w K mg base=>Def K mg "curled" Dx ["drawing","move"]->Q5 P w K mg base Qb->Dz P w K mg base m}:=⟨_, @λP w K mg base Y Z D au=>go2 D GK 2 0 rfl rfl λhr hu aq=>⟨_,(Xb (psn GK 2 (Xl K (pv 1) Xc))
  (Xb (psn GK 3 (J6 (Xj XO (Xl K (pv 1) Xc) Xx (Xm _)) (XC (Xa (pv 2) (Xa (Yj XJ (pv 2)) Xd))) (XC (Xa (Yj XJ (pv 2)) (Xa (pv 2) Xd)))))
  (Xb (Xo (XH (Xa (pef au hr (Xa (Xl K (pv 0) Xc) (Xa (Xl K (pv 1) Xc) (Xa (Xl K (pv 1) Xc) (Xa (pv 3) Xd))))) (Xa (Xt (JD K rfl (Vt (by decide) hu)) rfl Z.b_sorted PyProof.Rows.boot_sorted (Xa (Xk QJ (Xl K (pv 0) Xc) (XC (Xa (XH (Xa (pv 2) (Xa (Xl K (pv 1) Xc) Xd))) Xd))) Xd)) Xd))))
  Xe))),λac af ak av=>(Ya K (r:=Xf) qs λa1 v2=>(Ya K (r:=(rV Xf)) (Ev.sh (NH (qt K) qN qN)) λa5 v6=>(Xp (Zg qN λ_=>(Cg (Ev.ls (MN ql (Ev.ls (Kc (YI (Zf qS (EvB.sh (Zt qB))) qa))))))))))⟩⟩
def F3:=Cb.1
theorem Uz:FnScope ["drawing","move","one","two","under","walks"] ["drawing","move"] (Xg Lx):={}
abbrev MD (m:QDr->(List Mx)->Rs QDr):Prop:=Fn P w K mg base 2 "laid" ["drawing","move"] (sp2 (rP2 (rV (rV Xf)) (rV (rP2 Xf Xf))) (rPL rMx) (oT2 (oL (oL (oF Xf))) (oL (oF (rP2 Xf Xf)))) m K)
noncomputable def LO:{m // Pq λP w K mg base=>Def K mg "laid" Lx ["drawing","move"]->Q5 P w K mg base Qb->MD P w K mg base m}:=⟨_, @λP w K mg base Y Z D au=>go2 D Uz 4 1 rfl rfl λhr hu aq=>⟨_,(Xb (psn Uz 2 (Xl K (pv 1) Xc))
  (Xb (psn Uz 3 (Xl K (pv 1) Xc))
  (Xb (psn Uz 4 (J6 (Yx (Xl K (pv 1) Xc)) (XC (Xa (Yj XJ (pv 3)) (Xa (Yj XJ (pv 2)) Xd))) (XC (Xa (Yj XJ (pv 2)) (Xa (Yj XJ (pv 3)) Xd)))))
  (Xb (psn Uz 5 (pef au hr (Xa (Xl K (pv 0) Xc) (Xa (Xl K (pv 1) Xc) (Xa (Xl K (pv 1) Xc) (Xa (XC (Xa (pv 2) (Xa (pv 3) Xd))) Xd XU))))))
  (Xb (psn Uz 5 (pef au hr (Xa (pv 5) (Xa (Xl K (pv 1) Xc) (Xa (Xl K (pv 1) Xc) (Xa (pv 4) Xd))))))
  (Xb (Xo (XH (Xa (pv 5) (Xa (Xt (JD K rfl (Vt (by decide) hu)) rfl Z.b_sorted PyProof.Rows.boot_sorted (Xa (Xk QJ (Xl K (pv 0) Xc) (XC (Xa (XH (Xa (pv 2) (Xa (Xl K (pv 1) Xc) Xd))) (Xa (XH (Xa (pv 3) (Xa (Yj XJ (Xl K (pv 1) Xc)) Xd))) Xd)))) Xd)) Xd))))
  Xe)))))),λac af ak av=>(Ya K (r:=Xf) qs λa1 v2=>(Ya K (r:=Xf) qs λa5 v6=>(Ya K (r:=(rV Xf)) (Ev.sh (NH (qt K) qN qN)) λa9 v10=>(Zm K 0 qN λgz e7 C30=>(Zm K 0 qN λa46 v47 C48=>(Xp (Zg JS λ_=>(Cg (Ev.ls (MN ql (Ev.ls (Kc (YI (Zf qS (EvB.sh (Zt qB))) qa)))))))))))))⟩⟩
def IQ:=LO.1
theorem JL:FnScope ["walks","at","place","told"] ["walks","at","place"] (Xg ZB):={}
abbrev ZA (m:QLs->Int->Int->Rs QLs):Prop:=Fn P w K mg base 1 "without_pair" ["walks","at","place"] (sp3 (rV (rV Xf)) Xf Xf (oL (oL (oF Xf))) m K)
noncomputable def Qs:{m // Pq λP w K mg base=>Def K mg "without_pair" ZB ["walks","at","place"]->ZA P w K mg base m}:=⟨_, @λP w K mg base Y Z D=>go3 D JL 1 1 rfl rfl λhr hu aq=>⟨_,(Xb (JE 3 (Xg ZB) ["walks","at","place","told"] ["walk"] [] rfl JL.nd rfl rfl (XF (K:=K) rfl (pv 0)) (YU (by decide)) (λcl C s H ex E=>⟨Yk (i:=0) (show List.Nodup (["walk"]:List Str) by decide+kernel) rfl (Or.inl rfl),ZP,(XD (XW K rfl) rfl Z.b_list PyProof.Rows.boot_list (Xa (pv 0) Xd))⟩))
  (Xb (Yt (Xk QJ (XB (Ym K rfl) (Xs K (pv 3) (pv 1)) XV (XE (pv 2))) (XB (Ym K rfl) (Xs K (pv 3) (pv 1)) (XE (Xk Xy (pv 2) Xc)) XV)) (Zo (pv 3) (pv 1) Yc))
  (Xb (Xo (pv 3))
  Xe))),λac af aV ak av b8=>(Zm K (o:=(oL (oL (oF Xf)))) 0 (ZN (λ_=>tg1 0) qw (λC4 a5 v6=>qN)) λa1 v2 C3=>(Jt K qN (λ_=>qB) λa27 C28=>(Xp JS)))⟩⟩
def YW:=Qs.1
theorem Qf:FnScope ["move","ahead"] ["move"] (Xg Zx):={}
abbrev Zu (m:(List Mx)->Rs Int):Prop:=Fn P w K mg base 1 "bare_over_place" ["move"] (sp1 (rPL rMx) (oF Xf) m K)
noncomputable def Zs:{m // Pq λP w K mg base=>Def K mg "bare_over_place" Zx ["move"]->Zu P w K mg base m}:=⟨_, @λP w K mg base Y Z D=>go1 D Qf 1 0 rfl rfl λhr hu aq=>⟨_,(Xb (psn Qf 1 (Qi (XI XO (Xl K (pv 0) Xc) (Xl K (pv 0) Xc) (Xm _)) (Qg (XI Js (Xl K (pv 0) Xc) (Xl K (pv 0) Xc) (Xm _)))))
  (Xb (Xo (J6 (Yx (pv 1)) (Xk Zp (Xl K (pv 0) Xc) Xc) (Xl K (pv 0) Xc)))
  Xe)),λac ak=>(Ya K qS λa1 v2=>(Xp (NH (qt K) qM qn)))⟩⟩
def YN:=Zs.1
theorem Kd:FnScope ["drawing","pair"] ["drawing","pair"] (Xg Za):={}
abbrev Zc (m:QDr->(Int×Int)->Rs QPs):Prop:=Fn P w K mg base 1 "signs_without" ["drawing","pair"] (sp2 (rP2 (rV (rV Xf)) (rV (rP2 Xf Xf))) (rP2 Xf Xf) (oL (oF (rP2 Xf Xf))) m K)
noncomputable def Zj:{m // Pq λP w K mg base=>Def K mg "signs_without" Za ["drawing","pair"]->Zc P w K mg base m}:=⟨_, @λP w K mg base Y Z D=>go2 D Kd 0 0 rfl rfl λhr hu aq=>⟨_,(Xb (Xo (Qd (sc:=(Xg Za)) (N0:=["drawing","pair"]) (tns:=["entry"]) (caps:=[(1,"pair")]) rfl (XF (K:=K) rfl (Xl K (pv 0) Xc)) (YU (by decide)) (λcl C s H ex E=>⟨Yk (i:=0) (show List.Nodup (["entry","pair"]:List Str) by decide+kernel) rfl (Or.inl rfl),(Gp (Xj (V5 K rfl) (Xl K (pv 0) Xc) (pv 1) rfl)),(pv 0)⟩)))
  Xe),λac af ak av=>(Xp (Ue (λ_=>tg1 0) qw (λC2 a3 v4=>(Xz (K:=K) (FY qB qb))) (λC2 a3 v4=>qM)))⟩⟩
def YL:=Zj.1
theorem Ud:FnScope ["drawing","move","over","walks"] ["drawing","move"] (Xg Dq):={}
abbrev DV (m:QDr->(List Mx)->Rs QDr):Prop:=Fn P w K mg base 3 "unlaid" ["drawing","move"] (sp2 (rP2 (rV (rV Xf)) (rV (rP2 Xf Xf))) (rPL rMx) (oT2 (oL (oL (oF Xf))) (oL (oF (rP2 Xf Xf)))) m K)
noncomputable def Dt:{m // Pq λP w K mg base=>Def K mg "unlaid" Dq ["drawing","move"]->Z5 P w K mg base YJ->ZA P w K mg base YW->Zu P w K mg base YN->Zc P w K mg base YL->DV P w K mg base m}:=⟨_, @λP w K mg base Y Z D ae ai az aj=>go2 D Ud 2 1 rfl rfl λhr hu aq=>⟨_,(Xb (psn Ud 2 (pef ae hr (Xa (pv 0) (Xa (Xl K (pv 1) Xc) (Xa (Xl K (pv 1) Xc) Xd)))))
  (Xb (psn Ud 3 (pef ai hr (Xa (Xl K (pv 0) Xc) (Xa (Xl K (pv 1) Xc) (Xa (Xl K (pv 1) Xc) Xd)))))
  (Xb (psn Ud 3 (pef ai hr (Xa (pv 3) (Xa (Xl K (pv 1) Xc) (Xa (pef az hr (Xa (pv 1) Xd)) Xd)))))
  (Xb (Xo (XH (Xa (pv 3) (Xa (pef aj hr (Xa (pv 0) (Xa (pv 2) Xd))) Xd))))
  Xe)))),λac af ak av=>(Ya K qS λa1 v2=>(Zm K 0 qN λa11 v12 C13=>(Zm K 0 qN λa23 v24 C25=>(Xp (Zg JS λ_=>qN)))))⟩⟩
def DO:=Dt.1
theorem BG:FnScope ["drawing","move","word","pair"] ["drawing","move"] (Xg MH):={}
abbrev MA (m:QDr->(List Mx)->Rs QDr):Prop:=FnX P w K mg base 6 "done" ["drawing","move"] (M8 mg (rP2 (rV (rV Xf)) (rV (rP2 Xf Xf))) (rPL rMx) (oT2 (oL (oL (oF Xf))) (oL (oF (rP2 Xf Xf)))) m K)
noncomputable def Ua:{m // Pq λP w K mg base=>Def K mg "done" MH ["drawing","move"]->ZR P w K mg base Yz->DB P w K mg base Kp->Dp P w K mg base DY->Dz P w K mg base F3->Z5 P w K mg base YJ->MD P w K mg base IQ->DV P w K mg base DO->ZA P w K mg base YW->Zc P w K mg base YL->MA P w K mg base m}:=⟨_, @λP w K mg base Y Z D aD bS bT bU ae db bV ai aj=>Tn D BG 2 0 rfl rfl λhr hu aq=>⟨_,(Xb (XY (Jf aD hr (by decide) Gm (Xa (pv 0) (Xa (pv 1) Xd))))
  (Xb (PS.nox (psn BG 2 (Xl K (pv 1) Xc)))
  (Xb (PS.nox (XA (Xj XO (pv 2) Xx (Xm _))
   (Xb (Xo (pef bT hr (Xa (pv 0) (Xa (Xl K (pv 1) Xc) (Xa (Xl K (pv 1) Xc) Xd)))))
   Xe)
   Xe))
  (Xb (PS.nox (XA (Xj XO (pv 2) Xx (Xm _))
   (Xb (Xo (pef bU hr (Xa (pv 0) (Xa (pv 1) Xd))))
   Xe)
   Xe))
  (Xb (PS.nox (XA (Xj XO (pv 2) Xx (Xm _))
   (Xb (psn BG 3 (pef ae hr (Xa (pv 0) (Xa (Xl K (pv 1) Xc) (Xa (Xl K (pv 1) Xc) Xd)))))
   (Xb (Xo (XH (Xa (pef ai hr (Xa (Xl K (pv 0) Xc) (Xa (Xl K (pv 1) Xc) (Xa (Xl K (pv 1) Xc) Xd)))) (Xa (pef aj hr (Xa (pv 0) (Xa (pv 3) Xd))) Xd))))
   Xe))
   Xe))
  (Xb (PS.nox (XA (Xj XO (pv 2) Xx (Xm _))
   (Xb (Xo (pef db hr (Xa (pv 0) (Xa (pv 1) Xd))))
   Xe)
   Xe))
  (Xb (PS.nox (XA (Xj XO (pv 2) Xx (Xm _))
   (Xb (Xo (pef bV hr (Xa (pv 0) (Xa (pv 1) Xd))))
   Xe)
   Xe))
  (Xb (PS.nox (Xo (pef bS hr (Xa (pv 0) (Xa (pv 1) Xd)))))
  Xe)))))))),λac af ak av=>(Rp (K:=K) (Ev.toB (YX qB qB)) (Ya K (r:=Kq) qs λa4 v5=>(XN (qt K) (Xp qN) (XN (qt K) (Xp qN) (XN (qt K) (Ya K qS λgz e7=>(Xp (Zg qN λ_=>qN))) (XN (qt K) (Xp qN) (XN (qt K) (Xp qN) (Xp qN))))))))⟩⟩
def ZH:=Ua.1
theorem Df:FnScope ["_law_script","_law_place","_law_seed","_law_cell_here"] ["_law_script","_law_place"] (Xg IA):={}
abbrev Mn (m:(List Int)->Int->Rs Int):Prop:=Fn P w K mg base 1 "_law_cell" ["_law_script","_law_place"] (sp2 (rL Xf) Xf (oF Xf) m K)
noncomputable def II:{m // Pq λP w K mg base=>Def K mg "_law_cell" IA ["_law_script","_law_place"]->Mn P w K mg base m}:=⟨_, @λP w K mg base Y Z D=>go2 D Df 2 0 rfl rfl λhr hu aq=>⟨_,(Xb (XA (Xj Js (pv 1) (Yp K Z.b_len (Xa (pv 0) Xd)) (Xm _))
   (Xb (Xo (Xs K (pv 0) (pv 1)))
   Xe)
   Xe)
  (Xb (psn Df 2 Xc)
  (Xb (psf (XF (K:=K) rfl (XB (Ym K rfl) (pv 0) XV (XE Xc))) (pgn Df 3)
   (Xb (psn Df 2 (Xk X0 (Xk Xy (Xk Xy (Xk XT (pv 2) Xc) (Xk X0 (pv 3) Xc)) Xc) Xc))
   Xe))
  (Xb (Xo (Xk X0 (Xk Xy (pv 2) (Xk XT Xc (pv 1))) Xc))
  Xe)))),λac af ak av=>(XN (Xz (K:=K) (GH qB (Nk qB))) (Xp (EvS.ev (EvB.sh (PY qB qB)))) (Ya K qS λa7 v8=>(Fj K (λO (aI:Option V×V)=>[]) (λs aI=>[some ac,some af,some aI.2,aI.1]) (λS (fq:Int) aI=>(SC.add S K Xf aI.2 fq)) (λ_=>tg1 3) ((none),v8) (a7) (Z6 (Ev.sh (LU qB (qp K) (qp K)))) rfl rfl (λ_ s=>(SC.i s s.r)) (λdO ax gU v18=>(Ya K qS λiY v20=>(Yq ((some v18),v20) (iY) rfl rfl))) λgW x32=>(Xp qM))))⟩⟩
def E6:=II.1
theorem LV:FnScope ["_law_cell_here","_law_k","_law_one","_law_two"] ["_law_cell_here","_law_k"] (Xg Rb):={}
abbrev P9 (m:Int->Int->Rs Int):Prop:=Fn P w K mg base 1 "_law_mix" ["_law_cell_here","_law_k"] (sp2 Xf Xf (oF Xf) m K)
noncomputable def Sw:{m // Pq λP w K mg base=>Def K mg "_law_mix" Rb ["_law_cell_here","_law_k"]->P9 P w K mg base m}:=⟨_, @λP w K mg base Y Z D=>go2 D LV 2 0 rfl rfl λhr hu aq=>⟨_,(Xb (psn LV 2 (Xk X0 (Xk U8 (Xk Xy (Xk Xy (Xk X0 (pv 0) Xc) (Xk XT Xc (pv 1))) Xc) Xc) Xc))
  (Xb (psn LV 3 (Xk X0 (Xk Xy (Xk Xy (Xk XT (pv 2) Xc) (Xk XT (Xk XT Xc (pv 1)) (pv 1))) Xc) Xc))
  (Xb (Xo (Xk F6 (pv 3) Xc))
  Xe))),λac af ak av=>(Ya K qS λa1 v2=>(Ya K qS λa15 v16=>(Xp qM)))⟩⟩
def N8:=Sw.1
theorem GN:FnScope ["_law_script","_law_place","_law_sizes","_law_cell_here","_law_left","_law_some","_law_k","_law_other"] ["_law_script","_law_place","_law_sizes"] (Xg Sd):={}
abbrev HR (m:(List Int)->Int->(List Int)->Rs (List Int)):Prop:=Fn P w K mg base 2 "_law_row" ["_law_script","_law_place","_law_sizes"] (sp3 (rL Xf) Xf (rV Xf) (oL (oF Xf)) m K)
noncomputable def Rr:{m // Pq λP w K mg base=>Def K mg "_law_row" Sd ["_law_script","_law_place","_law_sizes"]->Mn P w K mg base E6->P9 P w K mg base N8->HR P w K mg base m}:=⟨_, @λP w K mg base Y Z D cD dz=>go3 D GN 5 1 rfl rfl λhr hu aq=>⟨_,(Xb (psn GN 3 (pef cD hr (Xa (pv 0) (Xa (pv 1) Xd))))
  (Xb (psn GN 4 (pv 3))
  (Xb (psn GN 5 (XC Xd))
  (Xb (psf (Yy rfl Z.b_range (Xa (Yp K Z.b_len (Xa (pv 2) Xd)) Xd)) (pgn GN 6)
   (Xb (XA (Xj Js (pv 3) (Xk U8 Xc Xc) (Xm _))
    (Xb (XY (Jh PySem.F.plainAttrs_list PySem.F.slot_list_append PySem.F.type_list_append Yb (pv 5) (Xa (Xk X0 (pef dz hr (Xa (pv 3) (Xa (pv 6) Xd))) (Xs K (pv 2) (pv 6))) Xd)))
    Xe)
    (Xb (XA (Xj UB (pv 4) Xc (Xm _))
     (Xb (XY (Jh PySem.F.plainAttrs_list PySem.F.slot_list_append PySem.F.type_list_append Yb (pv 5) (Xa (Xk X0 (pv 4) (Xs K (pv 2) (pv 6))) Xd)))
     (Xb (psn GN 4 (Xk F6 (pv 4) (Xs K (pv 2) (pv 6))))
     Xe))
     (Xb (psn GN 7 (pef cD hr (Xa (pv 0) (Xa (Xk X0 (Xk Xy (Xk Xy (pv 1) Xc) (pv 6)) Xc) Xd))))
     (Xb (XY (Jh PySem.F.plainAttrs_list PySem.F.slot_list_append PySem.F.type_list_append Yb (pv 5) (Xa (Xk X0 (pef dz hr (Xa (pv 7) (Xa (pv 6) Xd))) (Xs K (pv 2) (pv 6))) Xd)))
     Xe)))
    Xe))
   Xe))
  (Xb (Xo (pv 5))
  Xe))))),λac af aV ak av b8=>(Ya K qS λa1 v2=>(Ya K qS λa6 v7=>(Zm K (o:=(oL (oF Xf))) 0 (Kf (o:=(oF Xf))) λa8 v9 C10=>(Fj K (λO (aI:Option V×V×V×Option V×List XG)=>[aI.2.2.2.2]) (λs aI=>[some ac,some af,some aV,some v2,some aI.2.2.1,some aI.2.1,aI.1,aI.2.2.2.1]) (λS (fq:(List Int)×Int) aI=>(SC.add (SC.addO S K (oL (oF Xf)) aI.2.1 fq.1 aI.2.2.2.2) K Xf aI.2.2.1 fq.2)) (λ_=>tg1 6) ((none),v9,v7,(none),C10) (a8,a6) qw rfl rfl (λ_ s=>(SC.i (SC.i s s.r) s.l.r)) (λdO ax gU v18=>(ZJ (λO (bv:V×V×Option V×List XG)=>[bv.2.2.2]) (λs bv=>[some ac,some af,some aV,some v2,some bv.2.1,some bv.1,some v18,bv.2.2.1]) (λS (gA:(List Int)×Int) bv=>(SC.add (SC.addO S K (oL (oF Xf)) bv.1 gA.1 bv.2.2.2) K Xf bv.2.1 gA.2)) (Yd (qt K) (EA K qM λa35 C34=>(Yq (ax.2.1,ax.2.2.1,(ax.2.2.2.1),C34) (a35,dO.2) rfl rfl)) (ZJ (λO (fr:V×Option V×V×List XG)=>[fr.2.2.2]) (λs fr=>[some ac,some af,some aV,some v2,some fr.1,some fr.2.2.1,some v18,fr.2.1]) (λS (iZ:Int×(List Int)) fr=>(SC.addO (SC.add S K Xf fr.1 iZ.1) K (oL (oF Xf)) fr.2.2.1 iZ.2 fr.2.2.2)) (Yd (qt K) (EA K qM λa47 C46=>(Ya K qS λi8 fJ=>(Yq (fJ,(ax.2.2.2.1),ax.2.1,C46) (i8,a47) rfl rfl))) (Ya K qS λd9 v55=>(EA K qM λa74 C73=>(Yq (ax.2.2.1,(some v55),ax.2.1,C73) (dO.2,a74) rfl rfl)))) λi9 de=>(Yq (de.2.2.1,de.1,(de.2.1),de.2.2.2) (i9.2,i9.1) rfl rfl))) λg78 gX=>(Yq ((some v18),gX.1,gX.2.1,(gX.2.2.1),gX.2.2.2) (g78.1,g78.2) rfl rfl))) λg79 gY=>(Xp JS)))))⟩⟩
def Bc:=Rr.1
theorem Zi:FnScope ["_law_lows","_law_signs","_law_strands","_law_seen","_law_walks","_law_start","_law_walk","_law_at","_law_k"] ["_law_lows","_law_signs","_law_strands"] (Xg Dj):={}
abbrev F7 (m:(List Int)->(List Int)->Int->Rs QLs):Prop:=Fn P w K mg base 1 "_law_traced" ["_law_lows","_law_signs","_law_strands"] (sp3 (rV Xf) (rV Xf) Xf (oL (oL (oF Xf))) m K)
noncomputable def FW:{m // Pq λP w K mg base=>Def K mg "_law_traced" Dj ["_law_lows","_law_signs","_law_strands"]->F7 P w K mg base m}:=⟨_, @λP w K mg base Y Z D=>go3 D Zi 6 3 rfl rfl λhr hu aq=>⟨_,(Xb (psn Zi 3 (Xk Mh (XC (Xa Y2 Xd)) (pv 2)))
  (Xb (psn Zi 4 (XC Xd))
  (Xb (psf (Yy rfl Z.b_range (Xa (pv 2) Xd)) (pgn Zi 5)
   (Xb (XA (Zq (Yx (Xs K (pv 3) (pv 5))))
    (Xb (psn Zi 6 (XC Xd))
    (Xb (psn Zi 7 (pv 5))
    (Xb (DS PassesOwn.never (Zq (Yx (Xs K (pv 3) (pv 7))))
     (Xb (Yt Y2 (Zo (pv 3) (pv 7) Yc))
     (Xb (psf (Yy rfl Z.b_range (Xa (Yp K Z.b_len (Xa (pv 0) Xd)) Xd)) (pgn Zi 8)
      (Xb (XA (Xj XO (pv 7) (Xs K (pv 0) (pv 8)) (Xm _))
       (Xb (XY (Jh PySem.F.plainAttrs_list PySem.F.slot_list_append PySem.F.type_list_append Yb (pv 6) (Xa (Xk XT (Xk Xy (pv 8) Xc) (Xs K (pv 1) (pv 8))) Xd)))
       (Xb (psn Zi 7 (Xk Xy (pv 7) Xc))
       Xe))
       (Xb (XA (Xj XO (pv 7) (Xk Xy (Xs K (pv 0) (pv 8)) Xc) (Xm _))
        (Xb (XY (Jh PySem.F.plainAttrs_list PySem.F.slot_list_append PySem.F.type_list_append Yb (pv 6) (Xa (Xk XT (Yj XJ (Xk Xy (pv 8) Xc)) (Xs K (pv 1) (pv 8))) Xd)))
        (Xb (psn Zi 7 (Xk Zp (pv 7) Xc))
        Xe))
        Xe)
       Xe))
      Xe))
     Xe)))
    (Xb (XY (Jh PySem.F.plainAttrs_list PySem.F.slot_list_append PySem.F.type_list_append Yb (pv 4) (Xa (pv 6) Xd)))
    Xe))))
    Xe)
   Xe))
  (Xb (Xo (pv 4))
  Xe)))),λac af aV ak av b8=>(Zm K 1 qN λa1 v2 C3=>(Zm K (o:=(oL (oL (oF Xf)))) 0 (Kf (o:=(oL (oF Xf)))) λa9 v10 C11=>(Fj K (λO (aI:Option V×Option V×Option V×V×Option V×V×List XG×List XG)=>[aI.2.2.2.2.2.2.2,aI.2.2.2.2.2.2.1,[]]) (λs aI=>[some ac,some af,some aV,some aI.2.2.2.1,some aI.2.2.2.2.2.1,aI.1,aI.2.1,aI.2.2.1,aI.2.2.2.2.1]) (λS (fq:(List Bool)×QLs) aI=>(SC.addO (SC.addO S K (oL (oF Xw)) aI.2.2.2.1 fq.1 aI.2.2.2.2.2.2.1) K (oL (oL (oF Xf))) aI.2.2.2.2.2.1 fq.2 aI.2.2.2.2.2.2.2)) (λ_=>tg1 5) ((none),(none),(none),v2,(none),v10,C3,C11) (a1,a9) qw rfl rfl (λ_ s=>(SC.i (SC.i s s.l.r) s.r)) (λdO ax gU v18=>(ZJ (λO (df:Option V×Option V×V×Option V×V×List XG×List XG)=>[df.2.2.2.2.2.2,df.2.2.2.2.2.1,[]]) (λs df=>[some ac,some af,some aV,some df.2.2.1,some df.2.2.2.2.1,some v18,df.1,df.2.1,df.2.2.2.1]) (λS (g24:(List Bool)×QLs) df=>(SC.addO (SC.addO S K (oL (oF Xw)) df.2.2.1 g24.1 df.2.2.2.2.2.1) K (oL (oL (oF Xf))) df.2.2.2.2.1 g24.2 df.2.2.2.2.2.2)) (Yd (qt K) (Zm K (o:=(oL (oF Xf))) 2 (Kf (o:=(oF Xf))) λa25 v26 C27=>(Ya K qS λgz e7=>(Ir (λO (bW:V×Option V×V×V×List XG×List XG)=>[ax.2.2.2.2.2.2.2,bW.2.2.2.2.1,bW.2.2.2.2.2]) (λs bW=>[some ac,some af,some aV,some bW.1,some ax.2.2.2.2.2.1,some v18,some bW.2.2.2.1,some bW.2.2.1,bW.2.1]) (λS (gW:(List Bool)×Int×(List Int)) bW=>(SC.addO (SC.add (SC.addO S K (oL (oF Xw)) bW.1 gW.1 bW.2.2.2.2.1) K Xf bW.2.2.1 gW.2.1) K (oL (oF Xf)) bW.2.2.2.1 gW.2.2 bW.2.2.2.2.2)) (b8.natAbs+2) (ax.2.2.2.1,(ax.2.2.2.2.1),e7,v26,ax.2.2.2.2.2.2.1,C27) (dO.1,gz,a25) rfl rfl (λ_ s=>(SC.i (SC.i (SC.i s s.l.l.l.l.r) s.r) s.l.r)) (λfK bz=>(qt K)) (λfK bz=>(Jt K qM (λ_=>qB) λa39 C40=>(Fj K (λO (eR:Option V×V×V×List XG)=>[ax.2.2.2.2.2.2.2,C40,eR.2.2.2]) (λs eR=>[some ac,some af,some aV,some bz.1,some ax.2.2.2.2.2.1,some v18,some eR.2.2.1,some eR.2.1,eR.1]) (λS (g44:Int×(List Int)) eR=>(SC.addO (SC.add S K Xf eR.2.1 g44.1) K (oL (oF Xf)) eR.2.2.1 g44.2 eR.2.2.2)) (λ_=>tg1 8) ((bz.2.1),bz.2.2.1,bz.2.2.2.1,bz.2.2.2.2.2) (fK.2.1,fK.2.2) qw rfl rfl (λ_ s=>(SC.i (SC.i s s.l.l.r) s.l.r)) (λfL gB a47 ja=>(ZJ (λO (e8:V×V×List XG)=>[ax.2.2.2.2.2.2.2,C40,e8.2.2]) (λs e8=>[some ac,some af,some aV,some bz.1,some ax.2.2.2.2.2.1,some v18,some e8.2.1,some e8.1,some ja]) (λS (g55:Int×(List Int)) e8=>(SC.addO (SC.add S K Xf e8.1 g55.1) K (oL (oF Xf)) e8.2.1 g55.2 e8.2.2)) (Yd (qt K) (EA K qM λa64 C63=>(Ya K qS λa65 v66=>(Yq (v66,gB.2.2.1,C63) (a65,a64) rfl rfl))) (ZJ (λO (cO:V×V×List XG)=>[ax.2.2.2.2.2.2.2,C40,cO.2.2]) (λs cO=>[some ac,some af,some aV,some bz.1,some ax.2.2.2.2.2.1,some v18,some cO.2.1,some cO.1,some ja]) (λS (g77:Int×(List Int)) cO=>(SC.addO (SC.add S K Xf cO.1 g77.1) K (oL (oF Xf)) cO.2.1 g77.2 cO.2.2)) (Yd (qt K) (EA K qM λa87 C86=>(Ya K qS λjb v89=>(Yq (v89,gB.2.2.1,C86) (jb,a87) rfl rfl))) (Yq (gB.2.1,gB.2.2.1,gB.2.2.2) (fL.1,fL.2) rfl rfl)) λg93 gZ=>(Yq (gZ.1,gZ.2.1,gZ.2.2) (g93.1,g93.2) rfl rfl))) λg95 jc=>(Yq ((some ja),jc.1,jc.2.1,jc.2.2) (g95.1,g95.2) rfl rfl))) λg96 je=>(Yq (bz.1,(je.1),je.2.1,je.2.2.1,C40,je.2.2.2) (a39,g96.1,g96.2) rfl rfl)))) λg99 eT=>(EA K JS λa103 gC=>(Yq ((some eT.2.2.2.1),(some eT.2.2.1),eT.1,(eT.2.1),ax.2.2.2.2.2.1,eT.2.2.2.2.1,gC) (g99.1,a103) rfl rfl))))) (Yq ((ax.2.1),(ax.2.2.1),ax.2.2.2.1,(ax.2.2.2.2.1),ax.2.2.2.2.2.1,ax.2.2.2.2.2.2.1,ax.2.2.2.2.2.2.2) (dO.1,dO.2) rfl rfl)) λjf dg=>(Yq ((some v18),(dg.1),(dg.2.1),dg.2.2.1,(dg.2.2.2.1),dg.2.2.2.2.1,dg.2.2.2.2.2.1,dg.2.2.2.2.2.2) (jf.1,jf.2) rfl rfl))) λg106 x107=>(Xp JS))))⟩⟩
def KC:=FW.1
theorem X6:FnScope ["_law_walks","_law_signs","_law_some","_law_behind","_law_k","_law_one","_law_found","_law_sign","_law_far"] ["_law_walks","_law_signs","_law_some"] (Xg Zw):={}
abbrev VB (m:QLs->(List Int)->(List Int)->Rs QDr):Prop:=Fn P w K mg base 1 "_law_turn_back" ["_law_walks","_law_signs","_law_some"] (AF (oL (oL (oF Xf))) (rV Xf) (rV Xf) (oT2 (oL (oL (oF Xf))) (oL (oF (rP2 Xf Xf)))) m K)
noncomputable def Vw:{m // Pq λP w K mg base=>Def K mg "_law_turn_back" Zw ["_law_walks","_law_signs","_law_some"]->VB P w K mg base m}:=⟨_, @λP w K mg base Y Z D=>by
 refine Fa D X6 (λvs H Q E h=>?_) (λf ah A outer s H vs Q E hr h=>?_)
 ·obtain⟨ac,af,aV,ak,av,b8,b,rfl,_⟩:=h;rfl
 obtain⟨ac,af,aV,ak,av,b8,b,rfl,hJ,hw,da,dP,gD,hm,q⟩:=h
 have hu:=hu8 hr
 have aq:=VZ hr
 refine⟨_,(Xb (psn X6 3 NL)
  (Xb (psf (Yy rfl Z.b_range (Xa (Yp K Z.b_len (Xa (pv 0) Xd)) Xd)) (pgn X6 4)
   (Xb (XA (Xj XO (Xs K (pv 2) (Xk Xy Xc (pv 4))) Xc (Xm _))
    (Xb (Yt (Bf K rfl (Xs K (pv 0) (pv 4)) (Yj XJ Xc)) (Zo (pv 0) (pv 4) Yc))
    (Xb (psf (XF (K:=K) rfl (Xs K (pv 0) (pv 4))) (pgn X6 5)
     (Xb (Ur aq (pv 3) (pv 5) Y2 rfl)
     Xe))
    Xe))
    Xe)
   Xe))
  (Xb (psn X6 6 (XC Xd))
  (Xb (psf (Yy rfl Z.b_range (Xa (Yp K Z.b_len (Xa (pv 1) Xd)) Xd)) (pgn X6 4)
   (Xb (psn X6 7 (Xs K (pv 1) (pv 4)))
   (Xb (XA (Xj BV (Ik (Fz aq (Xk Xy (pv 4) Xc) (pv 3))) (Ik (Fz aq (Xk Zp (Yj XJ (pv 4)) Xc) (pv 3))) (Xm _))
    (Xb (psn X6 7 (Yj XJ (pv 7)))
    Xe)
    Xe)
   (Xb (XY (Jh PySem.F.plainAttrs_list PySem.F.slot_list_append PySem.F.type_list_append Yb (pv 6) (Xa (XH (Xa (Xk Xy (pv 4) Xc) (Xa (pv 7) Xd))) Xd)))
   Xe))))
  (Xb (JT (i:=8) X6.nd rfl (Or.inr rfl) (Xs K (XC (Xa Xc (Xa Xc (Xa (Xk U8 Xc Xc) Xd)))) (Xs K (pv 2) (Yj XJ Xc))))
  (Xb (JE 0 (Xg Zw) ["_law_walks","_law_signs","_law_some","_law_behind","_law_k","_law_one","_law_found","_law_sign","_law_far"] ["_law_walk"] [(8,"_law_far")] rfl X6.nd rfl rfl (XF (K:=K) rfl (pv 0)) (YU (by decide)) (λcl C s H ex E=>⟨Yk (i:=0) (show List.Nodup (["_law_walk","_law_far"]:List Str) by decide+kernel) rfl (Or.inl rfl),ZP,(NG (sc:=(Aa L6 (Xg Zw))) (N0:=["_law_walk","_law_far"]) (tns:=["_law_one"]) (caps:=[(1,"_law_far")]) rfl (XF (K:=K) rfl (pv 0)) (YU (by decide)) (λcl C s H ex E=>⟨Yk (i:=0) (show List.Nodup (["_law_one","_law_far"]:List Str) by decide+kernel) rfl (Or.inl rfl),ZP,(Xk XT (pv 0) (pv 1))⟩))⟩))
  (Xb (Xo (XH (Xa (pv 0) (Xa (Qd (sc:=(Xg Zw)) (N0:=["_law_walks","_law_signs","_law_some","_law_behind","_law_k","_law_one","_law_found","_law_sign","_law_far"]) (tns:=["_law_one","_law_sign"]) (caps:=[(8,"_law_far")]) rfl (XF (K:=K) rfl (pv 6)) (Pm (by decide) (by decide)) (λcl C s H ex E=>⟨P8 K rfl rfl (Xq (Yk (i:=0) (show List.Nodup (["_law_one","_law_sign","_law_far"]:List Str) by decide+kernel) rfl (Or.inl rfl)) (Xq (Yk (i:=1) (show List.Nodup (["_law_one","_law_sign","_law_far"]:List Str) by decide+kernel) rfl (Or.inl rfl)) YT)),ZP,(XH (Xa (Xk XT (pv 0) (pv 2)) (Xa (pv 1) Xd)))⟩)) Xd))))
  Xe))))))),?_⟩
 refine WZ (S:=(SC.add (SC.add (SC.addO SC.nil K (oL (oL (oF Xf))) ac ak hJ) K (rV Xf) af av) K (rV Xf) aV b8)) (U:=[some ac,some af,some aV,none,none,none,none,none,none]) 3 0 (by decide) ?_ hw (SC.i (SC.i (SC.i SC.t da) dP) gD) hm q rfl
 exact(Zm K (o:=(oD Xw)) 2 (R4 (r:=Xw)) λa1 v2 C3=>(Fj K (λO (x6:Option V×V×Option V×V×List XG×List XG)=>[x6.2.2.2.2.1,[],x6.2.2.2.2.2]) (λs x6=>[some x6.2.1,some af,some aV,some x6.2.2.2.1,x6.1,x6.2.2.1,none,none,none]) (λS (g7:QLs×(List (Int×Bool))) x6=>(SC.addO (SC.addO S K (oL (oL (oF Xf))) x6.2.1 g7.1 x6.2.2.2.2.1) K (oD Xw) x6.2.2.2.1 g7.2 x6.2.2.2.2.2)) (λ_=>tg1 4) ((none),ac,(none),v2,hJ,C3) (ak,a1) qw rfl rfl (λ_ s=>(SC.i (SC.i s s.l.l.l.r) s.r)) (λg8 x9 fM bP=>(ZJ (λO (eU:V×Option V×V×List XG×List XG)=>[eU.2.2.2.1,[],eU.2.2.2.2]) (λs eU=>[some eU.1,some af,some aV,some eU.2.2.1,some bP,eU.2.1,none,none,none]) (λS (g20:QLs×(List (Int×Bool))) eU=>(SC.addO (SC.addO S K (oL (oL (oF Xf))) eU.1 g20.1 eU.2.2.2.1) K (oD Xw) eU.2.2.1 g20.2 eU.2.2.2.2)) (Yd (qt K) (Jt K (CF ql qB) (λ_=>qB) λgz C29=>(S1 K (λO (bW:Option V×V×List XG)=>[C29,[],bW.2.2]) (λs bW=>[some x9.2.1,some af,some aV,some bW.2.1,some bP,bW.1,none,none,none]) (λS (gW:(List (Int×Bool))) bW=>(SC.addO S K (oD Xw) bW.2.1 gW bW.2.2)) (r:=Xf) qB (λ_=>tg1 5) ((x9.2.2.1),x9.2.2.2.1,x9.2.2.2.2.2) (g8.2) (λ_=>rfl) rfl rfl (λ_ s=>(SC.i s s.l.l.r)) (λfK bz a34 v35=>(HI K qS qB λa38 C39=>(Yq ((some v35),bz.2.1,C39) (a38) rfl rfl))) λiZ hU=>(Yq (x9.2.1,(hU.1),hU.2.1,C29,hU.2.2) (gz,iZ) rfl rfl))) (Yq (x9.2.1,(x9.2.2.1),x9.2.2.2.1,x9.2.2.2.2.1,x9.2.2.2.2.2) (g8.1,g8.2) rfl rfl)) λfL cW=>(Yq ((some bP),cW.1,(cW.2.1),cW.2.2.1,cW.2.2.2.1,cW.2.2.2.2) (fL.1,fL.2) rfl rfl))) λg46 bC=>(Zm K (o:=(oL (oF (rP2 Xf Xf)))) 1 (Kf (o:=(oF (rP2 Xf Xf)))) λi8 fJ C50=>(Fj K (λO (e9:Option V×Option V×V×List XG)=>[bC.2.2.2.2.1,e9.2.2.2,bC.2.2.2.2.2]) (λs e9=>[some bC.2.1,some af,some aV,some bC.2.2.2.1,e9.1,bC.2.2.1,some e9.2.2.1,e9.2.1,none]) (λS (g54:QPs) e9=>(SC.addO S K (oL (oF (rP2 Xf Xf))) e9.2.2.1 g54 e9.2.2.2)) (λ_=>tg1 4) ((bC.1),(none),fJ,C50) (i8) qw rfl rfl (λ_ s=>(SC.i s s.r)) (λg55 x56 a57 v58=>(Ya K qS λa59 v60=>(ZJ (λO (de:V)=>[bC.2.2.2.2.1,x56.2.2.2,bC.2.2.2.2.2]) (λs de=>[some bC.2.1,some af,some aV,some bC.2.2.2.1,some v58,bC.2.2.1,some x56.2.2.1,some de,none]) (λS (i9:Int) de=>(SC.add S K Xf de i9)) (Yd (Xz (K:=K) (GB (Uw qB qB) (Uw qB qB))) (Ya K qS λa77 v78=>(Yq (v78) (a77) rfl rfl)) (Yq (v60) (a59) rfl rfl)) λjg gY=>(EA K qM λjb C87=>(Yq ((some v58),(some gY),x56.2.2.1,C87) (jb) rfl rfl))))) λg89 jh=>(Ya K qS λa91 v92=>(Zm K (o:=(oL (oL (oF Xf)))) 0 (MB (K:=K) (o1:=(oL (oL (oF Xf)))) 0 rfl (λ_ s=>s.l.l.l.l.r) (ZN (λ_=>tg1 0) qw (λji a111 v112=>(ZN (λ_=>tg1 0) qw (λC114 a115 v116=>qM))))) λa107 v108 C109=>(Xp (Zg JS λ_=>(MB (K:=K) (o1:=(oL (oF (rP2 Xf Xf)))) 2 rfl (λ_ s=>s.l.l.r) (ZN (λ_=>tg2 0 1) qw (λC120 a121 v122=>qM)))))))))))⟩
def Q8:=Vw.1
theorem Y8:FnScope ["_law_script","_law_place","_law_sizes","_law_some","_law_signs","_law_lows","_law_left","_law_strands","_law_k","_law_walks","_law_at","_law_passage"] ["_law_script","_law_place"] (Xg Do):={}
abbrev Ec (m:(List Int)->Int->Rs QDr):Prop:=Fn P w K mg base 3 "_law_begun" ["_law_script","_law_place"] (sp2 (rL Xf) Xf (oT2 (oL (oL (oF Xf))) (oL (oF (rP2 Xf Xf)))) m K)
noncomputable def Em:{m // Pq λP w K mg base=>Def K mg "_law_begun" Do ["_law_script","_law_place"]->HR P w K mg base Bc->F7 P w K mg base KC->VB P w K mg base Q8->Ec P w K mg base m}:=⟨_, @λP w K mg base Y Z D aS bX bn=>go2 D Y8 10 4 rfl rfl λhr hu aq=>⟨_,(Xb (psn Y8 2 (Xk QJ (Xk QJ (XC (Xa Xc (Xa Xc (Xa Xc (Xa Xc Xd))))) (Xk Mh (XC (Xa Xc Xd)) Xc)) (Xk Mh (XC (Xa Xc (Xa Xc (Xa Xc (Xa Xc (Xa Xc (Xa Xc Xd))))))) Xc)))
  (Xb (psn Y8 3 (pef aS hr (Xa (pv 0) (Xa (pv 1) (Xa (Xk QJ (pv 2) (XC (Xa Xc Xd))) Xd)))))
  (Xb (LJ (i:=4) (j:=5) (k:=6) rfl Y8.nd rfl rfl rfl (by decide) (by decide) (by decide) rfl rfl rfl (Xa (XC Xd) (Xa (XC Xd) (Xa (XC Xd) Xd XU) XU) XU) rfl)
  (Xb (psn Y8 7 (Xk Xy Xc (Xs K (pv 3) Xc)))
  (Xb (psf (Yy rfl Z.b_range (Xa (Xs K (pv 3) Xc) Xd)) (pgn Y8 8)
   (Xb (XY (Jh PySem.F.plainAttrs_list PySem.F.slot_list_append PySem.F.type_list_append Yb (pv 5) (Xa (Xk X0 (Xs K (pv 3) (Xk Xy (Xk XT Xc (pv 8)) Xc)) (Xk Zp (pv 7) Xc)) Xd)))
   (Xb (XY (Jh PySem.F.plainAttrs_list PySem.F.slot_list_append PySem.F.type_list_append Yb (pv 4) (Xa (Xk Zp (Xk XT Xc (Xs K (pv 3) (Xk Xy (Xk XT Xc (pv 8)) Xc))) Xc) Xd)))
   (Xb (XY (Jh PySem.F.plainAttrs_list PySem.F.slot_list_extend PySem.F.type_list_extend Ct (pv 6) (Xa (XC (Xa (Xk Xy (pv 8) Xc) (Xa (Xk Zp (Yj XJ (pv 8)) Xc) Xd))) Xd XU)))
   Xe))))
  (Xb (XA (PW.pt (U4 (Xj UB (Xs K (pv 3) Xc) Xc (Xm _)) (VO (Xj UB (pv 7) Xc (Xm _)))))
   (Xb (Yt (XB (Ym K rfl) (XC (Xa Xc (Xa Xc (Xa Xc Xd)))) XV (XE (Yp K Z.b_len (Xa (pv 5) Xd)))) (WI (pv 5) XV (XE Xc)))
   Xe)
   Xe)
  (Xb (psn Y8 9 (pef bX hr (Xa (pv 5) (Xa (pv 4) (Xa (pv 7) Xd)))))
  (Xb (XA (Xj XO (Xs K (pv 3) Xc) Xc (Xm _))
   (Xb (JE 9 (Xg Do) ["_law_script","_law_place","_law_sizes","_law_some","_law_signs","_law_lows","_law_left","_law_strands","_law_k","_law_walks","_law_at","_law_passage"] ["_law_k"] [] rfl Y8.nd rfl rfl (Yy rfl Z.b_range (Xa (pv 7) Xd)) (YU (by decide)) (λcl C s H ex E=>⟨Yk (i:=0) (show List.Nodup (["_law_k"]:List Str) by decide+kernel) rfl (Or.inl rfl),ZP,(XC Xd)⟩))
   (Xb (psf (Yy rfl Z.b_range (Xa (Xk XT Xc (Xs K (pv 3) Xc)) Xd)) (pgn Y8 8)
    (Xb (psn Y8 10 (Xk Xy (Xk Xy (Xk XT Xc (Xk F6 (pv 8) Xc)) (Xk X0 (pv 8) Xc)) Xc))
    (Xb (psn Y8 11 (Jh PySem.F.plainAttrs_list PySem.F.slot_list_pop PySem.F.type_list_pop N2 (pv 6) (Xa (Xk X0 (Xs K (pv 3) (pv 10)) (Yp K Z.b_len (Xa (pv 6) Xd))) Xd)))
    (Xb (XY (Jh PySem.F.plainAttrs_list PySem.F.slot_list_append PySem.F.type_list_append Yb (Xs K (pv 9) (Xk X0 (Xs K (pv 3) (Xk Xy (pv 10) Xc)) (pv 7))) (Xa (pv 11) Xd)))
    Xe))))
   Xe))
   Xe)
  (Xb (Xo (pef bn hr (Xa (pv 9) (Xa (pv 4) (Xa (pv 3) Xd)))))
  Xe))))))))),λac af ak av=>(Ya K qS λa1 v2=>(Ya K qS λiW v37=>(N5 (K:=K) (o1:=(oF Xf)) (o2:=(oF Xf)) (o3:=(oF Xf)) 4 5 6 1 0 2 (Nat.le_of_ble_eq_true rfl) (Nat.le_of_ble_eq_true rfl) (Nat.le_of_ble_eq_true rfl) λv47 ja fJ C50 C51 C52=>(Ya K qS λa53 gE=>(Fj K (λO (cX:Option V×V×V×V×List XG×List XG×List XG)=>[cX.2.2.2.2.1,cX.2.2.2.2.2.1,cX.2.2.2.2.2.2,[]]) (λs cX=>[some ac,some af,some v2,some v37,some cX.2.2.1,some cX.2.1,some cX.2.2.2.1,some gE,cX.1,none,none,none]) (λS (g63:(List Int)×(List Int)×(List Int)) cX=>(SC.addO (SC.addO (SC.addO S K (oL (oF Xf)) cX.2.1 g63.1 cX.2.2.2.2.1) K (oL (oF Xf)) cX.2.2.1 g63.2.1 cX.2.2.2.2.2.1) K (oL (oF Xf)) cX.2.2.2.1 g63.2.2 cX.2.2.2.2.2.2)) (λ_=>tg1 8) ((none),ja,v47,fJ,C51,C50,C52) (([]:(List Int)),([]:(List Int)),([]:(List Int))) qw rfl rfl (λ_ s=>(SC.i (SC.i (SC.i s s.l.l.r) s.l.l.l.r) s.l.r)) (λg64 jk a66 v67=>(EA K qM λa80 C79=>(EA K qM λa93 C92=>(Az K qN λa106 C105=>(Yq ((some v67),jk.2.1,jk.2.2.1,jk.2.2.2.1,C79,C92,C105) (a80,a93,a106) rfl rfl))))) λjl bp=>(ZJ (λO (dQ:V×List XG)=>[dQ.2,bp.2.2.2.2.2.1,bp.2.2.2.2.2.2,[]]) (λs dQ=>[some ac,some af,some v2,some v37,some bp.2.2.1,some dQ.1,some bp.2.2.2.1,some gE,bp.1,none,none,none]) (λS (jm:(List Int)) dQ=>(SC.addO S K (oL (oF Xf)) dQ.1 jm dQ.2)) (Yd (qt K) (NO (K:=K) 5 0 rfl rfl (λ_ s=>s.l.l.r) qN (λ_=>(qp K)) (λ_=>(qp K)) λa131 C132=>(Yq (bp.2.1,C132) (a131) rfl rfl)) (Yq (bp.2.1,bp.2.2.2.2.1) (jl.1) rfl rfl)) λg137 dR=>(Zm K 3 qN λa138 v139 C140=>(ZJ (λO (ci:V×Option V×Option V×Option V×Option V×List XG)=>[dR.2,bp.2.2.2.2.2.1,[],ci.2.2.2.2.2]) (λs ci=>[some ac,some af,some v2,some v37,some bp.2.2.1,some dR.1,ci.2.2.2.2.1,some gE,ci.2.1,some ci.1,ci.2.2.1,ci.2.2.2.1]) (λS (g151:QLs) ci=>(SC.addO S K (oL (oL (oF Xf))) ci.1 g151 ci.2.2.2.2.2)) (Yd (qt K) (Zm K (o:=(oL (oL (oF Xf)))) 3 (ZN (λ_=>tg1 0) qw (λC156 a157 jo=>(Kf (o:=(oF Xf))))) λa152 v153 C154=>(Fj K (λO (bI:Option V×Option V×Option V×V×V×List XG×List XG)=>[dR.2,bp.2.2.2.2.2.1,bI.2.2.2.2.2.1,bI.2.2.2.2.2.2]) (λs bI=>[some ac,some af,some v2,some v37,some bp.2.2.1,some dR.1,some bI.2.2.2.1,some gE,bI.1,some bI.2.2.2.2.1,bI.2.1,bI.2.2.1]) (λS (jp:(List Int)×QLs) bI=>(SC.addO (SC.addO S K (oL (oF Xf)) bI.2.2.2.1 jp.1 bI.2.2.2.2.2.1) K (oL (oL (oF Xf))) bI.2.2.2.2.1 jp.2 bI.2.2.2.2.2.2)) (λ_=>tg1 8) ((bp.1),(none),(none),bp.2.2.2.1,v153,bp.2.2.2.2.2.2,C154) (jl.2.2,a152) qw rfl rfl (λ_ s=>(SC.i (SC.i s s.l.l.l.r) s.r)) (λg167 jq a169 v170=>(Ya K qS λa171 v172=>(AG K qB λa188 a189 v190 C191=>(NW (K:=K) (r:=Xf) 9 3 rfl rfl (λ_ s=>s.l.l.l.l.r) qS qB λa203 C204=>(Yq ((some v170),(some v172),(some v190),jq.2.2.2.1,jq.2.2.2.2.1,C191,C204) (a189,a203) rfl rfl))))) λg205 dS=>(Il 2 (Yq (dS.2.2.2.2.1,(dS.1),(dS.2.1),(dS.2.2.1),(some dS.2.2.2.1),dS.2.2.2.2.2.2) (g205.2) rfl rfl)))) (Il 2 (Yq (v139,(bp.1),(none),(none),(some bp.2.2.2.1),C140) (a138) rfl rfl))) λg209 x208=>(Oe (K:=K) (o:=(oL (oF Xf))) 1 rfl (λ_ s=>s.l.l.l.l.r) (Np (K:=K) (q:=(oL (oL (oF Xf)))) 9 3 rfl rfl (λ_ s=>s.l.r) qS qS))))))))))⟩⟩
def FU:=Em.1
theorem Ku:FnScope ["_law_walks","_law_found","_law_at","_law_k"] ["_law_walks"] (Xg BY):={}
abbrev GJ (m:QLs->Rs (List (Int×Int×Int×Int))):Prop:=Fn P w K mg base 1 "_law_pairs" ["_law_walks"] (sp1 (rV (rV Xf)) (oL (oF (rP4 Xf Xf Xf Xf))) m K)
noncomputable def B8:{m // Pq λP w K mg base=>Def K mg "_law_pairs" BY ["_law_walks"]->GJ P w K mg base m}:=⟨_, @λP w K mg base Y Z D=>go1 D Ku 3 1 rfl rfl λhr hu aq=>⟨_,(Xb (psn Ku 1 (XC Xd))
  (Xb (psf (Yy rfl Z.b_range (Xa (Yp K Z.b_len (Xa (pv 0) Xd)) Xd)) (pgn Ku 2)
   (Xb (psf (Yy rfl Z.b_range (Xa (Xk Zp (Yp K Z.b_len (Xa (Xs K (pv 0) (pv 2)) Xd)) Xc) Xd)) (pgn Ku 3)
    (Xb (XY (Jh PySem.F.plainAttrs_list PySem.F.slot_list_append PySem.F.type_list_append Yb (pv 1) (Xa (XH (Xa (pv 2) (Xa (pv 3) (Xa (Xs K (Xs K (pv 0) (pv 2)) (pv 3)) (Xa (Xs K (Xs K (pv 0) (pv 2)) (Xk Xy (pv 3) Xc)) Xd))))) Xd)))
    Xe))
   Xe))
  (Xb (Xo (pv 1))
  Xe))),λac ak=>(Zm K (o:=(oL (oF (rP4 Xf Xf Xf Xf)))) 0 (Kf (o:=(oF (rP4 Xf Xf Xf Xf)))) λa1 v2 C3=>(Fj K (λO (x6:Option V×Option V×V×List XG)=>[x6.2.2.2]) (λs x6=>[some ac,some x6.2.2.1,x6.1,x6.2.1]) (λS (g7:(List (Int×Int×Int×Int))) x6=>(SC.addO S K (oL (oF (rP4 Xf Xf Xf Xf))) x6.2.2.1 g7 x6.2.2.2)) (λ_=>tg1 2) ((none),(none),v2,C3) (a1) qw rfl rfl (λ_ s=>(SC.i s s.r)) (λg8 x9 fM bP=>(Fj K (λO (dU:Option V×V×List XG)=>[dU.2.2]) (λs dU=>[some ac,some dU.2.1,some bP,dU.1]) (λS (g19:(List (Int×Int×Int×Int))) dU=>(SC.addO S K (oL (oF (rP4 Xf Xf Xf Xf))) dU.2.1 g19 dU.2.2)) (λ_=>tg1 3) ((x9.2.1),x9.2.2.1,x9.2.2.2) (g8) qw rfl rfl (λ_ s=>(SC.i s s.l.r)) (λg20 x21 a22 v23=>(EA K (EvS.ev (N6 qS qS qS qS)) λa40 C39=>(Yq ((some v23),x21.2.1,C39) (a40) rfl rfl))) λg41 fN=>(Yq ((some bP),(fN.1),fN.2.1,fN.2.2) (g41) rfl rfl))) λg44 x45=>(Xp JS)))⟩⟩
def UO:=B8.1
theorem Y3:FnScope ["_law_signs","_law_top","_law_mid","_law_low","_law_a","_law_c","_law_b","_law_p","_law_q","_law_r"] ["_law_signs","_law_top","_law_mid","_law_low"] (Xg Ux):={}
abbrev Us (m:QPs->(Int×Int×Int×Int)->(Int×Int×Int×Int)->(Int×Int×Int×Int)->Rs Bool):Prop:=Fn P w K mg base 1 "_law_straight" ["_law_signs","_law_top","_law_mid","_law_low"] (sp4 (rD Xf) (rP4 Xf Xf Xf Xf) (rP4 Xf Xf Xf Xf) (rP4 Xf Xf Xf Xf) (oF Xw) m K)
noncomputable def Uq:{m // Pq λP w K mg base=>Def K mg "_law_straight" Ux ["_law_signs","_law_top","_law_mid","_law_low"]->Us P w K mg base m}:=⟨_, @λP w K mg base Y Z D=>go4 D Y3 6 0 rfl rfl λhr hu aq=>⟨_,(Xb (psn Y3 4 (Yj XJ (Xt (LH rfl) rfl Z.b_min PyProof.Rows.boot_min (Xa (Xl K (pv 2) Xc) (Xa (Xl K (pv 2) Xc) Xd)))))
  (Xb (psn Y3 5 (Xt (Li rfl) rfl Z.b_max PyProof.Rows.boot_max (Xa (Xl K (pv 2) Xc) (Xa (Xl K (pv 2) Xc) Xd))))
  (Xb (XA (PW.pt (Zv (Xj JF (pv 4) (XB (Y1 K rfl) (pv 1) (XE Xc) XV) rfl) (Zl (Xj KR (pv 5) (XB (Y1 K rfl) (pv 1) (XE Xc) XV) rfl))))
   (Xb (Xo Y2)
   Xe)
   Xe)
  (Xb (psn Y3 6 (Xk Zp (Xk Xy (Xl K (pv 1) Xc) (Xl K (pv 1) Xc)) (pv 4)))
  (Xb (XA (Xj (K2 K rfl (HN eq_int) (Vt (by decide) hu)) (Xt (YC K rfl) rfl Z.b_sorted PyProof.Rows.boot_sorted (Xa (XC (Xa (Yj XJ (Xl K (pv 3) Xc)) (Xa (Yj XJ (Xl K (pv 3) Xc)) Xd))) Xd XU)) (Xt (YC K rfl) rfl Z.b_sorted PyProof.Rows.boot_sorted (Xa (XC (Xa (pv 6) (Xa (pv 5) Xd))) Xd XU)) (Xm _))
   (Xb (Xo Y2)
   Xe)
   Xe)
  (Xb (psn Y3 7 (Xk Zp (Xk XT Xc (XD QD rfl Z.b_int PyProof.Rows.boot_int (Xa (XI XO (Xl K (pv 1) Xc) (pv 4) (Xm _)) Xd))) Xc))
  (Xb (psn Y3 8 (Xk Zp (Xk XT Xc (XD QD rfl Z.b_int PyProof.Rows.boot_int (Xa (XI XO (Xl K (pv 2) Xc) (Yj XJ (pv 4)) (Xm _)) Xd))) Xc))
  (Xb (psn Y3 9 (Xk Zp (Xk XT Xc (XD QD rfl Z.b_int PyProof.Rows.boot_int (Xa (XI XO (Xl K (pv 3) Xc) (Yj XJ (pv 6)) (Xm _)) Xd))) Xc))
  (Xb (Xo (Qi (XI XO (Xk XT (pv 7) (Up aq (pv 0) (pv 6) (λ_ _=>rfl))) (Xk XT (pv 8) (Up aq (pv 0) (pv 5) (λ_ _=>rfl))) (Xm _)) (Qg (XI XO (Xk XT (pv 8) (Up aq (pv 0) (pv 4) (λ_ _=>rfl))) (Xk XT (pv 9) (Up aq (pv 0) (pv 6) (λ_ _=>rfl))) (Xm _)))))
  Xe))))))))),λac af aV eO ak av b8 fH=>(Ya K (r:=Xf) (EvB.sh (Vo (MJ (Vp qB) (F8 qB)))) λa1 v2=>(Ya K (r:=Xf) (EvB.sh (L9 (Vp qB) (F8 qB))) λa8 v9=>(XN (YK (Xz (K:=K) (FY qB (YB (QY qB) (qp K) (qp K)))) (Xz (K:=K) (JI qB (YB (QY qB) (qp K) (qp K))))) (Xp qM) (Ya K (r:=Xf) (EvB.sh (Uo (DM (Vp qB) (F8 qB)) qB)) λa29 v30=>(XN (Xz (K:=K) (DT (Ev.toB (JX (Ev.ls (Kc (YI (EvB.sh (Vo (Vp qB))) (YI (EvB.sh (Vo (F8 qB))) qa)))))) (Ev.toB (JX ql)))) (Xp qM) (Ya K (r:=Xf) (EvB.sh (Uo (ZM qB (KJ (Je (Vp qB) qB))) qB)) λa58 v59=>(Ya K (r:=Xf) (EvB.sh (Uo (ZM qB (KJ (Je (Vp qB) qB))) qB)) λa68 v69=>(Ya K (r:=Xf) (EvB.sh (Uo (ZM qB (KJ (Je (Vp qB) qB))) qB)) λa79 v80=>(Xp (EvS.ev (EvB.sh (YY (Je (ZM qB (Vd qB qB)) (ZM qB (Vd qB qB))) (Je (ZM qB (Vd qB qB)) (ZM qB (Vd qB qB)))))))))))))))⟩⟩
def JY:=Uq.1
theorem Z4:FnScope ["_law_drawing","_law_signs","_law_pairs_here","_law_found","_law_top","_law_mid","_law_low"] ["_law_drawing"] (Xg J0):={}
abbrev KI (m:QDr->Rs (List (List Mx))):Prop:=Fn P w K mg base 2 "_law_passes" ["_law_drawing"] (sp1 (rP2 (rV (rV Xf)) (rV (rP2 Xf Xf))) (oL (oF (rPL rMx))) m K)
noncomputable def Dh:{m // Pq λP w K mg base=>Def K mg "_law_passes" J0 ["_law_drawing"]->GJ P w K mg base UO->Us P w K mg base JY->KI P w K mg base m}:=⟨_, @λP w K mg base Y Z D aF bA=>go1 D Z4 6 1 rfl rfl λhr hu aq=>⟨_,(Xb (psn Z4 1 (XD (YM K rfl rfl) rfl Z.b_dict PyProof.Rows.boot_dict (Xa (Xl K (pv 0) Xc) Xd)))
  (Xb (psn Z4 2 (pef aF hr (Xa (Xl K (pv 0) Xc) Xd)))
  (Xb (psn Z4 3 (XC Xd))
  (Xb (psf (XF (K:=K) rfl (Qd (sc:=(Xg J0)) (N0:=["_law_drawing","_law_signs","_law_pairs_here","_law_found","_law_top","_law_mid","_law_low"]) (tns:=["_law_one"]) (caps:=[]) rfl (XF (K:=K) rfl (pv 2)) (YU (by decide)) (λcl C s H ex E=>⟨Yk (i:=0) (show List.Nodup (["_law_one"]:List Str) by decide+kernel) rfl (Or.inl rfl),(Gp (Xj UB (Xt (Jx K rfl rfl) rfl Z.b_min PyProof.Rows.boot_min (Xa (XB (Y1 K rfl) (pv 0) (XE Xc) XV) Xd)) Xc (Xm _))),(pv 0)⟩))) (pgn Z4 4)
   (Xb (psf (XF (K:=K) rfl (Qd (sc:=(Xg J0)) (N0:=["_law_drawing","_law_signs","_law_pairs_here","_law_found","_law_top","_law_mid","_law_low"]) (tns:=["_law_one"]) (caps:=[]) rfl (XF (K:=K) rfl (pv 2)) (YU (by decide)) (λcl C s H ex E=>⟨Yk (i:=0) (show List.Nodup (["_law_one"]:List Str) by decide+kernel) rfl (Or.inl rfl),(Gp (EI Js Js (Xt (Jx K rfl rfl) rfl Z.b_min PyProof.Rows.boot_min (Xa (XB (Y1 K rfl) (pv 0) (XE Xc) XV) Xd)) Xc (Xt (GL K rfl rfl) rfl Z.b_max PyProof.Rows.boot_max (Xa (XB (Y1 K rfl) (pv 0) (XE Xc) XV) Xd)))),(pv 0)⟩))) (pgn Z4 5)
    (Xb (psf (XF (K:=K) rfl (Qd (sc:=(Xg J0)) (N0:=["_law_drawing","_law_signs","_law_pairs_here","_law_found","_law_top","_law_mid","_law_low"]) (tns:=["_law_one"]) (caps:=[]) rfl (XF (K:=K) rfl (pv 2)) (YU (by decide)) (λcl C s H ex E=>⟨Yk (i:=0) (show List.Nodup (["_law_one"]:List Str) by decide+kernel) rfl (Or.inl rfl),(Gp (Xj Js (Xt (GL K rfl rfl) rfl Z.b_max PyProof.Rows.boot_max (Xa (XB (Y1 K rfl) (pv 0) (XE Xc) XV) Xd)) Xc (Xm _))),(pv 0)⟩))) (pgn Z4 6)
     (Xb (XA (Yx (pef bA hr (Xa (pv 1) (Xa (pv 4) (Xa (pv 5) (Xa (pv 6) Xd))))))
      (Xb (XY (Jh PySem.F.plainAttrs_list PySem.F.slot_list_append PySem.F.type_list_append Yb (pv 3) (Xa (Xk (F1 K rfl) (Xk (F1 K rfl) (Xk (F1 K rfl) (XH (Xa Xx Xd)) (XB (Y1 K rfl) (pv 4) XV (XE Xc))) (XB (Y1 K rfl) (pv 5) XV (XE Xc))) (XB (Y1 K rfl) (pv 6) XV (XE Xc))) Xd)))
      Xe)
      Xe)
     Xe))
    Xe))
   Xe))
  (Xb (Xo (pv 3))
  Xe))))),λac ak=>(Ya K (r:=(rD Xf)) (Ev.sh (Q1 ql)) λa1 v2=>(Ya K qS λa5 v6=>(Zm K (o:=(oL (oF (rPL rMx)))) 0 (Kf (o:=(oF (rPL rMx)))) λfM bP hV=>(Fj K (λO (bv:Option V×Option V×Option V×V×List XG)=>[bv.2.2.2.2]) (λs bv=>[some ac,some v2,some v6,some bv.2.2.2.1,bv.1,bv.2.1,bv.2.2.1]) (λS (gA:(List (List Mx))) bv=>(SC.addO S K (oL (oF (rPL rMx))) bv.2.2.2.1 gA bv.2.2.2.2)) (λ_=>tg1 4) ((none),(none),(none),bP,hV) (fM) (Z6 (Ev.sh (Ue (λ_=>tg1 0) qw (λC13 dh gF=>(Xz (K:=K) (Ft (Jl (YB (QY qB) (qp K) (qp K))) qB))) (λC13 dh gF=>qM)))) rfl rfl (λ_ s=>(SC.i s s.r)) (λg26 cP gz e7=>(Fj K (λO (bC:Option V×Option V×V×List XG)=>[bC.2.2.2]) (λs bC=>[some ac,some v2,some v6,some bC.2.2.1,some e7,bC.1,bC.2.1]) (λS (g48:(List (List Mx))) bC=>(SC.addO S K (oL (oF (rPL rMx))) bC.2.2.1 g48 bC.2.2.2)) (λ_=>tg1 5) ((cP.2.1),(cP.2.2.1),cP.2.2.2.1,cP.2.2.2.2) (g26) (Z6 (Ev.sh (Ue (λ_=>tg1 0) qw (λC30 cY v32=>(Xz (K:=K) (VX (Jl (YB (QY qB) (qp K) (qp K))) qB (DR (YB (QY qB) (qp K) (qp K)))))) (λC30 cY v32=>qM)))) rfl rfl (λ_ s=>(SC.i s s.l.r)) (λgG jr a51 js=>(Fj K (λO (cj:Option V×V×List XG)=>[cj.2.2]) (λs cj=>[some ac,some v2,some v6,some cj.2.1,some e7,some js,cj.1]) (λS (g65:(List (List Mx))) cj=>(SC.addO S K (oL (oF (rPL rMx))) cj.2.1 g65 cj.2.2)) (λ_=>tg1 6) ((jr.2.1),jr.2.2.1,jr.2.2.2) (gG) (Z6 (Ev.sh (Ue (λ_=>tg1 0) qw (λC53 d9 v55=>(Xz (K:=K) (GH (DR (YB (QY qB) (qp K) (qp K))) qB))) (λC53 d9 v55=>qM)))) rfl rfl (λ_ s=>(SC.i s s.l.r)) (λg66 jt a68 v69=>(ZJ (λO (cO:V×List XG)=>[cO.2]) (λs cO=>[some ac,some v2,some v6,some cO.1,some e7,some js,some v69]) (λS (g77:(List (List Mx))) cO=>(SC.addO S K (oL (oF (rPL rMx))) cO.1 g77 cO.2)) (Yd (qt K) (EA K (EvB.flat (DZ (DZ (DZ (Ev.toB (EvS.ev (ZV (r:=rMx) qa))) (FX (YB (QY qB) (qp K) (qp K)))) (FX (YB (QY qB) (qp K) (qp K)))) (FX (YB (QY qB) (qp K) (qp K))))) λa108 C107=>(Yq (jt.2.1,C107) (a108) rfl rfl)) (Yq (jt.2.1,jt.2.2) (g66) rfl rfl)) λg110 ju=>(Yq ((some v69),ju.1,ju.2) (g110) rfl rfl))) λg111 gH=>(Yq ((some js),(gH.1),gH.2.1,gH.2.2) (g111) rfl rfl))) λg114 ft=>(Yq ((some e7),(ft.1),(ft.2.1),ft.2.2.1,ft.2.2.2) (g114) rfl rfl))) λjm bY=>(Xp JS)))))⟩⟩
def V9:=Dh.1
theorem IL:FnScope ["_law_walks","_law_at","_law_k","_law_one","_law_two"] ["_law_walks","_law_at","_law_k","_law_one","_law_two"] (Xg Dk):={}
abbrev FN (m:QLs->Int->Int->Int->Int->Rs QLs):Prop:=Fn P w K mg base 1 "_law_lay_in" ["_law_walks","_law_at","_law_k","_law_one","_law_two"] (At (oL (oL (oF Xf))) Xf Xf Xf Xf m K)
noncomputable def DL:{m // Pq λP w K mg base=>Def K mg "_law_lay_in" Dk ["_law_walks","_law_at","_law_k","_law_one","_law_two"]->FN P w K mg base m}:=⟨_, @λP w K mg base Y Z D=>by
 refine Fa D IL (λvs H Q E h=>?_) (λf ah A outer s H vs Q E hr h=>?_)
 ·obtain⟨ac,af,aV,eO,v_4,ak,av,b8,fH,a_4,b,rfl,_⟩:=h;rfl
 obtain⟨ac,af,aV,eO,v_4,ak,av,b8,fH,a_4,b,rfl,hJ,hw,da,dP,gD,h_3,h_4,hm,q⟩:=h
 have hu:=hu8 hr
 have aq:=VZ hr
 refine⟨_,(Xb (Yt (Xk QJ (Xk QJ (XB (Ym K rfl) (Xs K (pv 0) (pv 1)) XV (XE (pv 2))) (XC (Xa (pv 3) (Xa (pv 4) Xd)))) (XB (Ym K rfl) (Xs K (pv 0) (pv 1)) (XE (pv 2)) XV)) (Zo (pv 0) (pv 1) Yc))
  Xe),?_⟩
 refine Mp (S:=(SC.add (SC.add (SC.add (SC.add (SC.addO SC.nil K (oL (oL (oF Xf))) ac ak hJ) K Xf af av) K Xf aV b8) K Xf eO fH) K Xf v_4 a_4)) (U:=[some ac,some af,some aV,some eO,some v_4]) 1 0 (by decide) ?_ hw (SC.i (SC.i (SC.i (SC.i (SC.i SC.t da) dP) gD) h_3) h_4) hm q (λ_ _=>rfl)
 exact(Jt K qN (λ_=>qB) λa24 C25=>(LN (K:=K) (q:=(oL (oL (oF Xf)))) 0 rfl (λ_ s=>s.r)))⟩
def KD:=DL.1
theorem HY:FnScope ["_law_walks","_law_at","_law_k"] ["_law_walks","_law_at","_law_k"] (Xg KN):={}
abbrev K5 (m:QLs->Int->Int->Rs QLs):Prop:=Fn P w K mg base 1 "_law_cut_out" ["_law_walks","_law_at","_law_k"] (Ao (oL (oL (oF Xf))) Xf Xf m K)
noncomputable def Gs:{m // Pq λP w K mg base=>Def K mg "_law_cut_out" KN ["_law_walks","_law_at","_law_k"]->K5 P w K mg base m}:=⟨_, @λP w K mg base Y Z D=>by
 refine Fa D HY (λvs H Q E h=>?_) (λf ah A outer s H vs Q E hr h=>?_)
 ·obtain⟨ac,af,aV,ak,av,b8,b,rfl,_⟩:=h;rfl
 obtain⟨ac,af,aV,ak,av,b8,b,rfl,hJ,hw,da,dP,gD,hm,q⟩:=h
 have hu:=hu8 hr
 have aq:=VZ hr
 refine⟨_,(Xb (Yt (Xk QJ (XB (Ym K rfl) (Xs K (pv 0) (pv 1)) XV (XE (pv 2))) (XB (Ym K rfl) (Xs K (pv 0) (pv 1)) (XE (Xk Xy (pv 2) Xc)) XV)) (Zo (pv 0) (pv 1) Yc))
  Xe),?_⟩
 refine Mp (S:=(SC.add (SC.add (SC.addO SC.nil K (oL (oL (oF Xf))) ac ak hJ) K Xf af av) K Xf aV b8)) (U:=[some ac,some af,some aV]) 1 0 (by decide) ?_ hw (SC.i (SC.i (SC.i SC.t da) dP) gD) hm q (λ_ _=>rfl)
 exact(Jt K qN (λ_=>qB) λiY C20=>(LN (K:=K) (q:=(oL (oL (oF Xf)))) 0 rfl (λ_ s=>s.r)))⟩
def Qc:=Gs.1
theorem Ke:FnScope ["_law_drawing","_law_move","_law_walks","_law_signs","_law_cut","_law_one","_law_two","_law_sign","_law_at","_law_k"] ["_law_drawing","_law_move"] (Xg Wu):={}
abbrev T2 (m:QDr->(List Mx)->Rs QDr):Prop:=Fn P w K mg base 2 "_law_do" ["_law_drawing","_law_move"] (sp2 (rP2 (rV (rV Xf)) (rV (rP2 Xf Xf))) (rPL rMx) (oT2 (oL (oL (oF Xf))) (oL (oF (rP2 Xf Xf)))) m K)
noncomputable def Of:{m // Pq λP w K mg base=>Def K mg "_law_do" Wu ["_law_drawing","_law_move"]->FN P w K mg base KD->K5 P w K mg base Qc->T2 P w K mg base m}:=⟨_, @λP w K mg base Y Z D bq bt=>go2 D Ke 8 2 rfl rfl λhr hu aq=>⟨_,(Xb (JE 2 (Xg Wu) ["_law_drawing","_law_move","_law_walks","_law_signs","_law_cut","_law_one","_law_two","_law_sign","_law_at","_law_k"] ["_law_walk"] [] rfl Ke.nd rfl rfl (XF (K:=K) rfl (Xl K (pv 0) Xc)) (YU (by decide)) (λcl C s H ex E=>⟨Yk (i:=0) (show List.Nodup (["_law_walk"]:List Str) by decide+kernel) rfl (Or.inl rfl),ZP,(XD (XW K rfl) rfl Z.b_list PyProof.Rows.boot_list (Xa (pv 0) Xd))⟩))
  (Xb (psn Ke 3 (XD (YM K rfl rfl) rfl Z.b_dict PyProof.Rows.boot_dict (Xa (Xl K (pv 0) Xc) Xd)))
  (Xb (XA (PW.pt (U4 (Xj XO (Xl K (pv 1) Xc) Xx (Xm _)) (VO (Xj UB (Yp K Z.b_len (Xa (Xs K (pv 2) (Xl K (pv 1) Xc)) Xd)) Xc (Xm _)))))
   (Xb (psn Ke 4 (Xk X0 (Xl K (pv 1) Xc) (Yp K Z.b_len (Xa (Xs K (pv 2) (Xl K (pv 1) Xc)) Xd))))
   (Xb (Yt (Xk QJ (XB (Ym K rfl) (Xs K (pv 2) (Xl K (pv 1) Xc)) (XE (pv 4)) XV) (XB (Ym K rfl) (Xs K (pv 2) (Xl K (pv 1) Xc)) XV (XE (pv 4)))) (Zo (pv 2) (Xl K (pv 1) Xc) Yc))
   Xe))
   Xe)
  (Xb (XA (Xj XO (Xl K (pv 1) Xc) Xx (Xm _))
   (Xb (psn Ke 5 (Xk XT (Xl K (pv 1) Xc) (Xs K (XC (Xa (Yj XJ Xc) (Xa Xc Xd))) (XD QD rfl Z.b_int PyProof.Rows.boot_int (Xa (XI XO (Xl K (pv 1) Xc) Xx (Xm _)) Xd)))))
   (Xb (XY (pef bq hr (Xa (pv 2) (Xa (Xl K (pv 1) Xc) (Xa (Xl K (pv 1) Xc) (Xa (pv 5) (Xa (Yj XJ (pv 5)) Xd)))))))
   (Xb (Ur aq (pv 3) (Xl K (pv 1) Xc) (Xl K (pv 1) Xc) rfl)
   Xe)))
   Xe)
  (Xb (XA (Xj XO (Xl K (pv 1) Xc) Xx (Xm _))
   (Xb (XY (Dy (pv 3) (Xt Nb rfl Z.b_abs PyProof.Rows.boot_abs (Xa (Xs K (Xs K (pv 2) (Xl K (pv 1) Xc)) (Xl K (pv 1) Xc)) Xd)) ⟨rfl,rfl,rfl,rfl⟩))
   (Xb (XY (pef bt hr (Xa (pv 2) (Xa (Xl K (pv 1) Xc) (Xa (Xl K (pv 1) Xc) Xd)))))
   Xe))
   Xe)
  (Xb (XA (Xj XO (Xl K (pv 1) Xc) Xx (Xm _))
   (Xb (LJ (i:=5) (j:=6) (k:=7) rfl Ke.nd rfl rfl rfl (by decide) (by decide) (by decide) rfl rfl rfl (Xa (Xl K (pv 1) Xc) (Xa (Xl K (pv 1) Xc) (Xa (Xl K (pv 1) Xc) Xd))) rfl)
   (Xb (XY (pef bq hr (Xa (pv 2) (Xa (Xl K (pv 1) Xc) (Xa (Xl K (pv 1) Xc) (Xa (pv 5) (Xa (pv 6) Xd)))))))
   (Xb (Ur aq (pv 3) (pv 5) (pv 7) rfl)
   (Xb (Ur aq (pv 3) (pv 6) (Yj XJ (pv 7)) rfl)
   (Xb (XA (Yx (Xl K (pv 1) Xc))
    (Xb (ON (i:=5) (j:=6) rfl Ke.nd rfl rfl (by decide) rfl rfl (Xa (pv 6) (Xa (pv 5) Xd)) rfl)
    Xe)
    Xe)
   (Xb (XY (pef bq hr (Xa (pv 2) (Xa (Xl K (pv 1) Xc) (Xa (Xl K (pv 1) Xc) (Xa (Yj XJ (pv 5)) (Xa (Yj XJ (pv 6)) Xd)))))))
   Xe))))))
   Xe)
  (Xb (XA (Xj XO (Xl K (pv 1) Xc) Xx (Xm _))
   (Xb (XY (Dy (pv 3) (Xs K (Xs K (pv 2) (Xl K (pv 1) Xc)) (Xl K (pv 1) Xc)) ⟨rfl,rfl,rfl,rfl⟩))
   (Xb (XY (Dy (pv 3) (Xs K (Xs K (pv 2) (Xl K (pv 1) Xc)) (Xk Xy (Xl K (pv 1) Xc) Xc)) ⟨rfl,rfl,rfl,rfl⟩))
   (Xb (psf (XF (K:=K) rfl (Bf K rfl (Xt (JD K rfl (Vt (by decide) hu)) rfl Z.b_sorted PyProof.Rows.boot_sorted (Xa (XC (Xa (XB (Y1 K rfl) (pv 1) (XE Xc) (XE Xc)) (Xa (XB (Y1 K rfl) (pv 1) (XE Xc) (XE Xc)) Xd))) Xd XU)) (Yj XJ Xc))) (ZT rfl (Xq (pgn Ke 8) (Xq (pgn Ke 9) YT)))
    (Xb (XY (pef bt hr (Xa (pv 2) (Xa (pv 8) (Xa (pv 9) Xd)))))
    Xe))
   Xe)))
   Xe)
  (Xb (XA (Xj XO (Xl K (pv 1) Xc) Xx (Xm _))
   (Xb (psf (XF (K:=K) rfl (XC (Xa (XB (Y1 K rfl) (pv 1) (XE Xc) (XE Xc)) (Xa (XB (Y1 K rfl) (pv 1) (XE Xc) (XE Xc)) (Xa (XB (Y1 K rfl) (pv 1) (XE Xc) (XE Xc)) Xd))))) (ZT rfl (Xq (pgn Ke 8) (Xq (pgn Ke 9) YT)))
    (Xb (ON (i:=5) (j:=6) rfl Ke.nd rfl rfl (by decide) rfl rfl (Xa (Xs K (Xs K (pv 2) (pv 8)) (pv 9)) (Xa (Xs K (Xs K (pv 2) (pv 8)) (Xk Xy (pv 9) Xc)) Xd)) rfl)
    (Xb (Yt (pv 6) (Zo (Xs K (pv 2) (pv 8)) (pv 9) Yc))
    (Xb (Yt (pv 5) (Zo (Xs K (pv 2) (pv 8)) (Xk Xy (pv 9) Xc) Yc))
    Xe))))
   Xe)
   Xe)
  (Xb (Xo (XH (Xa (pv 2) (Xa (Ka rfl rfl Z.b_sorted (pv 3) (Vt (by decide) hu)) Xd))))
  Xe))))))))),λac af ak av=>(Zm K (o:=(oL (oL (oF Xf)))) 0 (ZN (λ_=>tg1 0) qw (λC5 a6 v7=>qN)) λa1 v2 C3=>(Zm K (o:=(oD Xf)) 1 (Q1 ql) λfM bP hV=>(ZJ (λO (cP:Option V×V×List XG)=>[cP.2.2,hV]) (λs cP=>[some ac,some af,some cP.2.1,some bP,cP.1,none,none,none,none,none]) (λS (g28:QLs) cP=>(SC.addO S K (oL (oL (oF Xf))) cP.2.1 g28 cP.2.2)) (Yd (qt K) (Ya K qS λa29 v30=>(Jt K qN (λ_=>qb) λgI C63=>(Yq ((some v30),v2,C63) (gI) rfl rfl))) (Yq ((none),v2,C3) (a1) rfl rfl)) λg65 cj=>(ZJ (λO (dW:Option V×V×V×List XG×List XG)=>[dW.2.2.2.2,dW.2.2.2.1]) (λs dW=>[some ac,some af,some dW.2.2.1,some dW.2.1,cj.1,dW.1,none,none,none,none]) (λS (g72:QPs×QLs) dW=>(SC.addO (SC.addO S K (oD Xf) dW.2.1 g72.1 dW.2.2.2.1) K (oL (oL (oF Xf))) dW.2.2.1 g72.2 dW.2.2.2.2)) (Yd (qt K) (Ya K qS λa73 v74=>(K8 (K:=K) (q:=(oL (oL (oF Xf)))) 2 0 rfl rfl (λ_ s=>s.l.r) qs qs qS qS λb101 gC=>(HI K qs qb λgJ ji=>(Yq ((some v74),bP,cj.2.1,ji,gC) (gJ,b101) rfl rfl)))) (Yq ((none),bP,cj.2.1,hV,cj.2.2) (fM,g65) rfl rfl)) λjv cQ=>(ZJ (λO (bY:V×V×List XG×List XG)=>[bY.2.2.2,bY.2.2.1]) (λs bY=>[some ac,some af,some bY.2.1,some bY.1,cj.1,cQ.1,none,none,none,none]) (λS (jw:QPs×QLs) bY=>(SC.addO (SC.addO S K (oD Xf) bY.1 jw.1 bY.2.2.1) K (oL (oL (oF Xf))) bY.2.1 jw.2 bY.2.2.2)) (Yd (qt K) (B3 (K:=K) (r:=Xf) 3 1 rfl rfl (λ_ s=>s.l.r) qB λa130 C131=>(C8 (K:=K) (q:=(oL (oL (oF Xf)))) 2 0 rfl rfl (λ_ s=>s.l.r) qs qs λb138 C139=>(Yq (cQ.2.1,cQ.2.2.1,C131,C139) (a130,b138) rfl rfl))) (Yq (cQ.2.1,cQ.2.2.1,cQ.2.2.2.1,cQ.2.2.2.2) (jv.1,jv.2) rfl rfl)) λjx cR=>(ZJ (λO (bJ:Option V×Option V×Option V×V×V×List XG×List XG)=>[bJ.2.2.2.2.2.2,bJ.2.2.2.2.2.1]) (λs bJ=>[some ac,some af,some bJ.2.2.2.2.1,some bJ.2.2.2.1,cj.1,bJ.1,bJ.2.1,bJ.2.2.1,none,none]) (λS (jy:QPs×QLs) bJ=>(SC.addO (SC.addO S K (oD Xf) bJ.2.2.2.1 jy.1 bJ.2.2.2.2.2.1) K (oL (oL (oF Xf))) bJ.2.2.2.2.1 jy.2 bJ.2.2.2.2.2.2)) (Yd (qt K) (R0 (K:=K) 5 6 7 qs qs qs λa155 a156 a157 jo v159 v160=>(K8 (K:=K) (q:=(oL (oL (oF Xf)))) 2 0 rfl rfl (λ_ s=>s.l.l.l.r) qs qs qS qS λb169 C170=>(HI K qS qB λa173 C174=>(HI K qS qB λa178 jz=>(ZJ (λO (dX:V×V)=>[C170,jz]) (λs dX=>[some ac,some af,some cR.2.1,some cR.1,cj.1,some dX.1,some dX.2,some v160,none,none]) (λS (jA:Int×Int) dX=>(SC.add (SC.add S K Xf dX.1 jA.1) K Xf dX.2 jA.2)) (Yd (qt K) (Oi (K:=K) 5 6 qS qS λa185 a186 v187 v188=>(Yq (v187,v188) (a185,a186) rfl rfl)) (Yq (jo,v159) (a155,a156) rfl rfl)) λg190 x189=>(K8 (K:=K) (q:=(oL (oL (oF Xf)))) 2 0 rfl rfl (λ_ s=>s.l.l.l.l.r) qs qs qS qS λb201 C202=>(Yq ((some x189.1),(some x189.2),(some v160),cR.1,cR.2.1,jz,C202) (a178,b201) rfl rfl))))))) (Yq ((cQ.1),(none),(none),cR.1,cR.2.1,cR.2.2.1,cR.2.2.2) (jx.1,jx.2) rfl rfl)) λgK aT=>(ZJ (λO (bN:Option V×Option V×V×V×List XG×List XG)=>[bN.2.2.2.2.2,bN.2.2.2.2.1]) (λs bN=>[some ac,some af,some bN.2.2.2.1,some bN.2.2.1,cj.1,aT.1,aT.2.1,aT.2.2.1,bN.1,bN.2.1]) (λS (jB:QPs×QLs) bN=>(SC.addO (SC.addO S K (oD Xf) bN.2.2.1 jB.1 bN.2.2.2.2.1) K (oL (oL (oF Xf))) bN.2.2.2.1 jB.2 bN.2.2.2.2.2)) (Yd (qt K) (B3 (K:=K) (r:=Xf) 3 1 rfl rfl (λ_ s=>s.l.r) qB λa221 C222=>(B3 (K:=K) (r:=Xf) 3 1 rfl rfl (λ_ s=>s.r) qB λa234 jC=>(Fj K (λO (cS:Option V×Option V×V×List XG)=>[cS.2.2.2,jC]) (λs cS=>[some ac,some af,some cS.2.2.1,some aT.2.2.2.1,cj.1,aT.1,aT.2.1,aT.2.2.1,cS.1,cS.2.1]) (λS (g256:QLs) cS=>(SC.addO S K (oL (oL (oF Xf))) cS.2.2.1 g256 cS.2.2.2)) (λ_=>tg2 8 9) ((none),(none),aT.2.2.2.2.1,aT.2.2.2.2.2.2) (gK.2) (Z6 (Ev.sh (CF (Ev.ls (Cg (Ev.ls (Kc (YI (EvB.sh (GD qB)) (YI (EvB.sh (GD qB)) qa)))))) qB))) rfl rfl (λ_ s=>(SC.i s s.l.l.r)) (λg257 x258 a259 v260=>(C8 (K:=K) (q:=(oL (oL (oF Xf)))) 2 0 rfl rfl (λ_ s=>s.l.l.r) qS qS λb263 C264=>(Yq ((some v260.1),(some v260.2),x258.2.2.1,C264) (b263) rfl rfl))) λg265 fu=>(Yq ((fu.1),(fu.2.1),aT.2.2.2.1,fu.2.2.1,jC,fu.2.2.2) (a234,g265) rfl rfl)))) (Yq ((none),(none),aT.2.2.2.1,aT.2.2.2.2.1,aT.2.2.2.2.2.1,aT.2.2.2.2.2.2) (gK.1,gK.2) rfl rfl)) λjD bO=>(ZJ (λO (ck:Option V×Option V×Option V×Option V×V×List XG)=>[ck.2.2.2.2.2,bO.2.2.2.2.1]) (λs ck=>[some ac,some af,some ck.2.2.2.2.1,some bO.2.2.1,cj.1,ck.2.2.1,ck.2.2.2.1,aT.2.2.1,ck.1,ck.2.1]) (λS (g276:QLs) ck=>(SC.addO S K (oL (oL (oF Xf))) ck.2.2.2.2.1 g276 ck.2.2.2.2.2)) (Yd (qt K) (Fj K (λO (cm:Option V×Option V×Option V×Option V×V×List XG)=>[cm.2.2.2.2.2,bO.2.2.2.2.1]) (λs cm=>[some ac,some af,some cm.2.2.2.2.1,some bO.2.2.1,cj.1,cm.2.2.1,cm.2.2.2.1,aT.2.2.1,cm.1,cm.2.1]) (λS (g300:QLs) cm=>(SC.addO S K (oL (oL (oF Xf))) cm.2.2.2.2.1 g300 cm.2.2.2.2.2)) (λ_=>tg2 8 9) ((bO.1),(bO.2.1),(aT.1),(aT.2.1),bO.2.2.2.1,bO.2.2.2.2.2) (jD.2) (Z6 (Ev.sh (Kc (YI (EvB.sh (GD qB)) (YI (EvB.sh (GD qB)) (YI (EvB.sh (GD qB)) qa)))))) rfl rfl (λ_ s=>(SC.i s s.r)) (λg301 x302 a303 v304=>(Oi (K:=K) 5 6 qS qS λa315 a316 v317 v318=>(Ug (K:=K) (r:=Xf) 2 0 rfl rfl (λ_ s=>s.l.l.l.l.r) qS qB qB λa322 C323=>(Ug (K:=K) (r:=Xf) 2 0 rfl rfl (λ_ s=>s.r) qS qB qB λa331 C332=>(Yq ((some v304.1),(some v304.2),(some v317),(some v318),x302.2.2.2.2.1,C332) (a331) rfl rfl))))) λg335 dY=>(Yq ((dY.1),(dY.2.1),(dY.2.2.1),(dY.2.2.2.1),dY.2.2.2.2.1,dY.2.2.2.2.2) (g335) rfl rfl)) (Yq ((bO.1),(bO.2.1),(aT.1),(aT.2.1),bO.2.2.2.1,bO.2.2.2.2.2) (jD.2) rfl rfl)) λg339 x338=>(Xp (Zg JS λ_=>(CY qB)))))))))))⟩⟩
def G1:=Of.1
theorem OP:FnScope ["_law_signs","_law_name"] ["_law_signs","_law_name"] (Xg So):={}
abbrev ME (m:QPs->Int->Rs Int):Prop:=Fn P w K mg base 1 "_law_new" ["_law_signs","_law_name"] (sp2 (rD Xf) Xf (oF Xf) m K)
noncomputable def RI:{m // Pq λP w K mg base=>Def K mg "_law_new" So ["_law_signs","_law_name"]->ME P w K mg base m}:=⟨_, @λP w K mg base Y Z D=>go2 D OP 0 0 rfl rfl λhr hu aq=>⟨_,(Xb (DS PassesOwn.never (Vl (Fz aq (pv 1) (pv 0)))
   (Xb (psn OP 1 (Xk Xy (pv 1) Xc))
   Xe))
  (Xb (Xo (pv 1))
  Xe)),λac af ak av=>(Ir (λO (x1:V)=>[]) (λs x1=>[some ac,some x1]) (λS (g2:Int) x1=>(SC.add S K Xf x1 g2)) (ak.length+2) (af) (av) rfl rfl (λ_ s=>(SC.i s s.r)) (λg3 x4=>(Qx (K:=K) (Uw qB qB))) (λg3 x4=>(Ya K qS λa7 v8=>(Yq (v8) (a7) rfl rfl))) λg11 x12=>(Xp qM))⟩⟩
def HS:=RI.1
theorem Vq:FnScope ["_law_drawing","_law_some","_law_walks","_law_signs","_law_at","_law_k","_law_far","_law_name"] ["_law_drawing","_law_some"] (Xg Ln):={}
abbrev IM (m:QDr->(List Int)->Rs (List Mx)):Prop:=Fn P w K mg base 2 "_law_curl" ["_law_drawing","_law_some"] (sp2 (rP2 (rV (rV Xf)) (rV (rP2 Xf Xf))) (rV Xf) (oF (rPL rMx)) m K)
noncomputable def LZ:{m // Pq λP w K mg base=>Def K mg "_law_curl" Ln ["_law_drawing","_law_some"]->ME P w K mg base HS->IM P w K mg base m}:=⟨_, @λP w K mg base Y Z D bw=>go2 D Vq 6 0 rfl rfl λhr hu aq=>⟨_,(Xb (Yt (pv 0) (ZT rfl (Xq (pgn Vq 2) (Xq (pgn Vq 3) YT))))
  (Xb (psn Vq 4 (Xk X0 (Xs K (pv 1) Xc) (Yp K Z.b_len (Xa (pv 2) Xd))))
  (Xb (psn Vq 5 (Xk X0 (Xs K (pv 1) Xc) (Xk Xy (Yp K Z.b_len (Xa (Xs K (pv 2) (pv 4)) Xd)) Xc)))
  (Xb (psn Vq 6 (Xs K (XC (Xa Xc (Xa Xc (Xa (Xk U8 Xc Xc) (Xa (Xk U8 Xc Xc) Xd))))) (Xk X0 (Xs K (pv 1) Xc) Xc)))
  (Xb (psn Vq 7 (pef bw hr (Xa (XD (YM K rfl rfl) rfl Z.b_dict PyProof.Rows.boot_dict (Xa (pv 3) Xd)) (Xa (Xk Xy Xc (Xk XT (Xs K (pv 1) Xc) (pv 6))) Xd))))
  (Xb (Xo (XH (Xa Xx (Xa (pv 4) (Xa (pv 5) (Xa (pv 7) (Xa (Xs K (XC (Xa Xx (Xa Xx Xd))) (Xs K (pv 1) Xc)) (Xa (Xk Zp (Xk XT Xc (Xs K (pv 1) Xc)) Xc) Xd))))))))
  Xe)))))),λac af ak av=>(Hk (K:=K) 2 3 qS λa1 v2 v3=>(Ya K qS λa4 v5=>(Ya K qS λa11 v12=>(Ya K qS λa22 v23=>(Ya K (r:=Xf) (EvB.sh (Ev.toB (EF (Ev.toB (Q1 ql)) qB))) λa43 v44=>(Xp (EvB.flat (Ev.toB (EvS.ev (ZV (r:=rMx) qa))))))))))⟩⟩
def Ew:=LZ.1
theorem QA:FnScope ["_law_drawing","_law_some","_law_walks","_law_signs","_law_names","_law_over","_law_k","_law_under","_law_free","_law_far","_law_one","_law_two","_law_to"] ["_law_drawing","_law_some"] (Xg Na):={}
abbrev RE (m:QDr->(List Int)->Rs (List Mx)):Prop:=Fn P w K mg base 2 "_law_lay" ["_law_drawing","_law_some"] (sp2 (rP2 (rV (rV Xf)) (rV (rP2 Xf Xf))) (rV Xf) (oF (rPL rMx)) m K)
noncomputable def Rf:{m // Pq λP w K mg base=>Def K mg "_law_lay" Na ["_law_drawing","_law_some"]->ME P w K mg base HS->RE P w K mg base m}:=⟨_, @λP w K mg base Y Z D bw=>go2 D QA 11 1 rfl rfl λhr hu aq=>⟨_,(Xb (Yt (pv 0) (ZT rfl (Xq (pgn QA 2) (Xq (pgn QA 3) YT))))
  (Xb (psn QA 4 (XD (YM K rfl rfl) rfl Z.b_dict PyProof.Rows.boot_dict (Xa (pv 3) Xd)))
  (Xb (psn QA 5 (Xk X0 (Xs K (pv 1) Xc) (Yp K Z.b_len (Xa (pv 2) Xd))))
  (Xb (JT (i:=6) QA.nd rfl (Or.inr rfl) (Xk X0 (Xs K (pv 1) Xc) (Xk Xy (Yp K Z.b_len (Xa (Xs K (pv 2) (pv 5)) Xd)) Xc)))
  (Xb (psn QA 7 (Xk X0 (Xs K (pv 1) Xc) (Yp K Z.b_len (Xa (pv 2) Xd))))
  (Xb (psn QA 8 (Ba rfl rfl rfl Z.b_list Z.b_range (Xa (Xk Xy (Yp K Z.b_len (Xa (Xs K (pv 2) (pv 7)) Xd)) Xc) Xd)))
  (Xb (XA (Xj XO (pv 7) (pv 5) (Xm _))
   (Xb (JE 8 (Xg Na) ["_law_drawing","_law_some","_law_walks","_law_signs","_law_names","_law_over","_law_k","_law_under","_law_free","_law_far","_law_one","_law_two","_law_to"] ["_law_j"] [(6,"_law_k")] rfl QA.nd rfl rfl (Yy rfl Z.b_range (Xa (Xk Xy (Yp K Z.b_len (Xa (Xs K (pv 2) (pv 5)) Xd)) Xc) Xd)) (YU (by decide)) (λcl C s H ex E=>⟨Yk (i:=0) (show List.Nodup (["_law_j","_law_k"]:List Str) by decide+kernel) rfl (Or.inl rfl),(Gp (Xj BV (pv 0) (Xk Xy (pv 1) Xc) (Xm _))),(pv 0)⟩))
   Xe)
   Xe)
  (Xb (psn QA 9 (Xs K (XC (Xa Xc (Xa Xc (Xa (Xk U8 Xc Xc) (Xa (Xk U8 Xc Xc) Xd))))) (Xk X0 (Xs K (pv 1) Xc) Xc)))
  (Xb (psn QA 10 (pef bw hr (Xa (pv 4) (Xa (Xk Xy Xc (Xk XT (Xs K (pv 1) Xc) (pv 9))) Xd))))
  (Xb (Ur aq (pv 4) (pv 10) Xc rfl)
  (Xb (psn QA 11 (pef bw hr (Xa (pv 4) (Xa (Xk Xy Xc (Xs K (pv 1) Xc)) Xd))))
  (Xb (psn QA 12 (Xs K (pv 8) (Xk X0 (Xs K (pv 1) Xc) (Yp K Z.b_len (Xa (pv 8) Xd)))))
  (Xb (Xo (XH (Xa Xx (Xa (pv 5) (Xa (pv 6) (Xa (pv 7) (Xa (pv 12) (Xa (pv 10) (Xa (pv 11) (Xa (XI XO (Xs K (pv 1) Xc) Xc (Xm _)) (Xa (Xk Zp (Xk XT Xc (Xs K (pv 1) Xc)) Xc) Xd)))))))))))
  Xe))))))))))))),λac af ak av=>(Hk (K:=K) 2 3 qS λa1 v2 v3=>(Zm K (o:=(oD Xf)) 0 (Q1 ql) λa4 v5 C6=>(Ya K qS λa8 v9=>(Ya K qS λa15 v16=>(Ya K qS λa26 v27=>(Ya K (r:=(rV Xf)) (Ev.sh (Bw qB)) λa33 v34=>(ZJ (λO (cW:V)=>[C6]) (λs cW=>[some ac,some af,some v2,some v3,some v5,some v9,some v16,some v27,some cW,none,none,none,none]) (λS (fL:(List Int)) cW=>(SC.add S K (rV Xf) cW fL)) (Yd (qt K) (Ya K (r:=(rV Xf)) (Ev.sh (Ue (λ_=>tg1 0) qw (λC54 a55 gL=>(qt K)) (λC54 a55 gL=>qM))) λa46 v47=>(Yq (v47) (a46) rfl rfl)) (Yq (v34) (a33) rfl rfl)) λg63 cX=>(Ya K qS λa64 v65=>(Ya K qS λhW v86=>(HI K qS qB λa98 C99=>(Ya K qS λjE v101=>(Ya K qS λgJ v110=>(Xp (EvB.flat (Ev.toB (EvS.ev (ZV (r:=rMx) qa)))))))))))))))))⟩⟩
def NX:=Rf.1
theorem UX:FnScope ["_law_script","_law_place","_law_drawing","_law_word","_law_some","_law_steps","_law_found","_law_move","_law_k","_law_behind"] ["_law_script","_law_place","_law_drawing","_law_word"] (Xg PB):={}
abbrev Pn (m:(List Int)->Int->QDr->Str->Rs (QDr×(List Mx))):Prop:=Fn P w K mg base 3 "_law_set" ["_law_script","_law_place","_law_drawing","_law_word"] (AA (rL Xf) Xf (rP2 (rV (rV Xf)) (rV (rP2 Xf Xf))) Kq (oF (rP2 (rP2 (rV (rV Xf)) (rV (rP2 Xf Xf))) (rPL rMx))) m K)
noncomputable def RL:{m // Pq λP w K mg base=>Def K mg "_law_set" PB ["_law_script","_law_place","_law_drawing","_law_word"]->HR P w K mg base Bc->IM P w K mg base Ew->KI P w K mg base V9->RE P w K mg base NX->T2 P w K mg base G1->Pn P w K mg base m}:=⟨_, @λP w K mg base Y Z D aS di aU dA bZ=>by
  refine Fa D UX (λvs H Q E h=>?_) (λf ah A outer s H vs Q E hr h=>?_)
  . obtain⟨ac,af,aV,eO,ak,av,b8,fH,b,rfl,_⟩:=h;rfl
  obtain⟨ac,af,aV,eO,ak,av,b8,fH,b,rfl,Cf,hw,da,dP,gD,h_3,hm,q⟩:=h
  have hu:=hu8 hr
  have aq:=VZ hr
  apply Exists.intro
  apply And.intro
  case left=>
   refine' Xb ?zq1 ?zq2
   case zq1=>
    refine' JT (i:=4) ?zq3 ?zq4 ?zq5 ?zq6
    case zq3=>
     exact UX.nd
    case zq4=>
     exact rfl
    case zq5=>
     exact(Or.inl rfl)
    case zq6=>
     refine' NE aS hr ?zq7 ?zq8
     case zq7=>
      exact(by decide)
     case zq8=>
      refine' Xa ?zq9 ?zq10
      case zq9=>
       exact(pv 0)
      case zq10=>
       refine' Xa ?zq11 ?zq12
       case zq11=>
        exact(pv 1)
       case zq12=>
        exact(Xa (XC (Xa Xc (Xa Xc (Xa Xc (Xa Xc (Xa Xc (Xa Xc (Xa Xc (Xa Xc (Xa Xc Xd)))))))))) Xd XU)
   case zq2=>
    refine' Xb ?zq13 ?zq14
    case zq13=>
     refine' XA ?zq15 ?zq16 ?zq17
     case zq15=>
      exact(Xj XO (pv 3) Xx (Xm _))
     case zq16=>
      refine' Xb ?zq18 ?zq19
      case zq18=>
       refine' JT (i:=5) ?zq20 ?zq21 ?zq22 ?zq23
       case zq20=>
        exact UX.nd
       case zq21=>
        exact rfl
       case zq22=>
        exact(Or.inl rfl)
       case zq23=>
        exact(Xk XT (Xk Zp (Xs K (pv 4) Xc) Xc) (Xs K (XC (Xa Xc (Xa Xc (Xa (Xk Xy (Xk U8 Xc Xc) Xc) Xd)))) (Xk X0 (Xs K (pv 4) Xc) Xc)))
      case zq19=>
       refine' Xb ?zq24 ?zq25
       case zq24=>
        refine' Xo ?zq26
        case zq26=>
         refine' XH ?zq27
         case zq27=>
          refine' Xa ?zq28 ?zq29
          case zq28=>
           exact(pv 2)
          case zq29=>
           refine' Xa ?zq30 ?zq31
           case zq30=>
            refine' XH ?zq32
            case zq32=>
             refine' Xa ?zq33 ?zq34
             case zq33=>
              exact Xx
             case zq34=>
              refine' Xa ?zq35 ?zq36
              case zq35=>
               exact(Xk X0 (Xs K (pv 4) Xc) (Yp K Z.b_len (Xa (Xl K (pv 2) Xc) Xd)))
              case zq36=>
               exact(Xa (pv 5) Xd)
           case zq31=>
            exact Xd
       case zq25=>
        exact Xe
     case zq17=>
      exact Xe
    case zq14=>
     refine' Xb ?zq37 ?zq38
     case zq37=>
      refine' XA ?zq39 ?zq40 ?zq41
      case zq39=>
       exact(Xj XO (pv 3) Xx (Xm _))
      case zq40=>
       refine' Xb ?zq42 ?zq43
       case zq42=>
        exact(psn UX 6 (pef aU hr (Xa (pv 2) Xd)))
       case zq43=>
        refine' Xb ?zq44 ?zq45
        case zq44=>
         refine' XA ?zq46 ?zq47 ?zq48
         case zq46=>
          exact(Xj UB (Yp K Z.b_len (Xa (pv 6) Xd)) Xc (Xm _))
         case zq47=>
          refine' Xb ?zq49 ?zq50
          case zq49=>
           refine' Xo ?zq51
           case zq51=>
            refine' XH ?zq52
            case zq52=>
             refine' Xa ?zq53 ?zq54
             case zq53=>
              exact(pv 2)
             case zq54=>
              refine' Xa ?zq55 ?zq56
              case zq55=>
               refine' VN (Y0 K rfl) ?zq57 ?zq58 (λ_ _=>rfl)
               case zq57=>
                exact(pv 6)
               case zq58=>
                exact(Xk X0 (Xs K (pv 4) Xc) (Yp K Z.b_len (Xa (pv 6) Xd)))
              case zq56=>
               exact Xd
          case zq50=>
           exact Xe
         case zq48=>
          exact Xe
        case zq45=>
         exact Xe
      case zq41=>
       exact Xe
     case zq38=>
      refine' Xb ?zq59 ?zq60
      case zq59=>
       refine' XA ?zq61 ?zq62 ?zq63
       case zq61=>
        exact(Xj XO (pv 3) Xx (Xm _))
       case zq62=>
        exact(Xb (Xo (XH (Xa (pv 2) (Xa (pef dA hr (Xa (pv 2) (Xa (pv 4) Xd))) Xd))))
      Xe)
       case zq63=>
        exact Xe
      case zq60=>
       refine' Xb ?zq64 ?zq65
       case zq64=>
        refine' XA ?zq66 ?zq67 ?zq68
        case zq66=>
         exact(Xj XO (pv 3) Xx (Xm _))
        case zq67=>
         refine' Xb ?zq69 ?zq70
         case zq69=>
          exact(psn UX 7 (pef dA hr (Xa (pv 2) (Xa (pv 4) Xd))))
         case zq70=>
          refine' Xb ?zq71 ?zq72
          case zq71=>
           refine' JT (i:=8) ?zq73 ?zq74 ?zq75 ?zq76
           case zq73=>
            exact UX.nd
           case zq74=>
            exact rfl
           case zq75=>
            exact(Or.inl rfl)
           case zq76=>
            exact(Xk Xy (Xl K (pv 7) Xc) (Xk XT Xc (XD QD rfl Z.b_int PyProof.Rows.boot_int (Xa (Qi (XI XO (Xl K (pv 7) Xc) (Xl K (pv 7) Xc) (Xm _)) (Qg (XI Hs (Xl K (pv 7) Xc) (Xl K (pv 7) Xc) (Xm _)))) Xd))))
          case zq72=>
           refine' Xb ?zq77 ?zq78
           case zq77=>
            exact(psn UX 9 (pef bZ hr (Xa (pv 2) (Xa (pv 7) Xd))))
           case zq78=>
            refine' Xb ?zq79 ?zq80
            case zq79=>
             refine' Xo ?zq81
             case zq81=>
              refine' XH ?zq82
              case zq82=>
               refine' Xa ?zq83 ?zq84
               case zq83=>
                exact(pv 9)
               case zq84=>
                refine' Xa ?zq85 ?zq86
                case zq85=>
                 refine' XH ?zq87
                 case zq87=>
                  refine' Xa ?zq88 ?zq89
                  case zq88=>
                   exact Xx
                  case zq89=>
                   refine' Xa ?zq90 ?zq91
                   case zq90=>
                    exact(Xl K (pv 7) Xc)
                   case zq91=>
                    exact(Xa (pv 8) (Xa (Xl K (pv 7) Xc) (Xa (Xl K (pv 7) Xc) Xd)))
                case zq86=>
                 exact Xd
            case zq80=>
             exact Xe
        case zq68=>
         exact Xe
       case zq65=>
        refine' Xb ?zq92 ?zq93
        case zq92=>
         exact(psn UX 7 (pef di hr (Xa (pv 2) (Xa (pv 4) Xd))))
        case zq93=>
         refine' Xb ?zq94 ?zq95
         case zq94=>
          refine' XA ?zq96 ?zq97 ?zq98
          case zq96=>
           exact(Xj XO (pv 3) Xx (Xm _))
          case zq97=>
           refine' Xb ?zq99 ?zq100
           case zq99=>
            refine' Xo ?zq101
            case zq101=>
             refine' XH ?zq102
             case zq102=>
              refine' Xa ?zq103 ?zq104
              case zq103=>
               exact(pef bZ hr (Xa (pv 2) (Xa (pv 7) Xd)))
              case zq104=>
               exact(Xa (XH (Xa Xx (Xa (Xl K (pv 7) Xc) (Xa (Xl K (pv 7) Xc) Xd)))) Xd)
           case zq100=>
            exact Xe
          case zq98=>
           exact Xe
         case zq95=>
          exact(Xb (Xo (XH (Xa (pv 2) (Xa (pv 7) Xd))))
    Xe)
  refine Oo (S:=(SC.add (SC.add (SC.add (SC.add SC.nil K (rL Xf) ac ak) K Xf af av) K (rP2 (rV (rV Xf)) (rV (rP2 Xf Xf))) aV b8) K Kq eO fH)) (U:=[some ac,some af,some aV,some eO,none,none,none,none,none,none]) 1 ?_ hw (SC.i (SC.i (SC.i (SC.i SC.t da) dP) gD) h_3) hm q rfl
  exact(Ya K qS λa1 v2=>(Kz (qt K) (Ya K qS λa29 v30=>(Q0 (K:=K) 1 rfl (EvS.ev (Zf qS (EvB.sh (Ev.toB (EvS.ev (ZV (r:=rMx) qa)))))))) (Sn K (λO (de:Option V)=>[[],Cf]) (λs de=>[some ac,some af,some aV,some eO,some v2,none,de,none,none,none]) (λS (i9:Unit) de=>S) (Yd (qt K) (Ya K qS λa77 v78=>(MP (qt K) (Q0 (K:=K) 1 rfl qM) (E9 (Yq ((some v78)) () rfl rfl)))) (E9 (Yq ((none)) () rfl rfl))) λg98 je=>(Kz (qt K) (Q0 (K:=K) 1 rfl qM) (Kz (qt K) (Ya K qS λa110 v111=>(Ya K qS λa115 v116=>(Zm K 0 qN λa136 v137 C138=>(Oe (K:=K) (o:=(oT2 (oL (oL (oF Xf))) (oL (oF (rP2 Xf Xf))))) 0 rfl (λ_ s=>s.r) (Q0 (K:=K) 1 rfl (EvS.ev (Zf qS (EvB.sh (Ev.toB (EvS.ev (ZV (r:=rMx) qa))))))))))) (Ya K qS λa166 v167=>(Kz (qt K) (Q0 (K:=K) 1 rfl (EvS.ev (Zf qS (EvB.sh (Ev.toB (EvS.ev (ZV (r:=rMx) qa))))))) (Q0 (K:=K) 1 rfl qM))))))))⟩
def Lp:=RL.1
theorem Vv:FnScope ["_law_script","_law_words","_law_some","_law_drawing","_law_ahead","_law_move"] ["_law_script","_law_words"] (Xg LG):={}
abbrev Lb (m:(List Int)->(List Str)->Rs (QDr×(List Mx))):Prop:=Fn P w K mg base 4 "_law_both" ["_law_script","_law_words"] (Ap (rL Xf) (rV Kq) (oF (rP2 (rP2 (rV (rV Xf)) (rV (rP2 Xf Xf))) (rPL rMx))) m K)
noncomputable def Lo:{m // Pq λP w K mg base=>Def K mg "_law_both" LG ["_law_script","_law_words"]->HR P w K mg base Bc->Ec P w K mg base FU->Pn P w K mg base Lp->T2 P w K mg base G1->Lb P w K mg base m}:=⟨_, @λP w K mg base Y Z D aS cE dB bZ=>by
 refine Fa D Vv (λvs H Q E h=>?_) (λf ah A outer s H vs Q E hr h=>?_)
 ·obtain⟨ac,af,ak,av,b,rfl,_⟩:=h;rfl
 obtain⟨ac,af,ak,av,b,rfl,Cf,hw,da,dP,hm,q⟩:=h
 have hu:=hu8 hr
 have aq:=VZ hr
 refine⟨_,(Xb (psn Vv 2 (pef aS hr (Xa (pv 0) (Xa Xc (Xa (XC (Xa Xc (Xa Xc (Xa Xc Xd)))) Xd XU)))))
  (Xb (psn Vv 3 (pef cE hr (Xa (pv 0) (Xa Xc Xd))))
  (Xb (XA (Xj XO (Xs K (pv 2) Xc) Xc (Xm _))
   (Xb (psn Vv 4 (Xs K (XC (Xa Xx (Xa Xx (Xa Xx (Xa Xx Xd))))) (Xk X0 (Xs K (pv 2) Xc) Xc)))
   (Xb (Yt (pef dB hr (Xa (pv 0) (Xa Xc (Xa (pv 3) (Xa (pv 4) Xd))))) (ZT rfl (Xq (pgn Vv 3) (Xq (pgn Vv 5) YT))))
   (Xb (psn Vv 3 (pef bZ hr (Xa (pv 3) (Xa (pv 5) Xd))))
   Xe)))
   Xe)
  (Xb (Xo (pef dB hr (Xa (pv 0) (Xa Xc (Xa (pv 3) (Xa (Xs K (pv 1) (Xk X0 (Xs K (pv 2) Xc) (Yp K Z.b_len (Xa (pv 1) Xd)))) Xd))))))
  Xe)))),?_⟩
 refine Oo (S:=(SC.add (SC.add SC.nil K (rL Xf) ac ak) K (rV Kq) af av)) (U:=[some ac,some af,none,none,none,none]) 0 ?_ hw (SC.i (SC.i SC.t da) dP) hm q rfl
 exact(Ya K qS λa1 v2=>(Ya K qS λdh gF=>(ZJ (λO (bv:Option V×V×Option V)=>[Cf]) (λs bv=>[some ac,some af,some v2,some bv.2.1,bv.1,bv.2.2]) (λS (gA:QDr) bv=>(SC.add S K (rP2 (rV (rV Xf)) (rV (rP2 Xf Xf))) bv.2.1 gA)) (Yd (qt K) (Ya K qS λa26 v27=>(Hk (K:=K) 3 5 (Ev.sh (Cm qS qS qS qS)) λi8 fJ v50=>(Ya K qS λa51 js=>(Yq ((some v27),js,(some v50)) (a51) rfl rfl)))) (Yq ((none),gF,(none)) (dh) rfl rfl)) λg57 x56=>(Q0 (K:=K) 0 rfl (Cm qS qS qS qS)))))⟩
def Hd:=Lo.1
theorem PR:FnScope ["_law_drawing"] ["_law_drawing"] (Xg EC):={}
abbrev ED (m:QDr->Rs QDr):Prop:=Fn P w K mg base 1 "_law_copy" ["_law_drawing"] (sp1 (rP2 (rV (rV Xf)) (rV (rP2 Xf Xf))) (oT2 (oL (oL (oF Xf))) (oL (oF (rP2 Xf Xf)))) m K)
noncomputable def Mi:{m // Pq λP w K mg base=>Def K mg "_law_copy" EC ["_law_drawing"]->ED P w K mg base m}:=⟨_, @λP w K mg base Y Z D=>go1 D PR 0 0 rfl rfl λhr hu aq=>⟨_,(Xb (Xo (XH (Xa (Qd (sc:=(Xg EC)) (N0:=["_law_drawing"]) (tns:=["_law_walk"]) (caps:=[]) rfl (XF (K:=K) rfl (Xl K (pv 0) Xc)) (YU (by decide)) (λcl C s H ex E=>⟨Yk (i:=0) (show List.Nodup (["_law_walk"]:List Str) by decide+kernel) rfl (Or.inl rfl),ZP,(XD (XW K rfl) rfl Z.b_list PyProof.Rows.boot_list (Xa (pv 0) Xd))⟩)) (Xa (XD (XW K rfl) rfl Z.b_list PyProof.Rows.boot_list (Xa (Xl K (pv 0) Xc) Xd)) Xd))))
  Xe),λac ak=>(Xp (Zg (ZN (λ_=>tg1 0) qw (λC2 a3 v4=>qN)) λ_=>qN))⟩⟩
def KQ:=Mi.1
theorem Eh:FnScope ["_law_one"] ["_law_one"] (Xg UH):={}
abbrev Ut (m:Int->Rs Bool):Prop:=Fn P w K mg base 1 "_law_is_whole" ["_law_one"] (sp1 Xf (oF Xw) m K)
noncomputable def UR:{m // Pq λP w K mg base=>Def K mg "_law_is_whole" UH ["_law_one"]->Ut P w K mg base m}:=⟨_, @λP w K mg base Y Z D=>go1 D Eh 0 0 rfl rfl λhr hu aq=>⟨_,(Xb (Xo (Qi (Xt Yl rfl Z.b_isinstance PyProof.Rows.boot_isinstance (Xa (pv 0) (Xa (Qu (v:=V.ty "int") rfl Z.b_int PyProof.Rows.boot_int rfl) Xd))) (Qg (OQ (Xt Yl rfl Z.b_isinstance PyProof.Rows.boot_isinstance (Xa (pv 0) (Xa (Qu (v:=V.ty "bool") rfl Z.b_bool PyProof.Rows.boot_bool rfl) Xd)))))))
  Xe),λac ak=>(Xp (EvS.ev (EvB.sh (YY (Y4 "int" true (ZW K "int") qB) (Ey (Y4 "bool" false (UY K) qB))))))⟩⟩
def UG:=UR.1
theorem ZY:FnScope ["_law_found","_law_walk","_law_one","_law_entry"] ["_law_found"] (Xg JG):={}
abbrev Jv (m:QDr->Rs Bool):Prop:=Fn P w K mg base 2 "_law_is_drawing" ["_law_found"] (sp1 (rP2 (rV (rV Xf)) (rV (rP2 Xf Xf))) (oF Xw) m K)
noncomputable def JO:{m // Pq λP w K mg base=>Def K mg "_law_is_drawing" JG ["_law_found"]->Ut P w K mg base UG->Jv P w K mg base m}:=⟨_, @λP w K mg base Y Z D aM=>go1 D ZY 3 0 rfl rfl λhr hu aq=>⟨_,(Xb (XA (PW.pt (Zv (Zq (Yx (Xt Yl rfl Z.b_isinstance PyProof.Rows.boot_isinstance (Xa (pv 0) (Xa (Qu (v:=V.ty "tuple") rfl Z.b_tuple PyProof.Rows.boot_tuple rfl) Xd))))) (Zl (Xj BV (Yp K Z.b_len (Xa (pv 0) Xd)) Xc (Xm _)))))
   (Xb (Xo Y2)
   Xe)
   Xe)
  (Xb (XA (PW.pt (Zv (Zq (Yx (Xt Yl rfl Z.b_isinstance PyProof.Rows.boot_isinstance (Xa (Xl K (pv 0) Xc) (Xa (Qu (v:=V.ty "list") rfl Z.b_list PyProof.Rows.boot_list rfl) Xd))))) (Zl (Zq (Yx (Xt Yl rfl Z.b_isinstance PyProof.Rows.boot_isinstance (Xa (Xl K (pv 0) Xc) (Xa (Qu (v:=V.ty "list") rfl Z.b_list PyProof.Rows.boot_list rfl) Xd))))))))
   (Xb (Xo Y2)
   Xe)
   Xe)
  (Xb (psf (XF (K:=K) rfl (Xl K (pv 0) Xc)) (pgn ZY 1)
   (Xb (XA (Zq (Yx (Xt Yl rfl Z.b_isinstance PyProof.Rows.boot_isinstance (Xa (pv 1) (Xa (Qu (v:=V.ty "list") rfl Z.b_list PyProof.Rows.boot_list rfl) Xd)))))
    (Xb (Xo Y2)
    Xe)
    Xe)
   (Xb (psf (XF (K:=K) rfl (pv 1)) (pgn ZY 2)
    (Xb (XA (Zq (Yx (pef aM hr (Xa (pv 2) Xd))))
     (Xb (Xo Y2)
     Xe)
     Xe)
    Xe))
   Xe)))
  (Xb (psf (XF (K:=K) rfl (Xl K (pv 0) Xc)) (pgn ZY 3)
   (Xb (XA (PW.pt (Zv (Zq (Yx (Xt Yl rfl Z.b_isinstance PyProof.Rows.boot_isinstance (Xa (pv 3) (Xa (Qu (v:=V.ty "tuple") rfl Z.b_tuple PyProof.Rows.boot_tuple rfl) Xd))))) (Zl (Xj BV (Yp K Z.b_len (Xa (pv 3) Xd)) Xc (Xm _)))))
    (Xb (Xo Y2)
    Xe)
    Xe)
   (Xb (XA (PW.pt (Zv (Zq (Yx (pef aM hr (Xa (Xl K (pv 3) Xc) Xd)))) (Zl (Zq (Yx (pef aM hr (Xa (Xl K (pv 3) Xc) Xd)))))))
    (Xb (Xo Y2)
    Xe)
    Xe)
   Xe)))
  (Xb (Xo Y2)
  Xe))))),λac ak=>(XN (YK (Jb (Qx (K:=K) (Y4 "tuple" true (ZW K "tuple") qB))) (Xz (K:=K) (GB (LX qB) qB))) (Xp qM) (XN (YK (Jb (Qx (K:=K) (Y4 "list" true (ZW K "list") qB))) (Jb (Qx (K:=K) (Y4 "list" true (ZW K "list") qB)))) (Xp qM) (O4 K (λO (cJ:Option V×Option V)=>[]) (λs cJ=>[some ac,cJ.1,cJ.2,none]) (λS (g16:Unit) cJ=>S) (λ_=>tg1 1) ((none),(none)) () qw rfl rfl (λ_ s=>s) (λfO dU iY v20=>(K3 (Jb (Qx (K:=K) (Y4 "list" true (ZW K "list") qB))) (Xp qM) (Tc K (λO (bv:Option V)=>[]) (λs bv=>[some ac,some v20,bv,none]) (λS (gA:Unit) bv=>S) (λ_=>tg1 2) ((dU.2)) () qw rfl rfl (λ_ s=>s) (λg26 cP gz e7=>(K3 (qt K) (Xp qM) (EX (Yq ((some e7)) () rfl rfl)))) λg36 x37=>(EX (Yq ((some v20),(x37)) () rfl rfl))))) λg41 fN=>(O4 K (λO (cW:Option V)=>[]) (λs cW=>[some ac,fN.1,fN.2,cW]) (λS (fL:Unit) cW=>S) (λ_=>tg1 3) ((none)) () qw rfl rfl (λ_ s=>s) (λg46 bC i8 fJ=>(K3 (YK (Jb (Qx (K:=K) (Y4 "tuple" true (ZW K "tuple") qB))) (qt K)) (Xp qM) (K3 (qt K) (Xp qM) (EX (Yq ((some fJ)) () rfl rfl))))) λg69 x70=>(Xp qM)))))⟩⟩
def ZG:=JO.1
theorem Z1:FnScope ["_law_walks","_law_found","_law_at","_law_k","_law_one","_law_two"] ["_law_walks"] (Xg GQ):={}
abbrev Gc (m:QLs->Rs (List (List Mx))):Prop:=Fn P w K mg base 2 "_law_uncurls" ["_law_walks"] (sp1 (rV (rV Xf)) (oL (oF (rPL rMx))) m K)
noncomputable def GU:{m // Pq λP w K mg base=>Def K mg "_law_uncurls" GQ ["_law_walks"]->GJ P w K mg base UO->Gc P w K mg base m}:=⟨_, @λP w K mg base Y Z D aF=>go1 D Z1 5 1 rfl rfl λhr hu aq=>⟨_,(Xb (psn Z1 1 (XC Xd))
  (Xb (psf (XF (K:=K) rfl (pef aF hr (Xa (pv 0) Xd))) (ZT rfl (Xq (pgn Z1 2) (Xq (pgn Z1 3) (Xq (pgn Z1 4) (Xq (pgn Z1 5) YT)))))
   (Xb (XA (Xj XO (pv 4) (Yj XJ (pv 5)) (Xm _))
    (Xb (XY (Jh PySem.F.plainAttrs_list PySem.F.slot_list_append PySem.F.type_list_append Yb (pv 1) (Xa (XH (Xa Xx (Xa (pv 2) (Xa (pv 3) Xd)))) Xd)))
    Xe)
    Xe)
   Xe))
  (Xb (Xo (pv 1))
  Xe))),λac ak=>(Zm K (o:=(oL (oF (rPL rMx)))) 0 (Kf (o:=(oF (rPL rMx)))) λa1 v2 C3=>(Fj K (λO (x6:Option V×Option V×Option V×Option V×V×List XG)=>[x6.2.2.2.2.2]) (λs x6=>[some ac,some x6.2.2.2.2.1,x6.1,x6.2.1,x6.2.2.1,x6.2.2.2.1]) (λS (g7:(List (List Mx))) x6=>(SC.addO S K (oL (oF (rPL rMx))) x6.2.2.2.2.1 g7 x6.2.2.2.2.2)) (λ_=>tg4 2 3 4 5) ((none),(none),(none),(none),v2,C3) (a1) qw rfl rfl (λ_ s=>(SC.i s s.r)) (λg8 x9 fM bP=>(ZJ (λO (ax:V×List XG)=>[ax.2]) (λs ax=>[some ac,some ax.1,some bP.1,some bP.2.1,some bP.2.2.1,some bP.2.2.2]) (λS (fO:(List (List Mx))) ax=>(SC.addO S K (oL (oF (rPL rMx))) ax.1 fO ax.2)) (Yd (qt K) (EA K (EvB.flat (Ev.toB (EvS.ev (ZV (r:=rMx) qa)))) λa30 C29=>(Yq (x9.2.2.2.2.1,C29) (a30) rfl rfl)) (Yq (x9.2.2.2.2.1,x9.2.2.2.2.2) (g8) rfl rfl)) λfK dk=>(Yq ((some bP.1),(some bP.2.1),(some bP.2.2.1),(some bP.2.2.2),dk.1,dk.2) (fK) rfl rfl))) λg33 x34=>(Xp JS)))⟩⟩
def VY:=GU.1
theorem YA:FnScope ["_law_drawing","_law_signs","_law_pairs_here","_law_found","_law_at","_law_k","_law_one","_law_two","_law_to","_law_j","_law_low","_law_last"] ["_law_drawing"] (Xg DH):={}
abbrev FV (m:QDr->Rs (List (List Mx))):Prop:=Fn P w K mg base 2 "_law_unlays" ["_law_drawing"] (sp1 (rP2 (rV (rV Xf)) (rV (rP2 Xf Xf))) (oL (oF (rPL rMx))) m K)
noncomputable def FZ:{m // Pq λP w K mg base=>Def K mg "_law_unlays" DH ["_law_drawing"]->GJ P w K mg base UO->FV P w K mg base m}:=⟨_, @λP w K mg base Y Z D aF=>go1 D YA 11 1 rfl rfl λhr hu aq=>⟨_,(Xb (psn YA 1 (XD (YM K rfl rfl) rfl Z.b_dict PyProof.Rows.boot_dict (Xa (Xl K (pv 0) Xc) Xd)))
  (Xb (psn YA 2 (pef aF hr (Xa (Xl K (pv 0) Xc) Xd)))
  (Xb (psn YA 3 (XC Xd))
  (Xb (psf (XF (K:=K) rfl (pv 2)) (ZT rfl (Xq (pgn YA 4) (Xq (pgn YA 5) (Xq (pgn YA 6) (Xq (pgn YA 7) YT)))))
   (Xb (XA (PW.pt (U4 (Xj UB (pv 6) Xc (Xm _)) (U4 (Xj UB (pv 7) Xc (Xm _)) (VO (Xj XO (Up aq (pv 1) (pv 6) (λ_ _=>rfl)) (Yj XJ (Up aq (pv 1) (pv 7) (λ_ _=>rfl))) (Xm _))))))
    (Xb (psf (XF (K:=K) rfl (pv 2)) (ZT rfl (Xq (pgn YA 8) (Xq (pgn YA 9) (Xq (pgn YA 10) (Xq (pgn YA 11) YT)))))
     (Xb (XA (Xj (Ix K rfl (HN eq_int) (Vt (by decide) hu)) (Xt (YC K rfl) rfl Z.b_sorted PyProof.Rows.boot_sorted (Xa (XC (Xa (Yj XJ (pv 10)) (Xa (Yj XJ (pv 11)) Xd))) Xd XU)) (Xt (YC K rfl) rfl Z.b_sorted PyProof.Rows.boot_sorted (Xa (XC (Xa (pv 6) (Xa (pv 7) Xd))) Xd XU)) (Xm _))
      (Xb (XY (Jh PySem.F.plainAttrs_list PySem.F.slot_list_append PySem.F.type_list_append Yb (pv 3) (Xa (XH (Xa Xx (Xa (pv 4) (Xa (pv 5) (Xa (pv 8) (Xa (pv 9) Xd)))))) Xd)))
      Xe)
      Xe)
     Xe))
    Xe)
    Xe)
   Xe))
  (Xb (Xo (pv 3))
  Xe))))),λac ak=>(Ya K (r:=(rD Xf)) (Ev.sh (Q1 ql)) λa1 v2=>(Ya K qS λa5 v6=>(Zm K (o:=(oL (oF (rPL rMx)))) 0 (Kf (o:=(oF (rPL rMx)))) λfM bP hV=>(Fj K (λO (aI:Option V×Option V×Option V×Option V×Option V×Option V×Option V×Option V×V×List XG)=>[aI.2.2.2.2.2.2.2.2.2]) (λs aI=>[some ac,some v2,some v6,some aI.2.2.2.2.2.2.2.2.1,aI.1,aI.2.1,aI.2.2.1,aI.2.2.2.1,aI.2.2.2.2.1,aI.2.2.2.2.2.1,aI.2.2.2.2.2.2.1,aI.2.2.2.2.2.2.2.1]) (λS (fq:(List (List Mx))) aI=>(SC.addO S K (oL (oF (rPL rMx))) aI.2.2.2.2.2.2.2.2.1 fq aI.2.2.2.2.2.2.2.2.2)) (λ_=>tg4 4 5 6 7) ((none),(none),(none),(none),(none),(none),(none),(none),bP,hV) (fM) qw rfl rfl (λ_ s=>(SC.i s s.r)) (λdO ax gU v18=>(ZJ (λO (dk:Option V×Option V×Option V×Option V×V×List XG)=>[dk.2.2.2.2.2]) (λs dk=>[some ac,some v2,some v6,some dk.2.2.2.2.1,some v18.1,some v18.2.1,some v18.2.2.1,some v18.2.2.2,dk.1,dk.2.1,dk.2.2.1,dk.2.2.2.1]) (λS (fK:(List (List Mx))) dk=>(SC.addO S K (oL (oF (rPL rMx))) dk.2.2.2.2.1 fK dk.2.2.2.2.2)) (Yd (K7 (qt K) (K7 (qt K) (Xz (K:=K) (Je (Vd qB qB) (Vo (Vd qB qB)))))) (Fj K (λO (bz:Option V×Option V×Option V×Option V×V×List XG)=>[bz.2.2.2.2.2]) (λs bz=>[some ac,some v2,some v6,some bz.2.2.2.2.1,some v18.1,some v18.2.1,some v18.2.2.1,some v18.2.2.2,bz.1,bz.2.1,bz.2.2.1,bz.2.2.2.1]) (λS (g34:(List (List Mx))) bz=>(SC.addO S K (oL (oF (rPL rMx))) bz.2.2.2.2.1 g34 bz.2.2.2.2.2)) (λ_=>tg4 8 9 10 11) ((ax.2.2.2.2.1),(ax.2.2.2.2.2.1),(ax.2.2.2.2.2.2.1),(ax.2.2.2.2.2.2.2.1),ax.2.2.2.2.2.2.2.2.1,ax.2.2.2.2.2.2.2.2.2) (dO) qw rfl rfl (λ_ s=>(SC.i s s.l.l.l.l.r)) (λg35 x36 a37 v38=>(ZJ (λO (fP:V×List XG)=>[fP.2]) (λs fP=>[some ac,some v2,some v6,some fP.1,some v18.1,some v18.2.1,some v18.2.2.1,some v18.2.2.2,some v38.1,some v38.2.1,some v38.2.2.1,some v38.2.2.2]) (λS (g59:(List (List Mx))) fP=>(SC.addO S K (oL (oF (rPL rMx))) fP.1 g59 fP.2)) (Yd (Xz (K:=K) (Ld (Ev.toB (JX ql)) (Ev.toB (JX ql)))) (EA K (EvB.flat (Ev.toB (EvS.ev (ZV (r:=rMx) qa)))) λa78 C77=>(Yq (x36.2.2.2.2.1,C77) (a78) rfl rfl)) (Yq (x36.2.2.2.2.1,x36.2.2.2.2.2) (g35) rfl rfl)) λg80 jF=>(Yq ((some v38.1),(some v38.2.1),(some v38.2.2.1),(some v38.2.2.2),jF.1,jF.2) (g80) rfl rfl))) λjg fQ=>(Yq ((fQ.1),(fQ.2.1),(fQ.2.2.1),(fQ.2.2.2.1),fQ.2.2.2.2.1,fQ.2.2.2.2.2) (jg) rfl rfl)) (Yq ((ax.2.2.2.2.1),(ax.2.2.2.2.2.1),(ax.2.2.2.2.2.2.1),(ax.2.2.2.2.2.2.2.1),ax.2.2.2.2.2.2.2.2.1,ax.2.2.2.2.2.2.2.2.2) (dO) rfl rfl)) λg85 fR=>(Yq ((some v18.1),(some v18.2.1),(some v18.2.2.1),(some v18.2.2.2),(fR.1),(fR.2.1),(fR.2.2.1),(fR.2.2.2.1),fR.2.2.2.2.1,fR.2.2.2.2.2) (g85) rfl rfl))) λg86 jG=>(Xp JS)))))⟩⟩
def KG:=FZ.1
theorem Yi:FnScope ["_law_walks","_law_signs","_law_move","_law_over","_law_k","_law_under","_law_to","_law_one","_law_two","_law_crossed","_law_sign","_law_longest"] ["_law_walks","_law_signs","_law_move"] (Xg UJ):={}
abbrev UA (m:QLs->QPs->(List Mx)->Rs Bool):Prop:=Fn P w K mg base 1 "_law_lay_fits" ["_law_walks","_law_signs","_law_move"] (sp3 (rV (rV Xf)) (rD Xf) (rPL rMx) (oF Xw) m K)
noncomputable def Uy:{m // Pq λP w K mg base=>Def K mg "_law_lay_fits" UJ ["_law_walks","_law_signs","_law_move"]->UA P w K mg base m}:=⟨_, @λP w K mg base Y Z D=>go3 D Yi 9 0 rfl rfl λhr hu aq=>⟨_,(Xb (Yt (XB (Y1 K rfl) (pv 2) (XE Xc) XV) (ZT rfl (Xq (pgn Yi 3) (Xq (pgn Yi 4) (Xq (pgn Yi 5) (Xq (pgn Yi 6) (Xq (pgn Yi 7) (Xq (pgn Yi 8) (Xq (pgn Yi 9) (Xq (pgn Yi 10) YT))))))))))
  (Xb (XA (PW.pt (Zv (Vl (GS (.inr ⟨rfl,rfl⟩) rfl Z.b_range (pv 3) (Xa (Yp K Z.b_len (Xa (pv 0) Xd)) Xd))) (Zl (Vl (GS (.inr ⟨rfl,rfl⟩) rfl Z.b_range (pv 5) (Xa (Yp K Z.b_len (Xa (pv 0) Xd)) Xd))))))
   (Xb (Xo Y2)
   Xe)
   Xe)
  (Xb (XA (Vl (GS (.inr ⟨rfl,rfl⟩) rfl Z.b_range (pv 4) (Xa (Xk Xy (Yp K Z.b_len (Xa (Xs K (pv 0) (pv 3)) Xd)) Xc) Xd)))
   (Xb (Xo Y2)
   Xe)
   Xe)
  (Xb (psn Yi 11 (Xk Xy (Yp K Z.b_len (Xa (Xs K (pv 0) (pv 5)) Xd)) (Xk XT Xc (XD QD rfl Z.b_int PyProof.Rows.boot_int (Xa (XI XO (pv 3) (pv 5) (Xm _)) Xd)))))
  (Xb (XA (PW.pt (Zv (Vl (GS (.inr ⟨rfl,rfl⟩) rfl Z.b_range (pv 6) (Xa (Xk Xy (pv 11) Xc) Xd))) (Zl (PW.pt (U4 (Xj XO (pv 3) (pv 5) (Xm _)) (VO (Xj XO (pv 6) (Xk Xy (pv 4) Xc) (Xm _))))))))
   (Xb (Xo Y2)
   Xe)
   Xe)
  (Xb (XA (PW.pt (Zv (Xj Js (pv 7) Xc (Xm _)) (Zv (Xj Js (pv 8) Xc (Xm _)) (Zv (Xj XO (pv 7) (pv 8) (Xm _)) (Zv (Vl (Fz aq (pv 7) (pv 1))) (Zl (Vl (Fz aq (pv 8) (pv 1)))))))))
   (Xb (Xo Y2)
   Xe)
   Xe)
  (Xb (Xo (Qi (XI (ZZ K rfl) (pv 10) (XH (Xa Xc (Xa (Yj XJ Xc) Xd))) rfl) (Qg (XI Hs (Xt KW rfl Z.b_len boot_len (Xa (pv 1) Xd)) Xc (Xm _)))))
  Xe))))))),λac af aV ak av b8=>(Ng (K:=K) 3 4 5 6 7 8 9 10 qB λa5 v7 v8 v9 v10 bP v12 hX v14=>(XN (YK (Qx (K:=K) (Vs (f:=not) qB qB)) (Qx (K:=K) (Vs (f:=not) qB qB))) (Xp qM) (XN (Qx (K:=K) (Vs (f:=not) qB qB)) (Xp qM) (Ya K qS λa30 v31=>(XN (YK (Qx (K:=K) (Vs (f:=not) qB qB)) (qt K)) (Xp qM) (XN (YK (qt K) (YK (qt K) (YK (qt K) (YK (Qx (K:=K) (Uw qB qB)) (Qx (K:=K) (Uw qB qB)))))) (Xp qM) (Xp (EvS.ev (EvB.sh (YY (JI qB (UD (Ev.toB qM))) (OD (DF qB) qB)))))))))))⟩⟩
def Um:=Uy.1
theorem VT:FnScope ["_law_drawing","_law_move","_law_walks","_law_signs","_law_word","_law_at","_law_k","_law_name","_law_first","_law_sign"] ["_law_drawing","_law_move"] (Xg RD):={}
abbrev Ry (m:QDr->(List Mx)->Rs Bool):Prop:=Fn P w K mg base 3 "_law_due" ["_law_drawing","_law_move"] (sp2 (rP2 (rV (rV Xf)) (rV (rP2 Xf Xf))) (rPL rMx) (oF Xw) m K)
noncomputable def Bs:{m // Pq λP w K mg base=>Def K mg "_law_due" RD ["_law_drawing","_law_move"]->UA P w K mg base Um->Gc P w K mg base VY->FV P w K mg base KG->KI P w K mg base V9->Ry P w K mg base m}:=⟨_, @λP w K mg base Y Z D bB bK b6 aU=>go2 D VT 8 0 rfl rfl λhr hu aq=>⟨_,(Xb (psn VT 2 (Xl K (pv 0) Xc))
  (Xb (psn VT 3 (XD (YM K rfl rfl) rfl Z.b_dict PyProof.Rows.boot_dict (Xa (Xl K (pv 0) Xc) Xd)))
  (Xb (XA (Xj XO (Xl K (pv 1) Xc) Xx (Xm _))
   (Xb (Xo (Ik (GS (.inl ⟨rfl,rfl⟩) rfl Z.b_range (Xl K (pv 1) Xc) (Xa (Yp K Z.b_len (Xa (pv 2) Xd)) Xd))))
   Xe)
   Xe)
  (Xb (XA (Xj XO (Xl K (pv 1) Xc) Xx (Xm _))
   (Xb (Xo (XI (IS K rfl (Vt (by decide) hu)) (pv 1) (pef bK hr (Xa (pv 2) Xd)) rfl))
   Xe)
   Xe)
  (Xb (XA (Xj XO (Xl K (pv 1) Xc) Xx (Xm _))
   (Xb (Xo (XI (IS K rfl (Vt (by decide) hu)) (pv 1) (pef b6 hr (Xa (pv 0) Xd)) rfl))
   Xe)
   Xe)
  (Xb (XA (Xj XO (Xl K (pv 1) Xc) Xx (Xm _))
   (Xb (Xo (XI (IS K rfl (Vt (by decide) hu)) (pv 1) (pef aU hr (Xa (pv 0) Xd)) rfl))
   Xe)
   Xe)
  (Xb (XA (Xj XO (Xl K (pv 1) Xc) Xx (Xm _))
   (Xb (Xo (pef bB hr (Xa (pv 2) (Xa (pv 3) (Xa (pv 1) Xd)))))
   Xe)
   Xe)
  (Xb (Yt (pv 1) (ZT rfl (Xq (pgn VT 4) (Xq (pgn VT 5) (Xq (pgn VT 6) (Xq (pgn VT 7) (Xq (pgn VT 8) (Xq (pgn VT 9) YT))))))))
  (Xb (XA (PW.pt (Zv (Vl (GS (.inr ⟨rfl,rfl⟩) rfl Z.b_range (pv 5) (Xa (Yp K Z.b_len (Xa (pv 2) Xd)) Xd))) (Zl (Vl (GS (.inr ⟨rfl,rfl⟩) rfl Z.b_range (pv 6) (Xa (Xk Xy (Yp K Z.b_len (Xa (Xs K (pv 2) (pv 5)) Xd)) Xc) Xd))))))
   (Xb (Xo Y2)
   Xe)
   Xe)
  (Xb (XA (PW.pt (Zv (Xj Js (pv 7) Xc (Xm _)) (Zv (Vl (Fz aq (pv 7) (pv 3))) (Zl (Xj UB (Xt KW rfl Z.b_len boot_len (Xa (pv 3) Xd)) Xc (Xm _))))))
   (Xb (Xo Y2)
   Xe)
   Xe)
  (Xb (Xo (Qi (XI (ZZ K rfl) (pv 8) (XH (Xa Xx (Xa Xx Xd))) rfl) (Qg (XI (ZZ K rfl) (pv 9) (XH (Xa Xc (Xa (Yj XJ Xc) Xd))) rfl))))
  Xe))))))))))),λac af ak av=>(Ya K qS λa1 v2=>(Ya K (r:=(rD Xf)) (Ev.sh (Q1 ql)) λa4 v5=>(XN (qt K) (Xp (EvS.ev (EvB.sh (Vs (f:=id) qb qB)))) (XN (qt K) (Xp (EvS.ev (EvB.sh (B9 qB qB)))) (XN (qt K) (Xp (EvS.ev (EvB.sh (B9 qB qB)))) (XN (qt K) (Xp (EvS.ev (EvB.sh (B9 qB qB)))) (XN (qt K) (Xp qN) (Nq (K:=K) 4 5 6 7 8 9 qB λd9 gL v57 v58 v59 v60 v61=>(XN (YK (Qx (K:=K) (Vs (f:=not) qB qB)) (Qx (K:=K) (Vs (f:=not) qB qB))) (Xp qM) (XN (YK (qt K) (YK (Qx (K:=K) (Uw qB qB)) (Xz (K:=K) (Ft (DF qB) qB)))) (Xp qM) (Xp (EvS.ev (EvB.sh (YY (JI qB (E3 (Ev.toB qM))) (JI qB (UD (Ev.toB qM)))))))))))))))))⟩⟩
def Kk:=Bs.1
theorem F0:FnScope ["_law_move","_law_some","_law_parts","_law_k","_law_at"] ["_law_move","_law_some"] (Xg LD):={}
abbrev Mu (m:(List Mx)->(List Int)->Rs (List Mx)):Prop:=Fn P w K mg base 1 "_law_bent" ["_law_move","_law_some"] (sp2 (rPL rMx) (rV Xf) (oF (rPL rMx)) m K)
noncomputable def MY:{m // Pq λP w K mg base=>Def K mg "_law_bent" LD ["_law_move","_law_some"]->Mu P w K mg base m}:=⟨_, @λP w K mg base Y Z D=>go2 D F0 3 1 rfl rfl λhr hu aq=>⟨_,(Xb (psn F0 2 (XD (XW K rfl) rfl Z.b_list PyProof.Rows.boot_list (Xa (pv 0) Xd)))
  (Xb (psf (Yy rfl Z.b_range (Xa (Xs K (pv 1) Xc) Xd)) (pgn F0 3)
   (Xb (psn F0 4 (Xk Xy Xc (Xk X0 (Xs K (pv 1) (Xk Xy Xc (Xk XT Xc (pv 3)))) (Xk Zp (Yp K Z.b_len (Xa (pv 2) Xd)) Xc))))
   (Xb (XA (Yx (Xt Yl rfl Z.b_isinstance PyProof.Rows.boot_isinstance (Xa (Xs K (pv 2) (pv 4)) (Xa (Qu (v:=V.ty "bool") rfl Z.b_bool PyProof.Rows.boot_bool rfl) Xd))))
    (Xb (Yt (OQ (Xs K (pv 2) (pv 4))) (Zo (pv 2) (pv 4) Yc))
    Xe)
    (Xb (XA (Yx (Xt Yl rfl Z.b_isinstance PyProof.Rows.boot_isinstance (Xa (Xs K (pv 2) (pv 4)) (Xa (Qu (v:=V.ty "int") rfl Z.b_int PyProof.Rows.boot_int rfl) Xd))))
     (Xb (Yt (Xk Zp (Xk Xy (Xs K (pv 2) (pv 4)) (Xs K (pv 1) (Xk Xy Xc (Xk XT Xc (pv 3))))) Xc) (Zo (pv 2) (pv 4) Yc))
     Xe)
     (Xb (Yt (Xs K (XC (Xa Xx (Xa Xx (Xa Xx (Xa Xx Xd))))) (Xk X0 (Xs K (pv 1) (Xk Xy Xc (Xk XT Xc (pv 3)))) Xc)) (Zo (pv 2) (pv 4) Yc))
     Xe))
    Xe))
   Xe)))
  (Xb (Xo (XD (Fb K rfl) rfl Z.b_tuple PyProof.Rows.boot_tuple (Xa (pv 2) Xd)))
  Xe))),λac af ak av=>(Zm K (o:=(oL (oF rMx))) 0 (NM qB) λa1 v2 C3=>(Fj K (λO (x8:Option V×Option V×V×List XG)=>[x8.2.2.2]) (λs x8=>[some ac,some af,some x8.2.2.1,x8.1,x8.2.1]) (λS (g9:(List Mx)) x8=>(SC.addO S K (oL (oF rMx)) x8.2.2.1 g9 x8.2.2.2)) (λ_=>tg1 3) ((none),(none),v2,C3) (a1) qw rfl rfl (λ_ s=>(SC.i s s.r)) (λg10 jH a12 hX=>(Ya K qS λdh gF=>(ZJ (λO (bz:V×List XG)=>[bz.2]) (λs bz=>[some ac,some af,some bz.1,some hX,some gF]) (λS (g34:(List Mx)) bz=>(SC.addO S K (oL (oF rMx)) bz.1 g34 bz.2)) (Yd (Qx (K:=K) (ET "bool" false false true (UY K) (Bd K) (ZW K "bool") qB)) (Jt K qn (λ_=>qB) λa41 C42=>(Yq (jH.2.2.1,C42) (a41) rfl rfl)) (ZJ (λO (bC:V×List XG)=>[bC.2]) (λs bC=>[some ac,some af,some bC.1,some hX,some gF]) (λS (g48:(List Mx)) bC=>(SC.addO S K (oL (oF rMx)) bC.1 g48 bC.2)) (Yd (Qx (K:=K) (ET "int" true false true (ZW K "int") (BF K) (Bg K) qB)) (Jt K qn (λ_=>qB) λa64 C65=>(Yq (jH.2.2.1,C65) (a64) rfl rfl)) (Jt K qn (λ_=>qB) λjb C89=>(Yq (jH.2.2.1,C89) (jb) rfl rfl))) λg91 jh=>(Yq (jh.1,jh.2) (g91) rfl rfl))) λg93 gZ=>(Yq ((some hX),(some gF),gZ.1,gZ.2) (g93) rfl rfl)))) λg94 x95=>(Xp (EvS.ev (EvB.sh (Ib qB))))))⟩⟩
def CQ:=MY.1
def YV (ak:QDr)(av:(List Int)):Rs QDr:=(Rs.bind (Rs.bind (Rs.ok ak) λx2=>(noE (KQ x2))) λa3=>(Rs.bind (Rs.bind (M4 (Rs.bind (Rs.bind (Rs.ok av) λx8=>(Rs.bind (Rs.ok (0:Int)) λx9=>(atR x8 x9))) λx10=>(Rs.bind (Rs.ok (0:Int)) λjH=>(Rs.ok (decide (x10=jH))))) (Rs.bind (Rs.bind (Rs.ok a3.2) λx12=>(Rs.ok (x12.length:Int))) λaI=>(Rs.bind (Rs.ok (0:Int)) λx14=>(Rs.ok (decide (x14<aI)))))) λcJ=>(if cJ=true then(Rs.bind (Rs.bind (Rs.bind (Rs.ok av) λx20=>(Rs.bind (Rs.ok (1:Int)) λx21=>(atR x20 x21))) λdf=>(Rs.bind (Rs.bind (Rs.ok a3.2) λx22=>(Rs.ok (x22.length:Int))) λbv=>(OI df bv))) λiX=>(Rs.bind (Rs.bind (Rs.bind (Rs.bind (Rs.ok a3.2) λx25=>(Rs.bind (Rs.ok iX) λx26=>(atR x25 x26))) λcP=>(Rs.ok cP.1)) λx32=>(Rs.bind (Rs.bind (Rs.bind (Rs.bind (Rs.ok a3.2) λx28=>(Rs.bind (Rs.ok iX) λx29=>(atR x28 x29))) λbW=>(Rs.ok bW.2)) λdk=>(Rs.ok (-dk))) λbz=>(Rs.ok (x32,bz)))) λx34=>(Rs.bind (Rs.ok iX) λeQ=>(Rs.bind (Ve a3.2 eQ x34) λiW=>(Rs.ok (iW)))))) else(Rs.ok (a3.2)))) λjI=>(Rs.bind (Rs.bind (M4 (Rs.bind (Rs.bind (Rs.ok av) λx40=>(Rs.bind (Rs.ok (0:Int)) λhU=>(atR x40 hU))) λfN=>(Rs.bind (Rs.ok (1:Int)) λeR=>(Rs.ok (decide (fN=eR))))) (Rs.bind (Rs.bind (Rs.ok a3.1) λcW=>(Rs.ok (cW.length:Int))) λx45=>(Rs.bind (Rs.ok (0:Int)) λgB=>(Rs.ok (decide (gB<x45)))))) λbC=>(if bC=true then(Rs.bind (Rs.bind (Rs.bind (Rs.ok av) λjr=>(Rs.bind (Rs.ok (1:Int)) λx51=>(atR jr x51))) λe9=>(Rs.bind (Rs.bind (Rs.ok a3.1) λx52=>(Rs.ok (x52.length:Int))) λe8=>(OI e9 e8))) λx57=>(Rs.bind (alR a3.1 x57) λgM=>(Rs.bind (Rs.bind (Rs.bind (IE a3.1 gM) λfP=>(Rs.ok (fP.length:Int))) λx59=>(Rs.bind (Rs.ok (1:Int)) λx60=>(Rs.ok (decide (x60<x59))))) λx61=>(if x61=true then(Rs.bind (Rs.bind (Rs.bind (Rs.ok av) λcj=>(Rs.bind (Rs.ok (2:Int)) λjk=>(atR cj jk))) λhZ=>(Rs.bind (Rs.bind (Rs.bind (IE a3.1 gM) λx66=>(Rs.ok (x66.length:Int))) λjt=>(Rs.bind (Rs.ok (1:Int)) λx68=>(Rs.ok (jt-x68)))) λx70=>(OI hZ x70))) λgI=>(Rs.bind (Rs.bind (Rs.bind (IE a3.1 gM) λx73=>(Rs.bind (Rs.bind (Rs.ok gI) λdW=>(Rs.bind (Rs.ok (1:Int)) λx72=>(Rs.ok (dW+x72)))) λx74=>(atR x73 x74))) λgX=>(Rs.bind (Rs.bind (IE a3.1 gM) λde=>(Rs.bind (Rs.ok gI) λcO=>(atR de cO))) λx78=>(Rs.ok (gX,x78)))) λjF=>(Rs.bind (Rs.ok gI) λgY=>(Rs.bind (IE a3.1 gM) λfQ=>(Rs.bind (Ve fQ gY jF.1) λx83=>(Rs.bind (Rs.bind (Rs.ok gI) λx89=>(Rs.bind (Rs.ok (1:Int)) λjh=>(Rs.ok (x89+jh)))) λx81=>(Rs.bind (Ve x83 x81 jF.2) λfR=>((λ(hW:QLs)=>(Rs.ok (hW))) (a3.1.set gM fR))))))))) else(Rs.ok (a3.1)))))) else(Rs.ok (a3.1)))) λg92=>(Rs.bind (Rs.ok g92) λx93=>(Rs.bind (Rs.ok jI) λjc=>(Rs.ok (x93,jc)))))))
abbrev G9 (m:QDr->(List Int)->Rs QDr):Prop:=Fn P w K mg base 2 "_law_bent_drawing" ["_law_drawing","_law_some"] (sp2 (rP2 (rV (rV Xf)) (rV (rP2 Xf Xf))) (rV Xf) (oT2 (oL (oL (oF Xf))) (oL (oF (rP2 Xf Xf)))) m K)
section
variable {P:Program}{w:World}{K:W.Frag}{mg:Str->Option Value}{base:Heap}
theorem Ys:FnScope ["_law_drawing","_law_some","_law_walks","_law_signs","_law_at","_law_walk","_law_k"] ["_law_drawing","_law_some"] (Xg Qp):={}
theorem KS (D:Def K mg "_law_bent_drawing" Qp ["_law_drawing","_law_some"])(aQ:Fn P w K mg base 1 "_law_copy" ["_law_drawing"] (sp1 (rP2 (rV (rV Xf)) (rV (rP2 Xf Xf))) (oT2 (oL (oL (oF Xf))) (oL (oF (rP2 Xf Xf)))) KQ K))(Y:Ecs F9 K mg)(Z:Blt mg):Fn P w K mg base 2 "_law_bent_drawing" ["_law_drawing","_law_some"] (sp2 (rP2 (rV (rV Xf)) (rV (rP2 Xf Xf))) (rV Xf) (oT2 (oL (oL (oF Xf))) (oL (oF (rP2 Xf Xf)))) YV K):=by
 refine Fa D Ys (λvs H Q E h=>?_) (λf ah A outer s H vs Q E hr h=>?_)
 ·obtain⟨ac,af,ak,av,b,rfl,_⟩:=h;rfl
 obtain⟨ac,af,ak,av,b,rfl,da,dP,hm,q⟩:=h
 have hu:=hu8 hr
 have aq:=VZ hr
 refine⟨_,(Xb (Yt (NE aQ hr (by decide) (Xa (pv 0) Xd)) (ZT rfl (Xq (Yk (i:=2) Ys.nd rfl (Or.inl rfl)) (Xq (Yk (i:=3) Ys.nd rfl (Or.inl rfl)) YT))))
  (Xb (XA (PW.pt (U4 (Xj XO (VN (Y0 K rfl) (pv 1) Xc (λ_ _=>rfl)) Xc (Xm _)) (VO (Xj UB (Xt (Yu K rfl) rfl Z.b_len boot_len (Xa (pv 3) Xd)) Xc (Xm _)))))
   (Xb (JT (i:=4) Ys.nd rfl (Or.inl rfl) (Xk X0 (VN (Y0 K rfl) (pv 1) Xc (λ_ _=>rfl)) (Xt (Yu K rfl) rfl Z.b_len boot_len (Xa (pv 3) Xd))))
   (Xb (Yt (XH (Xa (VN (Es K rfl) (VN (Y0 K rfl) (pv 3) (pv 4) (λ_ _=>rfl)) Xc (λ_ _=>rfl)) (Xa (Yj XJ (VN (Es K rfl) (VN (Y0 K rfl) (pv 3) (pv 4) (λ_ _=>rfl)) Xc (λ_ _=>rfl))) Xd))) (Zo (pv 3) (pv 4) Yc))
   Xe))
   Xe)
  (Xb (XA (PW.pt (U4 (Xj XO (VN (Y0 K rfl) (pv 1) Xc (λ_ _=>rfl)) Xc (Xm _)) (VO (Xj UB (Xt (Yu K rfl) rfl Z.b_len boot_len (Xa (pv 2) Xd)) Xc (Xm _)))))
   (Xb (JT (i:=5) Ys.nd rfl (Or.inl rfl) (VN (Y0 K rfl) (pv 2) (Xk X0 (VN (Y0 K rfl) (pv 1) Xc (λ_ _=>rfl)) (Xt (Yu K rfl) rfl Z.b_len boot_len (Xa (pv 2) Xd))) (λ_ _=>rfl)))
   (Xb (XA (Xj UB (Xt (Yu K rfl) rfl Z.b_len boot_len (Xa (pv 5) Xd)) Xc (Xm _))
    (Xb (JT (i:=6) Ys.nd rfl (Or.inl rfl) (Xk X0 (VN (Y0 K rfl) (pv 1) Xc (λ_ _=>rfl)) (Xk Zp (Xt (Yu K rfl) rfl Z.b_len boot_len (Xa (pv 5) Xd)) Xc)))
    (Xb (Yt (XH (Xa (VN (Y0 K rfl) (pv 5) (Xk Xy (pv 6) Xc) (λ_ _=>rfl)) (Xa (VN (Y0 K rfl) (pv 5) (pv 6) (λ_ _=>rfl)) Xd))) (ZT rfl (Xq (Zo (pv 5) (pv 6) Yc) (Xq (Zo (pv 5) (Xk Xy (pv 6) Xc) Yc) YT))))
    Xe))
    Xe)
   Xe))
   Xe)
  (Xb (Xo (XH (Xa (pv 2) (Xa (pv 3) Xd))))
  Xe)))),?_⟩
 refine Hr (S:=(SC.add (SC.add SC.nil K (rP2 (rV (rV Xf)) (rV (rP2 Xf Xf))) ac ak) K (rV Xf) af av)) (U:=[some ac,some af,none,none,none,none,none]) 2 ?_ (SC.i (SC.i SC.t da) dP) hm q rfl
 unfold YV
 exact(MC (K:=K) (o1:=(oL (oL (oF Xf)))) (o2:=(oL (oF (rP2 Xf Xf)))) 2 3 0 1 (EE (Zd (r:=(rP2 (rV (rV Xf)) (rV (rP2 Xf Xf)))) 0 rfl (λ_ s=>s.l.r))) (Nat.le_of_ble_eq_true rfl) (Nat.le_of_ble_eq_true rfl) λa3 v4 v5 C6 C7=>(BK (J:=({oo:=λax=>[C6,ax.2.2],ss:=λax=>[some ac,some af,some v4,some ax.2.1,ax.1,none,none],sc:=λfO ax=>(SC.addO (SC.addO (SC.add (SC.add SC.nil K (rP2 (rV (rV Xf)) (rV (rP2 Xf Xf))) ac ak) K (rV Xf) af av) K (oL (oL (oF Xf))) v4 a3.1 C6) K (oL (oF (rP2 Xf Xf))) ax.2.1 fO ax.2.2)}:Jn (QPs) (Option V×V×List XG))) (Yd (Fd:=FNd ({oo:=λax=>[C6,ax.2.2],ss:=λax=>[some ac,some af,some v4,some ax.2.1,ax.1,none,none],sc:=λfO ax=>(SC.addO (SC.addO (SC.add (SC.add SC.nil K (rP2 (rV (rV Xf)) (rV (rP2 Xf Xf))) ac ak) K (rV Xf) af av) K (oL (oL (oF Xf))) v4 a3.1 C6) K (oL (oF (rP2 Xf Xf))) ax.2.1 fO ax.2.2)}:Jn (QPs) (Option V×V×List XG))) (K7 (Xz (K:=K) (Je (Vk (Zd (r:=(rV Xf)) 1 rfl (λ_ s=>s.l.l.r)) (Y9 0)) (Y9 0))) (Xz (K:=K) (Ft (VL (VJ (o:=(oL (oF (rP2 Xf Xf)))) 3 1 rfl rfl (λ_ s=>s.r))) (Y9 0)))) (Ll (K:=K) (r:=Xf) 4 (EvB.sh (DQ (Vk (Zd (r:=(rV Xf)) 1 rfl (λ_ s=>s.l.l.r)) (Y9 1)) (VL (VJ (o:=(oL (oF (rP2 Xf Xf)))) 3 1 rfl rfl (λ_ s=>s.r))))) λiX v19=>(EG (K:=K) (o:=(oF (rP2 Xf Xf))) 3 1 rfl rfl (λ_ s=>s.l.r) (EvS.ev (Zf (EvB.sh (LW (Vk (VJ (o:=(oL (oF (rP2 Xf Xf)))) 3 1 rfl rfl (λ_ s=>s.l.r)) (Zd (r:=Xf) 4 rfl (λ_ s=>s.r))))) (EvB.sh (Vo (IW (Vk (VJ (o:=(oL (oF (rP2 Xf Xf)))) 3 1 rfl rfl (λ_ s=>s.l.r)) (Zd (r:=Xf) 4 rfl (λ_ s=>s.r)))))))) (λ_=>(Zd (r:=Xf) 4 rfl (λ_ s=>s.r))) λiW C37=>(FK (J:=_) ((some v19),v5,C37) (iW) rfl rfl (λ_ s=>(SC.i (SC.i (SC.i (SC.i SC.t s.l.l.l.l.l.r) s.l.l.l.l.r) s.l.l.l.r) s.r))))) (FK (J:=_) ((none),v5,C7) (a3.2) rfl rfl (λ_ s=>(SC.i (SC.i (SC.i (SC.i SC.t s.l.l.l.r) s.l.l.r) s.l.r) s.r)))) λjI cN=>(BK (J:=({oo:=λbL=>[bL.2.2.2,cN.2.2],ss:=λbL=>[some ac,some af,some bL.2.2.1,some cN.2.1,cN.1,bL.1,bL.2.1],sc:=λgG bL=>(SC.addO (SC.addO (SC.add (SC.add SC.nil K (rP2 (rV (rV Xf)) (rV (rP2 Xf Xf))) ac ak) K (rV Xf) af av) K (oL (oF (rP2 Xf Xf))) cN.2.1 jI cN.2.2) K (oL (oL (oF Xf))) bL.2.2.1 gG bL.2.2.2)}:Jn (QLs) (Option V×Option V×V×List XG))) (Yd (Fd:=FNd ({oo:=λbL=>[bL.2.2.2,cN.2.2],ss:=λbL=>[some ac,some af,some bL.2.2.1,some cN.2.1,cN.1,bL.1,bL.2.1],sc:=λgG bL=>(SC.addO (SC.addO (SC.add (SC.add SC.nil K (rP2 (rV (rV Xf)) (rV (rP2 Xf Xf))) ac ak) K (rV Xf) af av) K (oL (oF (rP2 Xf Xf))) cN.2.1 jI cN.2.2) K (oL (oL (oF Xf))) bL.2.2.1 gG bL.2.2.2)}:Jn (QLs) (Option V×Option V×V×List XG))) (K7 (Xz (K:=K) (Je (Vk (Zd (r:=(rV Xf)) 1 rfl (λ_ s=>s.l.l.r)) (Y9 0)) (Y9 1))) (Xz (K:=K) (Ft (VL (VJ (o:=(oL (oL (oF Xf)))) 2 0 rfl rfl (λ_ s=>s.l.r))) (Y9 0)))) (N7 (K:=K) (r:=Xf) 2 0 5 rfl rfl (λ_ s=>s.l.r) (DQ (Vk (Zd (r:=(rV Xf)) 1 rfl (λ_ s=>s.l.l.r)) (Y9 1)) (VL (VJ (o:=(oL (oL (oF Xf)))) 2 0 rfl rfl (λ_ s=>s.l.r)))) λgM gL=>(Yd (Fd:=FNd ({oo:=λbL=>[bL.2.2.2,cN.2.2],ss:=λbL=>[some ac,some af,some bL.2.2.1,some cN.2.1,cN.1,bL.1,bL.2.1],sc:=λgG bL=>(SC.addO (SC.addO (SC.add (SC.add SC.nil K (rP2 (rV (rV Xf)) (rV (rP2 Xf Xf))) ac ak) K (rV Xf) af av) K (oL (oF (rP2 Xf Xf))) cN.2.1 jI cN.2.2) K (oL (oL (oF Xf))) bL.2.2.1 gG bL.2.2.2)}:Jn (QLs) (Option V×Option V×V×List XG))) (Xz (K:=K) (Ft (VL (E4 (r:=Xf) (v:=v4) 5 0 rfl rfl (λ_ s=>s.l.l.r) (λ_ s=>s.r))) (Y9 1))) (Ll (K:=K) (r:=Xf) 6 (EvB.sh (DQ (Vk (Zd (r:=(rV Xf)) 1 rfl (λ_ s=>s.l.l.l.r)) (Y9 2)) (Uo (VL (E4 (r:=Xf) (v:=v4) 5 0 rfl rfl (λ_ s=>s.l.l.r) (λ_ s=>s.r))) (Y9 1)))) λgI v63=>(Md (K:=K) (r:=Xf) (f:=λhW=>(Rs.ok (hW))) 5 0 rfl rfl (λ_ s=>s.l.l.l.r) (λ_ s=>s.l.r) (Zf (EvB.sh (Vk (E4 (r:=Xf) (v:=v4) 5 0 rfl rfl (λ_ s=>s.l.l.l.r) (λ_ s=>s.l.r)) (DM (Zd (r:=Xf) 6 rfl (λ_ s=>s.r)) (Y9 1)))) (EvB.sh (Vk (E4 (r:=Xf) (v:=v4) 5 0 rfl rfl (λ_ s=>s.l.l.l.r) (λ_ s=>s.l.r)) (Zd (r:=Xf) 6 rfl (λ_ s=>s.r))))) (Zd (r:=Xf) 6 rfl (λ_ s=>s.r)) (λa87 C88=>(DM (Zd (r:=Xf) 6 rfl (λ_ s=>s.l.l.r)) (Y9 1))) λhW C86=>(FK (J:=_) ((some gL),(some v63),v4,C86) (hW) rfl rfl (λ_ s=>(SC.i (SC.i (SC.i (SC.i SC.t s.l.l.l.l.l.l.l.r) s.l.l.l.l.l.l.r) s.l.l.l.l.r) s.l.r))))) (FK (J:=_) ((some gL),(none),v4,C6) (a3.1) rfl rfl (λ_ s=>(SC.i (SC.i (SC.i (SC.i SC.t s.l.l.l.l.r) s.l.l.l.r) s.l.r) s.l.l.r))))) (FK (J:=_) ((none),(none),v4,C6) (a3.1) rfl rfl (λ_ s=>(SC.i (SC.i (SC.i (SC.i SC.t s.l.l.l.r) s.l.l.r) s.r) s.l.r)))) λg92 x91=>(Xp (Zg (BJ (o:=(oL (oL (oF Xf)))) 2 0 rfl rfl (λ_ s=>s.r)) λ_=>(BJ (o:=(oL (oF (rP2 Xf Xf)))) 3 2 rfl rfl (λ_ s=>s.l.r)))))))
end
theorem Z0:FnScope ["_law_drawing","_law_count","_law_walks","_law_signs","_law_names","_law_more","_law_name"] ["_law_drawing","_law_count"] (Xg GP):={}
abbrev GA (m:QDr->Int->Rs QDr):Prop:=Fn P w K mg base 2 "_law_crowded" ["_law_drawing","_law_count"] (sp2 (rP2 (rV (rV Xf)) (rV (rP2 Xf Xf))) Xf (oT2 (oL (oL (oF Xf))) (oL (oF (rP2 Xf Xf)))) m K)
noncomputable def Gb:{m // Pq λP w K mg base=>Def K mg "_law_crowded" GP ["_law_drawing","_law_count"]->ED P w K mg base KQ->ME P w K mg base HS->GA P w K mg base m}:=⟨_, @λP w K mg base Y Z D aQ bw=>go2 D Z0 5 4 rfl rfl λhr hu aq=>⟨_,(Xb (Yt (pef aQ hr (Xa (pv 0) Xd)) (ZT rfl (Xq (pgn Z0 2) (Xq (pgn Z0 3) YT))))
  (Xb (psn Z0 4 (XD (YM K rfl rfl) rfl Z.b_dict PyProof.Rows.boot_dict (Xa (pv 3) Xd)))
  (Xb (psn Z0 5 (XC Xd))
  (Xb (DS PassesOwn.never (Xj Js (Xt KW rfl Z.b_len boot_len (Xa (pv 4) Xd)) (pv 1) (Xm _))
   (Xb (psn Z0 6 (pef bw hr (Xa (pv 4) (Xa Xc Xd))))
   (Xb (Ur aq (pv 4) (pv 6) Xc rfl)
   (Xb (XY (Jh PySem.F.plainAttrs_list PySem.F.slot_list_extend PySem.F.type_list_extend Ct (pv 5) (Xa (XC (Xa (pv 6) (Xa (Yj XJ (pv 6)) Xd))) Xd XU)))
   Xe))))
  (Xb (XY (Jh PySem.F.plainAttrs_list PySem.F.slot_list_append PySem.F.type_list_append Yb (pv 2) (Xa (pv 5) Xd)))
  (Xb (Xo (XH (Xa (pv 2) (Xa (Ka rfl rfl Z.b_sorted (pv 4) (Vt (by decide) hu)) Xd))))
  Xe)))))),λac af ak av=>(MC (K:=K) (o1:=(oL (oL (oF Xf)))) (o2:=(oL (oF (rP2 Xf Xf)))) 2 3 0 1 qN (Nat.le_of_ble_eq_true rfl) (Nat.le_of_ble_eq_true rfl) λa3 v4 v5 C6 C7=>(Zm K (o:=(oD Xf)) 2 (Q1 ql) λa8 v9 C10=>(Zm K (o:=(oL (oF Xf))) 3 (Kf (o:=(oF Xf))) λa12 hX C14=>(Ir (λO (cJ:Option V×V×V×List XG×List XG)=>[C6,C7,cJ.2.2.2.1,cJ.2.2.2.2]) (λs cJ=>[some ac,some af,some v4,some v5,some cJ.2.1,some cJ.2.2.1,cJ.1]) (λS (g16:QPs×(List Int)) cJ=>(SC.addO (SC.addO S K (oD Xf) cJ.2.1 g16.1 cJ.2.2.2.1) K (oL (oF Xf)) cJ.2.2.1 g16.2 cJ.2.2.2.2)) (60) ((none),v9,hX,C10,C14) (a8,a12) rfl rfl (λ_ s=>(SC.i (SC.i s s.l.r) s.r)) (λfO dU=>(Xz (K:=K) (GH (DF qB) qB))) (λfO dU=>(Ya K qS λa22 v23=>(HI K qS qB λa29 C30=>(Az K qN λa39 C38=>(Yq ((some v23),dU.2.1,dU.2.2.1,C30,C38) (a29,a39) rfl rfl))))) λiZ hU=>(EA K JS λa44 C43=>(Xp (Zg JS λ_=>(CY qB))))))))⟩⟩
def JP:=Gb.1
end
theorem Z2:FnScope ["_law_script","_law_some","_law_words","_law_drawing","_law_move","_law_due_here","_law_handed","_law_found","_law_refused","_law_made"] ["_law_script"] (Xg DA):={}
def Rq:{m:(List Int)->Rs Bool // ∀{P:Program}{w:World}{K:W.Frag}{mg:Str->Option Value}{base:Heap}{f:Addr}{fd:FuncData} (D:Fun K "law" "law" DA f fd) (aS:HR P w K mg base Bc) (cF:Lb P w K mg base Hd) (aA:G9 P w K mg base YV) (dC:Ry P w K mg base Kk) (aQ:ED P w K mg base KQ) (aZ:F5 P w K mg base Ye) (bu:GA P w K mg base JP) (cG:Mu P w K mg base CQ) (cH:MA P w K mg base ZH) (aG:Jv P w K mg base ZG) (bZ:T2 P w K mg base G1) (Y:Ecs F9 K mg) (Z:Blt mg),FnOk P w K mg base CX0 7 f fd ["_law_script"] (sp1 (rL Xf) (oF Xw) m K)}:=⟨_, @λP w K mg base f fd D aS cF aA dC aQ aZ bu cG cH aG bZ Y Z=>by
  refine D.ok Z2 (λvs H Q E h=>?_) (λah A outer s H vs Q E hr h=>?_)
  . obtain⟨ac,ak,b,rfl,_⟩:=h;rfl
  obtain⟨ac,ak,b,rfl,da,hm,q⟩:=h
  obtain⟨eP,bj,bG⟩:=Y.adr "NoMove" (.tail _ (.tail _ (.head _)))
  have hu:=hu8 hr
  have aq:=VZ hr
  apply Exists.intro
  apply And.intro
  case left=>
   refine' Xb ?zq1 ?zq2
   case zq1=>
    refine' JT (i:=1) ?zq3 ?zq4 ?zq5 ?zq6
    case zq3=>
     exact Z2.nd
    case zq4=>
     exact rfl
    case zq5=>
     exact(Or.inl rfl)
    case zq6=>
     refine' NE aS hr ?zq7 ?zq8
     case zq7=>
      exact(by decide)
     case zq8=>
      refine' Xa ?zq9 ?zq10
      case zq9=>
       exact(pv 0)
      case zq10=>
       refine' Xa ?zq11 ?zq12
       case zq11=>
        exact Xc
       case zq12=>
        refine' Xa ?zq13 ?zq14 XU
        case zq13=>
         refine' XC ?zq15
         case zq15=>
          exact(Xa Xc (Xa Xc (Xa Xc (Xa Xc (Xa Xc (Xa Xc (Xa Xc (Xa Xc (Xa Xc (Xa Xc (Xa Xc Xd)))))))))))
        case zq14=>
         exact Xd
   case zq2=>
    refine' Xb ?zq16 ?zq17
    case zq16=>
     exact(psn Z2 2 (XC (Xa Xx (Xa Xx (Xa Xx (Xa Xx (Xa Xx (Xa Xx (Xa Xx (Xa Xx Xd))))))))))
    case zq17=>
     refine' Xb ?zq18 ?zq19
     case zq18=>
      refine' Yt ?zq20 ?zq21
      case zq20=>
       exact(pef cF hr (Xa (pv 0) (Xa (pv 2) Xd)))
      case zq21=>
       exact(ZT rfl (Xq (pgn Z2 3) (Xq (pgn Z2 4) YT)))
     case zq19=>
      refine' Xb ?zq22 ?zq23
      case zq22=>
       exact(psn Z2 3 (pef aA hr (Xa (pv 3) (Xa (XB (Ym K rfl) (pv 1) (XE Xc) XV) Xd))))
      case zq23=>
       refine' Xb ?zq24 ?zq25
       case zq24=>
        refine' XA ?zq26 ?zq27 ?zq28
        case zq26=>
         exact(Xj XO (Xs K (pv 1) Xc) Xc (Xm _))
        case zq27=>
         refine' Xb ?zq29 ?zq30
         case zq29=>
          exact(psn Z2 3 (pef bu hr (Xa (pv 3) (Xa (Xk Xy Xc (Xs K (pv 1) Xc)) Xd))))
         case zq30=>
          exact Xe
        case zq28=>
         exact Xe
       case zq25=>
        refine' Xb ?zq31 ?zq32
        case zq31=>
         refine' XA ?zq33 ?zq34 ?zq35
         case zq33=>
          exact(Xj Js (Xs K (pv 1) Xc) Xc (Xm _))
         case zq34=>
          exact(Xb (psn Z2 4 (pef cG hr (Xa (pv 4) (Xa (XB (Ym K rfl) (pv 1) (XE Xc) XV) Xd))))
      Xe)
         case zq35=>
          exact Xe
        case zq32=>
         refine' Xb ?zq36 ?zq37
         case zq36=>
          exact(psn Z2 5 (pef dC hr (Xa (pv 3) (Xa (pv 4) Xd))))
         case zq37=>
          refine' Xb ?zq38 ?zq39
          case zq38=>
           exact(psn Z2 6 (pef aQ hr (Xa (pv 3) Xd)))
          case zq39=>
           refine' Xb ?zq40 ?zq41
           case zq40=>
            exact(psn Z2 7 (Jf aZ hr (by decide) WA (Xa (pv 6) (Xa (pv 4) Xd))))
           case zq41=>
            refine' Xb ?zq42 ?zq43
            case zq42=>
             refine' XA ?zq44 ?zq45 ?zq46
             case zq44=>
              refine' PW.pt ?zq47
              case zq47=>
               refine' Zv ?zq48 ?zq49
               case zq48=>
                exact(Zq (Yx (Xt Yl rfl Z.b_isinstance PyProof.Rows.boot_isinstance (Xa (pv 7) (Xa (Qu (v:=V.ty "bool") rfl Z.b_bool PyProof.Rows.boot_bool rfl) Xd)))))
               case zq49=>
                exact(Zv (Xj BV (pv 7) (pv 5) (Xm _)) (Zl (Xj (K2 K rfl (Ea (HN (HN eq_int)) (HN (Ea eq_int eq_int))) (Vt (by decide) hu)) (pv 6) (pv 3) (Xm _))))
             case zq45=>
              exact(Xb (Xo Y2)
      Xe)
             case zq46=>
              exact Xe
            case zq43=>
             refine' Xb ?zq50 ?zq51
             case zq50=>
              exact(psn Z2 8 Y2)
             case zq51=>
              refine' Xb ?zq52 ?zq53
              case zq52=>
               exact(psn Z2 9 U2)
              case zq53=>
               refine' Xb ?zq54 ?zq55
               case zq54=>
                exact(Rx cH hr (by decide) (λpn xe=>(Xa (pv 6) (Xa (pv 4) Xd))) rfl rfl rfl rfl bj Z2.nd (i:=9) rfl rfl (λpn a=>(Xb (psn Z2 8 Y2)
      Xe)))
               case zq55=>
                refine' Xb ?zq56 ?zq57
                case zq56=>
                 refine' XA ?zq58 ?zq59 ?zq60
                 case zq58=>
                  exact(PW.pt (Zv (Xj XO (pv 8) (pv 5) (Xm _)) (Zl (Xj (K2 K rfl (Ea (HN (HN eq_int)) (HN (Ea eq_int eq_int))) (Vt (by decide) hu)) (pv 6) (pv 3) (Xm _)))))
                 case zq59=>
                  exact(Xb (Xo Y2)
      Xe)
                 case zq60=>
                  exact Xe
                case zq57=>
                 refine' Xb ?zq61 ?zq62
                 case zq61=>
                  refine' Xo ?zq63
                  case zq63=>
                   exact(Ac (pv 8) (Qg (Qi (pef aG hr (Xa (pv 9) Xd)) (Qg (XI (Ix K rfl (Ea (HN (HN eq_int)) (HN (Ea eq_int eq_int))) (Vt (by decide) hu)) (pv 9) (pef bZ hr (Xa (pv 3) (Xa (pv 4) Xd))) (Xm _))))))
                 case zq62=>
                  exact Xe
  refine Hr (S:=(SC.add SC.nil K (rL Xf) ac ak)) (U:=[some ac,none,none,none,none,none,none,none,none,none]) 1 ?_ (SC.i SC.t da) hm q rfl
  exact(Ya K qS λa1 v2=>(Ya K qS λa30 v31=>(Hk (K:=K) 3 4 (Ev.sh (MW qS qS)) λa52 v53 gE=>(Ya K qS λa55 gL=>(ZJ (λO (hZ:V)=>[[]]) (λs hZ=>[some ac,some v2,some v31,some hZ,some gE,none,none,none,none,none]) (λS (g70:QDr) hZ=>(SC.add S K (rP2 (rV (rV Xf)) (rV (rP2 Xf Xf))) hZ g70)) (Yd (qt K) (Ya K qS λa71 v72=>(Yq (v72) (a71) rfl rfl)) (Yq (gL) (a55) rfl rfl)) λjg gY=>(ZJ (λO (jG:V)=>[[]]) (λs jG=>[some ac,some v2,some v31,some gY,some jG,none,none,none,none,none]) (λS (g88:(List Mx)) jG=>(SC.add S K (rPL rMx) jG g88)) (Yd (qt K) (Ya K qS λa89 v90=>(Yq (v90) (a89) rfl rfl)) (Yq (gE) (a52.2) rfl rfl)) λg99 x98=>(Ya K qS λjE v101=>(Ya K qS λa105 v106=>(Ya K (r:=Xw) (EvB.sh (Ev.toB (Io qB qB))) λgJ v110=>(XN (YK (Jb (Qx (K:=K) (Y4 "bool" true (ZW K "bool") qB))) (qt K)) (Xp qM) (Ya K qS λjJ v121=>(SR 9 (RS (K:=K) (d:="NoMove") (kk:=λgN=>(Rs.bind (orR (Rs.bind (Rs.ok jJ) λx128=>(Rs.bind (Rs.ok jE) λx129=>(Rs.ok (decide (x128=x129))))) (Rs.bind (Rs.ok a105) λx130=>(Rs.bind (Rs.ok jg) λx131=>(Rs.ok (! (decide (x130=x131))))))) λx132=>(if x132=true then(Rs.ok false) else(orR (Rs.ok jJ) (M4 (Rs.bind (Rs.ok gN) λx134=>(noE (ZG x134))) (Rs.bind (Rs.ok gN) λx138=>(Rs.bind (Rs.bind (Rs.ok jg) λdR=>(Rs.bind (Rs.ok g99) λx137=>(noE (G1 dR x137)))) λx139=>(Rs.ok (decide (x138=x139)))))))))) 9 0 Y (.tail _ (.tail _ (.head _))) bj (Nat.le_of_ble_eq_true rfl) qB qB (λgN v123 C124=>(XN (qt K) (Xp qM) (Xp qM))) (Ya K qS λa140 v141=>(XN (qt K) (Xp qM) (Xp (EvS.ev (EvB.sh (M2 qB Pf)))))))))))))))))))⟩
def Mq:=Rq.1
end My
namespace L2
open PySem
section
variable {M L B ρ:Type}
theorem Rs.okb (a:M)(f:M->Rs L):(Rs.ok a).bind f=f a:=(Eq.refl (f a)).symm.symm
theorem Iu {f:M->Rs L}{h:M->L}:∀{as:List M},(∀a∈as,f a= .ok (h a))->Ig as f= .ok (as.map h)
 | [],_=>rfl
 |a::as,hf=>by
  show(f a).bind _=_
  rw[hf a (by simp),Rs.ok_bind,Iu λb hb=>hf b (by simp[hb])];rfl
theorem VF {f:M->Rs L}{h:M->L}{as:List M}(hl:as.length<=sizeLine)(hf:∀a∈as,f a= .ok (h a)):Wr as f= .ok (as.map h):=by
 unfold Wr;rw[Xi hl];exact Iu hf
theorem IR {c:M->Rs Bool}{f:M->Rs L}{p:M->Bool}{h:M->L}:∀{as:List M},(∀a∈as,c a= .ok (p a))->(∀a∈as,p a=true->f a= .ok (h a))->Hf as c f= .ok ((as.filter p).map h)
 | [],_,_=>rfl
 |a::as,hc,hf=>by
  show(c a).bind _=_
  rw[hc a (by simp),Rs.ok_bind]
  have ih:=IR (as:=as) (λb hb=>hc b (by simp[hb])) λb hb=>hf b (by simp[hb])
  cases hp:p a with
  |false=>rw[if_neg (by simp),ih,List.filter_cons,hp];rfl
  |true=>rw[if_pos rfl,hf a (by simp) hp,Rs.ok_bind,ih,List.filter_cons,hp];rfl
theorem Di {c:M->Rs Bool}{f:M->Rs L}{p:M->Bool}{h:M->L}{as:List M}(hl:as.length<=sizeLine)(hc:∀a∈as,c a= .ok (p a))(hf:∀a∈as,p a=true->f a= .ok (h a)):Wt as c f= .ok ((as.filter p).map h):=by
 unfold Wt;rw[Xi hl];exact IR hc hf
theorem Cz {f:B->M->Rs B}(P:Nat->B->Prop):∀(as:List M) (k:Nat) (g:B),P k g->(∀i a g,as[i]?=some a->P (k+i) g->∃g',f g a= .ok g'/\P (k+i+1) g')->∃g',forN as g f= .ok g'/\P (k+as.length) g'
 | [],k,g,h0,_=>⟨g,rfl,h0⟩
 |a::as,k,g,h0,hs=>by
  obtain⟨g1,e1,p1⟩:=hs 0 a g rfl h0
  obtain⟨g2,e2,p2⟩:=Cz P as (k+1) g1 p1 λi b g hb hp=>by
   obtain⟨g',e',p'⟩:=hs (i+1) b g (by simpa using hb) (by rw[show k+(i+1)=k+1+i by omega];exact hp)
   exact⟨g',e',by rw[show k+1+i+1=k+(i+1)+1 by omega];exact p'⟩
  refine⟨g2,?_,by rw[List.length_cons,show k+(as.length+1)=k+1+as.length by omega];exact p2⟩
  show(f g a).bind _=_
  rw[e1,Rs.ok_bind];exact e2
theorem Hi {f:B->M->Rs B}(P:Nat->B->Prop){as:List M}{g:B}(h0:P 0 g)(hs:∀i a g,as[i]?=some a->P i g->∃g',f g a= .ok g'/\P (i+1) g'):∃g',forN as g f= .ok g'/\P as.length g':=by
 have:=Cz P as 0 g h0 (by simpa using hs)
 simpa using this
theorem Bk {f:List L->M->Rs (List L)}{h:M->L}:∀{as:List M}{g:List L},g.length+as.length<=sizeLine->(∀g:List L,g.length<sizeLine->∀a∈as,f g a= .ok (g++[h a]))->forN as g f= .ok (g++as.map h)
 | [],g,_,_=>by simp[forN]
 |a::as,g,hl,hf=>by
  show(f g a).bind _=_
  rw[List.length_cons] at hl
  rw[hf g (by omega) a (by simp),Rs.ok_bind,Bk (by simp;omega) λg hg b hb=>hf g hg b (by simp[hb])]
  simp
theorem Kw {f:B->M->Rs (Ctl ρ B)}:∀{as:List M}{g:B},(∀a∈as,f g a= .ok (.nx g))->BB as g f= .ok (.nx g)
 | [],_,_=>rfl
 |a::as,g,hf=>by
  show(f g a).bind _=_
  rw[hf a (by simp),Rs.ok_bind]
  exact Kw λb hb=>hf b (by simp[hb])
theorem X2 {a b:Int}(h:0<b):OI a b= .ok (a % b):=Xi h
theorem YS {a b:Int}(h1: -(2^64)<a)(h2:a<2^64):O7 a b= .ok (a*b):=Xi (.inl ⟨h1,h2⟩)
theorem Jm {a b:Int}(h1: -(2^64)<b)(h2:b<2^64):O7 a b= .ok (a*b):=Xi (.inr ⟨h1,h2⟩)
theorem Mw {a b:Int}(h:0<b)(h2:b<2^250):WR a b= .ok (a/b):=Xi ⟨h,by
 have h3:b.natAbs<2^250:=by omega
 rcases Nat.eq_zero_or_pos b.natAbs with h0 |h0
 ·omega
 ·have:=(Nat.log2_lt (by omega)).mpr h3
  omega⟩
theorem UW {a b:Int}(h0:0<=b)(h1:b<=1000000)(h2: -(2^64)<a)(h3:a<2^64):WU a b= .ok (a^b.toNat):=Xi ⟨h0,h1,by omega⟩
theorem Zk {as:List M}{i:Nat}{a:M}(h:as[i]?=some a):atR as (i:Int)= .ok a:=by
 have ap:=(List.getElem?_eq_some_iff.mp h).1
 unfold atR atI ixN
 rw[if_pos (by omega),if_pos (by omega)]
 simp[h]
theorem JB {as:List M}{i:Int}{a:M}(h0:0<=i)(h:as[i.toNat]?=some a):atR as i= .ok a:=by
 have:i=(i.toNat:Int):=by omega
 rw[this];exact Zk h
theorem Jc {n:Nat}(h:n<2^62):TC 0 (n:Int)= .ok ((List.range n).map λ(i:Nat)=>(i:Int)):=by
 unfold TC
 rw[Xi (by omega)]
 unfold Uh
 congr 1
 rw[Int.sub_zero,Int.toNat_natCast]
 exact List.map_congr_left λi _=>by omega
theorem ZF {n i:Nat}{a:Int}(h:((List.range n).map λ(i:Nat)=>(i:Int))[i]?=some a):a=(i:Int)/\i<n:=by
 have ap:=(List.getElem?_eq_some_iff.mp h).1
 simp only[List.length_map,List.length_range] at ap
 rw[List.getElem?_map,List.getElem?_range ap] at h
 exact⟨(Option.some.inj h).symm,ap⟩
theorem QG {n:Nat}{a:Int}(h:a∈(List.range n).map λ(i:Nat)=>(i:Int)):∃i:Nat,i<n/\a=(i:Int):=by
 obtain⟨i,hi,rfl⟩:=List.mem_map.mp h
 exact⟨i,List.mem_range.mp hi,rfl⟩
theorem ZI {n:Nat}:((List.range n).map λ(i:Nat)=>(i:Int)).length=n:=by simp
theorem Z7 {a:Bool}{b:Rs Bool}{c:Bool}(h:a=true->b= .ok c):M4 (.ok a) b= .ok (a&&c):=by
 cases a with
 |false=>rfl
 |true=>
  show(if true=true then b else Rs.ok false)=_
  rw[if_pos rfl,h rfl];rfl
theorem Kg {a:Bool}{b:Rs Bool}{c:Bool}(h:a=false->b= .ok c):orR (.ok a) b= .ok (a || c):=by
 cases a with
 |true=>rfl
 |false=>
  show(if false=true then Rs.ok true else b)=_
  rw[if_neg Bool.false_ne_true,h rfl];rfl
theorem sz {n:Nat}(h:n<=100000):n<=sizeLine:=Nat.le_trans h (by decide)
theorem BI {n:Nat}(h:n<=100000):n<sizeLine:=Nat.lt_of_le_of_lt h (by decide)
def Ok (m:Rs L)(R:L->Prop):Prop:=∃ r,m= .ok r/\R r
theorem Ok.bind {m:Rs M}{f:M->Rs L}{R:M->Prop}{T:L->Prop}(h:Ok m R)(hf:∀a,R a->Ok (f a) T):Ok (m.bind f) T:=by
 obtain⟨a,e,ha⟩:=h
 rw[e];exact hf a ha
theorem Ok.imp {m:Rs M}{R T:M->Prop}(h:Ok m R)(hf:∀a,R a->T a):Ok m T:=by
 obtain⟨a,e,ha⟩:=h
 exact⟨a,e,hf a ha⟩
theorem Ok.noE {m:Rs M}{R:M->Prop}(h:Ok m R):Ok (noE m) R:=by
 obtain⟨a,e,ha⟩:=h
 rw[e];exact⟨a,rfl,ha⟩
theorem Ok.ite {b:Bool}{m n:Rs M}{R:M->Prop}(h1:b=true->Ok m R)(h2:b=false->Ok n R):Ok (if b=true then m else n) R:=by
 cases b with
 |true=>rw[if_pos rfl];exact h1 rfl
 |false=>rw[if_neg Bool.false_ne_true];exact h2 rfl
theorem Ok.forN {f:B->M->Rs B}(P:Nat->B->Prop){as:List M}{g:B}(h0:P 0 g)(hs:∀i a g,as[i]?=some a->P i g->Ok (f g a) (P (i+1))):Ok (forN as g f) (P as.length):=Hi P h0 hs
theorem Vc {f:B->Rs ρ}(g:B):G6 f (.nx g)=f g:=(Eq.refl (f g)).symm.symm
theorem Mz {f:B->Rs ρ}(r:ρ):G6 f (.ret r)= .ok r:=(Eq.refl (Rs.ok r)).symm.symm
theorem Xn (a:M):noE (Rs.ok a)= .ok a:=(Eq.refl (Rs.ok a)).symm.symm
theorem T6 {m:Rs M}{a:M}(h:m= .ok a):noE m= .ok a:=by rw[h];rfl
end
end L2
namespace My
open PySem L2
theorem Ly (ns:List Int){p:Int}(hp:0<=p):∃c,E6 ns p= .ok c:=by
 unfold E6 II;dsimp only
 simp only[Rs.okb]
 by_cases h:p<(ns.length:Int)
 ·rw[decide_eq_true h,if_pos rfl]
  have hl:p.toNat<ns.length:=by omega
  exact⟨ns[p.toNat],JB hp (by simp[hl])⟩
 ·rw[decide_eq_false h,if_neg Bool.false_ne_true]
  obtain⟨g,e,_⟩:=Hi (as:=Gv ns none (some 63)) (g:=(5:Int)) (f:=λdO gU=>(Rs.bind (Rs.bind (Rs.bind (Rs.bind (O7 dO 48271) λx25=>(Rs.bind (OI gU 1000003) λx26=>(Rs.ok (x25+x26)))) λcP=>Rs.ok (cP+1)) λx29=>OI x29 2147483647) λiY=>(Rs.ok (iY)))) (λ_ _=>True) True.intro λi a g _ _=>by
   rw[Jm (by decide) (by decide),Rs.ok_bind,X2 (by decide),Rs.ok_bind,Rs.ok_bind,Rs.ok_bind,X2 (by decide),Rs.ok_bind]
   exact⟨_,rfl,True.intro⟩
  rw[e,Rs.ok_bind,YS (by decide) (by decide),Rs.ok_bind,Rs.ok_bind,X2 (by decide)]
  exact⟨_,rfl⟩
theorem OB (c:Int){k:Int}(h0:0<=k)(h1:k<=100000):∃y,N8 c k= .ok y/\0<=y:=by
 unfold N8 Sw;dsimp only
 simp only[Rs.okb]
 have hm:0<=c % 2147483629/\c % 2147483629<2147483629:=⟨Int.emod_nonneg _ (by decide),Int.emod_lt_of_pos _ (by decide)⟩
 rw[X2 (by decide),Rs.ok_bind,YS (by decide) (by decide),Rs.ok_bind,Rs.ok_bind,Rs.ok_bind,UW (by decide) (by decide) (by omega) (by omega),Rs.ok_bind,X2 (by decide),Rs.ok_bind]
 rw[Jm (by decide) (by decide),Rs.ok_bind,YS (by decide) (by decide),Rs.ok_bind,Jm (by omega) (by omega),Rs.ok_bind,Rs.ok_bind,Rs.ok_bind,X2 (by decide),Rs.ok_bind,Mw (by decide) (by decide)]
 exact⟨_,rfl,Int.ediv_nonneg (Int.emod_nonneg _ (by decide)) (by decide)⟩
theorem EJ (ns:List Int){p:Int}(hp:0<=p)(aN:List Int)(hl:aN.length<=100000)(hs:∀x∈aN,0<x/\x<2^250):
  Ok (Bc ns p aN) λr=>r.length=aN.length/\∀(i:Nat) x s,r[i]?=some x->aN[i]?=some s->0<=x/\x<s:=by
 obtain⟨c,ec⟩:=Ly ns hp
 unfold Bc Rr;dsimp only
 simp only[Rs.okb]
 rw[ec,show noE (Rs.ok c)= .ok c from rfl,Rs.ok_bind,Jc (by omega),Rs.ok_bind,UW (by decide) (by decide) (by decide) (by decide)]
 simp only[Rs.okb]
 have key:∀(i:Nat) (a:Int) (g:List Int×Int),((List.range aN.length).map λ(i:Nat)=>(i:Int))[i]?=some a->(g.1.length=i/\∀(j:Nat) x s,g.1[j]?=some x->aN[j]?=some s->0<=x/\x<s)->∀y z:Int,∀s,aN[i]?=some s->0<=y/\y<s->((g.1++[y],z).1.length=i+1/\∀(j:Nat) x s,(g.1++[y],z).1[j]?=some x->aN[j]?=some s->0<=x/\x<s):=by
  intro i a g ha ⟨hg,hq⟩ y z s hs1 hy
  refine⟨by simp[hg],λj x s' hx dH=>?_⟩
  have hx:(g.1++[y])[j]?=some x:=hx
  rcases Nat.lt_trichotomy j i with hj |hj |hj
  ·rw[List.getElem?_append_left (by omega)] at hx;exact hq j x s' hx dH
  ·subst hj
   rw[List.getElem?_append_right (by omega),hg,Nat.sub_self] at hx
   have:y=x:=by simpa using hx
   rw[hs1] at dH
   cases dH
   rw[←this];exact hy
  ·rw[List.getElem?_eq_none (by simp;omega)] at hx;cases hx
 refine Ok.bind (Ok.forN (λi (g:List Int×Int)=>g.1.length=i/\∀(j:Nat) x s,g.1[j]?=some x->aN[j]?=some s->0<=x/\x<s) ⟨rfl,λj x s h _=>by simp at h⟩ λi a g ha hg=>?_) (T:=λ(r:List Int)=>r.length=aN.length/\∀(i:Nat) x s,r[i]?=some x->aN[i]?=some s->0<=x/\x<s) λg ⟨hg,hq⟩=>?_
 ·obtain⟨rfl,hi⟩:=ZF ha
  have hsz:aN[i]?=some aN[i]:=by simp[hi]
  have cA:=hs _ (List.getElem_mem hi)
  have hgl:g.1.length<sizeLine:=BI (by have:=hg.1;omega)
  by_cases hc:c<10^(18:Int).toNat
  ·rw[decide_eq_true hc,if_pos rfl]
   obtain⟨y,ey,hy⟩:=OB c (k:=(i:Int)) (by omega) (by omega)
   rw[ey,show noE (Rs.ok y)= .ok y from rfl,Rs.ok_bind,Zk hsz,Rs.ok_bind,X2 cA.1,Rs.ok_bind,Xi hgl]
   exact⟨_,rfl,key i _ g ha hg _ _ _ hsz ⟨Int.emod_nonneg _ (by omega),Int.emod_lt_of_pos _ cA.1⟩⟩
  ·rw[decide_eq_false hc,if_neg Bool.false_ne_true]
   by_cases hq:0<g.2
   ·rw[decide_eq_true hq,if_pos rfl,Zk hsz,Rs.ok_bind,X2 cA.1,Rs.ok_bind,Xi hgl]
    simp only[Rs.okb]
    rw[Mw cA.1 cA.2]
    exact⟨_,rfl,key i _ g ha hg _ _ _ hsz ⟨Int.emod_nonneg _ (by omega),Int.emod_lt_of_pos _ cA.1⟩⟩
   ·rw[decide_eq_false hq,if_neg Bool.false_ne_true,X2 (by decide),Rs.ok_bind]
    obtain⟨c2,ec2⟩:=Ly ns (p:=(p+1+(i:Int)) % 63) (Int.emod_nonneg _ (by decide))
    obtain⟨y,ey,hy⟩:=OB c2 (k:=(i:Int)) (by omega) (by omega)
    rw[ec2,show noE (Rs.ok c2)= .ok c2 from rfl,Rs.ok_bind,ey,show noE (Rs.ok y)= .ok y from rfl,Rs.ok_bind,Zk hsz,Rs.ok_bind,X2 cA.1,Rs.ok_bind,Xi hgl]
    exact⟨_,rfl,key i _ g ha hg _ _ _ hsz ⟨Int.emod_nonneg _ (by omega),Int.emod_lt_of_pos _ cA.1⟩⟩
 ·rw[ZI] at hg
  exact⟨g.1,rfl,hg,hq⟩
end My
namespace My
structure Col (n:Nat)(f:Nat->Nat->Nat):Prop where
 lt:∀a b,a<n->b<n->f a b<n
 r2:∀x y b,x<n->y<n->b<n->f x b=f y b->x=y
structure GoodF (n:Nat)(f:Nat->Nat->Nat):Prop extends Col n f where
 r1:∀a,a<n->f a a=a
 r3:∀a b c,a<n->b<n->c<n->f (f a b) c=f (f a c) (f b c)
theorem GoodF.congr {n:Nat}{f g:Nat->Nat->Nat}(h:GoodF n f)(e:∀a b,a<n->b<n->g a b=f a b):GoodF n g where
 lt a b ha hb:=by rw[e a b ha hb];exact h.lt a b ha hb
 r2 x y b hx hy hb q:=by rw[e x b hx hb,e y b hy hb] at q;exact h.r2 x y b hx hy hb q
 r1 a ha:=by rw[e a a ha ha];exact h.r1 a ha
 r3 a b c ha hb hc:=by
  rw[e a b ha hb,e a c ha hc,e b c hb hc,e _ c (h.lt a b ha hb) hc,e _ _ (h.lt a c ha hc) (h.lt b c hb hc)]
  exact h.r3 a b c ha hb hc
end My
namespace My
open PySem L2
theorem Yn {M:Type}{as:List M}{i:Nat}{a:M}(h:i<as.length):Ve as (i:Int) a= .ok (as.set i a):=by
 unfold Ve ixN
 rw[if_pos (by omega),if_pos (by omega)]
 simp
theorem Te {as:List Int}{i:Nat}(h:i<as.length)(hl:as.length<=100000):Nx as (i:Int)= .ok (as[i],as.eraseIdx i):=by
 unfold Nx
 rw[Xi (by omega)]
 have e:seqIndex? (i:Int) as.length=some i:=by
  unfold seqIndex?
  have h0:¬((i:Int)<0):=by omega
  simp[h0,h]
 rw[e]
 simp[h]
theorem X1 {M:Type}{r:List M}{k:Int}{n:Nat}(e:k=(n:Int))(h:n<r.length):atR r k= .ok r[n]:=by
 subst e;exact Zk (by simp[h])
theorem Ks {B:Type}{c:B->Rs Bool}{f:B->Rs B}(P:B->Prop)(μ:B->Nat)(hs:∀g,P g->∃b,c g= .ok b/\(b=true->Ok (f g) λg'=>P g'/\μ g'<μ g)):∀(n:Nat) (g:B),P g->μ g<n->Ok (GW n g c f) λg'=>P g'/\c g'= .ok false
 |0,_,_,h=>by omega
 |n+1,g,hp,hm=>by
  obtain⟨b,hb,h⟩:=hs g hp
  show Ok ((c g).bind _) _
  rw[hb,Rs.okb]
  cases b with
  |false=>rw[if_neg Bool.false_ne_true];exact⟨g,rfl,hp,hb⟩
  |true=>
   rw[if_pos rfl]
   exact Ok.bind (h rfl) λg' h'=>Ks P μ hs n g' h'.1 (by omega)
def Sg (l:QPs):Prop:=l.Pairwise (λx y=>x.1<y.1)/\∀e∈l,1<=e.1
def kys (l:QPs):List Int:=l.map (·.1)
theorem Sg.kn {l:QPs}(h:Sg l):(kys l).Nodup:=by
 unfold kys
 exact List.Pairwise.map _ (λa b z e=>by omega) h.1
theorem IB {l:QPs}(h:(kys l).Nodup):l.Nodup:=List.Pairwise.of_map _ (λa b z e=>z (congrArg _ e)) h
theorem Sg.rise {l:QPs}(h:Sg l):l.Pairwise λx y=>ltP x y=true:=
 h.1.imp fun {a b} z=>by unfold ltP;rw[if_neg (by omega)];simpa using z
theorem Sg.sort {l:QPs}(h:Sg l):Ze ltP l=l:=(Kt Gh (IB h.kn) (List.Perm.refl _) h.rise).symm
theorem RH {l:QPs}(h:(kys l).Nodup)(h1:∀e∈l,1<=e.1):Sg (Ze ltP l):=by
 have hp:=YQ ltP l
 have hk:(kys (Ze ltP l)).Nodup:=((List.Perm.map (λe:Int×Int=>e.1) hp).nodup_iff).mpr h
 refine⟨?_,λe he=>h1 e (hp.mem_iff.mp he)⟩
 have r:=UE Gh (IB h)
 have d8:(Ze ltP l).Pairwise λx y=>x.1≠y.1:=List.Pairwise.of_map (·.1) (λa b z=>z) hk
 refine(r.and d8).imp fun {a b} z=>?_
 have z1:=z.1
 unfold ltP at z1
 rw[if_neg z.2] at z1
 simpa using z1
theorem Sg.sub {l m:QPs}(h:Sg l)(s:m.Sublist l):Sg m:=⟨h.1.sublist s,λe he=>h.2 e (s.mem he)⟩
theorem Sg.del {l:QPs}(h:Sg l)(k:Int):Sg (ZQ l k):=h.sub List.filter_sublist
theorem Va {l:QPs}{k v:Int}(h:k∉kys l):G8 l k v=l++[(k,v)]:=by
 unfold G8
 rw[if_neg λz=>h ?_]
 obtain⟨e,he,z⟩:=List.any_eq_true.mp z
 exact List.mem_map.mpr ⟨e,he,by simpa using z⟩
theorem Bi:∀{ps acc:QPs},(kys (acc++ps)).Nodup->HG acc ps=acc++ps
 | [],acc,_=>by simp[HG]
 |p::ps,acc,h=>by
  have hn:p.1∉kys acc:=λz=>by
   unfold kys at h z
   rw[List.map_append,List.nodup_append] at h
   exact h.2.2 _ z p.1 (by simp) rfl
  have e:acc++p::ps=(acc++[p])++ps:=by simp
  show HG (G8 acc p.1 p.2) ps=_
  rw[Va hn,e]
  exact Bi (by rw[←e];exact h)
theorem Sg.dict {l:QPs}(h:Sg l):HG [] l=l:=Bi (acc:=[]) (by simpa using h.kn)
theorem Z9 {l:QPs}{k:Int}:(QI l k).isSome=true↔k∈kys l:=by
 unfold QI kys
 rw[Option.isSome_map,List.find?_isSome]
 simp only[List.mem_map,decide_eq_true_eq]
theorem Ms {l:QPs}{k:Int}(h:(QI l k).isSome=false):k∉kys l:=λz=>by rw[Z9.mpr z] at h;cases h
theorem LM {l:QPs}{e:Int×Int}(h:(kys l).Nodup)(he:e∈l):QI l e.1=some e.2:=by
 induction l with
 |nil=>cases he
 |cons a l ih=>
  unfold QI
  unfold kys at h
  rw[List.map_cons,List.nodup_cons] at h
  rcases List.mem_cons.mp he with rfl |he
  ·simp
  ·have hne:a.1≠e.1:=λz=>h.1 (z▸List.mem_map.mpr ⟨e,he,rfl⟩)
   rw[List.find?_cons_of_neg (by simpa using hne)]
   exact ih h.2 he
theorem Lq {l:QPs}{k v:Int}(h:Sg l)(hk:k∉kys l)(h1:1<=k):(kys (l++[(k,v)])).Nodup/\(∀e∈l++[(k,v)],1<=e.1)/\Sg (Ze ltP (l++[(k,v)])):=by
 have a:(kys (l++[(k,v)])).Nodup:=by
  unfold kys at hk⊢
  rw[List.map_append,List.nodup_append]
  refine⟨h.kn,by simp,λx hx y hy e=>hk ?_⟩
  have z:y=k:=by simpa using hy
  rw[←z, ←e]
  exact hx
 have b:∀e∈l++[(k,v)],1<=e.1:=λe he=>by
  rcases List.mem_append.mp he with he |he
  ·exact h.2 e he
  ·rw[List.mem_singleton.mp he];exact h1
 exact⟨a,b,RH a b⟩
theorem DN {l:QPs}{e:Int×Int}:e∈Ze ltP l↔e∈l:=(YQ ltP l).mem_iff
theorem Dc {l:QPs}:(Ze ltP l).length=l.length:=(YQ ltP l).length_eq
theorem D0 {l:QPs}{k:Int}:k∈kys (Ze ltP l)↔k∈kys l:=((YQ ltP l).map (·.1)).mem_iff
theorem EL {d:QPs}{n:Int}:Ok (HS d n) λk=>n<=k/\k∉kys d:=by
 unfold HS RI;dsimp only
 simp only[Rs.okb]
 refine Ok.bind (Ks (λg=>n<=g) (λg=>(d.filter λe=>decide (g<=e.1)).length) (λg hg=>⟨_,rfl,λhb=>⟨_,rfl,by omega,?_⟩⟩) (d.length+2) n (Int.le_refl _) ?_) λg hg=>⟨_,rfl,hg.1,?_⟩
 ·obtain⟨e,he,ek⟩:=List.mem_map.mp (Z9.mp hb)
  have s:(d.filter λe=>decide (g+1<=e.1)).Sublist ((d.filter λe=>decide (g<=e.1)).filter λe=>decide (g+1<=e.1)):=by
   rw[List.filter_filter]
   have:(λa:Int×Int=>decide (g+1<=a.1)&&decide (g<=a.1))=λe=>decide (g+1<=e.1):=by
    funext a;rw[Bool.eq_iff_iff];simp;omega
   rw[this];exact List.Sublist.refl _
  refine Nat.lt_of_le_of_lt s.length_le ?_
  refine Nat.lt_of_le_of_ne List.filter_sublist.length_le λz=>?_
  have:=List.length_filter_eq_length_iff.mp z e (List.mem_filter.mpr ⟨he,by simp;omega⟩)
  simp at this;omega
 ·exact Nat.lt_of_le_of_lt List.filter_sublist.length_le (by omega)
 ·have:=hg.2
  exact Ms (Rs.ok.inj this)
theorem ar0 {M:Type}{x0:M}{l:List M}:atR (x0::l) 0= .ok x0:=JB (by decide) rfl
theorem ar1 {M:Type}{x0 x1:M}{l:List M}:atR (x0::x1::l) 1= .ok x1:=JB (by decide) rfl
theorem ar2 {M:Type}{x0 x1 x2:M}{l:List M}:atR (x0::x1::x2::l) 2= .ok x2:=JB (by decide) rfl
theorem ar3 {M:Type}{x0 x1 x2 x3:M}{l:List M}:atR (x0::x1::x2::x3::l) 3= .ok x3:=JB (by decide) rfl
theorem ar4 {M:Type}{x0 x1 x2 x3 x4:M}{l:List M}:atR (x0::x1::x2::x3::x4::l) 4= .ok x4:=JB (by decide) rfl
theorem ar5 {M:Type}{x0 x1 x2 x3 x4 x5:M}{l:List M}:atR (x0::x1::x2::x3::x4::x5::l) 5= .ok x5:=JB (by decide) rfl
theorem ar6 {M:Type}{x0 x1 x2 x3 x4 x5 x6:M}{l:List M}:atR (x0::x1::x2::x3::x4::x5::x6::l) 6= .ok x6:=JB (by decide) rfl
theorem ar7 {M:Type}{x0 x1 x2 x3 x4 x5 x6 x7:M}{l:List M}:atR (x0::x1::x2::x3::x4::x5::x6::x7::l) 7= .ok x7:=JB (by decide) rfl
theorem ar8 {M:Type}{x0 x1 x2 x3 x4 x5 x6 x7 x8:M}{l:List M}:atR (x0::x1::x2::x3::x4::x5::x6::x7::x8::l) 8= .ok x8:=JB (by decide) rfl
theorem Gk:decide (("turn":Str)= "curl")=false:=rfl
theorem VW:decide (("turn":Str)= "uncurl")=false:=rfl
theorem FM:decide (("turn":Str)= "lay")=false:=rfl
theorem U3:decide (("turn":Str)= "unlay")=false:=rfl
theorem Gw:decide (("turn":Str)= "pass")=false:=rfl
theorem MQ:decide (("turn":Str)= "turn")=true:=rfl
theorem Z3:decide (("curl":Str)= "turn")=false:=rfl
theorem ZU:decide (("curl":Str)= "uncurl")=false:=rfl
theorem JW:decide (("curl":Str)= "lay")=false:=rfl
theorem Qj:decide (("curl":Str)= "unlay")=false:=rfl
theorem QV:decide (("curl":Str)= "pass")=false:=rfl
theorem OA:decide (("curl":Str)= "curl")=true:=rfl
theorem Y7:decide (("uncurl":Str)= "turn")=false:=rfl
theorem Q7:decide (("uncurl":Str)= "curl")=false:=rfl
theorem JN:decide (("uncurl":Str)= "lay")=false:=rfl
theorem Qn:decide (("uncurl":Str)= "unlay")=false:=rfl
theorem Q9:decide (("uncurl":Str)= "pass")=false:=rfl
theorem EQ:decide (("uncurl":Str)= "uncurl")=true:=rfl
theorem QH:decide (("lay":Str)= "turn")=false:=rfl
theorem Uv:decide (("lay":Str)= "curl")=false:=rfl
theorem Qh:decide (("lay":Str)= "uncurl")=false:=rfl
theorem VS:decide (("lay":Str)= "unlay")=false:=rfl
theorem J1:decide (("lay":Str)= "pass")=false:=rfl
theorem Wh:decide (("lay":Str)= "lay")=true:=rfl
theorem ZL:decide (("unlay":Str)= "turn")=false:=rfl
theorem Jk:decide (("unlay":Str)= "curl")=false:=rfl
theorem Zz:decide (("unlay":Str)= "uncurl")=false:=rfl
theorem QS:decide (("unlay":Str)= "lay")=false:=rfl
theorem Jz:decide (("unlay":Str)= "pass")=false:=rfl
theorem ML:decide (("unlay":Str)= "unlay")=true:=rfl
theorem Zy:decide (("pass":Str)= "turn")=false:=rfl
theorem Q2:decide (("pass":Str)= "curl")=false:=rfl
theorem YO:decide (("pass":Str)= "uncurl")=false:=rfl
theorem QC:decide (("pass":Str)= "lay")=false:=rfl
theorem Y5:decide (("pass":Str)= "unlay")=false:=rfl
theorem OS:decide (("pass":Str)= "pass")=true:=rfl
theorem okf {M:Type}{m n:Rs M}:(if false=true then m else n)=n:=if_neg Bool.false_ne_true
theorem okt {M:Type}{m n:Rs M}:(if true=true then m else n)=m:=if_pos rfl
theorem HW {m:Rs Bool}:M4 (.ok false) m= .ok false:=rfl
theorem Bq {m:Rs Bool}:M4 (.ok true) m=m:=rfl
theorem orF {m:Rs Bool}:orR (.ok false) m=m:=rfl
theorem orT {m:Rs Bool}:orR (.ok true) m= .ok true:=rfl
def ins (w:List Int)(k:Nat)(p:List Int):List Int:=w.take k++p++w.drop k
def Hv (w:List Int)(k:Nat):List Int:=w.take k++w.drop (k+2)
def gw (ws:QLs)(i:Nat):List Int:=ws.getD i []
def G3 (ws:QLs)(i k:Nat)(p:List Int):QLs:=ws.set i (ins (gw ws i) k p)
def G0 (ws:QLs)(i k:Nat):QLs:=ws.set i (Hv (gw ws i) k)
theorem E7 {ws:QLs}{i:Nat}(h:i<ws.length):ws[i]?=some (gw ws i):=by simp[gw,h]
theorem QF {ws:QLs}{i:Nat}(h:i<ws.length):atR ws (i:Int)= .ok (gw ws i):=Zk (E7 h)
theorem Qk {ws:QLs}{i:Nat}(h:i<ws.length):gw ws i∈ws:=List.mem_of_getElem? (E7 h)
theorem FE {M:Type}(as:List M){k:Nat}(h:k<=as.length):Gv as none (some (k:Int))=as.take k:=by
 unfold Gv
 rw[HT.sIx_nat,HT.sIx_none,Nat.min_eq_left h,List.drop_zero,Nat.sub_zero]
theorem ZK {M:Type}(as:List M){k:Nat}:Gv as (some (k:Int)) none=as.drop k:=by
 unfold Gv
 rw[HT.sIx_nat,HT.sIx_none]
 by_cases h:k<=as.length
 ·rw[Nat.min_eq_left h];exact List.take_of_length_le (by simp)
 ·rw[Nat.min_eq_right (by omega),Nat.sub_self,List.take_zero,List.drop_of_length_le (by omega)]
theorem Qa {M:Type}{l:List M}(h:l.length<=100):Wr l (λa=>Rs.ok a)= .ok l:=by
 rw[VF (h:=λa=>a) (sz (by omega)) λ_ _=>rfl,List.map_id']
section
variable {ws:QLs}{i k:Nat}{p:List Int}
theorem JR (hw:ws.length<=10)(hi:i<ws.length)(hk:k<=(gw ws i).length)(hl:(gw ws i).length<=100)(hp:p.length<=10):Qb ws (i:Int) (k:Int) p= .ok (G3 ws i k p):=by
 unfold Qb Vu;dsimp only
 simp only[Rs.okb]
 rw[Qa (by omega)]
 simp only[Rs.okb,QF hi,FE _ hk,ZK]
 rw[show Hu ((gw ws i).take k) p= .ok ((gw ws i).take k++p) from Xi (sz (by simp;omega))]
 simp only[Rs.okb]
 rw[show Hu ((gw ws i).take k++p) ((gw ws i).drop k)= .ok ((gw ws i).take k++p++(gw ws i).drop k) from Xi (sz (by simp;omega))]
 simp only[Rs.okb]
 rw[Yn hi]
 rfl
theorem KY {a b:Int}(hi:i<ws.length)(hk:k<=(gw ws i).length)(hl:(gw ws i).length<=100):KD ws (i:Int) (k:Int) a b= .ok (G3 ws i k [a,b]):=by
 unfold KD DL;dsimp only
 simp only[Rs.okb,QF hi,FE _ hk,ZK]
 rw[Xi (show[a,b].length<=sizeLine from sz (by simp))]
 simp only[Rs.okb]
 rw[show Hu ((gw ws i).take k) [a,b]= .ok ((gw ws i).take k++[a,b]) from Xi (sz (by simp;omega))]
 simp only[Rs.okb]
 rw[show Hu ((gw ws i).take k++[a,b]) ((gw ws i).drop k)= .ok ((gw ws i).take k++[a,b]++(gw ws i).drop k) from Xi (sz (by simp;omega))]
 simp only[Rs.okb]
 rw[Yn hi]
 rfl
theorem UQ (hw:ws.length<=10)(hi:i<ws.length)(hk:k<=(gw ws i).length)(hl:(gw ws i).length<=100):YW ws (i:Int) (k:Int)= .ok (G0 ws i k):=by
 unfold YW Qs;dsimp only
 simp only[Rs.okb]
 rw[Qa (by omega)]
 simp only[Rs.okb,QF hi,FE _ hk]
 rw[show(k:Int)+2=((k+2:Nat):Int) by omega,ZK,show Hu ((gw ws i).take k) ((gw ws i).drop (k+2))= .ok ((gw ws i).take k++(gw ws i).drop (k+2)) from Xi (sz (by simp;omega))]
 simp only[Rs.okb]
 rw[Yn hi]
 rfl
theorem UL (hi:i<ws.length)(hk:k<=(gw ws i).length)(hl:(gw ws i).length<=100):Qc ws (i:Int) (k:Int)= .ok (G0 ws i k):=by
 unfold Qc Gs;dsimp only
 simp only[Rs.okb,QF hi,FE _ hk]
 rw[show(k:Int)+2=((k+2:Nat):Int) by omega,ZK,show Hu ((gw ws i).take k) ((gw ws i).drop (k+2))= .ok ((gw ws i).take k++(gw ws i).drop (k+2)) from Xi (sz (by simp;omega))]
 simp only[Rs.okb]
 rw[Yn hi]
 rfl
theorem Zb:(G3 ws i k p).length=ws.length:=by simp[G3]
theorem L4 (hi:i<ws.length):gw (G3 ws i k p) i=ins (gw ws i) k p:=by simp[G3,gw,hi]
theorem Mt {j:Nat}(h:j≠i):gw (G3 ws i k p) j=gw ws j:=by
 unfold G3 gw
 simp only[List.getD_eq_getElem?_getD]
 rw[List.getElem?_set_ne (Ne.symm h)]
theorem Cd:(G0 ws i k).length=ws.length:=by simp[G0]
theorem VG (hi:i<ws.length):gw (G0 ws i k) i=Hv (gw ws i) k:=by simp[G0,gw,hi]
theorem VH {j:Nat}(h:j≠i):gw (G0 ws i k) j=gw ws j:=by
 unfold G0 gw
 simp only[List.getD_eq_getElem?_getD]
 rw[List.getElem?_set_ne (Ne.symm h)]
theorem KP {w:List Int}(h:k<=w.length):(ins w k p).length=w.length+p.length:=by simp[ins];omega
end
structure Dr (n:Nat)(ws:QLs)(sg:QPs):Prop where
 n3:n<=3
 ne:1<=ws.length
 lw:ws.length<=4+n/3
 ll:∀w∈ws,w.length<=30+4*n+40*(n/3)
 gs:Sg sg
 ls:sg.length<=6+2*n+28*(n/3)
 pm:∀e∈sg,e.2=1∨e.2= -1
 ky:∀w∈ws,∀p∈w,(p.natAbs:Int)∈kys sg
section
variable {n:Nat}{ws:QLs}{sg:QPs}
theorem Dr.l {i:Nat}(d:Dr n ws sg)(h:i<ws.length):(gw ws i).length<=82:=by
 have:=d.ll _ (Qk h);have:=d.n3;omega
theorem Dr.lw' (d:Dr n ws sg):ws.length<=10:=by have:=d.lw;have:=d.n3;omega
theorem Dr.fin (d:Dr n ws sg):chk (sg.length<64/\sg.Nodup) (Rs.ok (Ze ltP sg))= .ok sg:=by
 rw[Xi ⟨by have:=d.ls;have:=d.n3;omega,IB d.gs.kn⟩,d.gs.sort]
def rot (w:List Int)(s:Int):List Int:=if w.length=0 then w else w.drop (s % (w.length:Int)).toNat++w.take (s % (w.length:Int)).toNat
theorem PM {w:List Int}{s:Int}(h:w.length≠0):∃c:Nat,s % (w.length:Int)=(c:Int)/\c<w.length/\rot w s=w.drop c++w.take c:=by
 have h1:=Int.emod_nonneg s (show(w.length:Int)≠0 by omega)
 have h2:=Int.emod_lt_of_pos s (show(0:Int)<(w.length:Int) by omega)
 refine⟨(s % (w.length:Int)).toNat,by omega,by omega,?_⟩
 unfold rot
 rw[if_neg h]
def BM (ws:QLs)(i:Nat)(s:Int):QLs:=ws.set i (rot (gw ws i) s)
theorem Tq {i:Nat}(h:i<ws.length):ws.set i (gw ws i)=ws:=by
 apply List.ext_getElem?
 intro j
 by_cases e:i=j
 ·subst e;rw[List.getElem?_set_self h,E7 h]
 ·rw[List.getElem?_set_ne e]
theorem MU (d:Dr n ws sg){i:Nat}(hi:i<ws.length){s:Int}:G1 (ws,sg) [.s "turn", .i i, .i s]= .ok (BM ws i s,sg):=by
 have hl:=d.l hi
 unfold G1 Of;dsimp only
 simp only[Rs.okb,decide_true,if_true,Bool.not_true,ar0,ar1,ar2,ar3,ar4,ar5,ar6,ar7,ar8,mxS,mxI,mxB,okf,okt,HW,Bq,orF,orT,Xn,Gk,VW,FM,U3,Gw,MQ]
 rw[Qa (by have:=d.lw';omega)]
 simp only[Rs.okb,QF hi,d.gs.dict]
 by_cases h:(gw ws i).length=0
 ·rw[show decide ((0:Int)<((gw ws i).length:Int))=false by rw[h];rfl]
  simp only[okf,Rs.okb]
  rw[d.fin]
  simp only[Rs.okb]
  unfold BM rot
  rw[if_pos h,Tq hi]
 ·obtain⟨c,ec,hc,er⟩:=PM (s:=s) h
  rw[show decide ((0:Int)<((gw ws i).length:Int))=true by simpa using Nat.pos_of_ne_zero h]
  simp only[okt,Rs.okb]
  rw[X2 (by omega)]
  simp only[Rs.okb]
  rw[ec,ZK,FE _ (Nat.le_of_lt hc),show Hu ((gw ws i).drop c) ((gw ws i).take c)= .ok (rot (gw ws i) s) from(Xi (sz (by simp;omega))).trans (by rw[er])]
  simp only[Rs.okb]
  rw[Yn hi]
  simp only[Rs.okb]
  rw[d.fin]
  rfl
theorem Hz {i:Nat}(hi:i<ws.length):ZE (ws,sg) (i:Int)= .ok true:=by
 unfold ZE VU;dsimp only
 simp only[Rs.okb]
 rw[if_pos (by simp)]
 simpa using hi
theorem Fx {D:QDr}{m:List Mx}(h:Ye D m= .ok true):Yz D m= .ok ():=by
 unfold Yz YZ;dsimp only
 simp only[Rs.okb]
 rw[h]
 rfl
theorem Iq (d:Dr n ws sg){i:Nat}(hi:i<ws.length){s:Int}(hL:Ye (ws,sg) [.s "turn", .i i, .i s]= .ok true):ZH (ws,sg) [.s "turn", .i i, .i s]= .ok (BM ws i s,sg):=by
 have hl:=d.l hi
 unfold ZH Ua;dsimp only
 simp only[Rs.okb]
 rw[Fx hL]
 unfold DY DI;dsimp only
 unfold QW QL;dsimp only
 simp only[Rs.okb,decide_true,if_true,Bool.not_true,ar0,ar1,ar2,ar3,ar4,ar5,ar6,ar7,ar8,mxS,mxI,mxB,okf,okt,HW,Bq,orF,orT,Xn,Gk,VW,FM,U3,Gw,MQ]
 rw[Qa (by have:=d.lw';omega)]
 simp only[Rs.okb,QF hi]
 by_cases h:(gw ws i).length=0
 ·rw[show decide (((gw ws i).length:Int)=0)=true by rw[h];rfl]
  simp only[okt,if_true,Rs.okb,Xn]
  rw[Yn hi]
  simp only[Rs.okb,Xn]
  unfold BM rot
  rw[if_pos h,List.length_eq_zero_iff.mp h]
 ·obtain⟨c,ec,hc,er⟩:=PM (s:=s) h
  rw[show decide (((gw ws i).length:Int)=0)=false by simpa using h]
  simp only[okf,Rs.okb]
  rw[X2 (by omega)]
  simp only[Rs.okb]
  rw[ec,ZK,FE _ (Nat.le_of_lt hc),show Hu ((gw ws i).drop c) ((gw ws i).take c)= .ok (rot (gw ws i) s) from(Xi (sz (by simp;omega))).trans (by rw[er])]
  simp only[Rs.okb,Xn]
  rw[Yn hi]
  rfl
end
section
variable {n:Nat}{ws:QLs}{sg:QPs}
theorem Cv {e:Int×Int}:∀{l:QPs},(kys l).Nodup->e∈l->BB l () (λ(_:Unit) (a6:Int×Int)=>(if decide (a6.1=e.1)=true then Rs.ok (Ctl.ret a6.2) else Rs.ok (Ctl.nx ())))= .ok (.ret e.2)
 | [],_,h=>by cases h
 |a::l,hn,h=>by
  unfold kys at hn
  rw[List.map_cons,List.nodup_cons] at hn
  unfold BB
  rcases List.mem_cons.mp h with rfl |h
  ·simp[Rs.bind]
  ·have hne:a.1≠e.1:=λz=>hn.1 (z▸List.mem_map.mpr ⟨e,h,rfl⟩)
   have ih:=Cv (l:=l) hn.2 h
   simp only[hne,decide_false,if_neg Bool.false_ne_true,Rs.okb]
   exact ih
theorem RU {e:Int×Int}(h:(kys sg).Nodup)(he:e∈sg):QE (ws,sg) e.1= .ok e.2:=by
 unfold QE GX;dsimp only
 simp only[Rs.okb]
 rw[Cv h he]
 rfl
theorem Ul {i k:Nat}{x y:Int}(hi:i<ws.length)(hx:(gw ws i)[k]?=some x)(hy:(gw ws i)[k+1]?=some y):YJ (ws,sg) (i:Int) (k:Int)= .ok (some (x,y)):=by
 have h1:=(List.getElem?_eq_some_iff.mp hy).1
 unfold YJ V3;dsimp only
 simp only[Rs.okb,Hz hi,Xn,Bool.not_true,orF,QF hi]
 rw[if_pos (by simp),Rs.okb,Rs.okb,show decide ((k:Int)<((gw ws i).length:Int)-1)=true by simp;omega]
 simp only[Rs.okb,Bool.not_true,okf]
 rw[Zk hx,show(k:Int)+1=((k+1:Nat):Int) by omega,Zk hy]
 rfl
def ovw (o:Bool):Str:=if o=true then "over" else "under"
def prc (c:Int)(o:Bool):List Int:=if o=true then[c,-c] else[-c,c]
def CG (i k:Nat)(c:Int)(o:Bool)(s:Int):List Mx:=[.s "curl", .i i, .i k, .i c, .s (ovw o), .i s]
def sgC (sg:QPs)(c s:Int):QPs:=Ze ltP (sg++[(c,s)])
theorem MT {c:Int}{o:Bool}:(prc c o).length=2:=by cases o<;> rfl
theorem Dr.fin' (d:Dr n ws sg){l:QPs}(h:(kys l).Nodup)(hl:l.length<=60):chk (l.length<64/\l.Nodup) (Rs.ok (Ze ltP l))= .ok (Ze ltP l):=Xi ⟨by omega,IB h⟩
theorem B0 (d:Dr n ws sg){i k:Nat}{c s:Int}{o:Bool}(hi:i<ws.length)(hk:k<=(gw ws i).length)(hc:c∉kys sg)(h1:1<=c):G1 (ws,sg) (CG i k c o s)= .ok (G3 ws i k (prc c o),sgC sg c s):=by
 have hl:=d.l hi
 have h3:=d.n3
 have h4:=d.ls
 have hp:prc c o=[c*(if o=true then 1 else-1),-(c*(if o=true then 1 else-1))]:=by cases o<;> simp[prc]
 unfold CG
 unfold G1 Of;dsimp only
 simp only[Rs.okb,decide_true,if_true,Bool.not_true,ar0,ar1,ar2,ar3,ar4,ar5,ar6,ar7,ar8,mxS,mxI,mxB,okf,okt,HW,Bq,orF,orT,Xn,Z3,ZU,JW,Qj,QV,OA]
 rw[Qa (by have:=d.lw';omega),Xi (show[(-1:Int),1].length<=sizeLine from sz (by simp))]
 simp only[Rs.okb,d.gs.dict,Va hc]
 rw[show atR [(-1:Int),1] (if decide (ovw o=("over":Str))=true then 1 else 0)= .ok (if o=true then 1 else-1) by cases o<;> exact JB (by decide) rfl]
 simp only[Rs.okb]
 rw[Jm (by split<;> decide) (by split<;> decide)]
 simp only[Rs.okb]
 rw[KY hi hk (by omega)]
 simp only[Rs.okb,Xn]
 rw[Xi (BI (by omega))]
 simp only[Rs.okb]
 rw[d.fin' (Lq d.gs hc h1).1 (by simp;omega),hp]
 rfl
theorem IU (d:Dr n ws sg){i k:Nat}{c s:Int}{o:Bool}(hi:i<ws.length)(hk:k<=(gw ws i).length)(hc:c∉kys sg)(h1:1<=c)(hL:Ye (ws,sg) (CG i k c o s)= .ok true):ZH (ws,sg) (CG i k c o s)= .ok (G3 ws i k (prc c o),sgC sg c s):=by
 have hl:=d.l hi
 have h3:=d.n3
 have h4:=d.ls
 unfold ZH Ua;dsimp only
 simp only[Rs.okb]
 rw[Fx hL]
 unfold CG
 unfold F3 Cb;dsimp only
 simp only[Rs.okb,decide_true,if_true,Bool.not_true,ar0,ar1,ar2,ar3,ar4,ar5,ar6,ar7,ar8,mxS,mxI,mxB,okf,okt,HW,Bq,orF,orT,Xn,Z3,ZU,JW,Qj,QV,OA]
 rw[show(if decide (ovw o=("over":Str))=true then chk ([c,-c].length<=sizeLine) (Rs.ok [c,-c]) else chk ([-c,c].length<=sizeLine) (Rs.ok [-c,c]))= .ok (prc c o) by cases o<;> exact Xi (sz (show 2<=100000 by decide))]
 simp only[Rs.okb]
 rw[JR d.lw' hi hk (by omega) (by rw[MT];omega),Xi (show[(c,s)].length<=sizeLine from sz (by simp))]
 simp only[Rs.okb,Xn]
 rw[show Hu sg [(c,s)]= .ok (sg++[(c,s)]) from Xi (sz (by simp;omega))]
 simp only[Rs.okb]
 rw[d.fin' (Lq d.gs hc h1).1 (by simp;omega)]
 rfl
theorem Vb {i k:Nat}{p w:List Int}(hi:i<ws.length)(h:w∈G3 ws i k p):w∈ws∨w=ins (gw ws i) k p:=by
 unfold G3 at h
 exact(List.mem_or_eq_of_mem_set h)
theorem BZ {k:Nat}{p w:List Int}{x:Int}(h:x∈ins w k p):x∈w∨x∈p:=by
 unfold ins at h
 rcases List.mem_append.mp h with h |h
 ·rcases List.mem_append.mp h with h |h
  ·exact .inl (List.mem_of_mem_take h)
  ·exact .inr h
 ·exact .inl (List.mem_of_mem_drop h)
theorem Sr {c x:Int}{o:Bool}(h1:1<=c)(h:x∈prc c o):(x.natAbs:Int)=c:=by
 unfold prc at h
 split at h<;> simp at h<;> omega
theorem Sf {c s k:Int}:k∈kys (sgC sg c s)↔k∈kys sg∨k=c:=by
 unfold sgC
 rw[D0]
 unfold kys
 simp
theorem Dr.curl (d:Dr n ws sg)(hn:n<=2){i k:Nat}{c s:Int}{o:Bool}(hi:i<ws.length)(hk:k<=(gw ws i).length)(hc:c∉kys sg)(h1:1<=c)(hs:s=1∨s= -1):Dr (n+1) (G3 ws i k (prc c o)) (sgC sg c s) where
 pm:=λe he=>by
  rcases List.mem_append.mp (DN.mp he) with h |h
  ·exact d.pm e h
  ·rw[List.mem_singleton.mp h];exact hs
 n3:=by omega
 ne:=by rw[Zb];exact d.ne
 lw:=by rw[Zb];have:=d.lw;omega
 ll:=λw hw=>by
  rcases Vb hi hw with h |rfl
  ·have:=d.ll w h;omega
  ·have:=d.ll _ (Qk hi);rw[KP hk,MT];omega
 gs:=(Lq d.gs hc h1).2.2
 ls:=by unfold sgC;rw[Dc];have:=d.ls;simp;omega
 ky:=λw hw p hp=>by
  rw[Sf]
  rcases Vb hi hw with h |rfl
  ·exact .inl (d.ky w h p hp)
  ·rcases BZ hp with h |h
   ·exact .inl (d.ky _ (Qk hi) p h)
   ·exact .inr (Sr h1 h)
theorem M0 (d:Dr n ws sg){i k:Nat}{x:Int}(hi:i<ws.length)(hx:(gw ws i)[k]?=some x)(hy:(gw ws i)[k+1]?=some (-x)):G1 (ws,sg) [.s "uncurl", .i i, .i k]= .ok (G0 ws i k,ZQ sg (x.natAbs:Int)):=by
 have hl:=d.l hi
 have h3:=d.n3
 have h4:=d.ls
 have hk:=(List.getElem?_eq_some_iff.mp hy).1
 have hm:(x.natAbs:Int)∈kys sg:=d.ky _ (Qk hi) x (List.mem_of_getElem? hx)
 unfold G1 Of;dsimp only
 simp only[Rs.okb,decide_true,if_true,Bool.not_true,ar0,ar1,ar2,ar3,ar4,ar5,ar6,ar7,ar8,mxS,mxI,mxB,okf,okt,HW,Bq,orF,orT,Xn,Y7,Q7,JN,Qn,Q9,EQ]
 rw[Qa (by have:=d.lw';omega)]
 simp only[Rs.okb,d.gs.dict,QF hi]
 rw[Zk hx]
 simp only[Rs.okb]
 rw[Xi (Z9.mpr hm),UL hi (by omega) (by omega)]
 simp only[Rs.okb,Xn]
 have hs:=d.gs.del (x.natAbs:Int)
 have gt:(ZQ sg (x.natAbs:Int)).length<=sg.length:=List.filter_sublist.length_le
 rw[d.fin' hs.kn (by omega),hs.sort]
 rfl
theorem Ef (d:Dr n ws sg){i k:Nat}{x:Int}(hi:i<ws.length)(hx:(gw ws i)[k]?=some x)(hy:(gw ws i)[k+1]?=some (-x))(hL:Ye (ws,sg) [.s "uncurl", .i i, .i k]= .ok true):ZH (ws,sg) [.s "uncurl", .i i, .i k]= .ok (G0 ws i k,ZQ sg (x.natAbs:Int)):=by
 have hl:=d.l hi
 have h3:=d.n3
 have h4:=d.ls
 have hk:=(List.getElem?_eq_some_iff.mp hy).1
 unfold ZH Ua;dsimp only
 simp only[Rs.okb]
 rw[Fx hL]
 unfold YL Zj;dsimp only
 simp only[Rs.okb,decide_true,if_true,Bool.not_true,ar0,ar1,ar2,ar3,ar4,ar5,ar6,ar7,ar8,mxS,mxI,mxB,okf,okt,HW,Bq,orF,orT,Xn,Y7,Q7,JN,Qn,Q9,EQ,Ul hi hx hy,Nh,UQ d.lw' hi (show k<=(gw ws i).length by omega) (show(gw ws i).length<=100 by omega)]
 rw[Di (p:=λe=>decide (e.1≠(x.natAbs:Int))) (h:=λe=>e) (sz (by omega)) (λe he=>?_) λ_ _ _=>rfl,List.map_id']
 ·rfl
 ·have:=d.gs.2 e he
  congr 1
  rw[Bool.eq_iff_iff]
  simp
  omega
end
section
variable {n:Nat}{ws:QLs}{sg:QPs}
def und (a b:Int)(c:Bool):List Int:=if c=true then[-b,-a] else[-a,-b]
def Ot (i k j l:Nat)(a b:Int)(c:Bool)(s:Int):List Mx:=[.s "lay", .i i, .i k, .i j, .i l, .i a, .i b, .b c, .i s]
def Tx (ws:QLs)(i k j l:Nat)(a b:Int)(c:Bool):QLs:=G3 (G3 ws i k [a,b]) j l (und a b c)
def sgL (sg:QPs)(a b s:Int):QPs:=Ze ltP (sg++[(a,s),(b,-s)])
structure LayOk (n:Nat)(ws:QLs)(sg:QPs)(i k j l:Nat)(a b s:Int):Prop where
 d:Dr n ws sg
 hi:i<ws.length
 hk:k<=(gw ws i).length
 hj:j<ws.length
 hl:l<=(gw ws j).length+if j=i then 2 else 0
 hne:j=i->l≠k+1
 ha:1<=a/\a∉kys sg
 hb:1<=b/\b∉kys sg
 ab:a≠b
 hs:s=1∨s= -1
variable {i k j l:Nat}{a b s:Int}{c:Bool}
theorem LayOk.hl' (h:LayOk n ws sg i k j l a b s):l<=(gw (G3 ws i k [a,b]) j).length:=by
 have:=h.hl
 by_cases e:j=i
 ·rw[if_pos e] at this
  subst e
  rw[L4 h.hi,KP h.hk]
  simp;omega
 ·rw[if_neg e] at this
  rw[Mt e];omega
theorem LayOk.ll (h:LayOk n ws sg i k j l a b s):(gw (G3 ws i k [a,b]) j).length<=84:=by
 by_cases e:j=i
 ·subst e
  rw[L4 h.hi,KP h.hk]
  have:=h.d.l h.hi
  simp;omega
 ·rw[Mt e];have:=h.d.l h.hj;omega
theorem LayOk.kn (h:LayOk n ws sg i k j l a b s):(kys (sg++[(a,s),(b,-s)])).Nodup/\(∀e∈sg++[(a,s),(b,-s)],1<=e.1)/\b∉kys (sg++[(a,s)]):=by
 have hn:=h.d.gs.kn
 have h1:=h.ha.2
 have h2:=h.hb.2
 have h3:=h.ab
 unfold kys at hn h1 h2⊢
 refine⟨?_,λe he=>?_,?_⟩
 ·rw[List.map_append,List.nodup_append]
  refine⟨hn,by simp[h3],λx hx y hy e=>?_⟩
  subst e
  have:x=a∨x=b:=by simpa using hy
  rcases this with rfl |rfl
  ·exact h1 hx
  ·exact h2 hx
 ·rcases List.mem_append.mp he with he |he
  ·exact h.d.gs.2 e he
  ·have:e=(a,s)∨e=(b,-s):=by simpa using he
   rcases this with rfl |rfl
   ·exact h.ha.1
   ·exact h.hb.1
 ·simp only[List.map_append,List.mem_append,not_or]
  exact⟨h2,by simpa using Ne.symm h3⟩
theorem LR:(und a b c).length=2:=by cases c<;> rfl
theorem LQ (h:LayOk n ws sg i k j l a b s):G1 (ws,sg) (Ot i k j l a b c s)= .ok (Tx ws i k j l a b c,sgL sg a b s):=by
 have hl:=h.d.l h.hi
 have h3:=h.d.n3
 have h4:=h.d.ls
 have hk:=h.kn
 unfold Ot
 unfold G1 Of;dsimp only
 simp only[Rs.okb,decide_true,if_true,Bool.not_true,ar0,ar1,ar2,ar3,ar4,ar5,ar6,ar7,ar8,mxS,mxI,mxB,okf,okt,HW,Bq,orF,orT,Xn,QH,Uv,Qh,VS,J1,Wh]
 rw[Qa (by have:=h.d.lw';omega)]
 simp only[Rs.okb,h.d.gs.dict]
 rw[KY h.hi h.hk (by omega)]
 simp only[Rs.okb,Xn]
 rw[Va h.ha.2,Va hk.2.2,Xi (BI (by omega)),Xi (BI (by simp;omega))]
 have e:(if c=true then Rs.ok (b,a) else Rs.ok (a,b))=Rs.ok (if c=true then(b,a) else(a,b)):=by cases c<;> rfl
 rw[e]
 simp only[Rs.okb]
 rw[KY (by rw[Zb];exact h.hj) h.hl' (by have:=h.ll;omega)]
 simp only[Rs.okb,Xn]
 rw[List.append_assoc]
 rw[h.d.fin' (l:=sg++([(a,s)]++[(b,-s)])) hk.1 (by simp;omega)]
 cases c<;> rfl
theorem Dr.lay (h:LayOk n ws sg i k j l a b s)(hn:n<=2):Dr (n+1) (Tx ws i k j l a b c) (sgL sg a b s) where
 pm:=λe he=>by
  rcases List.mem_append.mp (DN.mp he) with z |z
  ·exact h.d.pm e z
  ·have:=h.hs
   rcases List.mem_cons.mp z with rfl |z
   ·exact this
   ·rw[List.mem_singleton.mp z];show-s=1∨ -s= -1;omega
 n3:=by omega
 ne:=by unfold Tx;rw[Zb,Zb];exact h.d.ne
 lw:=by unfold Tx;rw[Zb,Zb];have:=h.d.lw;omega
 ll:=λw hw=>by
  have k1:∀w∈G3 ws i k [a,b],w.length<=30+4*n+2:=λw hw=>by
   rcases Vb h.hi hw with z |rfl
   ·have:=h.d.ll w z;omega
   ·have:=h.d.ll _ (Qk h.hi);rw[KP h.hk];simp;omega
  have cu:j<(G3 ws i k [a,b]).length:=by rw[Zb];exact h.hj
  rcases Vb cu hw with z |rfl
  ·have:=k1 w z;omega
  ·have:=k1 _ (Qk cu);rw[KP h.hl',LR];omega
 gs:=RH h.kn.1 h.kn.2.1
 ls:=by unfold sgL;rw[Dc];have:=h.d.ls;simp;omega
 ky:=λw hw p hp=>by
  have kk:∀q:Int,q∈kys (sgL sg a b s)↔q∈kys sg∨q=a∨q=b:=λq=>by
   unfold sgL
   rw[D0]
   unfold kys
   simp
  rw[kk]
  have h1:=h.ha.1
  have h2:=h.hb.1
  have k1:∀w∈G3 ws i k [a,b],∀p∈w,(p.natAbs:Int)∈kys sg∨(p.natAbs:Int)=a∨(p.natAbs:Int)=b:=λw hw p hp=>by
   rcases Vb h.hi hw with z |rfl
   ·exact .inl (h.d.ky w z p hp)
   ·rcases BZ hp with z |z
    ·exact .inl (h.d.ky _ (Qk h.hi) p z)
    ·have:p=a∨p=b:=by simpa using z
     rcases this with rfl |rfl
     ·exact .inr (.inl (by omega))
     ·exact .inr (.inr (by omega))
  have cu:j<(G3 ws i k [a,b]).length:=by rw[Zb];exact h.hj
  rcases Vb cu hw with z |rfl
  ·exact k1 w z p hp
  ·rcases BZ hp with z |z
   ·exact k1 _ (Qk cu) p z
   ·have:p= -a∨p= -b:=by unfold und at z;split at z<;> simp at z<;> omega
    rcases this with rfl |rfl
    ·exact .inr (.inl (by omega))
    ·exact .inr (.inr (by omega))
end
section
variable {n:Nat}{ws:QLs}{sg:QPs}
def swp (w:List Int)(k:Nat):List Int:=(w.set k (w.getD (k+1) 0)).set (k+1) (w.getD k 0)
def swW (ws:QLs)(i k:Nat):QLs:=ws.set i (swp (gw ws i) k)
def At2 (ws:QLs)(i k:Nat):Prop:=i<ws.length/\k+1<(gw ws i).length
theorem BD {i k:Nat}:(swW ws i k).length=ws.length:=by simp[swW]
theorem Mf {w:List Int}{k:Nat}:(swp w k).length=w.length:=by simp[swp]
theorem SV {i k j:Nat}:(gw (swW ws i k) j).length=(gw ws j).length:=by
 unfold swW gw
 simp only[List.getD_eq_getElem?_getD]
 by_cases e:i=j
 ·subst e
  by_cases h:i<ws.length
  ·rw[List.getElem?_set_self h];simp[Mf,h]
  ·rw[List.getElem?_eq_none (by simp;omega),List.getElem?_eq_none (by omega)]
 ·rw[List.getElem?_set_ne e]
theorem At2.sw {i k j l:Nat}(h:At2 ws j l):At2 (swW ws i k) j l:=⟨by rw[BD];exact h.1,by rw[SV];exact h.2⟩
theorem Oc {i k:Nat}(h:At2 ws i k):((atR ws (i:Int)).bind λx=>atR x (k:Int))= .ok ((gw ws i).getD k 0)/\((atR ws (i:Int)).bind λx=>atR x ((k:Int)+1))= .ok ((gw ws i).getD (k+1) 0):=by
 obtain⟨hi,hk⟩:=h
 rw[QF hi,Rs.okb,Rs.okb,show(k:Int)+1=((k+1:Nat):Int) by omega]
 exact⟨Zk (by simp[Nat.lt_of_succ_lt hk]),Zk (by simp[hk])⟩
theorem OH {i k:Nat}{x y:Int}(h:At2 ws i k):((atR ws (i:Int)).bind λr=>(Ve r (k:Int) x).bind λr'=>(Ve ws (i:Int) r').bind λw=>(atR w (i:Int)).bind λr2=>(Ve r2 ((k:Int)+1) y).bind λr3=>(Ve w (i:Int) r3).bind λz=>Rs.ok z)= .ok (ws.set i (((gw ws i).set k x).set (k+1) y)):=by
 obtain⟨hi,hk⟩:=h
 rw[QF hi]
 simp only[Rs.okb]
 rw[Yn (by omega)]
 simp only[Rs.okb]
 rw[Yn hi]
 simp only[Rs.okb]
 rw[Zk (as:=ws.set i ((gw ws i).set k x)) (List.getElem?_set_self hi)]
 simp only[Rs.okb]
 rw[show(k:Int)+1=((k+1:Nat):Int) by omega,Yn (by simp;omega)]
 simp only[Rs.okb]
 rw[Yn (by simp;exact hi)]
 simp only[Rs.okb,List.set_set]
def IV (i k j l u v:Nat):List Mx:=[.s "pass", .i i, .i k, .i j, .i l, .i u, .i v]
def Nl (ws:QLs)(i k j l u v:Nat):QLs:=swW (swW (swW ws i k) j l) u v
variable {i k j l u v:Nat}
theorem Ts {f:QLs->Int×Int->Rs QLs}(hf:∀{ws:QLs}{i k:Nat},At2 ws i k->f ws ((i:Int),(k:Int))= .ok (swW ws i k))(h1:At2 ws i k)(h2:At2 ws j l)(h3:At2 ws u v):
  forN [((i:Int),(k:Int)),((j:Int),(l:Int)),((u:Int),(v:Int))] ws f= .ok (Nl ws i k j l u v):=by
 unfold forN
 rw[hf h1,Rs.okb]
 unfold forN
 rw[hf h2.sw,Rs.okb]
 unfold forN
 rw[hf h3.sw.sw,Rs.okb]
 rfl
theorem To {l:List Mx}{lo hi a b:Int}(h:¬(HT.sIx l.length 0 (some lo)=0/\HT.sIx l.length l.length (some hi)=l.length))(e:Gv l (some lo) (some hi)=[.i a, .i b]):(chk (¬(HT.sIx l.length 0 (some lo)=0/\HT.sIx l.length l.length (some hi)=l.length)) (Rs.ok (Gv l (some lo) (some hi)))).bind mx2= .ok (a,b):=by
 rw[Xi h,e];rfl
theorem LC (d:Dr n ws sg)(h1:At2 ws i k)(h2:At2 ws j l)(h3:At2 ws u v):G1 (ws,sg) (IV i k j l u v)= .ok (Nl ws i k j l u v,sg):=by
 unfold IV
 unfold G1 Of;dsimp only
 simp only[Rs.okb,decide_true,if_true,Bool.not_true,ar0,ar1,ar2,ar3,ar4,ar5,ar6,ar7,ar8,mxS,mxI,mxB,okf,okt,HW,Bq,orF,orT,Xn,Zy,Q2,YO,QC,Y5,OS]
 rw[Qa (by have:=d.lw';omega)]
 simp only[Rs.okb,d.gs.dict]
 rw[To (l:=[Mx.s "pass", .i i, .i k, .i j, .i l, .i u, .i v]) (lo:=1) (hi:=3) (a:=i) (b:=k) (show ¬(HT.sIx 7 0 (some 1)=0/\HT.sIx 7 7 (some 3)=7) by decide) rfl,To (l:=[Mx.s "pass", .i i, .i k, .i j, .i l, .i u, .i v]) (lo:=3) (hi:=5) (a:=j) (b:=l) (show ¬(HT.sIx 7 0 (some 3)=0/\HT.sIx 7 7 (some 5)=7) by decide) rfl,To (l:=[Mx.s "pass", .i i, .i k, .i j, .i l, .i u, .i v]) (lo:=5) (hi:=7) (a:=u) (b:=v) (show ¬(HT.sIx 7 0 (some 5)=0/\HT.sIx 7 7 (some 7)=7) by decide) rfl]
 simp only[Rs.okb]
 rw[Xi (show[((i:Int),(k:Int)),((j:Int),(l:Int)),((u:Int),(v:Int))].length<=sizeLine from sz (by simp))]
 simp only[Rs.okb]
 rw[Ts (fun {ws i k} h=>?_) h1 h2 h3]
 ·simp only[Rs.okb]
  rw[d.fin]
  rfl
 ·obtain⟨e1,e2⟩:=Oc h
  simp only
  rw[e1,e2]
  simp only[Rs.okb]
  exact OH h
theorem Lj (hl:ws.length<=10)(h1:At2 ws i k)(h2:At2 ws j l)(h3:At2 ws u v):Kp (ws,sg) (IV i k j l u v)= .ok (Nl ws i k j l u v,sg):=by
 unfold IV
 unfold Kp Dw;dsimp only
 simp only[Rs.okb,decide_true,if_true,Bool.not_true,ar0,ar1,ar2,ar3,ar4,ar5,ar6,ar7,ar8,mxS,mxI,mxB,okf,okt,HW,Bq,orF,orT,Xn,Zy,Q2,YO,QC,Y5,OS]
 rw[Qa (by omega),Xi (show[((i:Int),(k:Int)),((j:Int),(l:Int)),((u:Int),(v:Int))].length<=sizeLine from sz (by simp))]
 simp only[Rs.okb]
 rw[Ts (fun {ws i k} h=>?_) h1 h2 h3]
 ·rfl
 ·obtain⟨e1,e2⟩:=Oc h
  simp only
  rw[e1,e2]
  simp only[Rs.okb]
  exact OH h
theorem Pd {w:List Int}{k:Nat}{x:Int}(hk:k+1<w.length)(h:x∈swp w k):x∈w:=by
 unfold swp at h
 rcases List.mem_or_eq_of_mem_set h with h |h
 ·rcases List.mem_or_eq_of_mem_set h with h |h
  ·exact h
  ·rw[h];exact List.mem_of_getElem? (i:=k+1) (by simp[hk])
 ·rw[h];exact List.mem_of_getElem? (i:=k) (by simp[Nat.lt_of_succ_lt hk])
theorem Dr.sw (d:Dr n ws sg)(h:At2 ws i k):Dr n (swW ws i k) sg where
 pm:=d.pm
 n3:=d.n3
 ne:=by rw[BD];exact d.ne
 lw:=by rw[BD];exact d.lw
 ll:=λw hw=>by
  rcases List.mem_or_eq_of_mem_set hw with z |rfl
  ·exact d.ll w z
  ·rw[Mf];exact d.ll _ (Qk h.1)
 gs:=d.gs
 ls:=d.ls
 ky:=λw hw p hp=>by
  rcases List.mem_or_eq_of_mem_set hw with z |rfl
  ·exact d.ky w z p hp
  ·exact d.ky _ (Qk h.1) p (Pd h.2 hp)
theorem Dr.pass (d:Dr n ws sg)(h1:At2 ws i k)(h2:At2 ws j l)(h3:At2 ws u v):Dr n (Nl ws i k j l u v) sg:=((d.sw h1).sw h2.sw).sw h3.sw.sw
theorem Dr.turn (d:Dr n ws sg)(hi:i<ws.length){s:Int}:Dr n (BM ws i s) sg:=by
 have hr:∀x,x∈rot (gw ws i) s->x∈gw ws i:=λx hx=>by
  unfold rot at hx
  split at hx
  ·exact hx
  ·rcases List.mem_append.mp hx with z |z
   ·exact List.mem_of_mem_drop z
   ·exact List.mem_of_mem_take z
 have hl:(rot (gw ws i) s).length=(gw ws i).length:=by
  by_cases h:(gw ws i).length=0
  ·unfold rot;rw[if_pos h]
  ·obtain⟨c,_,hc,e⟩:=PM (s:=s) h
   rw[e];simp;omega
 exact⟨d.n3,by unfold BM;simpa using d.ne,by unfold BM;simpa using d.lw,λw hw=>by
  rcases List.mem_or_eq_of_mem_set hw with z |rfl
  ·exact d.ll w z
  ·rw[hl];exact d.ll _ (Qk hi),d.gs,d.ls,d.pm,λw hw p hp=>by
  rcases List.mem_or_eq_of_mem_set hw with z |rfl
  ·exact d.ky w z p hp
  ·exact d.ky _ (Qk hi) p (hr p hp)⟩
end
abbrev Q4:=Int×Int×Int×Int
section
variable {M L:Type}
theorem Qe {f:List L->M->Rs (List L)}{h:M->List L}{N:Nat}:∀{as:List M}{g:List L},g.length+(as.flatMap h).length<=N->(∀g:List L,∀a∈as,g.length+(h a).length<=N->f g a= .ok (g++h a))->forN as g f= .ok (g++as.flatMap h)
 | [],g,_,_=>by simp[forN]
 |a::as,g,hl,hf=>by
  rw[List.flatMap_cons,List.length_append] at hl
  show(f g a).bind _=_
  rw[hf g a (by simp) (by omega),Rs.ok_bind,Qe (by rw[List.length_append];omega) λg b hb=>hf g b (by simp[hb]),List.flatMap_cons,List.append_assoc]
theorem Jp {h:M->List L}{m:Nat}:∀{as:List M},(∀a∈as,(h a).length<=m)->(as.flatMap h).length<=as.length*m
 | [],_=>by simp
 |a::as,hf=>by
  rw[List.flatMap_cons,List.length_append,List.length_cons,Nat.succ_mul]
  have:=hf a (by simp)
  have:=Jp (as:=as) λb hb=>hf b (by simp[hb])
  omega
end
section
variable {n:Nat}{ws:QLs}{sg:QPs}
structure PQ (ws:QLs)(q:Q4):Prop where
 ex:∃i k:Nat,q.1=(i:Int)/\q.2.1=(k:Int)/\i<ws.length/\(gw ws i)[k]?=some q.2.2.1/\(gw ws i)[k+1]?=some q.2.2.2
theorem c4 {x y z w:Int}:chk (¬(HT.sIx [x,y,z,w].length 0 (some 2)=0/\HT.sIx [x,y,z,w].length [x,y,z,w].length none=[x,y,z,w].length)) (Rs.ok (Gv [x,y,z,w] (some 2) none))= .ok [z,w]:=Xi (show ¬(HT.sIx 4 0 (some 2)=0/\HT.sIx 4 4 none=4) by decide)
theorem d4 {x y z w:Int}:chk (¬(HT.sIx [x,y,z,w].length 0 none=0/\HT.sIx [x,y,z,w].length [x,y,z,w].length (some 2)=[x,y,z,w].length)) (Rs.ok (Gv [x,y,z,w] none (some 2)))= .ok [x,y]:=Xi (show ¬(HT.sIx 4 0 none=0/\HT.sIx 4 4 (some 2)=4) by decide)
theorem WS {x y:Int}:An [x,y]= .ok (min x y):=Xi (by simp)
theorem Aw {x y:Int}:Ah [x,y]= .ok (max x y):=Xi (by simp)
theorem NP (w:List Int):TC 0 ((w.length:Int)-1)= .ok ((List.range (w.length-1)).map λ(i:Nat)=>(i:Int))∨1000<w.length:=by
 by_cases h:1000<w.length
 ·exact .inr h
 ·left
  by_cases h0:w.length=0
  ·rw[h0];rfl
  ·rw[show(w.length:Int)-1=((w.length-1:Nat):Int) by omega]
   exact Jc (by omega)
abbrev rgI (n:Nat):List Int:=(List.range n).map λ(i:Nat)=>(i:Int)
def prW (ws:QLs)(a:Int):List Q4:=(rgI ((gw ws a.toNat).length-1)).map λb=>(a,b,(gw ws a.toNat).getD b.toNat 0,(gw ws a.toNat).getD (b.toNat+1) 0)
def prs (ws:QLs):List Q4:=(rgI ws.length).flatMap (prW ws)
theorem VI {q:Q4}:q∈prs ws↔PQ ws q:=by
 unfold prs prW
 rw[List.mem_flatMap]
 constructor
 ·rintro⟨a,ha,hq⟩
  obtain⟨i,hi,rfl⟩:=QG ha
  obtain⟨b,hb,rfl⟩:=List.mem_map.mp hq
  obtain⟨k,hk,rfl⟩:=QG hb
  rw[Int.toNat_natCast] at hk
  refine⟨i,k,rfl,rfl,hi,?_,?_⟩<;> simp only[Int.toNat_natCast]<;> rw[List.getD_eq_getElem?_getD,List.getElem?_eq_getElem (by omega)]<;> rfl
 ·rintro⟨i,k,e1,e2,hi,h1,h2⟩
  have:=(List.getElem?_eq_some_iff.mp h2).1
  obtain⟨x,y,z,w⟩:=q
  cases e1;cases e2
  refine⟨i,List.mem_map.mpr ⟨i,List.mem_range.mpr hi,rfl⟩,List.mem_map.mpr ⟨k,List.mem_map.mpr ⟨k,List.mem_range.mpr (by rw[Int.toNat_natCast];omega),rfl⟩,?_⟩⟩
  simp only[Int.toNat_natCast,List.getD_eq_getElem?_getD,h1,h2]
  rfl
theorem Lw {a:Int}:(prW ws a).length=(gw ws a.toNat).length-1:=by unfold prW;simp
theorem Dr.tot (d:Dr n ws sg):(prs ws).length<=405:=by
 have:=Jp (as:=rgI ws.length) (h:=prW ws) (m:=81) λa ha=>by
  obtain⟨i,hi,rfl⟩:=QG ha
  have:=d.l hi
  rw[Lw,Int.toNat_natCast]
  omega
 rw[ZI] at this
 have:=d.lw
 have:=d.n3
 unfold prs
 omega
theorem DG (d:Dr n ws sg):UO ws= .ok (prs ws):=by
 have hw:=d.lw'
 unfold UO B8;dsimp only
 simp only[Rs.okb]
 rw[Jc (by omega)]
 simp only[Rs.okb]
 rw[Qe (h:=prW ws) (N:=405) (by have:=d.tot;unfold prs at this;simpa using this) λg a ha hg=>?_]
 ·rfl
 obtain⟨i,hi,rfl⟩:=QG ha
 have hl:=d.l hi
 simp only[QF hi,Rs.okb]
 rcases NP (gw ws i) with e |e
 ·rw[Lw,Int.toNat_natCast] at hg
  rw[e,Rs.okb,Bk (h:=λb:Int=>((i:Int),b,(gw ws i).getD b.toNat 0,(gw ws i).getD (b.toNat+1) 0)) (sz (by rw[ZI];omega)) λg hg b hb=>?_]
  ·unfold prW;rw[Int.toNat_natCast];rfl
  obtain⟨k,hk,rfl⟩:=QG hb
  rw[Zk (show(gw ws i)[k]?=some ((gw ws i).getD k 0) by simp[show k<(gw ws i).length by omega]),show(k:Int)+1=((k+1:Nat):Int) by omega,Zk (show(gw ws i)[k+1]?=some ((gw ws i).getD (k+1) 0) by simp[show k+1<(gw ws i).length by omega])]
  simp only[Rs.okb,Int.toNat_natCast]
  rw[Xi hg]
 ·omega
def sv (sg:QPs)(k:Int):Int:=(QI sg k).getD 0
theorem Co {k:Int}(h:k∈kys sg):MF sg k= .ok (sv sg k):=by
 have:=Z9.mpr h
 unfold MF sv
 cases e:QI sg k with
 |none=>rw[e] at this;cases this
 |some v=>rfl
def pa (q:Q4):Int:=-(min q.2.2.1 q.2.2.2)
def pc (q:Q4):Int:=max q.2.2.1 q.2.2.2
def pb (p q:Q4):Int:=p.2.2.1+p.2.2.2-pa q
def ord (x y:Int):Int:=if x=y then 1 else-1
theorem Mk {x y:Int}:((O7 2 (if decide (x=y)=true then 1 else 0)).bind λz=>Rs.ok (z-1))= .ok (ord x y):=by
 unfold ord
 by_cases h:x=y
 ·rw[if_pos h,show decide (x=y)=true by simpa using h];rfl
 ·rw[if_neg h,show decide (x=y)=false by simpa using h];rfl
structure StC (sg:QPs)(p q r:Q4):Prop where
 a1:pa q∈[p.2.2.1,p.2.2.2]
 c1:pc q∉ [p.2.2.1,p.2.2.2]
 so:Yr [-r.2.2.1,-r.2.2.2]=Yr [pb p q,pc q]
 e1:ord p.2.2.1 (pa q)*sv sg (pb p q)=ord q.2.2.1 (-(pa q))*sv sg (pc q)
 e2:ord q.2.2.1 (-(pa q))*sv sg (pa q)=ord r.2.2.1 (-(pb p q))*sv sg (pb p q)
theorem Lh {x y z:Int}:O7 (ord x y) z= .ok (ord x y*z):=YS (by unfold ord;split<;> decide) (by unfold ord;split<;> decide)
theorem BP {p q r:Q4}(ka:pa q∈kys sg)(kc:pc q∈kys sg)(kb:pa q∈[p.2.2.1,p.2.2.2]->pb p q∈kys sg):Ok (JY sg p q r) λb=>b=true↔StC sg p q r:=by
 unfold JY Uq;dsimp only
 simp only[Rs.okb,c4]
 rw[show-(min q.2.2.1 q.2.2.2)=pa q from rfl,show max q.2.2.1 q.2.2.2=pc q from rfl,show p.2.2.1+p.2.2.2-pa q=pb p q from rfl]
 by_cases h1:pa q∈[p.2.2.1,p.2.2.2]
 ·rw[show decide (pa q∈[p.2.2.1,p.2.2.2])=true by simpa using h1]
  simp only[Bool.not_true,orF,Rs.okb]
  by_cases h2:pc q∈[p.2.2.1,p.2.2.2]
  ·rw[show decide (pc q∈[p.2.2.1,p.2.2.2])=true by simpa using h2]
   exact⟨false,rfl,λz=>(by cases z),λz=>absurd h2 z.c1⟩
  ·rw[show decide (pc q∈[p.2.2.1,p.2.2.2])=false by simpa using h2,okf,Xi (show[-r.2.2.1,-r.2.2.2].length<=sizeLine from sz (by simp)),Xi (show[pb p q,pc q].length<=sizeLine from sz (by simp))]
   simp only[Rs.okb]
   rw[Xi (show[-r.2.2.1,-r.2.2.2].length<64 by simp),Xi (show[pb p q,pc q].length<64 by simp)]
   simp only[Rs.okb]
   by_cases h3:Yr [-r.2.2.1,-r.2.2.2]=Yr [pb p q,pc q]
   ·rw[show decide (Yr [-r.2.2.1,-r.2.2.2]=Yr [pb p q,pc q])=true by simpa using h3]
    simp only[Bool.not_true,okf]
    rw[Mk,Rs.okb,Mk,Rs.okb,Mk,Rs.okb,Co ka,Co kc,Co (kb h1)]
    simp only[Rs.okb,Lh]
    rw[Z7 (c:=decide (ord q.2.2.1 (-(pa q))*sv sg (pa q)=ord r.2.2.1 (-(pb p q))*sv sg (pb p q))) λ_=>rfl]
    refine⟨_,rfl,?_⟩
    simp only[Bool.and_eq_true,decide_eq_true_eq]
    exact⟨λz=>⟨h1,h2,h3,z.1,z.2⟩,λz=>⟨z.e1,z.e2⟩⟩
   ·rw[show decide (Yr [-r.2.2.1,-r.2.2.2]=Yr [pb p q,pc q])=false by simpa using h3]
    exact⟨false,rfl,λz=>(by cases z),λz=>absurd z.so h3⟩
 ·rw[show decide (pa q∈[p.2.2.1,p.2.2.2])=false by simpa using h1]
  exact⟨false,rfl,λz=>(by cases z),λz=>absurd z.a1 h1⟩
structure PassC (ws:QLs)(sg:QPs)(p q r:Q4):Prop where
 hp:PQ ws p
 hq:PQ ws q
 hr:PQ ws r
 p0:0<min p.2.2.1 p.2.2.2
 q0:min q.2.2.1 q.2.2.2<0/\0<max q.2.2.1 q.2.2.2
 r0:max r.2.2.1 r.2.2.2<0
 st:StC sg p q r
def Kb (p q r:Q4):List Mx:=[.s "pass", .i p.1, .i p.2.1, .i q.1, .i q.2.1, .i r.1, .i r.2.1]
theorem Fq (d:Dr n ws sg){q:Q4}(h:PQ ws q):(q.2.2.1.natAbs:Int)∈kys sg/\(q.2.2.2.natAbs:Int)∈kys sg:=by
 obtain⟨i,k,_,_,hi,z1,z2⟩:=h.ex
 exact⟨d.ky _ (Qk hi) _ (List.mem_of_getElem? z1),d.ky _ (Qk hi) _ (List.mem_of_getElem? z2)⟩
theorem Eg (d:Dr n ws sg){p q:Q4}(hp:PQ ws p)(hq:PQ ws q)(p0:0<min p.2.2.1 p.2.2.2)(q0:min q.2.2.1 q.2.2.2<0/\0<max q.2.2.1 q.2.2.2):pa q∈kys sg/\pc q∈kys sg/\(pa q∈[p.2.2.1,p.2.2.2]->pb p q∈kys sg):=by
 obtain⟨k1,k2⟩:=Fq d hp
 obtain⟨k3,k4⟩:=Fq d hq
 have a:∀{x y:Int},(x.natAbs:Int)∈kys sg->y=(x.natAbs:Int)->y∈kys sg:=λh e=>e▸h
 unfold pa pc pb pa
 refine⟨?_,?_,λh=>?_⟩
 ·rcases Int.le_total q.2.2.1 q.2.2.2 with z |z
  ·exact a k3 (by omega)
  ·exact a k4 (by omega)
 ·rcases Int.le_total q.2.2.1 q.2.2.2 with z |z
  ·exact a k4 (by omega)
  ·exact a k3 (by omega)
 ·have: -(min q.2.2.1 q.2.2.2)=p.2.2.1∨ -(min q.2.2.1 q.2.2.2)=p.2.2.2:=by simpa using h
  rcases this with z |z
  ·exact a k2 (by omega)
  ·exact a k1 (by omega)
open Classical in
def Sy (sg:QPs)(p q r:Q4):List (List Mx):=if StC sg p q r then[Kb p q r] else[]
def PG (ws:QLs)(sg:QPs)(l:List (List Mx)):Prop:=l.length<=16607430/\∀m,m∈l↔∃p q r,m=Kb p q r/\PassC ws sg p q r
theorem Lg {l:List Q4}{c:Q4->Rs Bool}{f:Q4->Rs Q4}(p:Q4->Bool)(hl:l.length<=405)(hc:∀a,c a= .ok (p a))(hf:∀a,f a= .ok a):Wt l c f= .ok (l.filter p)/\(l.filter p).length<=405:=
 ⟨by rw[Di (p:=p) (h:=λe=>e) (sz (by omega)) (λa _=>hc a) λa _ _=>hf a,List.map_id'],Nat.le_trans (List.length_filter_le ..) hl⟩
theorem AD {M:Type}{p q:M->Bool}(h:∀a,p a=true->q a=false):∀(l:List M),(l.filter p).length+(l.filter q).length<=l.length
 | []=>Nat.le_refl _
 |a::l=>by
  have:=AD h l
  rw[List.filter_cons,List.filter_cons,List.length_cons]
  cases e:p a with
  |true=>rw[h a e];simp;omega
  |false=>cases q a<;> simp<;> omega
theorem WE {a b c:Nat}(h:a+b<=405)(hc:c<=405):a*(b*c)<=16607430:=by
 have h1:=(show ∀a,a<406->a*(405-a)<=41006 by decide) a (by omega)
 have h2:=Nat.mul_le_mul_left a (show b<=405-a by omega)
 have h3:=Nat.mul_le_mul (Nat.le_trans h2 h1) hc
 rw[←Nat.mul_assoc]
 exact h3
theorem Bh (d:Dr n ws sg):Ok (V9 (ws,sg)) (PG ws sg):=by
 have hl:=d.tot
 unfold V9 Dh;dsimp only
 simp only[Rs.okb,d.gs.dict,DG d,Xn,c4,d4,WS,Aw]
 obtain⟨e1,n1⟩:=Lg (c:=λdh=>Rs.ok (decide ((0:Int)<min dh.2.2.1 dh.2.2.2))) (f:=λdh=>Rs.ok dh) (λdh=>decide ((0:Int)<min dh.2.2.1 dh.2.2.2)) hl (λ_=>rfl) λ_=>rfl
 obtain⟨e2,n2⟩:=Lg (c:=λcY=>if decide (min cY.2.2.1 cY.2.2.2<0)=true then Rs.ok (decide (0<max cY.2.2.1 cY.2.2.2)) else Rs.ok false) (f:=Rs.ok) (λcY=>decide (min cY.2.2.1 cY.2.2.2<0)&&decide (0<max cY.2.2.1 cY.2.2.2)) hl (λa=>by cases decide (min a.2.2.1 a.2.2.2<0)<;> rfl) λ_=>rfl
 obtain⟨e3,n3⟩:=Lg (c:=λd9=>Rs.ok (decide (max d9.2.2.1 d9.2.2.2<0))) (f:=Rs.ok) (λd9=>decide (max d9.2.2.1 d9.2.2.2<0)) hl (λ_=>rfl) λ_=>rfl
 rw[e1,Rs.okb,e2,e3]
 have zz:∀{n:Nat},n<=16607430->n<sizeLine:=λh=>Nat.lt_of_le_of_lt h (by decide)
 have hh:∀{p q r},(Sy sg p q r).length<=1:=fun {p q r}=>by unfold Sy;split<;> simp
 have h1:=Jp (as:=(prs ws).filter λdh=>decide ((0:Int)<min dh.2.2.1 dh.2.2.2)) (h:=λp=>((prs ws).filter λcY=>decide (min cY.2.2.1 cY.2.2.2<0)&&decide (0<max cY.2.2.1 cY.2.2.2)).flatMap λq=>((prs ws).filter λd9=>decide (max d9.2.2.1 d9.2.2.2<0)).flatMap (Sy sg p q)) λp _=>Jp λq _=>Nat.le_trans (Jp λr _=>hh) (Nat.le_of_eq (Nat.mul_one _))
 have h1:=Nat.le_trans h1 (WE (Nat.le_trans (AD (λa h=>by simp at h⊢;omega) _) hl) n3)
 rw[Qe (N:=16607430) (by rw[List.length_nil,Nat.zero_add];exact h1) λg p hp hg=>?_]
 ·refine⟨_,rfl,by rw[List.nil_append];omega,λm=>?_⟩
  simp only[List.nil_append,List.mem_flatMap,List.mem_filter,VI,decide_eq_true_eq,Bool.and_eq_true]
  constructor
  ·rintro⟨p,⟨hp,p0⟩,q,⟨hq,q0⟩,r,⟨hr,r0⟩,hm⟩
   unfold Sy at hm
   split at hm
   ·exact⟨p,q,r,List.mem_singleton.mp hm,hp,hq,hr,p0,q0,r0, ‹_›⟩
   ·cases hm
  ·rintro⟨p,q,r,e,h⟩
   exact⟨p,⟨h.hp,h.p0⟩,q,⟨h.hq,h.q0⟩,r,⟨h.hr,h.r0⟩,by unfold Sy;rw[if_pos h.st,e];exact List.mem_singleton_self _⟩
 rw[Rs.okb,Qe (N:=16607430) hg λg q hq hg=>?_]
 ·rfl
 rw[Rs.okb,Qe (N:=16607430) hg λg r hr hg=>?_]
 ·rfl
 have hp:=List.mem_filter.mp hp
 have hq:=List.mem_filter.mp hq
 obtain⟨ka,kc,kb⟩:=Eg d (VI.mp hp.1) (VI.mp hq.1) (by simpa using hp.2) (by simpa using hq.2)
 obtain⟨b,eb,hb⟩:=BP (r:=r) ka kc kb
 rw[eb,Xn,Rs.okb]
 unfold Sy at hg⊢
 cases b with
 |false=>rw[if_neg (show ¬StC sg p q r from λz=>by cases hb.mpr z),List.append_nil];rfl
 |true=>
  rw[if_pos (hb.mp rfl)] at hg⊢
  simp only[if_true,List.length_cons,List.length_nil,List.map_cons,List.map_nil,List.length_append] at hg⊢
  rw[Xi (sz (by omega)),Rs.okb,Xi ⟨by omega,sz (by simp)⟩,Rs.okb,Xi ⟨by omega,sz (by simp)⟩,Rs.okb,Xi ⟨by omega,sz (by simp)⟩,Rs.okb,Xi (zz (by omega))]
  rfl
end
theorem mem_set {M:Type}:∀{l:List M}{j:Nat}{v x:M},x∈l.set j v->x∈l∨x=v
 | [],_,_,_,h=>by simp at h
 |a::r,0,v,x,h=>by
  rw[List.set_cons_zero] at h
  rcases List.mem_cons.mp h with h |h
  ·exact .inr h
  ·exact .inl (List.mem_cons_of_mem _ h)
 |a::r,j+1,v,x,h=>by
  rw[List.set_cons_succ] at h
  rcases List.mem_cons.mp h with h |h
  ·exact .inl (by rw[h];exact List.mem_cons_self)
  ·rcases mem_set h with h |h
   ·exact .inl (List.mem_cons_of_mem _ h)
   ·exact .inr h
theorem Cn:∀{l:List Bool}{j:Nat},l[j]?=some false->(l.set j true).count false+1=l.count false
 | [],_,e=>by simp at e
 |a::r,0,e=>by
  have e':a=false:=by simpa using e
  subst e';simp
 |a::r,j+1,e=>by
  have e':r[j]?=some false:=by simpa using e
  have ih:=Cn e'
  rw[List.set_cons_succ,List.count_cons,List.count_cons]
  omega
def Wp (m:Nat)(w:List Int):Prop:=∀ x∈w,1<=x.natAbs/\x.natAbs<=m
structure Wk (m:Nat)(ws:QLs):Prop where
 ne:1<=ws.length
 lw:ws.length<=4
 ll:∀w∈ws,w.length<=30
 wp:∀w∈ws,Wp m w
theorem Wp.app {m:Nat}{w:List Int}{x:Int}(h:Wp m w)(h1:1<=x.natAbs)(h2:x.natAbs<=m):Wp m (w++[x]):=λy hy=>by
 rcases List.mem_append.mp hy with hy |hy
 ·exact h y hy
 ·rw[List.mem_singleton.mp hy];exact⟨h1,h2⟩
theorem Og {k s:Int}(h:s=1∨s= -1):(k*s).natAbs=k.natAbs:=by rcases h with rfl |rfl<;> omega
theorem Lm {eV eW:List Int}{m S:Nat}(h1:eV.length=m)(h2:eW.length=m)(hm:m<=6)(hS:2<=S)(hS4:S<=4)(hl:∀x∈eV,0<=x/\x+1<(S:Int))(hs:∀x∈eW,x=1∨x= -1):Ok (KC eV eW (S:Int)) (Wk m):=by
 unfold KC FW;dsimp only
 simp only[Rs.okb]
 rw[Xi (show[false].length<=sizeLine from sz (by simp)),Rs.okb,show Oy [false] (S:Int)= .ok (List.replicate S false) from ?_]
 rotate_left
 ·unfold Oy
  rw[Xi ⟨by omega,by omega,sz (by simp;omega)⟩,Int.toNat_natCast]
  congr 1
  clear hS hS4 hl
  induction S with
  |zero=>rfl
  |succ n ih=>rw[List.replicate_succ,List.flatten_cons,ih,List.replicate_succ];rfl
 rw[Rs.okb,Jc (by omega),Rs.okb]
 refine Ok.bind (Ok.forN (λi (g:List Bool×QLs)=>g.1.length=S/\g.2.length<=i/\(i=0->g.1[0]?=some false)/\(0<i->1<=g.2.length)/\∀w∈g.2,w.length<=30/\Wp m w) ⟨by simp,Nat.le_refl _,λ_=>by rw[List.getElem?_replicate,if_pos (by omega)],λh=>by omega,λw hw=>by cases hw⟩ λi a g ha hg=>?_) λg hg=>?_
 ·obtain⟨rfl,hi⟩:=ZF ha
  obtain⟨g1,g2,g3,g4,g5⟩:=hg
  have hi1:i<g.1.length:=by omega
  rw[X1 (n:=i) rfl hi1]
  simp only[Rs.okb]
  cases hb:g.1[i] with
  |true=>
   simp only[Bool.not_true,okf,Rs.okb]
   refine⟨_,rfl,g1,by show g.2.length<=_;omega,λh=>by omega,λ_=>g4 ?_,g5⟩
   rcases Nat.eq_zero_or_pos i with z |z
   ·subst z
    have:=g3 rfl
    rw[List.getElem?_eq_getElem hi1,hb] at this
    cases this
   ·exact z
  |false=>
   simp only[Bool.not_false,if_true]
   refine Ok.bind (R:=λg':List Bool×QLs=>g'.1.length=S/\g'.2.length<=i+1/\1<=g'.2.length/\∀w∈g'.2,w.length<=30/\Wp m w) (Ok.bind (Ks (λg':List Bool×Int×List Int=>g'.1.length=S/\0<=g'.2.1/\g'.2.1<(S:Int)/\g'.2.2.length+6*g'.1.count false<=24/\Wp m g'.2.2) (λg'=>g'.1.count false) (λg' fb=>?_) _ (g.1,(i:Int),[]) ⟨g1,by show(0:Int)<=(i:Int);omega,by show(i:Int)<(S:Int);omega,by
    have:g.1.count false<=g.1.length:=List.count_le_length
    show 0+6*g.1.count false<=24
    omega,λx hx=>by cases hx⟩ ?_) λg' fb=>?_) λg' fb=>?_
   ·obtain⟨w1,w2,w3,w4,w5⟩:=fb
    obtain⟨p,hp⟩:∃p:Nat,g'.2.1=(p:Int):=⟨g'.2.1.toNat,by omega⟩
    have hpl:p<g'.1.length:=by omega
    rw[X1 hp hpl]
    refine⟨_,rfl,λhf=>?_⟩
    have hf':g'.1[p]=false:=by simpa using hf
    have hct:=Cn (show g'.1[p]?=some false by simp[hpl,hf'])
    rw[hp,Yn hpl]
    simp only[Rs.okb]
    rw[Jc (by omega)]
    simp only[Rs.okb]
    refine Ok.bind (Ok.forN (λk (h:Int×List Int)=>0<=h.1/\h.1<(S:Int)/\h.2.length<=g'.2.2.length+k/\Wp m h.2) ⟨by show(0:Int)<=(p:Int);omega,by show(p:Int)<(S:Int);omega,Nat.le_refl _,w5⟩ λk b h hb' hh=>?_) λh hh=>?_
    ·obtain⟨rfl,hk⟩:=ZF hb'
     obtain⟨e1,e2,e3,e4⟩:=hh
     have d8:k<eW.length:=by omega
     have hlo:=hl _ (List.getElem_mem hk)
     have hsg:=hs _ (List.getElem_mem d8)
     rw[X1 (r:=eV) (n:=k) rfl hk]
     simp only[Rs.okb]
     rw[X1 (r:=eW) (n:=k) rfl d8]
     simp only[Rs.okb]
     rw[Jm (a:=(k:Int)+1) (by omega) (by omega),Jm (a:=-((k:Int)+1)) (by omega) (by omega)]
     simp only[Rs.okb]
     have ag:h.2.length<sizeLine:=BI (by omega)
     rw[Xi ag,Xi ag]
     have a1:=Og (k:=(k:Int)+1) hsg
     have a2:=Og (k:=-((k:Int)+1)) hsg
     generalize eV[k]=low at*
     by_cases c1:h.1=low
     ·rw[if_pos (decide_eq_true c1)]
      simp only[Rs.okb]
      exact⟨_,rfl,by show 0<=h.1+1;omega,by show h.1+1<_;omega,by simp;omega,e4.app (by omega) (by omega)⟩
     ·rw[if_neg (by rw[decide_eq_false c1];exact Bool.false_ne_true)]
      by_cases c2:h.1=low+1
      ·rw[if_pos (decide_eq_true c2)]
       simp only[Rs.okb]
       exact⟨_,rfl,by show 0<=h.1-1;omega,by show h.1-1<_;omega,by simp;omega,e4.app (by omega) (by omega)⟩
      ·rw[if_neg (by rw[decide_eq_false c2];exact Bool.false_ne_true)]
       simp only[Rs.okb]
       exact⟨_,rfl,e1,e2,by show h.2.length<=_;omega,e4⟩
    ·rw[ZI] at hh
     obtain⟨e1,e2,e3,e4⟩:=hh
     refine⟨_,rfl,⟨by show(g'.1.set p true).length=S;rw[List.length_set];exact w1,e1,e2,?_,e4⟩,?_⟩
     ·show h.2.length+6*(g'.1.set p true).count false<=24
      omega
     ·show(g'.1.set p true).count false<g'.1.count false
      omega
   ·have:g.1.count false<=g.1.length:=List.count_le_length
    show g.1.count false<(S:Int).natAbs+2
    omega
   ·obtain⟨⟨w1,w2,w3,w4,w5⟩,-⟩:=fb
    rw[Xi (BI (by omega))]
    refine⟨_,rfl,w1,by simp;omega,by simp,λw hw=>?_⟩
    rcases List.mem_append.mp hw with hw |hw
    ·exact g5 w hw
    ·rw[List.mem_singleton.mp hw];exact⟨by omega,w5⟩
   ·exact⟨_,rfl,fb.1,fb.2.1,λh=>by omega,λ_=>fb.2.2.1,fb.2.2.2⟩
 ·obtain⟨g1,g2,g3,g4,g5⟩:=hg
  rw[ZI] at g2 g4
  exact⟨_,rfl,g4 (by omega),by omega,λw hw=>(g5 w hw).1,λw hw=>(g5 w hw).2⟩
theorem R7 {M:Type}{l:List (Int×M)}{k:Int}{v:M}:(G8 l k v).length<=l.length+1:=by
 unfold G8
 split
 ·simp
 ·simp
theorem PD {x f:Int}(h:0<f):((x*f).natAbs:Int)=(x.natAbs:Int)*f:=by
 rw[Int.natAbs_mul,Int.natCast_mul]
 congr 1
 omega
theorem Bl {ws:QLs}{eW r:List Int}{m:Nat}(w:Wk m ws)(h2:eW.length=m)(hs:∀x∈eW,x=1∨x= -1)(hm:m<=6)(hr:20<=r.length)(hf:∃j:Nat,j<3/\atR r (-1)= .ok (j:Int)):Ok (Q8 ws eW r) λd=>Dr 0 d.1 d.2:=by
 unfold Q8 Vw;dsimp only
 simp only[Rs.okb]
 have hw4:=w.lw
 rw[Jc (by omega),Rs.okb]
 refine Ok.bind (Ok.forN (λi (g:QLs×List (Int×Bool))=>Wk m g.1/\g.1.length=ws.length/\g.2.length<=30*i) ⟨w,rfl,Nat.le_refl _⟩ λi a g ha hg=>?_) λg hg=>?_
 ·obtain⟨rfl,hi⟩:=ZF ha
  obtain⟨g1,g2,g3⟩:=hg
  rw[X1 (r:=r) (n:=4+i) (by omega) (by omega)]
  simp only[Rs.okb]
  refine Ok.bind (R:=λg':QLs×List (Int×Bool)=>Wk m g'.1/\g'.1.length=ws.length/\g'.2.length<=30*(i+1)) (Ok.ite (λ_=>?_) λ_=>⟨_,rfl,g1,g2,by show g.2.length<=_;omega⟩) λg' fb=>⟨_,rfl,fb⟩
  have jK:i<g.1.length:=by omega
  have hl:=g1.ll _ (List.getElem_mem jK)
  rw[X1 (r:=g.1) (n:=i) rfl jK]
  simp only[Rs.okb]
  rw[Xi trivial,Rs.okb,Yn jK]
  simp only[Rs.okb]
  rw[X1 (r:=g.1.set i _) (n:=i) rfl (by simpa using jK),List.getElem_set_self]
  simp only[Rs.okb]
  refine Ok.bind (Ok.forN (λk (h:List (Int×Bool))=>h.length<=30*i+k) g3 λk b h hb hh=>?_) λh hh=>?_
  ·rw[Xi (BI (by
    have:=(List.getElem?_eq_some_iff.mp hb).1
    rw[List.length_reverse] at this
    omega))]
   exact⟨_,rfl,Nat.le_trans R7 (by omega)⟩
  ·rw[List.length_reverse] at hh
   have jL:∀{w':List Int},w'∈g.1.set i g.1[i].reverse->w'∈g.1∨w'=g.1[i].reverse:=mem_set
   refine⟨_,rfl,⟨by rw[List.length_set];exact g1.ne,by rw[List.length_set];exact g1.lw,λw' hw'=>?_,λw' hw'=>?_⟩,by rw[List.length_set];exact g2,by show h.length<=_;omega⟩
   ·rcases jL hw' with z |z
    ·exact g1.ll _ z
    ·rw[z,List.length_reverse];exact hl
   ·rcases jL hw' with z |z
    ·exact g1.wp _ z
    ·rw[z]
     exact λx hx=>g1.wp _ (List.getElem_mem jK) x (List.mem_reverse.mp hx)
 obtain⟨g1,g2,-⟩:=hg
 generalize g.1=vs at g1 g2
 rw[Jc (by omega),Rs.okb]
 refine Ok.bind (Ok.forN (λi (l:QPs)=>(kys l=(List.range i).map λ(k:Nat)=>(k:Int)+1)/\∀e∈l,e.2=1∨e.2= -1) ⟨rfl,λe he=>by cases he⟩ λi a l ha hl'=>?_) λl hl'=>?_
 ·obtain⟨rfl,hi⟩:=ZF ha
  obtain⟨hl,hp⟩:=hl'
  have h0:=hs _ (List.getElem_mem hi)
  rw[X1 (r:=eW) (n:=i) rfl hi]
  simp only[Rs.okb]
  have e:∀s:Int,kys (l++[((i:Int)+1,s)])=(List.range (i+1)).map λ(k:Nat)=>(k:Int)+1:=λs=>by
   unfold kys at hl⊢
   rw[List.map_append,hl,List.range_succ,List.map_append]
   rfl
  have hll:l.length=i:=by
   have:=congrArg List.length hl
   simpa[kys] using this
  refine Ok.bind (R:=λx:Int=>x=1∨x= -1) (Ok.ite (λ_=>⟨_,rfl,by omega⟩) λ_=>⟨_,rfl,h0⟩) λs dH=>?_
  rw[Xi (BI (by omega))]
  refine⟨_,rfl,e s,λz hz=>?_⟩
  rcases List.mem_append.mp hz with hz |hz
  ·exact hp z hz
  ·rw[List.mem_singleton.mp hz];exact dH
 rw[ZI] at hl'
 obtain⟨hl,hp⟩:=hl'
 obtain⟨j,hj,ej⟩:=hf
 rw[UW (by decide) (by decide) (by decide) (by decide)]
 simp only[Rs.okb]
 rw[Xi (sz (by simp)),Rs.okb,ej,Rs.okb]
 have hfar:∃f:Int,atR [(1:Int),7,10^(9:Int).toNat] (j:Int)= .ok f/\0<f/\f<2^64:=by
  rcases(show j=0∨j=1∨j=2 by omega) with rfl |rfl |rfl
  ·exact⟨1,ar0,by decide,by decide⟩
  ·exact⟨7,ar1,by decide,by decide⟩
  ·exact⟨_,ar2,by decide,by decide⟩
 obtain⟨f,ef,f0,f1⟩:=hfar
 rw[ef,Rs.okb]
 rw[VF (h:=λw=>w.map λx=>x*f) (sz (by omega)) λw' hw'=>VF (h:=λx=>x*f) (sz (by have:=g1.ll _ hw';omega)) λx _=>Jm (by omega) f1,Rs.okb]
 have hll:l.length=m:=by
  have:=congrArg List.length hl
  simp[kys] at this
  omega
 rw[VF (h:=λe:Int×Int=>(e.1*f,e.2)) (sz (by omega)) λe _=>by rw[Jm (by omega) f1,Rs.okb],Rs.okb]
 have hk:kys (l.map λe:Int×Int=>(e.1*f,e.2))=(List.range eW.length).map λ(k:Nat)=>((k:Int)+1)*f:=by
  unfold kys at hl⊢
  rw[List.map_map,show((λx:Int×Int=>x.1)∘λe:Int×Int=>(e.1*f,e.2))=(λx=>x*f)∘λx:Int×Int=>x.1 from rfl, ←List.map_map,hl,List.map_map]
  rfl
 refine⟨_,rfl,by omega,by show 1<=(vs.map _).length;rw[List.length_map];exact g1.ne,by show(vs.map _).length<=4+0/3;rw[List.length_map];exact g1.lw,λw' hw'=>?_,⟨?_,λe he=>?_⟩,by show(l.map _).length<=_;rw[List.length_map];omega,λe he=>?_,λw' hw' x hx=>?_⟩
 ·obtain⟨v,hv,rfl⟩:=List.mem_map.mp hw'
  rw[List.length_map]
  exact g1.ll _ hv
 ·have:((l.map λe:Int×Int=>(e.1*f,e.2)).map λx:Int×Int=>x.1).Pairwise (· < ·):=by
   rw[show(l.map λe:Int×Int=>(e.1*f,e.2)).map (λx:Int×Int=>x.1)=_ from hk,List.pairwise_map]
   exact List.pairwise_lt_range.imp fun {a b} h=>Int.mul_lt_mul_of_pos_right (by omega) f0
  exact List.pairwise_map.mp this
 ·have:e.1∈kys (l.map λe:Int×Int=>(e.1*f,e.2)):=List.mem_map_of_mem he
  rw[hk] at this
  obtain⟨k,_,e1⟩:=List.mem_map.mp this
  rw[←e1]
  have:=Int.mul_le_mul_of_nonneg_right (show(1:Int)<=(k:Int)+1 by omega) (Int.le_of_lt f0)
  omega
 ·obtain⟨y,hy,rfl⟩:=List.mem_map.mp he
  exact hp y hy
 ·obtain⟨v,hv,rfl⟩:=List.mem_map.mp hw'
  obtain⟨y,hy,rfl⟩:=List.mem_map.mp hx
  have h:=g1.wp _ hv y hy
  show _∈kys (l.map _)
  rw[hk,PD f0]
  exact List.mem_map.mpr ⟨y.natAbs-1,List.mem_range.mpr (by omega),by congr 1;omega⟩
theorem Sj {r:List Int}{n:Nat}(h:r.length=n+1):atR r (-1)= .ok (r[n]'(by omega)):=by
 unfold atR atI ixN
 rw[if_neg (by omega),if_pos (by omega)]
 simp only[h,Option.bind_some,show(-1+((n+1:Nat):Int)).toNat=n by omega]
 rw[List.getElem?_eq_getElem (by omega)]
theorem W1 {l:List Int}(h:l.length<=6):(spl l none (some 3) (Gv [0,1,0] none (some (l.length:Int)))).length=l.length/\(Gv [(0:Int),1,0] none (some (l.length:Int))).length<=3/\∀x∈spl l none (some 3) (Gv [0,1,0] none (some (l.length:Int))),x∈l∨x=0∨x=1:=by
 unfold spl Gv
 rw[HT.sIx_none,HT.sIx_none,HT.sIx_nat,show HT.sIx l.length l.length (some 3)=min 3 l.length from HT.sIx_nat _ _ 3]
 refine⟨?_,?_,λx hx=>?_⟩
 ·simp;omega
 ·simp;omega
 ·rcases List.mem_append.mp hx with hx |hx
  ·rcases List.mem_append.mp hx with hx |hx
   ·exact .inl (List.mem_of_mem_take hx)
   ·have:=List.mem_of_mem_take hx
    simp at this
    omega
  ·exact .inl (List.mem_of_mem_drop hx)
theorem OU {l:List Int}{n:Nat}(h:l.length*n<=1000)(hn:n<=1000):Oy l (n:Int)= .ok (List.replicate n l).flatten:=by
 unfold Oy
 rw[Xi ⟨by omega,by omega,by rw[Int.toNat_natCast];exact sz (by omega)⟩,Int.toNat_natCast]
theorem IN {l m:List Int}(h:l.length+m.length<=1000):Hu l m= .ok (l++m):=Xi (sz (by omega))
def zs:List Int:=[7,3,3,3,2,2,2,2,4,2,60,60,4,4,4,2,60,60,4,4,4,2,60,60,4,4,4,2,60,60,4,4,4,2,60,60,4,4,4,2,60,60,4,4,3]
theorem zs9:∀k:Nat,k<6->zs[6*k+9]?=some 2:=by decide
theorem emd {y:Int}{n:Nat}(h:0<n):∃j:Nat,y % (n:Int)=(j:Int)/\j<n:=by
 have h1:=Int.emod_nonneg y (show(n:Int)≠0 by omega)
 have h2:=Int.emod_lt_of_pos y (show(0:Int)<n by omega)
 exact⟨(y % (n:Int)).toNat,by omega,by omega⟩
theorem NU (ns:List Int){p:Int}(hp:0<=p):Ok (FU ns p) λd=>Dr 0 d.1 d.2:=by
 unfold FU Em;dsimp only
 simp only[Rs.okb]
 rw[Xi (sz (by simp)),Rs.okb,Xi (sz (by simp)),Rs.okb,show Oy [(2:Int)] 4= .ok [2,2,2,2] from OU (n:=4) (by simp) (by omega),Rs.okb,IN (by simp),Rs.okb,Xi (sz (by simp)),Rs.okb,show Oy [(4:Int),2,60,60,4,4] 6=_ from OU (n:=6) (by simp) (by omega),Rs.okb,IN (by simp),Rs.okb,Xi (sz (by simp)),Rs.okb,IN (by simp),Rs.okb]
 obtain⟨r,er,rl,hr⟩:=EJ ns hp zs (by decide) (by decide)
 rw[show([(7:Int),3,3,3]++[2,2,2,2]++(List.replicate 6 [(4:Int),2,60,60,4,4]).flatten++[3])=zs from rfl,er,Xn,Rs.okb]
 have rl:r.length=45:=rl
 have hb:∀(i:Nat) (h:i<45) (s:Int),zs[i]?=some s->0<=r[i]/\r[i]<s:=λi h s e=>hr i r[i] s (by simp[rl,h]) e
 obtain⟨b0,c0⟩:=hb 0 (by omega) 7 rfl
 obtain⟨b3,c3⟩:=hb 3 (by omega) 3 rfl
 rw[X1 (r:=r) (k:=3) (n:=3) rfl (by omega),X1 (r:=r) (k:=0) (n:=0) rfl (by omega),X1 (r:=r) (k:=1) (n:=1) rfl (by omega),X1 (r:=r) (k:=2) (n:=2) rfl (by omega)]
 simp only[Rs.okb]
 obtain⟨m,em⟩:∃m:Nat,r[0]=(m:Int):=⟨r[0].toNat,by omega⟩
 obtain⟨S,eS⟩:∃S:Nat,(2:Int)+r[3]=(S:Int):=⟨(2+r[3]).toNat,by omega⟩
 rw[em,eS,Jc (by omega),Rs.okb]
 refine Ok.bind (Ok.forN (λi (g:List Int×List Int×List Int)=>g.1.length=i/\g.2.1.length=i/\g.2.2.length=2*i/\(∀x∈g.1,0<=x/\x+1<(S:Int))/\(∀x∈g.2.1,x=1∨x= -1)/\Wp m g.2.2) ⟨rfl,rfl,rfl,λx hx=>(by cases hx),λx hx=>(by cases hx),λx hx=>by cases hx⟩ λi a g ha hg=>?_) λg hg=>?_
 ·obtain⟨rfl,hi⟩:=ZF ha
  obtain⟨g1,g2,g3,g4,g5,g6⟩:=hg
  rw[YS (by decide) (by decide)]
  simp only[Rs.okb]
  rw[X1 (r:=r) (n:=6*i+8) (by omega) (by omega)]
  simp only[Rs.okb]
  rw[X1 (r:=r) (n:=6*i+9) (by omega) (by omega)]
  simp only[Rs.okb]
  obtain⟨d0,d1⟩:=hb (6*i+9) (by omega) 2 (zs9 i (by omega))
  obtain⟨j,ej,hj⟩:=emd (y:=r[6*i+8]) (n:=S-1) (by omega)
  rw[show((S-1:Nat):Int)=(S:Int)-1 by omega] at ej
  rw[X2 (by omega),Rs.okb,ej,YS (by decide) (by decide)]
  simp only[Rs.okb]
  rw[Xi (BI (by omega)),Xi (BI (by omega)),Xi (sz (by simp)),Rs.okb,Xi (sz (by simp;omega))]
  refine⟨_,rfl,by simp[g1],by simp[g2],by simp;omega,λx hx=>?_,λx hx=>?_,λx hx=>?_⟩
  ·rcases List.mem_append.mp hx with z |z
   ·exact g4 x z
   ·rw[List.mem_singleton.mp z];omega
  ·rcases List.mem_append.mp hx with z |z
   ·exact g5 x z
   ·rw[List.mem_singleton.mp z];omega
  ·rcases List.mem_append.mp hx with z |z
   ·exact g6 x z
   ·have:x=(i:Int)+1∨x= -(i:Int)-1:=by simpa using z
    omega
 rw[ZI] at hg
 obtain⟨g1,g2,g3,g4,g5,g6⟩:=hg
 refine Ok.bind (R:=λl:List Int=>l.length=m/\∀x∈l,0<=x/\x+1<(S:Int)) ?_ λl hl=>?_
 ·rw[Z7 (c:=decide ((2:Int)<(S:Int))) λ_=>rfl,Rs.okb]
  refine Ok.ite (λhb=>?_) λ_=>⟨_,rfl,g1,g4⟩
  have h3:(2:Int)<(S:Int):=by
   simp only[Bool.and_eq_true,decide_eq_true_eq] at hb
   exact hb.2
  obtain⟨y1,y2,y3⟩:=W1 (l:=g.1) (by omega)
  rw[Xi (sz (by simp)),Rs.okb,Rs.okb,Xi (sz (by omega))]
  refine⟨_,rfl,by omega,λx hx=>?_⟩
  rcases y3 x hx with z |z
  ·exact g4 x z
  ·omega
 obtain⟨ws,ew,hw⟩:=Lm hl.1 g2 (by omega) (by omega) (by omega) hl.2 g5
 rw[ew,Xn,Rs.okb]
 obtain⟨b44,c44⟩:=hb 44 (by omega) 3 rfl
 obtain⟨q,hq⟩:∃q:Nat,r[44]=(q:Int):=⟨r[44].toNat,(Int.toNat_of_nonneg b44).symm⟩
 have e44:atR r (-1)= .ok (q:Int):=(Sj (n:=44) rl).trans (congrArg Rs.ok hq)
 refine Ok.bind (R:=Wk m) ?_ λvs hv=>(Bl hv g2 g5 (by omega) (by omega) ⟨q,by omega,e44⟩).noE
 refine Ok.ite (λ_=>?_) λ_=>⟨_,rfl,hw⟩
 rw[Jc (by omega),Rs.okb,VF (h:=λ_=>([]:List Int)) (sz (by simp;omega)) λ_ _=>rfl]
 simp only[Rs.okb]
 rw[YS (by decide) (by decide),Rs.okb,show(2:Int)*(m:Int)=((2*m:Nat):Int) by omega,Jc (by omega)]
 simp only[Rs.okb]
 refine Ok.bind (Ok.forN (λi (g:List Int×QLs)=>g.2.length=S/\g.1.length+i=2*m/\Wp m g.1/\∀w∈g.2,w.length<=i/\Wp m w) ⟨by simp,by omega,g6,λw hw=>?_⟩ λi a g ha hg=>?_) λg hg=>?_
 ·obtain⟨_,_,rfl⟩:=List.mem_map.mp hw
  exact⟨Nat.zero_le _,λx hx=>by cases hx⟩
 ·obtain⟨rfl,hi⟩:=ZF ha
  obtain⟨h1,h2,h3,h4⟩:=hg
  rw[Mw (by decide) (by decide),Rs.okb,YS (by decide) (by decide),Rs.okb,X2 (by decide)]
  simp only[Rs.okb]
  rw[X1 (r:=r) (n:=6*(i/2)+i % 2+10) (by omega) (by omega),X1 (r:=r) (n:=6*(i/2)+i % 2+12) (by omega) (by omega)]
  simp only[Rs.okb]
  obtain⟨j,ej,hj⟩:=emd (y:=r[6*(i/2)+i % 2+10]) (n:=g.1.length) (by omega)
  obtain⟨q,eq,hq⟩:=emd (y:=r[6*(i/2)+i % 2+12]) (n:=S) (by omega)
  rw[X2 (by omega),Rs.okb,ej,Te hj (by omega),Rs.okb,X2 (by omega),Rs.okb,eq]
  have hq:q<g.2.length:=by omega
  have hw:=h4 g.2[q] (List.getElem_mem hq)
  rw[X1 (n:=q) rfl hq,Rs.okb,Xi (BI (by omega)),Yn hq,Rs.okb]
  have hx:=h3 g.1[j] (List.getElem_mem hj)
  refine⟨_,rfl,by simp[h1],?_,λx hx=>h3 x (List.mem_of_mem_eraseIdx hx),λw hw'=>?_⟩
  ·show(g.1.eraseIdx j).length+(i+1)=_
   rw[List.length_eraseIdx,if_pos hj]
   omega
  ·rcases mem_set hw' with h |h
   ·have:=h4 w h;exact⟨by omega,this.2⟩
   ·rw[h];exact⟨by simp;omega,hw.2.app hx.1 hx.2⟩
 ·obtain⟨h1,h2,h3,h4⟩:=hg
  rw[ZI] at h2 h4
  exact⟨_,rfl,by omega,by omega,λw hw=>by have:=(h4 w hw).1;omega,λw hw=>(h4 w hw).2⟩
section
variable {n:Nat}{ws:QLs}{sg:QPs}
structure Sm (x0 x1 x2 x3 x4 x5 x6 x7 x8:Int):Prop where
 h1:0<=x1/\x1<41
 h4:0<=x4/\x4<60
 h5:0<=x5/\x5<60
 h6:x6=0∨x6=1
 h7:x7=0∨x7=1
variable {x0 x1 x2 x3 x4 x5 x6 x7 x8:Int}
theorem Ox {y:Int}:∃j:Nat,y % 4=(j:Int)/\∃f,atR [(1:Int),1,10^(9:Int).toNat,10^(40:Int).toNat] (j:Int)= .ok f/\1<=f:=by
 obtain⟨j,e,h⟩:=emd (y:=y) (n:=4) (by omega)
 refine⟨j,e,?_⟩
 rcases(show j=0∨j=1∨j=2∨j=3 by omega) with rfl |rfl |rfl |rfl
 ·exact⟨1,ar0,by decide⟩
 ·exact⟨1,ar1,by decide⟩
 ·exact⟨_,ar2,by decide⟩
 ·exact⟨_,ar3,by decide⟩
theorem BL (d:Dr n ws sg)(h:Sm x0 x1 x2 x3 x4 x5 x6 x7 x8):Ok (Ew (ws,sg) [x0,x1,x2,x3,x4,x5,x6,x7,x8]) λm=>∃ (i k:Nat) (c:Int) (o:Bool) (s:Int),m=CG i k c o s/\i<ws.length/\k<=(gw ws i).length/\c∉kys sg/\1<=c/\(s=1∨s= -1):=by
 unfold Ew LZ;dsimp only
 simp only[Rs.okb,ar0,ar1,ar4,ar6,ar7,ar8]
 obtain⟨i,ei,hi⟩:=emd (y:=x0) (n:=ws.length) (by have:=d.ne;omega)
 rw[X2 (by have:=d.ne;omega),Rs.okb,ei,QF hi]
 simp only[Rs.okb]
 obtain⟨k,ek,hk⟩:=emd (y:=x1) (n:=(gw ws i).length+1) (by omega)
 rw[X2 (by omega),Rs.okb,show((gw ws i).length:Int)+1=(((gw ws i).length+1:Nat):Int) by omega,ek]
 rw[UW (by decide) (by decide) (by decide) (by decide),UW (by decide) (by decide) (by decide) (by decide)]
 simp only[Rs.okb]
 obtain⟨j,ej,f,ef,hf⟩:=Ox (y:=x8)
 rw[Xi (sz (by simp)),Rs.okb,X2 (by decide),Rs.okb,ej,ef,Rs.okb]
 have h4:=h.h4
 rw[YS (by omega) (by omega)]
 simp only[Rs.okb,d.gs.dict]
 obtain⟨c,ec,hc,cU⟩:=EL (d:=sg) (n:=1+x4*f)
 rw[ec,Xn,Rs.okb]
 rw[Xi (sz (by simp)),Rs.okb,YS (by decide) (by decide)]
 simp only[Rs.okb]
 have e6:∃o:Bool,atR [("under":Str),"over"] x6= .ok (ovw o):=by
  rcases h.h6 with z |z
  ·rw[z];exact⟨false,ar0⟩
  ·rw[z];exact⟨true,ar1⟩
 obtain⟨o,eo⟩:=e6
 rw[eo]
 simp only[Rs.okb]
 rw[Xi (sz (by simp))]
 have:=Int.mul_nonneg h4.1 (show 0<=f by omega)
 exact⟨_,rfl,i,k,c,o,2*x7-1,rfl,hi,by omega,cU,by omega,by rcases h.h7 with z |z<;> omega⟩
theorem OJ (d:Dr n ws sg)(h:Sm x0 x1 x2 x3 x4 x5 x6 x7 x8):Ok (NX (ws,sg) [x0,x1,x2,x3,x4,x5,x6,x7,x8]) λm=>∃ (i k j l:Nat) (a b:Int) (c:Bool) (s:Int),m=Ot i k j l a b c s/\LayOk n ws sg i k j l a b s:=by
 unfold NX Rf;dsimp only
 simp only[Rs.okb,ar0,ar1,ar2,ar3,ar4,ar5,ar6,ar7,ar8]
 obtain⟨i,ei,hi⟩:=emd (y:=x0) (n:=ws.length) (by have:=d.ne;omega)
 obtain⟨j,ej,hj⟩:=emd (y:=x2) (n:=ws.length) (by have:=d.ne;omega)
 rw[X2 (by have:=d.ne;omega),Rs.okb,ei,QF hi]
 simp only[Rs.okb]
 obtain⟨k,ek,hk⟩:=emd (y:=x1) (n:=(gw ws i).length+1) (by omega)
 rw[X2 (by omega),Rs.okb,show((gw ws i).length:Int)+1=(((gw ws i).length+1:Nat):Int) by omega,ek,X2 (by have:=d.ne;omega),Rs.okb,ej,QF hj]
 simp only[Rs.okb]
 have l1:=d.l hi
 have l2:=d.l hj
 rw[Xi (by omega),Rs.okb]
 refine Ok.bind (R:=λg:List Int=>0<g.length/\∀x∈g,∃l:Nat,x=(l:Int)/\l<=(gw ws j).length+(if j=i then 2 else 0)/\(j=i->l≠k+1)) ?_ λg hg=>?_
 ·by_cases e:j=i
  ·subst e
   rw[show decide ((j:Int)=(j:Int))=true by simp,okt,show((gw ws j).length:Int)+3=(((gw ws j).length+3:Nat):Int) by omega,Jc (by omega),Rs.okb,Di (p:=λa:Int=>!decide (a=(k:Int)+1)) (h:=λe=>e) (sz (by simp;omega)) (λ_ _=>rfl) λ_ _ _=>rfl,List.map_id',Rs.okb]
   refine⟨_,rfl,List.length_pos_iff_exists_mem.mpr ⟨0,List.mem_filter.mpr ⟨List.mem_map.mpr ⟨0,List.mem_range.mpr (by omega),rfl⟩,?_⟩⟩,λx hx=>?_⟩
   ·simp;omega
   ·obtain⟨hx,hy⟩:=List.mem_filter.mp hx
    obtain⟨l,hl,rfl⟩:=QG hx
    have hy:¬((l:Int)=(k:Int)+1):=by simpa using hy
    exact⟨l,rfl,by rw[if_pos rfl];omega,λ_=>by omega⟩
  ·rw[show decide ((j:Int)=(i:Int))=false by simp;omega,okf]
   refine⟨_,rfl,?_,λx hx=>?_⟩
   ·simp[Uh]
   ·obtain⟨l,hl,rfl⟩:=List.mem_map.mp hx
    have:=List.mem_range.mp hl
    exact⟨l,by omega,by rw[if_neg e];omega,λz=>absurd z e⟩
 obtain⟨g0,hg⟩:=hg
 rw[UW (by decide) (by decide) (by decide) (by decide),UW (by decide) (by decide) (by decide) (by decide)]
 simp only[Rs.okb]
 obtain⟨q,eq,f,ef,hf⟩:=Ox (y:=x8)
 rw[Xi (sz (by simp)),Rs.okb,X2 (by decide),Rs.okb,eq,ef,Rs.okb]
 have h4:=h.h4
 have h5:=h.h5
 rw[YS (by omega) (by omega)]
 simp only[Rs.okb,d.gs.dict]
 obtain⟨a,ea,ha,ha2⟩:=EL (d:=sg) (n:=1+x4*f)
 rw[ea,Xn,Rs.okb,Xi (BI (by have:=d.ls;have:=d.n3;omega)),Va ha2]
 obtain⟨b,eb,hb,hb2⟩:=EL (d:=sg++[(a,1)]) (n:=1+x5)
 rw[eb,Xn,Rs.okb]
 obtain⟨u,eu,hu⟩:=emd (y:=x3) (n:=g.length) g0
 rw[X2 (by omega),Rs.okb,eu,X1 (n:=u) rfl hu,Rs.okb,YS (by decide) (by decide)]
 simp only[Rs.okb]
 rw[Xi (sz (by simp))]
 obtain⟨l,el,hl,hl2⟩:=hg _ (List.getElem_mem hu)
 rw[el]
 have:=Int.mul_nonneg h4.1 (show 0<=f by omega)
 have hb3:b∉kys sg/\a≠b:=by
  constructor
  ·exact λz=>hb2 (by unfold kys at z⊢;rw[List.map_append];exact List.mem_append_left _ z)
  ·exact λz=>hb2 (by unfold kys;rw[List.map_append,z];exact List.mem_append_right _ (by simp))
 exact⟨_,rfl,i,k,j,l,a,b,decide (x6=0),2*x7-1,rfl,d,hi,by omega,hj,hl,hl2,⟨by omega,ha2⟩,⟨by omega,hb3.1⟩,hb3.2,by rcases h.h7 with z |z<;> omega⟩
end
section
variable {n:Nat}{ws:QLs}{sg:QPs}
inductive Mv (n:Nat)(ws:QLs)(sg:QPs):List Mx->Prop
 |turn {i:Nat}{s:Int} (hi:i<ws.length):Mv n ws sg [.s "turn", .i i, .i s]
 |curl {i k:Nat}{c s:Int}{o:Bool} (hi:i<ws.length) (hk:k<=(gw ws i).length) (hc:c∉kys sg) (h1:1<=c) (hs:s=1∨s= -1):Mv n ws sg (CG i k c o s)
 |lay {i k j l:Nat}{a b s:Int}{c:Bool} (h:LayOk n ws sg i k j l a b s):Mv n ws sg (Ot i k j l a b c s)
 |pass {p q r:Q4} (h:PassC ws sg p q r):Mv n ws sg (Kb p q r)
inductive Frm:List Mx->Prop
 |turn (a s:Int):Frm [.s "turn", .i a, .i s]
 |curl (a k c:Int) (w:Str) (s:Int):Frm [.s "curl", .i a, .i k, .i c, .s w, .i s]
 |unc (a k:Int):Frm [.s "uncurl", .i a, .i k]
 |lay (a k b l x y:Int) (c:Bool) (s:Int):Frm [.s "lay", .i a, .i k, .i b, .i l, .i x, .i y, .b c, .i s]
 |unl (a k b l:Int):Frm [.s "unlay", .i a, .i k, .i b, .i l]
 |pass (a k b l c m:Int):Frm [.s "pass", .i a, .i k, .i b, .i l, .i c, .i m]
theorem Dr.up (d:Dr n ws sg)(h:n<=2):Dr (n+1) ws sg:=⟨by omega,d.ne,by have:=d.lw;omega,λw hw=>by have:=d.ll w hw;omega,d.gs,by have:=d.ls;omega,d.pm,d.ky⟩
theorem PQ.at2 {q:Q4}(h:PQ ws q):∃i k:Nat,q.1=(i:Int)/\q.2.1=(k:Int)/\At2 ws i k:=by
 obtain⟨i,k,h1,h2,h3,h4,h5⟩:=h.ex
 exact⟨i,k,h1,h2,h3,(List.getElem?_eq_some_iff.mp h5).1⟩
theorem Mv.do (d:Dr n ws sg)(hn:n<=2){m:List Mx}(h:Mv n ws sg m):∃ia ib,G1 (ws,sg) m= .ok (ia,ib)/\Dr (n+1) ia ib:=by
 cases h with
 |turn hi=>exact⟨_,_,MU d hi,(d.turn hi).up hn⟩
 |curl hi hk hc h1 hs=>exact⟨_,_,B0 d hi hk hc h1,d.curl hn hi hk hc h1 hs⟩
 |lay h=>exact⟨_,_,LQ h,Dr.lay h hn⟩
 |pass h=>
  obtain⟨i,k,a1,a2,a3⟩:=h.hp.at2
  obtain⟨j,l,b1,b2,b3⟩:=h.hq.at2
  obtain⟨u,v,c1,c2,c3⟩:=h.hr.at2
  unfold Kb
  rw[a1,a2,b1,b2,c1,c2]
  exact⟨_,_,LC d a3 b3 c3,(d.pass a3 b3 c3).up hn⟩
theorem Mv.frm {m:List Mx}(h:Mv n ws sg m):Frm m:=by cases h<;> constructor
theorem AV {l:List Int}(h:l.length=9):∃x0 x1 x2 x3 x4 x5 x6 x7 x8,l=[x0,x1,x2,x3,x4,x5,x6,x7,x8]:=
 ⟨l[0],l[1],l[2],l[3],l[4],l[5],l[6],l[7],l[8],List.ext_getElem h λi h1 h2=>by
  rcases(show i=0∨i=1∨i=2∨i=3∨i=4∨i=5∨i=6∨i=7∨i=8 by omega) with rfl |rfl |rfl |rfl |rfl |rfl |rfl |rfl |rfl<;> rfl⟩
theorem W7 (ns:List Int){p:Int}(hp:0<=p):∃x0 x1 x2 x3 x4 x5 x6 x7 x8,Bc ns p [12,41,12,41,60,60,2,2,60]= .ok [x0,x1,x2,x3,x4,x5,x6,x7,x8]/\Sm x0 x1 x2 x3 x4 x5 x6 x7 x8:=by
 obtain⟨r,er,rl,hr⟩:=EJ ns hp [12,41,12,41,60,60,2,2,60] (by decide) (by decide)
 obtain⟨x0,x1,x2,x3,x4,x5,x6,x7,x8,rfl⟩:=AV rl
 have h6:=hr 6 x6 2 rfl rfl
 have h7:=hr 7 x7 2 rfl rfl
 exact⟨x0,x1,x2,x3,x4,x5,x6,x7,x8,er,hr 1 x1 41 rfl rfl,hr 4 x4 60 rfl rfl,hr 5 x5 60 rfl rfl,by omega,by omega⟩
theorem OT (ns:List Int){p:Int}(hp:0<=p)(d:Dr n ws sg)(hn:n<=2){w:Str}(hw:w∈[("turn":Str),"curl","uncurl","lay","unlay","unlay","pass","pass"]):Ok (Lp ns p (ws,sg) w) λx=>(x.1=(ws,sg)/\Mv n ws sg x.2)∨(w∈[("uncurl":Str),"unlay"]/\Dr (n+1) x.1.1 x.1.2/\Frm x.2):=by
 obtain⟨x0,x1,x2,x3,x4,x5,x6,x7,x8,er,h⟩:=W7 ns hp
 unfold Lp RL;dsimp only
 simp only[Rs.okb]
 rw[Xi (sz (by simp)),Rs.okb,er,Xn,Rs.okb]
 have hw:w= "turn" ∨w= "curl" ∨w= "lay" ∨w= "pass" ∨w= "uncurl" ∨w= "unlay":=by
  simp only[List.mem_cons,List.not_mem_nil,or_false] at hw
  rcases hw with h |h |h |h |h |h |h |h<;> simp[h]
 rcases hw with rfl |rfl |rfl |rfl |rfl |rfl
 ·rw[MQ,okt]
  simp only[ar0,ar1,ar8,Rs.okb]
  rw[UW (by decide) (by decide) (by decide) (by decide)]
  simp only[Rs.okb]
  obtain⟨i,ei,hi⟩:=emd (y:=x0) (n:=ws.length) (by have:=d.ne;omega)
  obtain⟨j,ej,hj⟩:=emd (y:=x8) (n:=3) (by omega)
  have e3:∃f,atR [(1:Int),1,10^(50:Int).toNat+7] (j:Int)= .ok f:=by
   rcases(show j=0∨j=1∨j=2 by omega) with rfl |rfl |rfl
   ·exact⟨_,ar0⟩
   ·exact⟨_,ar1⟩
   ·exact⟨_,ar2⟩
  obtain⟨f,ef⟩:=e3
  have h1:=h.h1
  rw[Xi (sz (by simp)),Rs.okb,X2 (by decide),Rs.okb,show x8 % 3=(j:Int) from ej,ef,Rs.okb,YS (by omega) (by omega),Rs.okb,X2 (by have:=d.ne;omega),Rs.okb,ei]
  simp only[Rs.okb]
  rw[Xi (sz (by simp))]
  exact⟨_,rfl, .inl ⟨rfl, .turn hi⟩⟩
 ·simp only[Z3,QV,JW,Qj,ZU,Bool.false_eq_true,if_false,Rs.okb,Vc]
  exact Ok.bind (BL d h).noE λm ⟨i,k,c,o,s,e,h1,h2,h3,h4,h5⟩=>⟨_,rfl, .inl ⟨rfl,e▸ .curl h1 h2 h3 h4 h5⟩⟩
 ·simp only[QH,J1,decide_true,Bool.false_eq_true,if_false,if_true,Rs.okb,Vc]
  exact Ok.bind (OJ d h).noE λm ⟨i,k,j,l,a,b,c,s,e,h1⟩=>⟨_,rfl, .inl ⟨rfl,e▸ .lay h1⟩⟩
 ·simp only[Zy,decide_true,Bool.false_eq_true,if_false,if_true,QC,Y5,YO]
  obtain⟨l,el,hl⟩:=Bh d
  rw[el,Xn,Rs.okb]
  cases l with
  |nil=>
   simp only[show decide ((0:Int)<(([]:List (List Mx)).length:Int))=false from rfl,Bool.false_eq_true,if_false,Rs.okb,Vc]
   exact Ok.bind (BL d h).noE λm ⟨i,k,c,o,s,e,h1,h2,h3,h4,h5⟩=>⟨_,rfl, .inl ⟨rfl,e▸ .curl h1 h2 h3 h4 h5⟩⟩
  |cons m0 l0=>
   have hp:0<(m0::l0).length:=by simp
   generalize m0::l0=l at*
   rw[show decide ((0:Int)<(l.length:Int))=true by simp;omega,okt,ar8]
   obtain⟨j,ej,hj⟩:=emd (y:=x8) (n:=l.length) hp
   rw[Rs.okb,X2 (by omega),Rs.okb,ej,X1 (n:=j) rfl hj]
   simp only[Rs.okb,Mz]
   obtain⟨p,q,r,e,hh⟩:=(hl.2 _).mp (List.getElem_mem hj)
   exact⟨_,rfl, .inl ⟨rfl,by show Mv n ws sg l[j];rw[e];exact .pass hh⟩⟩
 ·simp only[Y7,Q9,JN,Qn,Bool.false_eq_true,if_false,if_true,decide_true,Rs.okb,Vc]
  refine Ok.bind (BL d h).noE λm r9=>?_
  obtain⟨i,k,c,o,s,e,h1,h2,h3,h4,h5⟩:=r9
  subst e
  rw[B0 d h1 h2 h3 h4,Xn,Rs.okb]
  unfold CG
  simp only[ar1,ar2,Rs.okb,mxI]
  rw[Xi (sz (by simp)),Rs.okb]
  exact⟨_,rfl, .inr ⟨by simp,d.curl hn h1 h2 h3 h4 h5, .unc ..⟩⟩
 ·simp only[ZL,Jz,QS,Bool.false_eq_true,if_false,if_true,decide_true,Rs.okb,Vc]
  refine Ok.bind (OJ d h).noE λm r9=>?_
  obtain⟨i,k,j,l,a,b,c,s,e,h1⟩:=r9
  subst e
  rw[LQ h1,Xn]
  unfold Ot
  simp only[ar1,ar2,ar3,ar4,Rs.okb,mxI]
  rw[Z7 (c:=decide ((l:Int)<=(k:Int))) λ_=>rfl,Rs.okb,Rs.okb,YS (by decide) (by decide)]
  simp only[Rs.okb]
  rw[Xi (sz (by simp)),Rs.okb]
  exact⟨_,rfl, .inr ⟨by simp,Dr.lay h1 hn, .unl ..⟩⟩
theorem RA (ns:List Int):∃ws sg m,Hd ns [("turn":Str),"curl","uncurl","lay","unlay","unlay","pass","pass"]= .ok ((ws,sg),m)/\Dr 2 ws sg/\Frm m:=by
 generalize hwd: [("turn":Str),"curl","uncurl","lay","unlay","unlay","pass","pass"]=wds
 have h0:wds.length=8:=by rw[←hwd];rfl
 have key:∀{n:Nat}{ws:QLs}{sg:QPs}{w:Str},n<=1->Dr n ws sg->w∈wds->∃ia ib m,noE (Lp ns 3 (ws,sg) w)= .ok ((ia,ib),m)/\Dr 2 ia ib/\Frm m:=fun {n ws sg w} hn d hw=>by
  obtain⟨⟨⟨y1,y2⟩,m⟩,e,h⟩:=OT ns (show(0:Int)<=3 by decide) d (by omega) (hwd▸hw)
  refine⟨y1,y2,m,T6 e,?_⟩
  have up:∀{u v},Dr (n+1) u v->Dr 2 u v:=fun {u v} d'=>by
   rcases(show n=0∨n=1 by omega) with rfl |rfl
   ·exact d'.up (by omega)
   ·exact d'
  rcases h with⟨e1,hm⟩ | ⟨_,d',hf⟩
  ·cases e1;exact⟨up (d.up (by omega)),hm.frm⟩
  ·exact⟨up d',hf⟩
 unfold Hd Lo;dsimp only
 simp only[Rs.okb]
 obtain⟨r,er,rl,hr⟩:=EJ ns (show(0:Int)<=1 by decide) [60,60,3] (by decide) (by decide)
 have rl:r.length=3:=rl
 obtain⟨⟨ws,sg⟩,eb,d⟩:=NU ns (show(0:Int)<=0 by decide)
 rw[Xi (sz (by simp)),Rs.okb,er,Xn,Rs.okb,eb,Xn,Rs.okb,X1 (r:=r) (k:=0) (n:=0) rfl (by omega),X1 (r:=r) (k:=1) (n:=1) rfl (by omega),X1 (r:=r) (k:=2) (n:=2) rfl (by omega)]
 simp only[Rs.okb]
 obtain⟨u,eu,hu⟩:=emd (y:=r[0]) (n:=wds.length) (by omega)
 rw[X2 (a:=r[0]) (by omega),Rs.okb,eu,X1 (n:=u) rfl hu]
 simp only[Rs.okb]
 cases decide (r[2]=0) with
 |false=>exact key (by omega) d (List.getElem_mem hu)
 |true=>
  rw[okt,Xi (sz (by simp)),Rs.okb,X2 (a:=r[1]) (by decide),Rs.okb]
  obtain⟨j,ej,hj⟩:=emd (y:=r[1]) (n:=4) (by omega)
  have e4:∃w:Str,atR [("turn":Str),"curl","lay","pass"] (j:Int)= .ok w/\(w= "turn" ∨w= "curl" ∨w= "lay" ∨w= "pass"):=by
   rcases(show j=0∨j=1∨j=2∨j=3 by omega) with rfl |rfl |rfl |rfl
   ·exact⟨_,ar0, .inl rfl⟩
   ·exact⟨_,ar1, .inr (.inl rfl)⟩
   ·exact⟨_,ar2, .inr (.inr (.inl rfl))⟩
   ·exact⟨_,ar3, .inr (.inr (.inr rfl))⟩
  obtain⟨w,ew,hw⟩:=e4
  rw[show r[1] % 4=(j:Int) from ej,ew,Rs.okb]
  obtain⟨⟨x1,x2⟩,es,hh⟩:=OT ns (show(0:Int)<=2 by decide) d (by omega) (w:=w) (by rcases hw with rfl |rfl |rfl |rfl<;> simp)
  rcases hh with⟨e1,hm⟩ | ⟨hh,-⟩
  rotate_left
  ·rcases hw with rfl |rfl |rfl |rfl<;> exact absurd hh (by decide)
  obtain⟨ia,ib,ed,d'⟩:=hm.do d (by omega)
  have e1:x1=(ws,sg):=e1
  subst e1
  rw[es,Xn,Rs.okb]
  rw[show G1 ((ws,sg),x2).1 ((ws,sg),x2).2=_ from ed,Xn,Rs.okb]
  exact key (by omega) d' (List.getElem_mem hu)
theorem DU {D:QDr}:ZG D= .ok true:=by
 unfold ZG JO;dsimp only
 unfold UG UR;dsimp only
 simp only[Rs.okb,Bool.not_true,orF,okf,Bool.false_eq_true,if_false,Xn,Bq,Bool.not_false,decide_true,List.length_cons,List.length_nil]
 rw[Kw λa _=>by rw[Kw λb _=>rfl];rfl,Rs.okb,Vc,Kw λb _=>rfl]
 rfl
end
section
variable {n:Nat}{ws:QLs}{sg:QPs}{i k j l:Nat}{a b s:Int}{c:Bool}
theorem Nr (h:LayOk n ws sg i k j l a b s)(hL:Ye (ws,sg) (Ot i k j l a b c s)= .ok true):ZH (ws,sg) (Ot i k j l a b c s)= .ok (Tx ws i k j l a b c,sgL sg a b s):=by
 have hl:=h.d.l h.hi
 have h3:=h.d.n3
 have h4:=h.d.ls
 have hk:=h.kn
 unfold ZH Ua;dsimp only
 simp only[Rs.okb]
 rw[Fx hL]
 unfold Ot
 unfold IQ LO;dsimp only
 simp only[Rs.okb,decide_true,if_true,Bool.not_true,ar0,ar1,ar2,ar3,ar4,ar5,ar6,ar7,ar8,mxS,mxI,mxB,okf,okt,HW,Bq,orF,orT,Xn,QH,Uv,Qh,VS,J1,Wh]
 rw[show(if c=true then chk ([-b,-a].length<=sizeLine) (Rs.ok [-b,-a]) else chk ([-a,-b].length<=sizeLine) (Rs.ok [-a,-b]))= .ok (und a b c) by cases c<;> exact Xi (sz (show 2<=100000 by decide))]
 simp only[Rs.okb]
 rw[Xi (show[a,b].length<=sizeLine from sz (by simp)),Rs.okb,JR h.d.lw' h.hi h.hk (by omega) (by simp),Xn,Rs.okb,JR (by rw[Zb];exact h.d.lw') (by rw[Zb];exact h.hj) h.hl' (by have:=h.ll;omega) (by rw[LR];omega),Xn,Rs.okb,Xi (sz (by simp)),Rs.okb,show Hu sg [(a,s),(b,-s)]= .ok (sg++[(a,s),(b,-s)]) from Xi (sz (by simp;omega)),Rs.okb,h.d.fin' hk.1 (by simp;omega)]
 rfl
theorem UF {w:List Int}{q:Nat}(hk:k<=w.length):(Hv w k)[q]?=if q<k then w[q]? else w[q+2]?:=by
 unfold Hv
 by_cases h1:q<k
 ·rw[if_pos h1,List.getElem?_append_left (by simp;omega),List.getElem?_take_of_lt h1]
 ·rw[if_neg h1,List.getElem?_append_right (by simp;omega),List.getElem?_drop,show(w.take k).length=k by simp;omega]
  congr 1
  omega
theorem JA {w:List Int}(hk:k+1<w.length):(Hv w k).length=w.length-2:=by
 unfold Hv
 simp
 omega
theorem RJ {w:List Int}(h1:l+2<=k)(h2:k+1<w.length):Hv (Hv w k) l=Hv (Hv w l) (k-2):=by
 have e1:=JA h2
 have e2:=JA (k:=l) (w:=w) (by omega)
 refine List.ext_getElem? λq=>?_
 rw[UF (by omega),UF (by omega),UF (by omega),UF (by omega),UF (by omega)]
 by_cases a1:q<l
 ·rw[if_pos a1,if_pos (by omega),if_pos (by omega),if_pos a1]
 ·rw[if_neg a1]
  by_cases a2:q<k-2
  ·rw[if_pos (by omega),if_pos a2,if_neg a1]
  ·rw[if_neg (by omega),if_neg a2,UF (by omega),if_neg (by omega)]
theorem Wf {x y:Int×Int}(h:ltP x y=true):Ze ltP [x,y]=[x,y]/\Ze ltP [y,x]=[x,y]:=by
 have hn:x≠y:=λe=>by subst e;rw[Gh.irr] at h;cases h
 have hr: [x,y].Pairwise λx y=>ltP x y=true:=List.pairwise_cons.mpr ⟨λz hz=>by rw[List.mem_singleton.mp hz];exact h,List.pairwise_singleton ..⟩
 exact⟨(Kt Gh (by simp[hn]) (List.Perm.refl _) hr).symm,(Kt Gh (by simp[hn.symm]) (List.Perm.swap ..) hr).symm⟩
structure UnOk (n:Nat)(ws:QLs)(sg:QPs)(i k j l:Nat)(a b u v s:Int):Prop where
 d:Dr n ws sg
 hi:i<ws.length
 hj:j<ws.length
 h1:(gw ws i)[k]?=some a
 h2:(gw ws i)[k+1]?=some b
 h3:(gw ws j)[l]?=some u
 h4:(gw ws j)[l+1]?=some v
 uv:u= -a/\v= -b∨u= -b/\v= -a
 ha:1<=a
 hb:1<=b
 ab:a≠b
 dj:j=i->l+2<=k∨k+2<=l
 s1:(a,s)∈sg
 s2:(b,-s)∈sg
 hs:s=1∨s= -1
def unM (i k j l:Nat):List Mx:=[.s "unlay", .i i, .i k, .i j, .i l]
def unW (ws:QLs)(i k j l:Nat):QLs:=G0 (G0 ws j l) i (if j=i/\l<k then k-2 else k)
variable {u v:Int}
theorem Th (hi:i<ws.length)(hj:j<ws.length)(hk:k<=(gw ws i).length)(l1:(gw ws i).length<=90)(l2:(gw ws j).length<=90)(hl:l<=(gw (G0 ws i k) j).length):forN [((i:Int),(k:Int)),((j:Int),(l:Int))] ws (λg a=>(noE (Qc g a.1 a.2)).bind Rs.ok)= .ok (G0 (G0 ws i k) j l):=by
 show(((noE (Qc ws (i:Int) (k:Int))).bind Rs.ok).bind λg'=>((noE (Qc g' (j:Int) (l:Int))).bind Rs.ok).bind λg''=>Rs.ok g'')=_
 rw[UL hi hk (by omega),Xn,Rs.okb,Rs.okb,UL (by rw[Cd];exact hj) hl ?_,Xn,Rs.okb,Rs.okb]
 by_cases e:j=i
 ·subst e
  rw[VG hi]
  unfold Hv
  simp
  omega
 ·rw[VH e];omega
theorem UnOk.two (h:UnOk n ws sg i k j l a b u v s):(ltP ((i:Int),(k:Int)) ((j:Int),(l:Int))=true/\(if j=i/\l<k then k-2 else k)=k/\k<=(gw (G0 ws j l) i).length)∨(ltP ((j:Int),(l:Int)) ((i:Int),(k:Int))=true/\l<=(gw (G0 ws i k) j).length/\G0 (G0 ws i k) j l=unW ws i k j l):=by
 have k1:=(List.getElem?_eq_some_iff.mp h.h2).1
 have k2:=(List.getElem?_eq_some_iff.mp h.h4).1
 unfold ltP
 by_cases e:j=i
 ·subst e
  rcases h.dj rfl with z |z
  ·refine .inr ⟨by simp;omega,?_,?_⟩
   ·rw[VG h.hi,JA k1];omega
   ·unfold unW
    rw[if_pos ⟨rfl,by omega⟩]
    unfold G0
    rw[List.set_set,List.set_set,show gw (ws.set j (Hv (gw ws j) k)) j=_ from VG h.hi,show gw (ws.set j (Hv (gw ws j) l)) j=_ from VG h.hi,RJ z k1]
  ·refine .inl ⟨by simp;omega,if_neg (by omega),?_⟩
   rw[VG h.hi,JA k2];omega
 ·by_cases e2:i<j
  ·refine .inl ⟨by rw[if_neg (by simp;omega)];simp;omega,if_neg (by omega),?_⟩
   rw[VH (Ne.symm e)];omega
  ·refine .inr ⟨by rw[if_neg (by simp;omega)];simp;omega,?_,?_⟩
   ·rw[VH e];omega
   ·unfold unW
    rw[if_neg (by omega)]
    have a1:=VH (ws:=ws) (k:=k) e
    have a2:=VH (ws:=ws) (k:=l) (Ne.symm e)
    unfold G0 at a1 a2⊢
    rw[a1,a2,List.set_comm _ _ (Ne.symm e)]
theorem N9 (h:UnOk n ws sg i k j l a b u v s):G1 (ws,sg) (unM i k j l)= .ok (unW ws i k j l,ZQ (ZQ sg a) b):=by
 have l1:=h.d.l h.hi
 have l2:=h.d.l h.hj
 have k1:=(List.getElem?_eq_some_iff.mp h.h2).1
 have k2:=(List.getElem?_eq_some_iff.mp h.h4).1
 have ka:a∈kys sg:=List.mem_map_of_mem (f:=(·.1)) h.s1
 have kb:b∈kys (ZQ sg a):=List.mem_map_of_mem (f:=(·.1)) (List.mem_filter.mpr ⟨h.s2,by simpa using h.ab.symm⟩)
 have hne: [((i:Int),(k:Int)),((j:Int),(l:Int))].Nodup:=by
  have:=h.dj
  simp
  omega
 unfold unM
 unfold G1 Of;dsimp only
 simp only[Rs.okb,decide_true,if_true,Bool.not_true,ar0,ar1,ar2,ar3,ar4,ar5,ar6,ar7,ar8,mxS,mxI,mxB,okf,okt,HW,Bq,orF,orT,Xn,ZL,Jk,Zz,QS,Jz,ML]
 rw[Qa (by have:=h.d.lw';omega)]
 simp only[Rs.okb,h.d.gs.dict,QF h.hi]
 rw[Zk h.h1,show(k:Int)+1=((k+1:Nat):Int) by omega,Zk h.h2]
 simp only[Rs.okb]
 rw[Xi (Z9.mpr ka),Xi (Z9.mpr kb)]
 rw[To (l:=[Mx.s "unlay", .i i, .i k, .i j, .i l]) (lo:=1) (hi:=3) (a:=i) (b:=k) (show ¬(HT.sIx 5 0 (some 1)=0/\HT.sIx 5 5 (some 3)=5) by decide) rfl,To (l:=[Mx.s "unlay", .i i, .i k, .i j, .i l]) (lo:=3) (hi:=5) (a:=j) (b:=l) (show ¬(HT.sIx 5 0 (some 3)=0/\HT.sIx 5 5 (some 5)=5) by decide) rfl]
 simp only[Rs.okb]
 rw[Xi (sz (by simp)),Rs.okb,Xi ⟨by simp,hne⟩,Rs.okb,Xi trivial,Rs.okb]
 have gn:Sg (ZQ (ZQ sg a) b):=(h.d.gs.del a).del b
 have gt:(ZQ (ZQ sg a) b).length<=sg.length:=Nat.le_trans List.filter_sublist.length_le List.filter_sublist.length_le
 have hf:chk ((ZQ (ZQ sg a) b).length<64/\(ZQ (ZQ sg a) b).Nodup) (Rs.ok (Ze ltP (ZQ (ZQ sg a) b)))= .ok (ZQ (ZQ sg a) b):=by
  rw[h.d.fin' gn.kn (by have:=h.d.ls;have:=h.d.n3;omega),gn.sort]
 have c1:=JA k1
 have c2:=JA k2
 rcases h.two with⟨z1,z2,z3⟩ | ⟨z1,z2,z3⟩
 ·rw[(Wf z1).1,show[((i:Int),(k:Int)),((j:Int),(l:Int))].reverse=[((j:Int),(l:Int)),((i:Int),(k:Int))] from rfl]
  rw[Th h.hj h.hi (by omega) (by omega) (by omega) z3]
  simp only[Rs.okb]
  rw[hf]
  unfold unW
  rw[z2]
  rfl
 ·rw[(Wf z1).2,show[((j:Int),(l:Int)),((i:Int),(k:Int))].reverse=[((i:Int),(k:Int)),((j:Int),(l:Int))] from rfl]
  rw[Th h.hi h.hj (by omega) (by omega) (by omega) z2]
  simp only[Rs.okb]
  rw[hf,z3]
  rfl
theorem HQ (h:UnOk n ws sg i k j l a b u v s)(hL:Ye (ws,sg) (unM i k j l)= .ok true):ZH (ws,sg) (unM i k j l)= .ok (unW ws i k j l,ZQ (ZQ sg a) b):=by
 have l1:=h.d.l h.hi
 have l2:=h.d.l h.hj
 have k1:=(List.getElem?_eq_some_iff.mp h.h2).1
 have k2:=(List.getElem?_eq_some_iff.mp h.h4).1
 have bo:YN (unM i k j l)= .ok ((if j=i/\l<k then k-2 else k:Nat):Int):=by
  unfold unM
  unfold YN Zs;dsimp only
  simp only[ar1,ar2,ar3,ar4,mxI,Rs.okb]
  rw[Z7 (c:=decide ((l:Int)<(k:Int))) λ_=>rfl,Rs.okb]
  by_cases e:j=i/\l<k
  ·have:=h.dj e.1
   rw[if_pos e,if_pos (by simp;omega)]
   congr 1
   omega
  ·rw[if_neg e,if_neg (by simp;omega)]
 have kk:(if j=i/\l<k then k-2 else k)<=(gw (G0 ws j l) i).length:=by
  have:=h.dj
  by_cases e:j=i
  ·subst e
   rw[VG h.hi,JA k2]
   split<;> omega
  ·rw[VH (Ne.symm e),if_neg (by omega)]
   omega
 have ha:=h.ha
 have hb:=h.hb
 unfold ZH Ua;dsimp only
 simp only[Rs.okb]
 rw[Fx hL]
 unfold DO Dt;dsimp only
 unfold YL Zj;dsimp only
 unfold unM at bo⊢
 simp only[Rs.okb,bo,decide_true,if_true,Bool.not_true,ar0,ar1,ar2,ar3,ar4,ar5,ar6,ar7,ar8,mxS,mxI,mxB,okf,okt,HW,Bq,orF,orT,Xn,ZL,Jk,Zz,QS,Jz,ML,Ul h.hi h.h1 h.h2,Nh]
 rw[UQ h.d.lw' h.hj (by omega) (by omega),Xn,Rs.okb,UQ (by rw[Cd];exact h.d.lw') (by rw[Cd];exact h.hi) kk ?_,Xn,Rs.okb,Di (p:=λe=>decide (e.1≠b)&&decide (e.1≠a)) (h:=λe=>e) (sz (by have:=h.d.ls;have:=h.d.n3;omega)) (λe he=>?_) λ_ _ _=>rfl,List.map_id',Xn,Rs.okb,Xn]
 ·unfold unW ZQ
  rw[List.filter_filter]
 ·congr 1
  rw[Bool.eq_iff_iff]
  simp
  omega
 ·by_cases e:i=j
  ·subst e
   rw[VG h.hi,JA k2];omega
  ·rw[VH e];omega
end
section
variable {n:Nat}{ws:QLs}{sg:QPs}
def Jd (D:QDr)(m:List Mx):Prop:=∃ b,Kk D m= .ok b/\Ye D m= .ok b/\(b=true->∃E,G1 D m= .ok E/\ZH D m= .ok E)
theorem IP {a:Int}:ZE (ws,sg) a= .ok (GZ a (ws.length:Int)):=by
 unfold ZE VU;dsimp only;unfold GZ
 simp only[Rs.okb]
 cases decide (0<=a)<;> rfl
theorem Gj {a b:Int}(h:GZ a b=true):∃i:Nat,a=(i:Int)/\(i:Int)<b:=by
 unfold GZ at h
 simp only[Bool.and_eq_true,decide_eq_true_eq] at h
 exact⟨a.toNat,by omega,by omega⟩
theorem Rc (d:Dr n ws sg){a s:Int}:Jd (ws,sg) [.s "turn", .i a, .i s]:=by
 have e1:Kk (ws,sg) [.s "turn", .i a, .i s]= .ok (GZ a (ws.length:Int)):=by
  unfold Kk Bs;dsimp only
  simp only[Rs.okb,ar0,ar1,mxS,mxI,decide_true,if_true]<;> rfl
 have e2:Ye (ws,sg) [.s "turn", .i a, .i s]= .ok (GZ a (ws.length:Int)):=by
  unfold Ye Ju;dsimp only
  simp only[Rs.okb,ar0,ar1,mxS,mxI,decide_true,if_true,IP,Xn]
 refine⟨_,e1,e2,λh=>?_⟩
 rw[h] at e2
 obtain⟨i,rfl,hi⟩:=Gj h
 exact⟨_,MU d (by omega),Iq d (by omega) e2⟩
theorem QM (a k:Int):(∃x y,YJ (ws,sg) a k= .ok (some (x,y))/\PQ ws (a,k,x,y))∨(YJ (ws,sg) a k= .ok none/\∀x y,¬PQ ws (a,k,x,y)):=by
 by_cases h:∃x y,PQ ws (a,k,x,y)
 ·obtain⟨x,y,h⟩:=h
  obtain⟨i,j,e1,e2,h1,h2,h3⟩:=h.ex
  cases e1;cases e2
  exact .inl ⟨x,y,Ul h1 h2 h3,h⟩
 ·refine .inr ⟨?_,λx y z=>h ⟨x,y,z⟩⟩
  unfold YJ V3;dsimp only
  simp only[Rs.okb,IP,Xn]
  cases e:GZ a (ws.length:Int) with
  |false=>rfl
  |true=>
   obtain⟨i,rfl,hi⟩:=Gj e
   have hi:i<ws.length:=by omega
   simp only[Bool.not_true,orF,QF hi,Rs.okb]
   by_cases h0:0<=k
   ·rw[if_pos (decide_eq_true h0),decide_eq_false (p:=k<((gw ws i).length:Int)-1) λz=>h ⟨_,_,i,k.toNat,rfl,(Int.toNat_of_nonneg h0).symm,hi,List.getElem?_eq_getElem (by omega),List.getElem?_eq_getElem (by omega)⟩]
    rfl
   ·rw[if_neg (by simpa using h0)]
    rfl
theorem PQ.one {a k x y u v:Int}(h:PQ ws (a,k,x,y))(h':PQ ws (a,k,u,v)):x=u/\y=v:=by
 obtain⟨i,j,e1,e2,h1,h2,h3⟩:=h.ex
 obtain⟨i',j',fg,cr,bD,br,h3'⟩:=h'.ex
 cases e1;cases e2
 cases Int.ofNat.inj fg;cases Int.ofNat.inj cr
 exact⟨Option.some.inj (h2.symm.trans br),Option.some.inj (h3.symm.trans h3')⟩
theorem SJ {a:List Mx}{l:List (List Mx)}{c:Bool}(h:a∈l↔c=true):M7 a l=c:=by
 rw[Bool.eq_iff_iff, ←h]
 unfold M7
 simp only[decide_eq_true_eq]
def Ar (q:Q4):List Mx:=[.s "uncurl", .i q.1, .i q.2.1]
theorem HC (d:Dr n ws sg):Ok (VY ws) λl=>∀ m,m∈l↔∃q,PQ ws q/\q.2.2.1= -q.2.2.2/\m=Ar q:=by
 have ht:=d.tot
 unfold VY GU;dsimp only
 simp only[Rs.okb,DG d,Xn]
 rw[Qe (h:=λq:Q4=>if q.2.2.1= -q.2.2.2 then[Ar q] else[]) (N:=405) (Nat.le_trans (by simpa using Jp (m:=1) λq _=>by split<;> simp) ht) λg q _ hg=>?_]
 ·refine⟨_,rfl,λm=>?_⟩
  simp only[List.nil_append,List.mem_flatMap,VI]
  refine exists_congr λq=>and_congr_right λ_=>?_
  by_cases h:q.2.2.1= -q.2.2.2
  ·rw[if_pos h];simp[h]
  ·rw[if_neg h];simp[h]
 ·by_cases h:q.2.2.1= -q.2.2.2
  ·rw[if_pos h] at hg⊢
   rw[if_pos (decide_eq_true h),Xi (sz (by simp)),Rs.okb,Xi (BI (by simp at hg;omega))]
   rfl
  ·rw[if_neg h,if_neg (by simpa using h),List.append_nil]
   rfl
theorem We (d:Dr n ws sg){a k:Int}:Jd (ws,sg) [.s "uncurl", .i a, .i k]:=by
 obtain⟨l,el,hl⟩:=HC d
 have e1:Kk (ws,sg) [.s "uncurl", .i a, .i k]= .ok (M7 [.s "uncurl", .i a, .i k] l):=by
  unfold Kk Bs;dsimp only
  simp only[Rs.okb,ar0,mxS,Y7,decide_true,if_true,Bool.false_eq_true,if_false,el,Xn]
  refine Xi λc hc=>?_
  obtain⟨q,_,_,rfl⟩:=(hl c).mp hc
  rfl
 have e2:Ye (ws,sg) [.s "uncurl", .i a, .i k]=noE (ZC (ws,sg) [.s "uncurl", .i a, .i k]):=by
  unfold Ye Ju;dsimp only
  simp only[Rs.okb,ar0,mxS,Y7,Q7,decide_true,if_true,Bool.false_eq_true,if_false]
 unfold ZC Qq at e2;dsimp only at e2
 unfold GO Gr at e2;dsimp only at e2
 simp only[Rs.okb,ar1,ar2,mxI] at e2
 rcases QM (ws:=ws) (sg:=sg) a k with⟨x,y,ep,h⟩ | ⟨ep,h⟩
 ·simp only[ep,Xn,Rs.okb,Nh,Option.isSome,Bq] at e2
  have eb:M7 [Mx.s "uncurl", .i a, .i k] l=decide (x= -y):=SJ <| by
   rw[hl,decide_eq_true_eq]
   constructor
   ·rintro⟨⟨b,j,u,v⟩,h1,h2,h3⟩
    cases h3
    obtain⟨rfl,rfl⟩:=h.one h1
    exact h2
   ·exact λe=>⟨_,h,e,rfl⟩
  refine⟨_,e1.trans (congrArg _ eb),e2,λhb=>?_⟩
  rw[hb] at e2
  obtain⟨i,j,z1,z2,h1,h2,h3⟩:=h.ex
  cases z1;cases z2
  have:y= -x:=by have:=of_decide_eq_true hb;omega
  have h3:(gw ws i)[j+1]?=some (-x):=this▸h3
  exact⟨_,M0 d h1 h2 h3,Ef d h1 h2 h3 e2⟩
 ·simp only[ep,Xn,Rs.okb,Option.isSome,HW] at e2
  refine⟨false,e1.trans (congrArg _ (SJ ⟨λz=>?_,λz=>by cases z⟩)),e2,λz=>by cases z⟩
  obtain⟨⟨b,j,u,v⟩,h1,h2,h3⟩:=(hl _).mp z
  cases h3
  exact absurd h1 (h _ _)
end
section
variable {n:Nat}{ws:QLs}{sg:QPs}
def CL (ws:QLs)(a k m:Int):Prop:=∃ i j:Nat,a=(i:Int)/\k=(j:Int)/\i<ws.length/\(j:Int)<=((gw ws i).length:Int)+m
theorem KZ {a k m:Int}:Ok (Jy (ws,sg) a k m) λb=>b=true↔CL ws a k m:=by
 unfold Jy GR;dsimp only
 simp only[Rs.okb,IP,Xn]
 cases e:GZ a (ws.length:Int) with
 |false=>
  refine⟨_,rfl,λz=>(by cases z),λr9=>?_⟩
  obtain⟨i,j,z1,_,z3,_⟩:=r9
  unfold GZ at e
  simp at e
  omega
 |true=>
  obtain⟨i,rfl,hi⟩:=Gj e
  have hi:i<ws.length:=by omega
  simp only[Bq,QF hi,Rs.okb]
  by_cases h0:0<=k
  ·rw[if_pos (decide_eq_true h0)]
   refine⟨_,rfl,decide_eq_true_iff.trans ?_⟩
   refine⟨λz=>⟨i,k.toNat,rfl,by omega,hi,by omega⟩,λr9=>?_⟩
   obtain⟨i',j,z1,z2,_,z4⟩:=r9
   cases Int.ofNat.inj z1
   omega
  ·rw[if_neg (by simpa using h0)]
   exact⟨_,rfl,λz=>(by cases z),λr9=>by obtain⟨_,j,_,z,_⟩:=r9;exact by omega⟩
def New (sg:QPs)(x:Int):Prop:=1<=x/\x∉kys sg
theorem CC (d:Dr n ws sg){ns:List Int}(hn:ns.length<=2):Ok (JU (ws,sg) ns) λb=>b=true↔(sg.length+ns.length<=40/\ns.length<=(dd ns).length)/\∀x∈ns,New sg x:=by
 have h3:=d.n3
 have h4:=d.ls
 unfold JU KO;dsimp only
 unfold VQ Vr;dsimp only
 simp only[Rs.okb]
 rw[VF (h:=λe:Int×Int=>e.1) (sz (by omega)) λ_ _=>rfl]
 simp only[Rs.okb,Xn,List.length_map]
 rw[show sg.map (λe=>e.1)=kys sg from rfl,Xi (by omega),Rs.okb,Kg (c:=decide (((dd ns).length:Int)<(ns.length:Int))) λ_=>rfl,Rs.okb]
 by_cases h:sg.length+ns.length<=40/\ns.length<=(dd ns).length
 ·rw[if_neg (by simp;omega),VF (h:=λa=>decide (1<=a)&&!decide (a∈kys sg)) (sz (by omega)) λa _=>Z7 λ_=>rfl]
  refine⟨_,rfl,?_⟩
  unfold New
  simp[h]
 ·rw[if_pos (by simp;omega)]
  exact⟨_,rfl,λz=>(by cases z),λz=>absurd z.1 h⟩
theorem Nw {D:QDr}{m:List Mx}{c:Prop}(h1:Ok (Kk D m) λb=>b=true↔c)(h2:Ok (Ye D m) λb=>b=true↔c)(h:c->Ye D m= .ok true->∃E,G1 D m= .ok E/\ZH D m= .ok E):Jd D m:=by
 obtain⟨b,e1,z1⟩:=h1
 obtain⟨b',e2,z2⟩:=h2
 cases Bool.eq_iff_iff.mpr (z1.trans z2.symm)
 exact⟨b,e1,e2,λe=>h (z1.mp e) (e▸e2)⟩
theorem R6 {a k m:Int}(e:GZ a (ws.length:Int)=false):¬CL ws a k m:=λ⟨i,j,z1,_,z3,_⟩=>by
 unfold GZ at e
 simp at e
 omega
theorem Py {i:Nat}{k m x:Int}(hi:i<ws.length)(hx:x=((gw ws i).length:Int)+m+1):GZ k x=true↔CL ws i k m:=by
 subst hx
 refine⟨λh=>?_,λ⟨i',j,z1,z2,_,z4⟩=>?_⟩
 ·obtain⟨j,rfl,hj⟩:=Gj h
  exact⟨i,j,rfl,rfl,hi,by omega⟩
 ·cases Int.ofNat.inj z1
  unfold GZ
  simp
  omega
theorem Iy {l:QPs}{k:Int}:(QI l k).isSome=decide (k∈kys l):=Bool.eq_iff_iff.mpr (Z9.trans decide_eq_true_iff.symm)
theorem Pu (d:Dr n ws sg){a k c s:Int}{w:Str}:Jd (ws,sg) [.s "curl", .i a, .i k, .i c, .s w, .i s]:=by
 have h3:=d.n3
 have h4:=d.ls
 refine Nw (c:=CL ws a k 0/\(sg.length<=39/\New sg c)/\(w= "over" ∨w= "under")/\(s=1∨s= -1)) ?_ ?_ λ⟨⟨i,j,e1,e2,h1,h2⟩,⟨h3,h4⟩,h5,h6⟩ hL=>?_
 ·unfold Kk Bs;dsimp only
  simp only[Rs.okb,ar0,mxS,Z3,ZU,Qj,QV,JW,Bool.false_eq_true,if_false,mx6,d.gs.dict]
  cases e:GZ a (ws.length:Int) with
  |false=>exact⟨false,rfl,λz=>(by cases z),λz=>absurd z.1 (R6 e)⟩
  |true=>
   obtain⟨i,rfl,hi⟩:=Gj e
   have hi:i<ws.length:=by omega
   have hc:=Py (k:=k) (m:=0) hi (by rw[Int.add_zero])
   simp only[Bool.not_true,orF,QF hi,Rs.okb]
   rw[←hc]
   cases GZ k (((gw ws i).length:Int)+1) with
   |false=>exact⟨false,rfl,by simp⟩
   |true=>
    rw[Bool.not_true,if_neg Bool.false_ne_true,Kg (c:=(QI sg c).isSome || decide ((39:Int)<(sg.length:Int))) λ_=>Kg λ_=>rfl,Rs.okb,Z7 λ_=>rfl]
    have hk:=Iy (l:=sg) (k:=c)
    unfold New
    by_cases h:sg.length<=39/\1<=c/\c∉kys sg
    ·rw[if_neg (by simp[hk,h];omega)]
     exact⟨_,rfl,by simp[h]⟩
    ·rw[if_pos (by by_cases hm:c∈kys sg<;> simp[hk,hm] at h⊢;omega)]
     exact⟨_,rfl,λz=>(by cases z),λz=>absurd z.2.1 h⟩
 ·unfold Ye Ju;dsimp only
  unfold JH JQ;dsimp only
  simp only[Rs.okb,ar0,ar1,ar2,ar3,ar4,ar5,mxS,mxI,Z3,decide_true,if_true,Bool.false_eq_true,if_false]
  obtain⟨b1,e1,z1⟩:=KZ (ws:=ws) (sg:=sg) (a:=a) (k:=k) (m:=0)
  obtain⟨b2,e2,z2⟩:=CC d (ns:=[c]) (by simp)
  rw[e1,Xn,Rs.okb,Xi (sz (by simp)),Rs.okb,e2,Xn,Rs.okb,Kg (c:=!(b2)) λ_=>rfl,Rs.okb,Z7 (c:=decide (s∈[(1:Int),-1])) λ_=>rfl]
  have z2:b2=true↔sg.length<=39/\New sg c:=z2.trans (by simp[dd,PyProof.Rows.step_dedup])
  rw[←z1, ←z2]
  cases b1 with
  |false=>exact⟨_,rfl,by simp⟩
  |true=>cases b2<;> exact⟨_,rfl,by simp⟩
 ·cases e1;cases e2
  have h2:j<=(gw ws i).length:=by omega
  obtain⟨o,rfl⟩:∃o,w=ovw o:=by
   rcases h5 with z |z
   ·exact⟨true,z⟩
   ·exact⟨false,z⟩
  exact⟨_,B0 d h1 h2 h4.2 h4.1,IU d h1 h2 h4.2 h4.1 hL⟩
end
section
variable {n:Nat}{ws:QLs}{sg:QPs}
theorem AQ {m0 m1 m2 m3 m4 m5 m6 m7 m8:Mx}:chk (¬(HT.sIx [m0,m1,m2,m3,m4,m5,m6,m7,m8].length 0 (some 1)=0/\HT.sIx [m0,m1,m2,m3,m4,m5,m6,m7,m8].length [m0,m1,m2,m3,m4,m5,m6,m7,m8].length none=[m0,m1,m2,m3,m4,m5,m6,m7,m8].length)) (Rs.ok (Gv [m0,m1,m2,m3,m4,m5,m6,m7,m8] (some 1) none))= .ok [m1,m2,m3,m4,m5,m6,m7,m8]:=Xi (show ¬(HT.sIx 9 0 (some 1)=0/\HT.sIx 9 9 none=9) by decide)
def mo (a b:Int):Int:=if b=a then 2 else 0
theorem Ti (d:Dr n ws sg){a k b l x y s:Int}{c:Bool}:Jd (ws,sg) [.s "lay", .i a, .i k, .i b, .i l, .i x, .i y, .b c, .i s]:=by
 have h3:=d.n3
 have h4:=d.ls
 have em:(if decide (b=a)=true then Rs.ok (2:Int) else Rs.ok 0)= .ok (mo a b):=by
  unfold mo
  by_cases e:b=a<;> simp[e]
 refine Nw (c:=(CL ws a k 0/\CL ws b l (mo a b)/\¬(b=a/\l=k+1))/\(sg.length<=38/\x≠y/\New sg x/\New sg y)/\(s=1∨s= -1)) ?_ ?_ λ⟨⟨⟨i,k',e1,e2,h1,h2⟩,⟨j,l',e3,e4,h3,h4⟩,h5⟩,⟨h6,h7,h8,h9⟩,h10⟩ hL=>?_
 ·unfold Kk Bs;dsimp only
  unfold Um Uy;dsimp only
  simp only[Rs.okb,ar0,mxS,QH,Qh,VS,J1,decide_true,if_true,Bool.false_eq_true,if_false,d.gs.dict]
  rw[AQ,Rs.okb]
  simp only[mx8,Rs.okb]
  refine Ok.noE ?_
  rw[Kg (c:=!(GZ b (ws.length:Int))) λ_=>rfl,Rs.okb]
  cases e:GZ a (ws.length:Int) with
  |false=>exact⟨false,rfl,λz=>(by cases z),λz=>absurd z.1.1 (R6 e)⟩
  |true=>
   cases e':GZ b (ws.length:Int) with
   |false=>exact⟨false,rfl,λz=>(by cases z),λz=>absurd z.1.2.1 (R6 e')⟩
   |true=>
    obtain⟨i,rfl,hi⟩:=Gj e
    obtain⟨j,rfl,hj⟩:=Gj e'
    have hi:i<ws.length:=by omega
    have hj:j<ws.length:=by omega
    simp only[Bool.not_true,Bool.or_false,Bool.false_eq_true,if_false,QF hi,QF hj,Rs.okb]
    rw[YS (by decide) (by decide)]
    simp only[Rs.okb]
    have hc:=Py (k:=k) (m:=0) hi (by rw[Int.add_zero])
    have cU:=Py (k:=l) (m:=mo i j) (x:=((gw ws j).length:Int)+2*(if decide ((i:Int)=(j:Int))=true then 1 else 0)+1) hj (by
     unfold mo
     by_cases z:(j:Int)=i
     ·rw[if_pos z,if_pos (by simpa using z.symm)];omega
     ·rw[if_neg z,if_neg (by simpa using λq=>z q.symm)];omega)
    rw[←hc, ←cU]
    cases GZ k (((gw ws i).length:Int)+1) with
    |false=>exact⟨false,rfl,by simp⟩
    |true=>
     rw[Bool.not_true,if_neg Bool.false_ne_true,Z7 (c:=decide (l=k+1)) λ_=>rfl,Kg (c:=decide ((i:Int)=(j:Int))&&decide (l=k+1)) λ_=>rfl,Rs.okb]
     cases GZ l _ with
     |false=>exact⟨false,rfl,by simp⟩
     |true=>
      rw[Bool.not_true,Bool.false_or,Iy,Iy,Kg (c:=decide (y<1) || (decide (x=y) || (decide (x∈kys sg) || decide (y∈kys sg)))) λ_=>Kg λ_=>Kg λ_=>Kg λ_=>rfl,Rs.okb,Z7 λ_=>rfl]
      by_cases q1:(i:Int)=j/\l=k+1
      ·rw[if_pos (by simpa using q1)]
       exact⟨false,rfl,λz=>(by cases z),λz=>absurd ⟨q1.1.symm,q1.2⟩ z.1.2.2⟩
      ·rw[if_neg (by simpa using q1)]
       unfold New
       by_cases q2:x≠y/\(1<=x/\x∉kys sg)/\1<=y/\y∉kys sg
       ·rw[if_neg (by simp[q2])]
        refine⟨_,rfl,?_⟩
        simp[q2,and_comm,Int.ofNat_le]<;> omega
       ·rw[if_pos (by
         by_cases m1:x∈kys sg<;> by_cases m2:y∈kys sg<;> simp[m1,m2] at q2⊢
         omega)]
        exact⟨_,rfl,λz=>(by cases z),λz=>absurd z.2.1.2 q2⟩
 ·unfold Ye Ju;dsimp only
  unfold Vm Vx;dsimp only
  simp only[Rs.okb,ar0,ar1,ar2,ar3,ar4,ar5,ar6,ar8,mxS,mxI,QH,Uv,Qh,decide_true,if_true,Bool.false_eq_true,if_false]
  obtain⟨b1,e1,z1⟩:=KZ (ws:=ws) (sg:=sg) (a:=a) (k:=k) (m:=0)
  obtain⟨b2,e2,z2⟩:=CC d (ns:=[x,y]) (by simp)
  obtain⟨b3,e3,z3⟩:=KZ (ws:=ws) (sg:=sg) (a:=b) (k:=l) (m:=mo a b)
  rw[e1,Xn,Rs.okb,Xi (sz (by simp)),Rs.okb,e2,Xn,Rs.okb,Kg (c:=!(b2)) λ_=>rfl,Rs.okb,Z7 (c:=decide (l=k+1)) λ_=>rfl,Rs.okb,em,Rs.okb,e3,Xn,Z7 (c:=decide (s∈[(1:Int),-1])) λ_=>rfl]
  have z2:b2=true↔sg.length<=38/\x≠y/\New sg x/\New sg y:=z2.trans (by
   by_cases q:x=y<;> simp[dd,PyProof.Rows.step_dedup,q])
  rw[←z1, ←z2, ←z3]
  cases b1 with
  |false=>exact⟨_,rfl,by simp⟩
  |true=>
   cases b2 with
   |false=>exact⟨_,rfl,by simp⟩
   |true=>
    by_cases q1:b=a/\l=k+1
    ·rw[if_neg (by simp),if_pos (by simpa using q1)]
     exact⟨_,rfl,by simp[q1]⟩
    ·rw[if_neg (by simp),if_neg (by simpa using q1)]
     exact⟨_,rfl,by simp[q1]⟩
 ·cases e1;cases e2;cases e3;cases e4
  have h:LayOk n ws sg i k' j l' x y s:=⟨d,h1,by omega,h3,by
   unfold mo at h4
   by_cases z:j=i
   ·rw[if_pos z];rw[if_pos (congrArg _ z)] at h4;omega
   ·rw[if_neg z];rw[if_neg (by omega)] at h4;omega,λz q=>h5 ⟨congrArg _ z,by omega⟩,h8,h9,h7,h10⟩
  exact⟨_,LQ h,Nr h hL⟩
end
section
variable {n:Nat}{ws:QLs}{sg:QPs}
theorem Gd (d:Dr n ws sg){x:Int}(h:x∈kys sg):QE (ws,sg) x= .ok (sv sg x):=by
 obtain⟨e,he,rfl⟩:=List.mem_map.mp h
 unfold sv
 rw[LM d.gs.kn he]
 exact RU d.gs.kn he
theorem KA {x y u v:Int}(h:Yr [-x,-y]=Yr [u,v]):Yr [x,y]=Yr [-u,-v]:=by
 have p: [-x,-y].Perm [u,v]:=((YF _).symm.trans (h▸List.Perm.refl _)).trans (YF _)
 have q:=p.map λz=>-z
 simp only[List.map_cons,List.map_nil,Int.neg_neg] at q
 exact DK ((YF _).trans q) (Fu _)
theorem Ex (d:Dr n ws sg){x:Int}(h:x∈kys sg):(x,sv sg x)∈sg/\(sv sg x=1∨sv sg x= -1):=by
 obtain⟨e,he,rfl⟩:=List.mem_map.mp h
 unfold sv
 rw[LM d.gs.kn he]
 exact⟨he,d.pm e he⟩
theorem ne0 (d:Dr n ws sg){q:Q4}(h:PQ ws q):q.2.2.1≠0/\q.2.2.2≠0:=by
 obtain⟨h1,h2⟩:=Fq d h
 obtain⟨e,he,e1⟩:=List.mem_map.mp h1
 obtain⟨e',he',e2⟩:=List.mem_map.mp h2
 have:=d.gs.2 e he
 have:=d.gs.2 e' he'
 omega
def UC (sg:QPs)(p:Q4):Prop:=0<p.2.2.1/\0<p.2.2.2/\sv sg p.2.2.1= -sv sg p.2.2.2
def US (p r:Q4):Prop:=Yr [-r.2.2.1,-r.2.2.2]=Yr [p.2.2.1,p.2.2.2]
def Wv (p r:Q4):List Mx:=[.s "unlay", .i p.1, .i p.2.1, .i r.1, .i r.2.1]
open Classical in
theorem IT (d:Dr n ws sg):Ok (KG (ws,sg)) λl=>∀ m,m∈l↔∃p,PQ ws p/\UC sg p/\∃r,PQ ws r/\US p r/\m=Wv p r:=by
 have ht:=d.tot
 unfold KG FZ;dsimp only
 simp only[Rs.okb,DG d,Xn,d.gs.dict]
 have h1:∀p:Q4,((prs ws).flatMap λr=>if US p r then[Wv p r] else[]).length<=405:=λp=>Nat.le_trans (by simpa using Jp (m:=1) (as:=prs ws) λr _=>by split<;> simp) ht
 have h2:((prs ws).flatMap λp=>if UC sg p then(prs ws).flatMap λr=>if US p r then[Wv p r] else[] else[]).length<=164025:=Nat.le_trans (Jp (m:=405) λp _=>by
  split
  ·exact h1 p
  ·simp) (by omega)
 rw[Qe (N:=164025) (by simpa using h2) λg p hp hg=>?_]
 ·refine⟨_,rfl,λm=>?_⟩
  simp only[List.nil_append,List.mem_flatMap,VI]
  refine exists_congr λp=>and_congr_right λ_=>?_
  by_cases h:UC sg p
  ·rw[if_pos h]
   simp only[h,true_and,List.mem_flatMap,VI]
   refine exists_congr λr=>and_congr_right λ_=>?_
   by_cases h':US p r<;> simp[h']
  ·rw[if_neg h];simp[h]
 ·have hk:=Fq d (VI.mp hp)
  rw[Z7 (a:=decide (0<p.2.2.1)) (c:=decide (UC sg p)) λz1=>?_,Rs.okb]
  rotate_left
  ·have z1:=of_decide_eq_true z1
   rw[Z7 (c:=decide (sv sg p.2.2.1= -sv sg p.2.2.2)) λz2=>?_]
   ·congr 1
    unfold UC
    simp[z1]
   ·have z2:=of_decide_eq_true z2
    rw[Co (k:=p.2.2.1) (by have:=hk.1;rwa [show(p.2.2.1.natAbs:Int)=p.2.2.1 by omega] at this),Rs.okb,Co (k:=p.2.2.2) (by have:=hk.2;rwa [show(p.2.2.2.natAbs:Int)=p.2.2.2 by omega] at this)]
    rfl
  by_cases h:UC sg p
  ·rw[if_pos h] at hg⊢
   rw[if_pos (by simp[h];exact h.1)]
   rw[Qe (N:=164025) hg λg r hr hg=>?_]
   ·rfl
   rw[Xi (sz (by simp)),Rs.okb,Xi (by simp),Rs.okb,Xi (sz (by simp)),Rs.okb,Xi (by simp),Rs.okb,Rs.okb]
   by_cases h':US p r
   ·rw[if_pos h'] at hg⊢
    rw[if_pos (decide_eq_true (show Yr _=Yr _ from h')),Xi (sz (by simp)),Rs.okb,Xi (Nat.lt_of_le_of_lt (show g.length<=164024 by simpa using hg) (by decide))]
    rfl
   ·rw[if_neg h',if_neg (λz=>h' (show Yr _=Yr _ from of_decide_eq_true z)),List.append_nil]
    rfl
  ·rw[if_neg h,if_neg (by simp[h]),List.append_nil]
   rfl
theorem Tt (d:Dr n ws sg){a k b l:Int}:Jd (ws,sg) [.s "unlay", .i a, .i k, .i b, .i l]:=by
 obtain⟨Lqz,el,hl⟩:=IT d
 refine Nw (c:=[.s "unlay", .i a, .i k, .i b, .i l]∈Lqz) ?_ ?_ λhc hL=>?_
 ·unfold Kk Bs;dsimp only
  simp only[Rs.okb,ar0,mxS,ZL,Zz,decide_true,if_true,Bool.false_eq_true,if_false,el,Xn]
  rw[Xi λc hc=>?_]
  ·refine⟨_,rfl,?_⟩
   unfold M7
   simp only[decide_eq_true_eq]
  ·obtain⟨p,_,_,r,_,_,rfl⟩:=(hl c).mp hc
   rfl
 ·rw[hl]
  unfold Ye Ju;dsimp only
  unfold QN QX;dsimp only
  simp only[Rs.okb,ar0,ar1,ar2,ar3,ar4,mxS,mxI,ZL,Jk,Zz,QS,decide_true,if_true,Bool.false_eq_true,if_false]
  rcases QM (ws:=ws) (sg:=sg) a k with⟨x,y,e1,h1⟩ | ⟨e1,h1⟩
  rotate_left
  ·rw[e1,Xn,Rs.okb]
   rcases QM (ws:=ws) (sg:=sg) b l with⟨u,v,e2,h2⟩ | ⟨e2,h2⟩<;> rw[e2,Xn,Rs.okb]<;> exact⟨_,rfl,λz=>(by cases z),λr9=>by obtain⟨p,z1,_,r,z2,_,z3⟩:=r9;exact by cases z3;exact absurd z1 (h1 _ _)⟩
  rcases QM (ws:=ws) (sg:=sg) b l with⟨u,v,e2,h2⟩ | ⟨e2,h2⟩
  rotate_left
  ·rw[e1,e2,Xn,Xn,Rs.okb,Rs.okb]
   exact⟨_,rfl,λz=>(by cases z),λr9=>by obtain⟨p,z1,_,r,z2,_,z3⟩:=r9;exact by cases z3;exact absurd z2 (h2 _ _)⟩
  have hiff:(∃p,PQ ws p/\UC sg p/\∃r,PQ ws r/\US p r/\[Mx.s "unlay", .i a, .i k, .i b, .i l]=Wv p r)↔UC sg (a,k,x,y)/\US (a,k,x,y) (b,l,u,v):=by
   constructor
   ·rintro⟨⟨_,_,x',y'⟩,z1,z2,⟨_,_,u',v'⟩,z3,z4,z5⟩
    cases z5
    obtain⟨rfl,rfl⟩:=h1.one z1
    obtain⟨rfl,rfl⟩:=h2.one z3
    exact⟨z2,z4⟩
   ·exact λz=>⟨_,h1,z.1,_,h2,z.2,rfl⟩
  have hk:=Fq d h1
  have h0:=ne0 d h1
  rw[hiff,e1,e2]
  unfold VA Vz;dsimp only
  simp only[Xn,Rs.okb,Nh,Option.isSome,Bq,WS]
  rw[Xi (show[u,v].length<64 by simp),Xi (sz (by simp))]
  simp only[Rs.okb]
  rw[Xi (show[-x,-y].length<64 by simp)]
  simp only[Rs.okb]
  rw[Kg (c:=!decide (Yr [u,v]=Yr [-x,-y])) λ_=>rfl,Rs.okb]
  unfold UC US
  simp only at hk h0⊢
  by_cases q1:min x y<0
  ·rw[if_pos (by simp[q1])]
   exact⟨_,rfl,λz=>(by cases z),λz=>by omega⟩
  ·by_cases q2:Yr [u,v]=Yr [-x,-y]
   ·have q3:Yr [-u,-v]=Yr [x,y]:=by
     have:=KA (x:=-u) (y:=-v) (u:=-x) (v:=-y) (by simpa using q2)
     simpa using this
    have k1:x∈kys sg:=by have:=hk.1;rwa [show(x.natAbs:Int)=x by omega] at this
    have k2:y∈kys sg:=by have:=hk.2;rwa [show(y.natAbs:Int)=y by omega] at this
    rw[if_neg (by simp[q1,q2]),Gd d k1,Gd d k2]
    refine⟨_,rfl,?_⟩
    have:=(Ex d k1).2
    have:=(Ex d k2).2
    simp only[Bool.not_eq_true',decide_eq_false_iff_not,q3,and_true]
    omega
   ·rw[if_pos (by simp[q2])]
    exact⟨_,rfl,λz=>(by cases z),λz=>absurd (KA z.2) q2⟩
 ·obtain⟨⟨_,_,x,y⟩,z1,⟨u1,u2,u3⟩,⟨_,_,u,v⟩,z3,z4,z5⟩:=(hl _).mp hc
  cases z5
  have hk:=Fq d z1
  obtain⟨i,k',c1,c2,c3,c4,c5⟩:=z1.ex
  obtain⟨j,l',d1,d2,d3,d4,d5⟩:=z3.ex
  cases c1;cases c2;cases d1;cases d2
  simp only at u1 u2 u3 hk c4 c5 d4 d5
  have k1:x∈kys sg:=by have:=hk.1;rwa [show(x.natAbs:Int)=x by omega] at this
  have k2:y∈kys sg:=by have:=hk.2;rwa [show(y.natAbs:Int)=y by omega] at this
  have m1:=Ex d k1
  have m2:=Ex d k2
  have pp: [-u,-v].Perm [x,y]:=((YF _).symm.trans ((show Yr [-u,-v]=Yr [x,y] from z4)▸List.Perm.refl _)).trans (YF _)
  have xy:x≠y:=λe=>by subst e;omega
  have uv:u= -x/\v= -y∨u= -y/\v= -x:=by
   have a1:=pp.mem_iff (a:=x)
   have a2:=pp.mem_iff (a:=y)
   simp only[List.mem_cons,List.not_mem_nil,or_false,true_or,or_true,iff_true] at a1 a2
   omega
  have ne:∀{q q':Nat}{s t:Int},(gw ws i)[q]?=some s->(gw ws i)[q']?=some t->0<s->t<0->q≠q':=fun {q q' s t} g1 g2 p1 p2 e=>by
   subst e
   have:=Option.some.inj (g1.symm.trans g2)
   omega
  have hu:UnOk n ws sg i k' j l' x y u v (sv sg x):=⟨d,c3,d3,c4,c5,d4,d5,uv,by omega,by omega,xy,λe=>by
   subst e
   have:=ne c4 d4 u1 (by omega)
   have:=ne c4 d5 u1 (by omega)
   have:=ne c5 d4 u2 (by omega)
   omega,m1.1,by rw[u3,Int.neg_neg];exact m2.1,m1.2⟩
  exact⟨_,N9 hu,HQ hu hL⟩
end
section
variable {n:Nat}{ws:QLs}{sg:QPs}
theorem eo {x y:Int}:(if decide (x=y)=true then Rs.ok (1:Int) else Rs.ok (-1))= .ok (ord x y):=by
 unfold ord
 by_cases z:x=y
 ·rw[if_pos (by simpa using z),if_pos z]
 ·rw[if_neg (by simpa using z),if_neg z]
theorem TN (d:Dr n ws sg){p q r:Q4}(hp:PQ ws p)(hq:PQ ws q)(hr:PQ ws r):Ok (Y6 (ws,sg) (Kb p q r)) λb=>b=true↔PassC ws sg p q r:=by
 obtain⟨i,k,a1,a2,a3,a4,a5⟩:=hp.ex
 obtain⟨j,l,b1,b2,b3,b4,b5⟩:=hq.ex
 obtain⟨u,v,c1,c2,c3,c4',c5⟩:=hr.ex
 have n1:=ne0 d hp
 have n2:=ne0 d hq
 have no:∀{m:Rs Bool},m= .ok false->¬PassC ws sg p q r->Ok m λb=>b=true↔PassC ws sg p q r:=λe h=>⟨_,e,λz=>(by cases z),λz=>absurd z h⟩
 unfold Kb
 unfold Y6 Qm;dsimp only
 unfold UM UK;dsimp only
 rw[a1,a2,b1,b2,c1,c2]
 simp only[Rs.okb,ar1,ar2,ar3,ar4,ar5,ar6,mxI,Ul a3 a4 a5,Ul b3 b4 b5,Ul c3 c4' c5,Xn,Option.isNone,orF,Bool.false_eq_true,if_false,Nh,WS,Aw]
 rw[show-(min q.2.2.1 q.2.2.2)=pa q from rfl,show max q.2.2.1 q.2.2.2=pc q from rfl]
 by_cases h1:min p.2.2.1 p.2.2.2<0
 ·exact no (by rw[decide_eq_true h1];rfl) λz=>by have:=z.p0;omega
 by_cases h2:pa q∈[p.2.2.1,p.2.2.2]
 rotate_left
 ·exact no (by rw[decide_eq_false h1,decide_eq_false h2];rfl) λz=>h2 z.st.a1
 by_cases h3:pc q<0
 ·exact no (by rw[decide_eq_false h1,decide_eq_true h2,decide_eq_true h3];rfl) λz=>by have:=z.q0.2;unfold pc at h3;omega
 by_cases h4:pc q∈[p.2.2.1,p.2.2.2]
 ·exact no (by rw[decide_eq_false h1,decide_eq_true h2,decide_eq_false h3,decide_eq_true h4];rfl) λz=>z.st.c1 h4
 have br:pa q=p.2.2.1∨pa q=p.2.2.2:=by simpa using h2
 have p0:0<min p.2.2.1 p.2.2.2:=by omega
 have q0:min q.2.2.1 q.2.2.2<0/\0<max q.2.2.1 q.2.2.2:=by unfold pa at br;unfold pc at h3;omega
 have eb:(if decide (p.2.2.1=pa q)=true then Rs.ok p.2.2.2 else Rs.ok p.2.2.1)=Rs.ok (pb p q):=by
  unfold pb
  by_cases z:p.2.2.1=pa q
  ·rw[if_pos (by simpa using z)];congr 1;omega
  ·rw[if_neg (by simpa using z)];congr 1;omega
 have hb0:0<pb p q:=by unfold pb;omega
 rw[decide_eq_false h1,decide_eq_true h2,decide_eq_false h3,decide_eq_false h4]
 simp only[Bool.not_true,orF,Rs.okb,Bool.false_eq_true,if_false]
 rw[eb,Rs.okb,Xi (show[r.2.2.1,r.2.2.2].length<64 by simp),Rs.okb,Xi (show[-pb p q,-pc q].length<=sizeLine from sz (by simp)),Rs.okb,Xi (show[-pb p q,-pc q].length<64 by simp),Rs.okb]
 by_cases h5:Yr [r.2.2.1,r.2.2.2]=Yr [-pb p q,-pc q]
 rotate_left
 ·exact no (by rw[decide_eq_false h5];rfl) λz=>h5 (KA z.st.so)
 have so:Yr [-r.2.2.1,-r.2.2.2]=Yr [pb p q,pc q]:=by
  have:=KA (x:=-r.2.2.1) (y:=-r.2.2.2) (u:=-pb p q) (v:=-pc q) (by simpa using h5)
  simpa using this
 have r0:max r.2.2.1 r.2.2.2<0:=by
  have pp: [r.2.2.1,r.2.2.2].Perm [-pb p q,-pc q]:=((YF _).symm.trans (h5▸List.Perm.refl _)).trans (YF _)
  have a1:=pp.mem_iff (a:=r.2.2.1)
  have a2:=pp.mem_iff (a:=r.2.2.2)
  simp only[List.mem_cons,List.not_mem_nil,or_false,true_or,or_true,true_iff] at a1 a2
  unfold pc at a1 a2
  omega
 obtain⟨ka,kc,kb⟩:=Eg d hp hq p0 q0
 have kb:=kb h2
 rw[h5]
 simp only[decide_true,Bool.not_true,Rs.okb,Bool.false_eq_true,if_false]
 rw[eo,eo,eo,Xn,Rs.okb,Xn,Rs.okb,Xn,Rs.okb,Gd d ka,Gd d kb,Gd d kc]
 simp only[Rs.okb,Lh]
 by_cases h6:ord p.2.2.1 (pa q)*sv sg (pb p q)=ord q.2.2.1 (-(pa q))*sv sg (pc q)
 ·rw[h6,decide_eq_true rfl,Bool.not_true,if_neg Bool.false_ne_true]
  exact⟨_,rfl,decide_eq_true_iff.trans ⟨λz=>⟨hp,hq,hr,p0,q0,r0,h2,h4,so,h6,z⟩,λz=>z.st.e2⟩⟩
 ·exact no (by rw[decide_eq_false h6];rfl) λz=>h6 z.st.e1
theorem Sh (d:Dr n ws sg){a k b l c m:Int}:Jd (ws,sg) [.s "pass", .i a, .i k, .i b, .i l, .i c, .i m]:=by
 obtain⟨Lqz,el,hl⟩:=Bh d
 have hl:=hl.2
 have eL:Ye (ws,sg) [.s "pass", .i a, .i k, .i b, .i l, .i c, .i m]=Y6 (ws,sg) [.s "pass", .i a, .i k, .i b, .i l, .i c, .i m]:=by
  unfold Ye Ju;dsimp only
  simp only[Rs.okb,ar0,mxS,Zy,Q2,YO,QC,Y5,Bool.false_eq_true,if_false]
 refine Nw (c:=[.s "pass", .i a, .i k, .i b, .i l, .i c, .i m]∈Lqz) ?_ ?_ λhc hL=>?_
 ·unfold Kk Bs;dsimp only
  simp only[Rs.okb,ar0,mxS,Zy,YO,Y5,decide_true,if_true,Bool.false_eq_true,if_false,el,Xn]
  rw[Xi λc hc=>?_]
  ·refine⟨_,rfl,?_⟩
   unfold M7
   simp only[decide_eq_true_eq]
  ·obtain⟨p,q,r,rfl,_⟩:=(hl c).mp hc
   rfl
 ·rw[eL,hl]
  by_cases h:∃p q r,Kb p q r=[.s "pass", .i a, .i k, .i b, .i l, .i c, .i m]/\PQ ws p/\PQ ws q/\PQ ws r
  ·obtain⟨p,q,r,e,hp,hq,hr⟩:=h
   rw[←e]
   refine(TN d hp hq hr).imp λb hb=>hb.trans ⟨λz=>⟨p,q,r,rfl,z⟩,λr9=>?_⟩
   obtain⟨p',q',r',e',z⟩:=r9
   obtain⟨p1,p2,p3,p4⟩:=p
   obtain⟨q1,q2,q3,q4⟩:=q
   obtain⟨r1,r2,r3,r4⟩:=r
   obtain⟨_,_,p3',p4'⟩:=p'
   obtain⟨_,_,q3',q4'⟩:=q'
   obtain⟨_,_,r3',r4'⟩:=r'
   cases e'
   obtain⟨rfl,rfl⟩:=hp.one z.hp
   obtain⟨rfl,rfl⟩:=hq.one z.hq
   obtain⟨rfl,rfl⟩:=hr.one z.hr
   exact z
  ·refine⟨false,?_,λz=>(by cases z),λr9=>by obtain⟨p,q,r,e,z⟩:=r9;exact absurd ⟨p,q,r,e.symm,z.hp,z.hq,z.hr⟩ h⟩
   unfold Y6 Qm;dsimp only
   simp only[Rs.okb,ar1,ar2,ar3,ar4,ar5,ar6,mxI]
   rcases QM (ws:=ws) (sg:=sg) a k with⟨x,y,e1,h1⟩ | ⟨e1,-⟩<;> rcases QM (ws:=ws) (sg:=sg) b l with⟨x',y',e2,h2⟩ | ⟨e2,-⟩<;> rcases QM (ws:=ws) (sg:=sg) c m with⟨x'',y'',e3,h3⟩ | ⟨e3,-⟩<;> rw[e1,e2,e3]<;> first |exact absurd ⟨_,_,_,rfl,h1,h2,h3⟩ h |rfl
 ·obtain⟨p,q,r,e,h⟩:=(hl _).mp hc
  rw[e] at hL⊢
  obtain⟨i,k,a1,a2,a3⟩:=h.hp.at2
  obtain⟨j,l,b1,b2,b3⟩:=h.hq.at2
  obtain⟨u,v,c1,c2,c3⟩:=h.hr.at2
  unfold Kb at*
  rw[a1,a2,b1,b2,c1,c2] at hL⊢
  refine⟨_,LC d a3 b3 c3,?_⟩
  have hp:=Lj (sg:=sg) d.lw' a3 b3 c3
  unfold ZH Ua;dsimp only
  simp only[Rs.okb]
  rw[Fx hL]
  unfold IV at hp
  simp only[Rs.okb,ar0,mxS,Xn,Zy,Q2,YO,QC,Y5,Bool.false_eq_true,if_false,hp]
end
section
variable {n:Nat}{ws:QLs}{sg:QPs}
theorem Frm.len {m:List Mx}(h:Frm m):3<=m.length/\m.length<=9:=by cases h<;> simp
theorem Frm.set {m:List Mx}(h:Frm m){j:Nat}{x y:Mx}(h1:1<=j)(e:m[j]?=some y)(hk:x.kd=y.kd):Frm (m.set j x):=by
 have hj:=(List.getElem?_eq_some_iff.mp e).1
 have:=h.len
 rcases(show j=1∨j=2∨j=3∨j=4∨j=5∨j=6∨j=7∨j=8 by omega) with rfl |rfl |rfl |rfl |rfl |rfl |rfl |rfl<;> cases h<;> first | (cases e;cases x<;> cases hk<;> constructor) |cases e
theorem Pw {m:List Mx}(h:Frm m){r:List Int}(hl:5<=r.length){c:Nat}(hc:c<=2)(e0:atR r 0= .ok (c:Int)):Ok (CQ m r) Frm:=by
 unfold CQ MY;dsimp only
 simp only[Rs.okb,e0]
 rw[Jc (by omega),Rs.okb]
 refine Ok.bind (Ok.forN (λ_ g=>Frm g) h λi a g ha hg=>?_) λg hg=>⟨_,rfl,hg⟩
 obtain⟨rfl,hi⟩:=ZF ha
 have hn:=hg.len
 rw[YS (by decide) (by decide)]
 simp only[Rs.okb]
 rw[X1 (r:=r) (n:=1+2*i) (by omega) (by omega),X1 (r:=r) (n:=2+2*i) (by omega) (by omega)]
 simp only[Rs.okb]
 obtain⟨j,ej,hj⟩:=emd (y:=r[1+2*i]) (n:=g.length-1) (by omega)
 rw[show((g.length-1:Nat):Int)=(g.length:Int)-1 by omega] at ej
 rw[X2 (by omega),Rs.okb,ej,Rs.okb,show(1:Int)+(j:Int)=((1+j:Nat):Int) by omega]
 have cu:1+j<g.length:=by omega
 have eg:g[1+j]?=some g[1+j]:=List.getElem?_eq_getElem cu
 have st:=λx=>hg.set (x:=x) (show 1<=1+j by omega) eg
 rw[Zk eg]
 simp only[Rs.okb]
 cases hy:g[1+j] with
 |b t=>
  rw[show Ie false false true (Mx.b t)=true from rfl,if_pos rfl]
  simp only[mxB,Rs.okb]
  rw[Yn cu]
  exact⟨_,rfl,st _ (by rw[hy];rfl)⟩
 |i t=>
  rw[show Ie false false true (Mx.i t)=false from rfl,if_neg Bool.false_ne_true,show Ie true false true (Mx.i t)=true from rfl,if_pos rfl]
  simp only[mxI,Rs.okb]
  rw[Yn cu]
  exact⟨_,rfl,st _ (by rw[hy];rfl)⟩
 |s t=>
  rw[show Ie false false true (Mx.s t)=false from rfl,if_neg Bool.false_ne_true,show Ie true false true (Mx.s t)=false from rfl,if_neg Bool.false_ne_true]
  obtain⟨q,eq,hq⟩:=emd (y:=r[2+2*i]) (n:=4) (by omega)
  rw[Xi (sz (by simp)),Rs.okb,X2 (by decide),Rs.okb,show r[2+2*i] % 4=(q:Int) from eq,X1 (r:=[("under":Str),"over","side",""]) (n:=q) rfl hq]
  simp only[Rs.okb]
  rw[Yn cu]
  exact⟨_,rfl,st _ (by rw[hy];rfl)⟩
theorem Me (d:Dr n ws sg):KQ (ws,sg)= .ok (ws,sg):=by
 unfold KQ Mi;dsimp only
 simp only[Rs.okb]
 rw[Qa (by have:=d.lw';omega),Rs.okb]
theorem Dr.neg (d:Dr n ws sg){j:Nat}(h:j<sg.length):Dr n ws (sg.set j (sg[j].1,-sg[j].2)):=by
 have hk:kys (sg.set j (sg[j].1,-sg[j].2))=kys sg:=by
  unfold kys
  rw[List.map_set]
  exact List.ext_getElem (by simp) λi h1 h2=>by rw[List.getElem_set];split<;> simp[*]
 have hm:=sg.getElem_mem h
 refine⟨d.n3,d.ne,d.lw,d.ll,⟨?_,λe he=>?_⟩,by rw[List.length_set];exact d.ls,λe he=>?_,λw hw p hp=>by rw[hk];exact d.ky w hw p hp⟩
 ·have:(kys sg).Pairwise (· < ·):=List.pairwise_map.mpr d.gs.1
  rw[←hk] at this
  exact List.pairwise_map.mp this
 ·rcases List.mem_or_eq_of_mem_set he with z |rfl
  ·exact d.gs.2 e z
  ·exact d.gs.2 sg[j] hm
 ·rcases List.mem_or_eq_of_mem_set he with z |rfl
  ·exact d.pm e z
  ·have:=d.pm _ hm
   show-sg[j].2=1∨ -sg[j].2= -1
   omega
theorem Gq (d:Dr n ws sg){r:List Int}(hr:3<=r.length):Ok (YV (ws,sg) r) λD=>Dr n D.1 D.2:=by
 unfold YV
 simp only[Rs.okb,Me d,Xn]
 rw[X1 (r:=r) (k:=0) (n:=0) rfl (by omega),X1 (r:=r) (k:=1) (n:=1) rfl (by omega),X1 (r:=r) (k:=2) (n:=2) rfl (by omega)]
 simp only[Rs.okb]
 rw[Z7 (a:=decide (r[0]=0)) (c:=decide ((0:Int)<(sg.length:Int))) λ_=>rfl,Z7 (a:=decide (r[0]=1)) (c:=decide ((0:Int)<(ws.length:Int))) λ_=>rfl]
 simp only[Rs.okb]
 refine Ok.bind (R:=λs'=>Dr n ws s') ?_ λs' d'=>?_
 ·refine Ok.ite (λh=>?_) λ_=>⟨_,rfl,d⟩
  have h0:0<sg.length:=by simp only[Bool.and_eq_true,decide_eq_true_eq] at h;omega
  obtain⟨j,ej,hj⟩:=emd (y:=r[1]) (n:=sg.length) h0
  rw[X2 (by omega),Rs.okb,ej,X1 (n:=j) rfl hj]
  simp only[Rs.okb]
  rw[Yn hj]
  exact⟨_,rfl,d.neg hj⟩
 ·refine Ok.bind (R:=λw'=>Dr n w' s') ?_ λw' d2=>⟨_,rfl,d2⟩
  refine Ok.ite (λ_=>?_) λ_=>⟨_,rfl,d'⟩
  have:=d.ne
  obtain⟨j,ej,hj⟩:=emd (y:=r[1]) (n:=ws.length) (by omega)
  have er:IE ws j= .ok (gw ws j):=by unfold IE;rw[E7 hj]
  rw[X2 (by omega),Rs.okb,ej,show alR ws (j:Int)= .ok j by unfold alR ixN;rw[if_pos (by omega),if_pos (by omega)];rfl,Rs.okb,er]
  simp only[Rs.okb]
  refine Ok.ite (λh=>?_) λ_=>⟨_,rfl,d'⟩
  have h1:1<(gw ws j).length:=by have:=of_decide_eq_true h;omega
  obtain⟨k,ek,hk⟩:=emd (y:=r[2]) (n:=(gw ws j).length-1) (by omega)
  rw[show(((gw ws j).length-1:Nat):Int)=((gw ws j).length:Int)-1 by omega] at ek
  rw[X2 (by omega),Rs.okb,ek,show(k:Int)+1=((k+1:Nat):Int) by omega,Zk (show(gw ws j)[k]?=some ((gw ws j).getD k 0) by simp[show k<(gw ws j).length by omega]),Zk (show(gw ws j)[k+1]?=some ((gw ws j).getD (k+1) 0) by simp[show k+1<(gw ws j).length by omega])]
  simp only[Rs.okb]
  rw[Yn (by omega),Rs.okb,Yn (by simp;omega)]
  exact⟨_,rfl,d'.sw (i:=j) (k:=k) ⟨hj,by omega⟩⟩
theorem HD (d:Dr n ws sg)(hn:n<=2){c:Nat}(hc:c<=40):Ok (JP (ws,sg) (c:Int)) λD=>Dr 3 D.1 D.2:=by
 have hl:=d.ls
 have h4:=d.lw
 unfold JP Gb;dsimp only
 simp only[Rs.okb,Me d,Xn,d.gs.dict]
 refine Ok.bind (Ks (λg:QPs×List Int=>(kys g.1).Nodup/\(∀e∈g.1,1<=e.1/\(e.2=1∨e.2= -1))/\(∀x∈kys sg,x∈kys g.1)/\(∀x∈g.2,(x.natAbs:Int)∈kys g.1)/\g.2.length<=2*g.1.length/\g.1.length<=40) (λg=>40-g.1.length) (λg ⟨z1,z2,z3,z4,z5,z6⟩=>⟨_,rfl,λhb=>?_⟩) 60 (sg,[]) ⟨d.gs.kn,λe he=>⟨d.gs.2 e he,d.pm e he⟩,λx hx=>hx,λx hx=>(by cases hx),Nat.zero_le _,by show sg.length<=40;omega⟩ (by show 40-sg.length<60;omega)) λg ⟨⟨z1,z2,z3,z4,z5,z6⟩,_⟩=>?_
 ·have hb:=of_decide_eq_true hb
  obtain⟨x,ex,hx,cV⟩:=EL (d:=g.1) (n:=1001)
  rw[ex,Xn,Rs.okb,Xi (BI (by omega)),Xi (sz (by simp)),Rs.okb,Xi (sz (by simp;omega)),Va cV]
  have hm:∀y,y∈kys (g.1++[(x,1)])↔y∈kys g.1∨y=x:=λy=>by unfold kys;simp
  refine⟨_,rfl,⟨?_,λe he=>?_,λy hy=>(hm y).mpr (.inl (z3 y hy)),λy hy=>(hm _).mpr ?_,by simp;omega,by simp;omega⟩,by simp;omega⟩
  ·unfold kys at z1 cV⊢
   rw[List.map_append,List.nodup_append]
   exact⟨z1,by simp,λa ha b hb e=>cV (by rw[List.mem_singleton.mp hb] at e;exact(show a=x from e)▸ha)⟩
  ·rcases List.mem_append.mp he with h |h
   ·exact z2 e h
   ·rw[List.mem_singleton.mp h];exact⟨by show 1<=x;omega, .inl rfl⟩
  ·rcases List.mem_append.mp hy with h |h
   ·exact .inl (z4 y h)
   ·have:y=x∨y= -x:=by simpa using h
    exact .inr (by omega)
 ·rw[Xi (BI (by omega)),Xi ⟨by omega,IB z1⟩]
  have hk:∀{y},y∈kys (Ze ltP g.1)↔y∈kys g.1:=D0
  refine⟨_,rfl,by omega,by simp,by show(ws++_).length<=4+3/3;simp;omega,λw hw=>?_,RH z1 λe he=>(z2 e he).1,by show(Ze ltP g.1).length<=_;rw[Dc];omega,λe he=>(z2 e (DN.mp he)).2,λw hw p hp=>?_⟩
  ·rcases List.mem_append.mp hw with h |h
   ·have:=d.ll w h;omega
   ·rw[List.mem_singleton.mp h];omega
  ·rcases List.mem_append.mp hw with h |h
   ·exact hk.mpr (z3 _ (d.ky w h p hp))
   ·rw[List.mem_singleton.mp h] at hp;exact hk.mpr (z4 p hp)
end
section
variable {n:Nat}{ws:QLs}{sg:QPs}
theorem jd (d:Dr n ws sg){m:List Mx}(h:Frm m):Jd (ws,sg) m:=by
 cases h
 ·exact Rc d
 ·exact Pu d
 ·exact We d
 ·exact Ti d
 ·exact Tt d
 ·exact Sh d
theorem Pe {D:QDr}{m:List Mx}(h:Ye D m= .ok false):ZH D m= .err ⟨"NoMove",Pay.non⟩:=by
 unfold ZH Ua;dsimp only
 unfold Yz YZ;dsimp only
 simp only[Rs.okb]
 rw[h]
 rfl
end
theorem Ni (ns:List Int)(_:ns.length<=63):Mq ns= .ok true:=by
 unfold Mq Rq;dsimp only
 simp only[Rs.okb]
 obtain⟨r,er,rl,hr⟩:=EJ ns (show(0:Int)<=5 by decide) [12,4,40,7,40,7,5,40,40,12,4] (by decide) (by decide)
 have rl:r.length=11:=rl
 have h1:=hr 1 r[1] 4 (List.getElem?_eq_getElem (by omega)) rfl
 have h10:=hr 10 r[10] 4 (List.getElem?_eq_getElem (by omega)) rfl
 obtain⟨ws,sg,m,eb,d,hf⟩:=RA ns
 rw[Xi (sz (by simp)),Rs.okb,er,Xn,Rs.okb,Xi (sz (by simp)),Rs.okb,eb,Xn,Rs.okb]
 obtain⟨⟨ws1,sg1⟩,eD,d1⟩:=Gq d (r:=r.drop 6) (by simp;omega)
 simp only[show Gv r (some 6) none=r.drop 6 from ZK (k:=6) r,show Gv r (some 1) none=r.drop 1 from ZK (k:=1) r,eD,Xn,Rs.okb]
 rw[X1 (r:=r) (k:=9) (n:=9) rfl (by omega),X1 (r:=r) (k:=10) (n:=10) rfl (by omega),X1 (r:=r) (k:=1) (n:=1) rfl (by omega)]
 simp only[Rs.okb]
 have c1:Ok (if decide (r[9]=0)=true then(noE (JP (ws1,sg1) ((37:Int)+r[10]))).bind λa=>Rs.ok a else Rs.ok (ws1,sg1)) λD=>Dr 3 D.1 D.2:=Ok.ite (λ_=>by
  rw[show(37:Int)+r[10]=((37+r[10].toNat:Nat):Int) by omega]
  exact Ok.bind (HD d1 (by omega) (by omega)).noE λD hD=>⟨_,rfl,hD⟩) λ_=>⟨_,rfl,d1.up (by omega)⟩
 have c2:Ok (if decide (r[1]<3)=true then(noE (CQ m (r.drop 1))).bind λa=>Rs.ok a else Rs.ok m) Frm:=Ok.ite (λh=>by
  have h:=of_decide_eq_true h
  exact Ok.bind (Pw hf (by simp;omega) (c:=r[1].toNat) (by omega) (by rw[X1 (k:=0) (n:=0) rfl (by simp;omega),List.getElem_drop];congr 1;simp;omega)).noE λa ha=>⟨_,rfl,ha⟩) λ_=>⟨_,rfl,hf⟩
 obtain⟨⟨ws2,sg2⟩,e2,d2⟩:=c1
 obtain⟨m2,e3,hf2⟩:=c2
 rw[e2,Rs.okb,e3,Rs.okb]
 obtain⟨b,j1,j2,j3⟩:=jd d2 hf2
 simp only[j1,j2,Me d2,Xn,Rs.okb,decide_true,Bool.not_true,orF,Bool.false_eq_true,if_false]
 cases b with
 |true=>
  obtain⟨E,k1,k2⟩:=j3 rfl
  rw[k2]
  show Rs.bind _ _=_
  simp only[k1,DU,Xn,Rs.okb,orF,Bq,decide_true]
  rfl
 |false=>
  rw[Pe j2]
  rfl
theorem AI {K:W.Frag}{mg:Str->Option Value}{h:Heap}(X:K.In h)(G:h.Ns mainGlobals mg){x p0:Str}{st:Stmt}{f:Addr}{oc:Value}{od an:Option Addr}{cz:Array (Option Value)}{kV doc pm ah ct:Value}(hb:∀(kV doc pm:Value) (an:Option Addr) (ah ct u0:Value),bindArgs (W.fnOf x x (YR st) (X3 st) (Xg st) .none kV doc pm an ah ct) ⟨[u0],[]⟩=pure ([p0].zip [u0]))(a:W.nsIn K mainGlobals x=some (some (.ref f)))(l:K.lookup f=some ⟨oc,od, .func (W.fnOf x x (YR st) (X3 st) (Xg st) .none kV doc pm an ah ct),cz⟩)(c:W.codeIn K ah x=true)(k:W.keepIn K (.ref f)=true):Def K mg x st [p0]:=⟨f,_,Jo l c k,(Jo l c k).binds λ_ _ _ _ _ _ us hl=>(by obtain⟨_,rfl⟩:=Tz hl;exact hb ..),W.mg_of X G a⟩
theorem AH {K:W.Frag}{mg:Str->Option Value}{h:Heap}(X:K.In h)(G:h.Ns mainGlobals mg){x p0 p1:Str}{st:Stmt}{f:Addr}{oc:Value}{od an:Option Addr}{cz:Array (Option Value)}{kV doc pm ah ct:Value}(hb:∀(kV doc pm:Value) (an:Option Addr) (ah ct u0 u1:Value),bindArgs (W.fnOf x x (YR st) (X3 st) (Xg st) .none kV doc pm an ah ct) ⟨[u0,u1],[]⟩=pure ([p0,p1].zip [u0,u1]))(a:W.nsIn K mainGlobals x=some (some (.ref f)))(l:K.lookup f=some ⟨oc,od, .func (W.fnOf x x (YR st) (X3 st) (Xg st) .none kV doc pm an ah ct),cz⟩)(c:W.codeIn K ah x=true)(k:W.keepIn K (.ref f)=true):Def K mg x st [p0,p1]:=⟨f,_,Jo l c k,(Jo l c k).binds λ_ _ _ _ _ _ us hl=>(by obtain⟨_,_,rfl⟩:=T7 hl;exact hb ..),W.mg_of X G a⟩
theorem AM {K:W.Frag}{mg:Str->Option Value}{h:Heap}(X:K.In h)(G:h.Ns mainGlobals mg){x p0 p1 p2:Str}{st:Stmt}{f:Addr}{oc:Value}{od an:Option Addr}{cz:Array (Option Value)}{kV doc pm ah ct:Value}(hb:∀(kV doc pm:Value) (an:Option Addr) (ah ct u0 u1 u2:Value),bindArgs (W.fnOf x x (YR st) (X3 st) (Xg st) .none kV doc pm an ah ct) ⟨[u0,u1,u2],[]⟩=pure ([p0,p1,p2].zip [u0,u1,u2]))(a:W.nsIn K mainGlobals x=some (some (.ref f)))(l:K.lookup f=some ⟨oc,od, .func (W.fnOf x x (YR st) (X3 st) (Xg st) .none kV doc pm an ah ct),cz⟩)(c:W.codeIn K ah x=true)(k:W.keepIn K (.ref f)=true):Def K mg x st [p0,p1,p2]:=⟨f,_,Jo l c k,(Jo l c k).binds λ_ _ _ _ _ _ us hl=>(by obtain⟨_,_,_,rfl⟩:=Tw hl;exact hb ..),W.mg_of X G a⟩
theorem AT {K:W.Frag}{mg:Str->Option Value}{h:Heap}(X:K.In h)(G:h.Ns mainGlobals mg){x p0 p1 p2 p3:Str}{st:Stmt}{f:Addr}{oc:Value}{od an:Option Addr}{cz:Array (Option Value)}{kV doc pm ah ct:Value}(hb:∀(kV doc pm:Value) (an:Option Addr) (ah ct u0 u1 u2 u3:Value),bindArgs (W.fnOf x x (YR st) (X3 st) (Xg st) .none kV doc pm an ah ct) ⟨[u0,u1,u2,u3],[]⟩=pure ([p0,p1,p2,p3].zip [u0,u1,u2,u3]))(a:W.nsIn K mainGlobals x=some (some (.ref f)))(l:K.lookup f=some ⟨oc,od, .func (W.fnOf x x (YR st) (X3 st) (Xg st) .none kV doc pm an ah ct),cz⟩)(c:W.codeIn K ah x=true)(k:W.keepIn K (.ref f)=true):Def K mg x st [p0,p1,p2,p3]:=⟨f,_,Jo l c k,(Jo l c k).binds λ_ _ _ _ _ _ us hl=>(by obtain⟨_,_,_,_,rfl⟩:=T1 hl;exact hb ..),W.mg_of X G a⟩
theorem AZ {K:W.Frag}{mg:Str->Option Value}{h:Heap}(X:K.In h)(G:h.Ns mainGlobals mg){x p0 p1 p2 p3 p4:Str}{st:Stmt}{f:Addr}{oc:Value}{od an:Option Addr}{cz:Array (Option Value)}{kV doc pm ah ct:Value}(hb:∀(kV doc pm:Value) (an:Option Addr) (ah ct u0 u1 u2 u3 u4:Value),bindArgs (W.fnOf x x (YR st) (X3 st) (Xg st) .none kV doc pm an ah ct) ⟨[u0,u1,u2,u3,u4],[]⟩=pure ([p0,p1,p2,p3,p4].zip [u0,u1,u2,u3,u4]))(a:W.nsIn K mainGlobals x=some (some (.ref f)))(l:K.lookup f=some ⟨oc,od, .func (W.fnOf x x (YR st) (X3 st) (Xg st) .none kV doc pm an ah ct),cz⟩)(c:W.codeIn K ah x=true)(k:W.keepIn K (.ref f)=true):Def K mg x st [p0,p1,p2,p3,p4]:=⟨f,_,Jo l c k,(Jo l c k).binds λ_ _ _ _ _ _ us hl=>(by obtain⟨_,_,_,_,_,rfl⟩:=WC hl;exact hb ..),W.mg_of X G a⟩
structure EH (K:W.Frag)(E:Addr):Prop where
 ya:PySem.W.excIn K E vEr "ValueError.__new__" =true
 yb:W.findIn K (.ref E) "__getattribute__" =some (some (.builtin "BaseException.__getattribute__"))
 yc:W.findIn K (.ref E) "__getattr__" =some none
 yd:W.findIn K (.ref E) "__class__" =some (some (.builtin "object.__class__"))
 ye:PySem.W.mroIn K E (.type "object")=some true
 yf:PySem.W.isClsIn K E=true
 yh:PySem.W.mroIn K E (.type "BaseException")=some true
 yi:PySem.W.subIn K (.ref E) (.type "ValueError")=some true
 yj:PySem.W.typeIn K (.ref E)=some (.type "type")
 yk:PySem.W.subIn K (.ref E) (.type "BaseException")=some true
theorem TF {l:PySem.W.OpenLaw}{w:World}{K:W.Frag}{h:Heap}{mg:Str->Option Value}{fa f E0 E1 E2:Addr}{tk0:Tok}(X:K.In h)(G:h.Ns mainGlobals mg)(hfa:mg "law" =some (.ref fa)){od an:Option Addr}{sl:Array (Option Value)}{oc kV dc pm cd ct:Value}
  (D1:Def K mg "crossings" QK ["drawing"])
  (D2:Def K mg "sign_of" GI ["drawing","crossing"])
  (D3:Def K mg "turned" Kv ["drawing","walk","by"])
  (D4:Def K mg "begun_later" QO ["passages","by"])
  (D5:Def K mg "legal" Eu ["drawing","move"])
  (D6:Def K mg "is_walk" GC ["drawing","walk"])
  (D7:Def K mg "can_lay" KU ["drawing","walk","place","more"])
  (D8:Def K mg "pair_at" GF ["drawing","walk","place"])
  (D9:Def K mg "can_add" V1 ["drawing","names"])
  (D10:Def K mg "curl_legal" Jr ["drawing","move"])
  (D11:Def K mg "uncurl_legal" Qr ["drawing","move"])
  (D12:Def K mg "is_curl" KL ["pair"])
  (D13:Def K mg "lay_legal" VM ["drawing","move"])
  (D14:Def K mg "unlay_legal" QP ["drawing","move"])
  (D15:Def K mg "can_unlay" VD ["drawing","over","under"])
  (D16:Def K mg "pass_legal" JK ["drawing","move"])
  (D17:Def K mg "order_of" UP ["pair","passage"])
  (D18:Def K mg "done" MH ["drawing","move"])
  (D19:Def K mg "refuse_illegal" ZO ["drawing","move"])
  (D20:Def K mg "with_pair" Q3 ["walks","at","place","pair"])
  (D21:Def K mg "without_pair" ZB ["walks","at","place"])
  (D22:Def K mg "signs_without" Za ["drawing","pair"])
  (D23:Def K mg "curled" Dx ["drawing","move"])
  (D24:Def K mg "laid" Lx ["drawing","move"])
  (D25:Def K mg "unlaid" Dq ["drawing","move"])
  (D26:Def K mg "bare_over_place" Zx ["move"])
  (D27:Def K mg "passed" Ko ["drawing","move"])
  (D28:Def K mg "_law_cell" IA ["_law_script","_law_place"])
  (D29:Def K mg "_law_mix" Rb ["_law_cell_here","_law_k"])
  (D30:Def K mg "_law_row" Sd ["_law_script","_law_place","_law_sizes"])
  (D31:Def K mg "_law_traced" Dj ["_law_lows","_law_signs","_law_strands"])
  (D32:Def K mg "_law_turn_back" Zw ["_law_walks","_law_signs","_law_some"])
  (D33:Def K mg "_law_begun" Do ["_law_script","_law_place"])
  (D34:Def K mg "_law_pairs" BY ["_law_walks"])
  (D35:Def K mg "_law_straight" Ux ["_law_signs","_law_top","_law_mid","_law_low"])
  (D36:Def K mg "_law_passes" J0 ["_law_drawing"])
  (D37:Def K mg "_law_lay_in" Dk ["_law_walks","_law_at","_law_k","_law_one","_law_two"])
  (D38:Def K mg "_law_cut_out" KN ["_law_walks","_law_at","_law_k"])
  (D39:Def K mg "_law_do" Wu ["_law_drawing","_law_move"])
  (D40:Def K mg "_law_new" So ["_law_signs","_law_name"])
  (D41:Def K mg "_law_curl" Ln ["_law_drawing","_law_some"])
  (D42:Def K mg "_law_lay" Na ["_law_drawing","_law_some"])
  (D43:Def K mg "_law_set" PB ["_law_script","_law_place","_law_drawing","_law_word"])
  (D44:Def K mg "_law_both" LG ["_law_script","_law_words"])
  (D45:Def K mg "_law_copy" EC ["_law_drawing"])
  (D46:Def K mg "_law_is_whole" UH ["_law_one"])
  (D47:Def K mg "_law_is_drawing" JG ["_law_found"])
  (D48:Def K mg "_law_uncurls" GQ ["_law_walks"])
  (D49:Def K mg "_law_unlays" DH ["_law_drawing"])
  (D50:Def K mg "_law_lay_fits" UJ ["_law_walks","_law_signs","_law_move"])
  (D51:Def K mg "_law_due" RD ["_law_drawing","_law_move"])
  (D52:Def K mg "_law_bent" LD ["_law_move","_law_some"])
  (D53:Def K mg "_law_bent_drawing" Qp ["_law_drawing","_law_some"])
  (D54:Def K mg "_law_crowded" GP ["_law_drawing","_law_count"])
  (a:W.nsIn K mainGlobals "law" =some (some (.ref f)))(l0:K.lookup f=some ⟨oc,od, .func (W.fnOf "law" "law" (YR DA) (X3 DA) (Xg DA) .none kV dc pm an cd ct),sl⟩)(c:W.codeIn K cd "law" =true)(k:W.keepIn K (.ref f)=true)
  (z1:W.nsIn K mainGlobals "abs" =some none)
  (z2:W.nsIn K mainGlobals "all" =some none)
  (z3:W.nsIn K mainGlobals "bool" =some none)
  (z4:W.nsIn K mainGlobals "dict" =some none)
  (z5:W.nsIn K mainGlobals "int" =some none)
  (z6:W.nsIn K mainGlobals "isinstance" =some none)
  (z7:W.nsIn K mainGlobals "len" =some none)
  (z8:W.nsIn K mainGlobals "list" =some none)
  (z9:W.nsIn K mainGlobals "max" =some none)
  (z10:W.nsIn K mainGlobals "min" =some none)
  (z11:W.nsIn K mainGlobals "range" =some none)
  (z12:W.nsIn K mainGlobals "set" =some none)
  (z13:W.nsIn K mainGlobals "sorted" =some none)
  (z14:W.nsIn K mainGlobals "tuple" =some none)
  (w0:W.nsIn K mainGlobals "MOST_CROSSINGS" =some (some (.int 40 tk0)))
  (x0:W.nsIn K mainGlobals "PlaitError" =some (some (.ref E0)))
  (x1:W.nsIn K mainGlobals "NoCrossing" =some (some (.ref E1)))
  (x2:W.nsIn K mainGlobals "NoMove" =some (some (.ref E2)))
  (yg:PySem.W.specialIn K (.builtin "object.__class__") "__get__" =some (some (.builtin "getset_descriptor.__get__")))
  (yt:PySem.W.takesIn K (.builtin "object.__class__")=some true)
  (yE0:EH K E0)
  (yE1:EH K E1)
  (yE2:EH K E2)
  (dD:PySem.W.subIn K (.ref E0) (.ref E0)=some true)
  (jM:PySem.W.subIn K (.ref E0) (.ref E1)=some false)
  (jN:PySem.W.subIn K (.ref E0) (.ref E2)=some false)
  (jO:PySem.W.subIn K (.ref E1) (.ref E0)=some true)
  (dE:PySem.W.subIn K (.ref E1) (.ref E1)=some true)
  (jP:PySem.W.subIn K (.ref E1) (.ref E2)=some false)
  (jQ:PySem.W.subIn K (.ref E2) (.ref E0)=some true)
  (jR:PySem.W.subIn K (.ref E2) (.ref E1)=some false)
  (dF:PySem.W.subIn K (.ref E2) (.ref E2)=some true)
  :∃fd:FuncData,(∀(s:Shared) (v:Value),BindsTo s fd ⟨[v],[]⟩ [("_law_script",v)])/\∀base:Heap,K.In base->base.Ns mainGlobals mg->FnOk l.prog w K mg base CX0 7 fa fd ["_law_script"] (sp1 (rL Xf) (oF Xw) Mq K):=by
 have e:=hfa.symm.trans (W.mg_of X G a)
 cases e
 have N:∀{x:Str},W.nsIn K mainGlobals x=some none->mg x=none:=λz=>PySem.W.mg_none_of X G z
 obtain⟨ya0,yb0,yc0,yd0,ye0,yf0,yh0,yi0,yj0,yk0⟩:=yE0
 obtain⟨ya1,yb1,yc1,yd1,ye1,yf1,yh1,yi1,yj1,yk1⟩:=yE1
 obtain⟨ya2,yb2,yc2,yd2,ye2,yf2,yh2,yi2,yj2,yk2⟩:=yE2
 have pz0:GG "PlaitError" =true:=by decide
 have er0:=Mo yb0 yc0 yd0 ye0 yf0 yh0 yg yt
 have jS:Ui "PlaitError" "PlaitError" =true:=by decide
 have fS:=Dd dD dD yf0 yj0 yk0
 have jT:Ui "PlaitError" "NoCrossing" =false:=by decide
 have fU:=Dd dD jM yf1 yj1 yk1
 have jU:Ui "PlaitError" "NoMove" =false:=by decide
 have fV:=Dd dD jN yf2 yj2 yk2
 have pz1:GG "NoCrossing" =true:=by decide
 have er1:=Mo yb1 yc1 yd1 ye1 yf1 yh1 yg yt
 have jV:Ui "NoCrossing" "PlaitError" =true:=by decide
 have fW:=Dd dE jO yf0 yj0 yk0
 have jW:Ui "NoCrossing" "NoCrossing" =true:=by decide
 have fX:=Dd dE dE yf1 yj1 yk1
 have jX:Ui "NoCrossing" "NoMove" =false:=by decide
 have fY:=Dd dE jP yf2 yj2 yk2
 have pz2:GG "NoMove" =true:=by decide
 have er2:=Mo yb2 yc2 yd2 ye2 yf2 yh2 yg yt
 have jY:Ui "NoMove" "PlaitError" =true:=by decide
 have fZ:=Dd dF jQ yf0 yj0 yk0
 have jZ:Ui "NoMove" "NoCrossing" =false:=by decide
 have f6:=Dd dF jR yf1 yj1 yk1
 have j0:Ui "NoMove" "NoMove" =true:=by decide
 have f7:=Dd dF dF yf2 yj2 yk2
 have y0:RY K [("PlaitError",E0),("NoCrossing",E1),("NoMove",E2)]=true:=by
  unfold RY
  simp only[List.all_cons,List.all_nil,Bool.and_true,Bool.and_self,beq_self_eq_true,Bool.not_true,Bool.not_false,Bool.false_or,Bool.true_or,pz0,ya0,er0,Ed yi0,pz1,ya1,er1,Ed yi1,pz2,ya2,er2,Ed yi2,jS,fS.1,fS.2,jT,fU.1,fU.2,jU,fV.1,fV.2,jV,fW.1,fW.2,jW,fX.1,fX.2,jX,fY.1,fY.2,jY,fZ.1,fZ.2,jZ,f6.1,f6.2,j0,f7.1,f7.2]
 have Y:Ecs F9 K mg:=SW (cs:=[("PlaitError",E0),("NoCrossing",E1),("NoMove",E2)]) y0 (λp hp=>by
  simp only[List.mem_cons,List.not_mem_nil,or_false] at hp
  rcases hp with rfl |rfl |rfl
  ·exact W.mg_of X G x0
  ·exact W.mg_of X G x1
  ·exact W.mg_of X G x2)
 have Z:Blt mg:=⟨N z1,N z2,N z3,N z4,N z5,N z6,N z7,N z8,N z9,N z10,N z11,N z12,N z13,N z14,⟨_,W.mg_of X G w0,_,rfl⟩⟩
 refine⟨W.fnOf "law" "law" (YR DA) (X3 DA) (Xg DA) .none kV dc pm an cd ct,λs v=>.of_eq rfl,λbase _ _=>?_⟩
 have qq:∀{L:Type}(F:Program->World->PySem.W.Frag->(Str->Option Value)->Heap->L->Prop)(m:L),F l.prog w K mg base m->F l.prog w K mg base m:=λ_ _ h=>h
 have cD:=qq Mn E6 <|II.2 Y Z D28
 have dz:=qq P9 N8 <|Sw.2 Y Z D29
 have aS:=qq HR Bc <|Rr.2 Y Z D30 cD dz
 have bX:=qq F7 KC <|FW.2 Y Z D31
 have bn:=qq VB Q8 <|Vw.2 Y Z D32
 have cE:=qq Ec FU <|Em.2 Y Z D33 aS bX bn
 have bw:=qq ME HS <|RI.2 Y Z D40
 have di:=qq IM Ew <|LZ.2 Y Z D41 bw
 have aF:=qq GJ UO <|B8.2 Y Z D34
 have bA:=qq Us JY <|Uq.2 Y Z D35
 have aU:=qq KI V9 <|Dh.2 Y Z D36 aF bA
 have dA:=qq RE NX <|Rf.2 Y Z D42 bw
 have bq:=qq FN KD <|DL.2 Y Z D37
 have bt:=qq K5 Qc <|Gs.2 Y Z D38
 have bZ:=qq T2 G1 <|Of.2 Y Z D39 bq bt
 have dB:=qq Pn Lp <|RL.2 Y Z D43 aS di aU dA bZ
 have cF:=qq Lb Hd <|Lo.2 Y Z D44 aS cE dB bZ
 have aQ:=qq ED KQ <|Mi.2 Y Z D45
 have aA:=KS (P:=l.prog) (w:=w) (base:=base) D53 aQ Y Z
 have bB:=qq UA Um <|Uy.2 Y Z D50
 have bK:=qq Gc VY <|GU.2 Y Z D48 aF
 have b6:=qq FV KG <|FZ.2 Y Z D49 aF
 have dC:=qq Ry Kk <|Bs.2 Y Z D51 bB bK b6 aU
 have aw:=qq JM ZE <|VU.2 Y Z D6
 have ae:=qq Z5 YJ <|V3.2 Y Z D8 aw
 have aK:=qq Uu UM <|UK.2 Y Z D17
 have ao:=qq V7 QE <|GX.2 Y Z D2
 have aW:=qq Jq Y6 <|Qm.2 Y Z D16 ae aK ao
 have aC:=qq Uf Jy <|GR.2 Y Z D7 aw
 have bg:=qq VC VQ <|Vr.2 Y Z D1
 have aH:=qq Ub JU <|KO.2 Y Z D9 bg
 have aX:=qq JJ JH <|JQ.2 Y Z D10 aC aH
 have bH:=qq Ge GO <|Gr.2 Y Z D12
 have aL:=qq Qw ZC <|Qq.2 Y Z D11 ae bH
 have bi:=qq VE Vm <|Vx.2 Y Z D13 aC aH
 have bh:=qq Vy VA <|Vz.2 Y Z D15 ao
 have aP:=qq QQ QN <|QX.2 Y Z D14 ae bh
 have aZ:=qq F5 Ye <|Ju.2 Y Z D5 aW aw aX aL bi aP
 have bu:=qq GA JP <|Gb.2 Y Z D54 aQ bw
 have cG:=qq Mu CQ <|MY.2 Y Z D52
 have aD:=qq ZR Yz <|YZ.2 Y Z D19 aZ
 have bS:=qq DB Kp <|Dw.2 Y Z D27
 have aO:=qq QU QW <|QL.2 Y Z D4
 have bT:=qq Dp DY <|DI.2 Y Z D3 aO
 have au:=qq Q5 Qb <|Vu.2 Y Z D20
 have bU:=qq Dz F3 <|Cb.2 Y Z D23 au
 have db:=qq MD IQ <|LO.2 Y Z D24 au
 have ai:=qq ZA YW <|Qs.2 Y Z D21
 have az:=qq Zu YN <|Zs.2 Y Z D26
 have aj:=qq Zc YL <|Zj.2 Y Z D22
 have bV:=qq DV DO <|Dt.2 Y Z D25 ae ai az aj
 have cH:=qq MA ZH <|Ua.2 Y Z D18 aD bS bT bU ae db bV ai aj
 have aM:=qq Ut UG <|UR.2 Y Z D46
 have aG:=qq Jv ZG <|JO.2 Y Z D47 aM
 exact Rq.2 (Jo (st:=DA) l0 c k) aS cF aA dC aQ aZ bu cG cH aG bZ Y Z
theorem AW {l:PySem.W.OpenLaw}{q:Program}{cq:List Str}{XP:(Str->Option Value)->Heap->Prop}{YP:World->Heap->Prop}{d:DefRec}{K:Params->W.Frag}(hn:l.most=some 63)(gi:d.params.defaults=[])
  (hY:∀(w:World) (h:Heap),YP w h->(K w.params).In h)
  (F:∀(w:World) (mg:Str->Option Value) (fa:Addr) (h:Heap),(K w.params).In h->h.Ns mainGlobals mg->mg d.name=some (.ref fa)->
   ∃fd:FuncData,(∀(s:Shared) (u:Value),BindsTo s fd ⟨[u],[]⟩ [("_law_script",u)])/\∀base:Heap,(K w.params).In base->base.Ns mainGlobals mg->FnOk l.prog w (K w.params) mg base CX0 7 fa fd ["_law_script"] (sp1 (rL Xf) (oF Xw) Mq (K w.params))):
  PySem.W.WalkO q cq XP YP l.row.toRowW d [] (λf vs=>PySem.call f vs):=
 L2.PN (n:=63) (k:=7) (x:="_law_script") (CX:=λ_=>CX0) (sp:=λw=>sp1 (rL Xf) (oF Xw) Mq (K w.params)) hn (by decide) gi ⟨rfl,by decide,by decide⟩ hY F (λ_ _ a ns hl _ hS=>⟨.ref a,ns,true,rfl,⟨a,_,rfl,hS,BN ns⟩,Ni ns hl,λv C H' w m ho=>ho.2⟩) λ_ _ _ _ _ z=>z
end My
open PySem PySem.W PyProof.Rows
set_option maxRecDepth 100000 in
set_option maxHeartbeats 0 in
theorem PySem.Challenge.cw_plait_k64_legal_holds : PySem.Challenge.rw_plait_k64_legal.Holds := by
  w_on; o_law; k_head; (case hw => w_witness2)
  k_fill
  refine My.AW (l := PySem.Challenge.rw_plait_k64_legal) rfl rfl (fun w h Y => PySem.W.kIn_of Y) ?F
  case F =>
    intro w mg fa h KX G hmg
    apply My.TF KX G hmg
    all_goals first | (apply My.AI KX G <;> first | k_is | (intros; rfl)) | (apply My.AH KX G <;> first | k_is | (intros; rfl)) | (apply My.AM KX G <;> first | k_is | (intros; rfl)) | (apply My.AT KX G <;> first | k_is | (intros; rfl)) | (apply My.AZ KX G <;> first | k_is | (intros; rfl)) | (apply My.EH.mk <;> first | k_is | k_exc) | k_is | k_exc
