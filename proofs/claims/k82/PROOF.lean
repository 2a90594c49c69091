import PyProof.Rows.All
import Wide.All
import OpenK.AllK
import Wide.FinOn
import Lean
import PyProof.EqAt
import PyProof.EqKinds
import PyProof.TupleCall
import PySem.Challenge.RW_plait_k82_free_arcs
set_option Elab.async false
set_option linter.all false
set_option maxRecDepth 100000
namespace PySem.W.Fast
def tw13571620710796046245:=0
def tw9768461278413705870:=0
def tw10314360424682631932:=0
def tw1781192442134814566:=0
def tw5466941988154643816:=0
def tw4699052310289243343:=0
def tw1576782001438487383:=0
def tw10022255791525547815:=0
def tw3575803956770361835:=0
def tw1188997720498963662:=0
def tw5185469209744102649:=0
def tw1646490140612612121:=0
def tw5018352315842103290:=0
def tw3382766725629489227:=0
def tw16014805748206725268:=0
def tw9964928769297474175:=0
def tw17090706198532385148:=0
def tw8821682820730132046:=0
def tw3883823408347298859:=0
def tw2700232515334262034:=0
def tw7696130781133028744:=0
def tw9916770844565344948:=0
def tw13931331071185638261:=0
def tw7707553224939121845:=0
def tw5148503387296145961:=0
def tw12690432187275254625:=0
def tw10177794599372791011:=0
def tw13741041967341314970:=0
def tw108316629469575773:=0
def tw4351398533293971184:=0
def tw16195601930043588360:=0
def tw13415054068503925881:=0
def tw7122077881738948424:=0
def tw13627314706005115797:=0
def tw3820463989542155355:=0
def tw4605797531916051242:=0
def tw17319245178474289056:=0
def tw17287711115711196827:=0
def tw4986256038312133731:=0
def tw2613893099474977108:=0
def tw9735712579602534775:=0
def tw13176249216205628174:=0
def tw11056581230429097691:=0
def tw7815600951292023805:=0
def tw2437160764076248457:=0
def tw7702462490629101225:=0
def tw129827143011616338:=0
def tw16525030244454460691:=0
def tw184614415846985279:=0
def tw9898927425551302983:=0
def tw9223165603553307129:=0
def tw11626866295422005705:=0
def tw17973351267401167931:=0
def tw5778754649139399151:=0
def tw8435302924129529045:=0
def tw15566465732391779675:=0
def tw7081363752633393416:=0
def tw3001825099681765146:=0
def tw14240795773935093449:=0
def tw5959591598051317515:=0
def tw10130622707148042773:=0
def tw5370072324549608980:=0
def tw8736079301896986841:=0
def tw13130162698418917963:=0
def tw6357350532942042164:=0
def tw9814767292229461728:=0
def tw11191137045009178977:=0
def tw18354421043776224792:=0
def tw2149266975671319978:=0
def tw661280897199375258:=0
def tw7463212261703806808:=0
def tw13109476902963055352:=0
def tw7456473623804140710:=0
def tw18326935934969727644:=0
def tw8276524289633129121:=0
def tw7234705670055293351:=0
def tw1988656770432968622:=0
def tw17097261422946006463:=0
def tw6736302764697556409:=0
def tw17468199235555004867:=0
def tw6612199913756375522:=0
def tw11362904377436646126:=0
def tw1818819829797126484:=0
def tw7629333850382060220:=0
def tw11039277209098211711:=0
def tw1573360431976365066:=0
def tw12123566492645790072:=0
def tw15785769260687964017:=0
def tw17931950495453025856:=0
def tw1250062543499667008:=0
def tw5710371296854311288:=0
def tw14238165619315383196:=0
def tw15572097773465038404:=0
def tw12537637753327610899:=0
def tw1960374555667673323:=0
def tw13796912499101118420:=0
def tw571502085133182480:=0
def tw1588250628655166325:=0
def tw16486597802948596765:=0
def tw2425336425476842740:=0
def tw8246283135638072552:=0
def tw9655332272093155427:=0
def tw3585512239199947817:=0
def tw8439221759868179643:=0
def tw6065178961737925587:=0
def tw4661497301708141983:=0
def tw12635928435632927318:=0
def tw16761423625030631679:=0
def tw17247861302917061139:=0
def tw13536279238653625423:=0
def tw8034007463153440218:=0
def tw17246849645115365541:=0
def tw8386995740726349917:=0
def tw10775468404385015982:=0
def tw12882372662321159636:=0
def tw306781226704396303:=0
def tw9758049317683323269:=0
def tw14410935003430456441:=0
def tw16648891530441922958:=0
def tw16998770053080034335:=0
def tw13291150017958758578:=0
def tw8455989585840994554:=0
def tw16504329330979116274:=0
def tw8180608037394234328:=0
def tw17361534952710714652:=0
def tw1007259662534066794:=0
def tw6094995235471840010:=0
def tw13536265788970133251:=0
def tw5495806047722790303:=0
def tw15844291257577510010:=0
def tw1231541779726434814:=0
def tw17206894959036648400:=0
def tw4335343124704111804:=0
def tw10978453310723816257:=0
def tw16267217592041455375:=0
def tw8151700323804450776:=0
def tw18380741906407450498:=0
def tw15028625501061590107:=0
def tw12013345224740661388:=0
def tw7512826266847603323:=0
def tw1655380385632145626:=0
def tw4135910445989273364:=0
def tw1222364891121877255:=0
def tw5648639060170383733:=0
def tw16149604245249641949:=0
def tw9706624859615283595:=0
def tw5111384793742268536:=0
def tw8566326656710503897:=0
def tw15524692681876340257:=0
def tw1446783821153213019:=0
def tw16640615975878985870:=0
def tw6787289212920363554:=0
def tw8331510864016433299:=0
def tw55850605864046735:=0
def tw337414311679561547:=0
def tw4119744544300182176:=0
def tw10879390493146773210:=0
def tw8111048103349529559:=0
def tw6041383600455707471:=0
def tw16723548488607867491:=0
def tw13532383628079783635:=0
def tw4932345710907307790:=0
def tw6048054734492400442:=0
def tw9800109648103299668:=0
def tw5420871161700593627:=0
def tw10091529843999286841:=0
def tw13717200036151978333:=0
def tw10508935080862116194:=0
def tw1766970012217149308:=0
def tw18348577929947948314:=0
def tw1328107385184426664:=0
def tw14538122227283731686:=0
def tw12323316805218869332:=0
def tw4332626392425720367:=0
def tw7952817564291542920:=0
def tw12601076573175449970:=0
def tw250862303936691383:=0
def tw18259363833667654495:=0
def tw6868915935338660353:=0
def tw5937738386443544115:=0
def tw14880520235049363779:=0
def tw11605975419392665265:=0
def tw9671210101446519670:=0
def tw4906794327520006659:=0
def tw6189225968538047154:=0
def tw2726845197785951048:=0
def tw13228559065394079239:=0
def tw6310714946204422914:=0
def tw17911255252069253450:=0
def tw15052020810438250207:=0
def tw14788515302883950746:=0
def tw14333394892273359375:=0
def tw9032149396848155134:=0
def tw16773256525715853402:=0
def tw16912050100855584611:=0
def tw7147642245871937476:=0
def tw1708659392472214284:=0
def tw14661775170090635426:=0
def tw9623013188222905594:=0
def tw5996459817960094980:=0
def tw5812730845043726175:=0
def tw580704593785718962:=0
def tw5784003320366707300:=0
def tw7240151709627442394:=0
def tw7342518601102878740:=0
def tw6892930186664793923:=0
def tw11184458592225468691:=0
def tw15570707062161700222:=0
def tw9518068409030971315:=0
def tw6770745116977834455:=0
def tw9233397239643941265:=0
def tw1823083903340219469:=0
def tw9577673525064006034:=0
def tw16588776799826294713:=0
def tw14267989790774544175:=0
def tw8449011943445701572:=0
def tw6906928652022468578:=0
def tw11496000780433886374:=0
def tw17147281108380852339:=0
def tw3099228387071729859:=0
def tw352214011541020469:=0
def tw4966290975934222301:=0
def tw13127905973588402352:=0
def tw9635022853951966868:=0
def tw1737753175321468519:=0
def tw13031424785366187557:=0
def tw463024326142026436:=0
def tw3426450032088821344:=0
def tw6610571876007810295:=0
def tw11181097968358750562:=0
def tw8622916440074247223:=0
def tw13330155544991736046:=0
def tw2158846079985015188:=0
def tw8055714505574117908:=0
def tw17417654636747715110:=0
def tw4668451194944647519:=0
def tw11216214916061541713:=0
def tw11320776801764336109:=0
def tw1608644965556916247:=0
def tw9291649694317491805:=0
def tw17472723725652498929:=0
def tw2433985261676358571:=0
def tw14265117244536937848:=0
def tw3187578031453512325:=0
def tw7266951137908581864:=0
def tw15681828964150060392:=0
def tw15304443738632087447:=0
def tw106724485042713998:=0
def tw11692542013360606606:=0
def tw10570406682269225549:=0
def tw5276078375291832779:=0
def tw14998216945400476596:=0
def tw17338427493054241275:=0
def tw13364198960699600030:=0
def tw5401352538121454329:=0
def tw338144320291742631:=0
def tw16645689102443448679:=0
def tw5184669892205388269:=0
def tw9414553577993664164:=0
def tw6946229569000697446:=0
def tw7572814401672493126:=0
def tw1323490204186972076:=0
def tw2564845285509321185:=0
def tw9736938238366040927:=0
def tw7014614714388835984:=0
def tw9465503381976976395:=0
def tw9128475629761174133:=0
def tw12269260302469360365:=0
def tw12689012620094126586:=0
def tw3336132163890287868:=0
def tw17857197975340613636:=0
def tw16085635936438423278:=0
def tw3891363364174061209:=0
def tw9092376812029351678:=0
def tw15586729355217973045:=0
def tw7787551284241325646:=0
def tw13887094618681251860:=0
def tw13440292820257648723:=0
def tw12586283990926174620:=0
def tw4928113000171329859:=0
def tw15565144702650715673:=0
def tw3707533275433779202:=0
def tw2072317066577835316:=0
def tw14230770049585010205:=0
def tw3385881024123006661:=0
def tw2668301394159818383:=0
def tw14759880080650506499:=0
def tw14144456737523356044:=0
def tw18281958751524507466:=0
def tw11399363754692856896:=0
def tw10214656984535135050:=0
def tw11011097218723731266:=0
def tw2228675059632856539:=0
def tw7912021468912734002:=0
def tw9825094673481373978:=0
def tw12843119464273201623:=0
def tw5872340749331946926:=0
def tw5518136994534424968:=0
def tw1178400151485562601:=0
def tw6599721308264242792:=0
def tw9245939879557086811:=0
def tw14632028173015790763:=0
def tw4391059543142758952:=0
end PySem.W.Fast
set_option maxHeartbeats 4000000
namespace L2
open PySem PySem.Spec PyProof.Rows
noncomputable abbrev Key:=Sum Int Str
noncomputable def U1 : Key -> Value -> Bool
  | .inl k, v=>Value.isInt k v
  | .inr x, v=>Value.isStrOf x v
noncomputable def MZ (w : World) : Key -> Int
  | .inl k=>hashInt k
  | .inr x=>hashStr w x
theorem Yy : ∀ {k : Key} {v : Value}, U1 k v = true -> (∃ i t, k = Sum.inl i /\ v = Value.int i t) ∨ (∃ x t, k = Sum.inr x /\ v = Value.str x t)
  | .inl i, v, h=>by
    obtain ⟨t, e⟩:=Value.isInt_shape (k:=i) (v:=v) h
    exact .inl ⟨i, t, rfl, e⟩
  | .inr x, v, h=>by
    obtain ⟨t, e⟩:=Value.isStrOf_shape (x:=x) (v:=v) h
    exact .inr ⟨x, t, rfl, e⟩
theorem CC (i : Int) (t : Tok) : U1 (.inl i) (.int i t) = true:=by simp [U1, Value.isInt]
theorem Cb (x : Str) (t : Tok) : U1 (.inr x) (.str x t) = true:=by simp [U1, Value.isStrOf]
theorem Lu (a b : Int) : decide ((Sum.inl a : Key) = Sum.inl b) = (a == b):=by
  by_cases e : a = b
  . subst e; simp
  . have h : ¬ (Sum.inl a : Key) = Sum.inl b := λq => e (Sum.inl.inj q)
    rw [decide_eq_false h]
    exact (beq_eq_false_iff_ne.mpr e).symm
theorem Ly (a b : Str) : decide ((Sum.inr a : Key) = Sum.inr b) = decide (a = b):=by
  by_cases e : a = b
  . subst e; simp
  . have h : ¬ (Sum.inr a : Key) = Sum.inr b := λq => e (Sum.inr.inj q)
    rw [decide_eq_false h, decide_eq_false e]
theorem LX (a : Int) (b : Str) : decide ((Sum.inl a : Key) = Sum.inr b) = false:=decide_eq_false (λq=>nomatch q)
theorem Ld (a : Str) (b : Int) : decide ((Sum.inr a : Key) = Sum.inl b) = false:=decide_eq_false (λq=>nomatch q)
noncomputable def Yz (prog : Program) (w : World) : PySem.KeyKind prog w Key where
  is:=U1
  hash:=MZ w
  inj:=λv a b ha hb=>by
    rcases Yy ha with ⟨i, t, rfl, rfl⟩ | ⟨x, t, rfl, rfl⟩
    . rcases Yy hb with ⟨j, u, rfl, e⟩ | ⟨y, u, rfl, e⟩
      . injection e with e1 _; rw [e1]
      . exact nomatch e
    . rcases Yy hb with ⟨j, u, rfl, e⟩ | ⟨y, u, rfl, e⟩
      . exact nomatch e
      . injection e with e1 _; rw [e1]
  byValue := λk v h => by
    rcases Yy h with ⟨i, t, rfl, rfl⟩ | ⟨x, t, rfl, rfl⟩ <;> rfl
  pyHash:=λhv h=>by
    rcases Yy hv with ⟨i, t, rfl, rfl⟩ | ⟨x, t, rfl, rfl⟩
    . exact wpAny_pyHash_int h
    . exact wpAny_pyHash_str h
  eqBool:=λhu hv h=>by
    rcases Yy hu with ⟨i, t, rfl, rfl⟩ | ⟨x, t, rfl, rfl⟩
    . rcases Yy hv with ⟨j, u, rfl, rfl⟩ | ⟨y, u, rfl, rfl⟩
      . rw [Lu] at h; exact wpAny_eqBool_int h
      . rw [LX] at h; exact SeqAt.EqAt.int_str i t y u _ _ _ _ h
    . rcases Yy hv with ⟨j, u, rfl, rfl⟩ | ⟨y, u, rfl, rfl⟩
      . rw [Ld] at h; exact SeqAt.EqAt.str_int x t j u _ _ _ _ h
      . rw [Ly] at h; exact wpAny_eqBool_str h
  «strs»:=λk x t v h=>by
    rcases Yy h with ⟨i, u, rfl, e⟩ | ⟨y, u, rfl, e⟩
    . exact nomatch e
    . injection e with e1 _
      subst e1
      cases v <;> rfl
theorem Go (prog : Program) (w : World) (i : Int) (t : Tok) : (Yz prog w).is (.inl i) (.int i t) = true:=CC i t
theorem Gw (prog : Program) (w : World) (x : Str) (t : Tok) : (Yz prog w).is (.inr x) (.str x t) = true:=Cb x t
inductive V where
  | non | bl (b : Bool) | int (i : Int) | str (x : Str) | byt (b : Array UInt8) | flt (b : UInt64) | ref (a : Addr) | ty (n : String)
  deriving DecidableEq
noncomputable def Yl : V -> Value -> Prop
  | .non, u=>u = Value.none
  | .bl b, u=>u = Value.bool b
  | .int i, u=>∃ t, u = Value.int i t
  | .str x, u=>∃ t, u = Value.str x t
  | .byt b, u=>∃ t, u = Value.bytes b t
  | .flt b, u=>∃ t, u = Value.float b t
  | .ref a, u=>u = Value.ref a
  | .ty n, u=>u = Value.type n
noncomputable abbrev Yr : List V -> List Value -> Prop:=Paired Yl
theorem Yr.length {xs : List V} {us : List Value} (r : Yr xs us) : xs.length = us.length:=Paired.length r
theorem Yr.get : ∀ {xs : List V} {us : List Value} {i : Nat} {x : V}, Yr xs us -> xs[i]? = some x -> ∃ u, us[i]? = some u /\ Yl x u
  | _, _, _, _, .nil, e=>by simp at e
  | _, _, 0, _, .cons r _, e=>by simp at e; subst e; exact ⟨_, rfl, r⟩
  | _, _, i + 1, x, .cons _ t, e=>by
    obtain ⟨u, h1, h2⟩:=Yr.get (i:=i) (x:=x) t (by simpa using e)
    exact ⟨u, by simpa using h1, h2⟩
theorem Yr.set {x : V} {u : Value} (r : Yl x u) : ∀ {xs : List V} {us : List Value} (i : Nat), Yr xs us -> Yr (xs.set i x) (us.set i u)
  | _, _, _, .nil=>.nil
  | _, _, 0, .cons _ t=>.cons r t
  | _, _, i + 1, .cons q t=>.cons q (Yr.set r i t)
theorem Yr.append : ∀ {xs ys : List V} {us ws : List Value}, Yr xs us -> Yr ys ws -> Yr (xs ++ ys) (us ++ ws):=λp s=>by
  induction p with
  | nil=>exact s
  | cons r _ ih=>exact .cons r ih
theorem Yr.take : ∀ {xs : List V} {us : List Value} (n : Nat), Yr xs us -> Yr (xs.take n) (us.take n)
  | _, _, 0, _=>.nil
  | _, _, _ + 1, .nil=>.nil
  | _, _, n + 1, .cons r t=>.cons r (Yr.take n t)
theorem Yr.drop : ∀ {xs : List V} {us : List Value} (n : Nat), Yr xs us -> Yr (xs.drop n) (us.drop n)
  | _, _, 0, r=>r
  | _, _, _ + 1, .nil=>.nil
  | _, _, n + 1, .cons _ t=>Yr.drop n t
noncomputable def DH : Option V -> Option Value -> Prop
  | some v, some u=>Yl v u
  | none, none=>True
  | _, _=>False
noncomputable def KV {κ : Type} : List (κ × V) -> List (κ × Value) -> Prop:=Paired λ(p : κ × V) (q : κ × Value)=>p.1 = q.1 /\ Yl p.2 q.2
noncomputable def kV : Key -> V
  | .inl i=>.int i
  | .inr x=>.str x
inductive HO where
  /-- a list -/
  | lst (xs : List V)
  /-- a tuple (never changes) -/
  | tup (xs : List V)
  /-- a dict whose keys are ints and texts; one whose keys are tuples of ints and texts (the empty one is both) -/
  | dK (kvs : List (Key × V)) | dT (kvs : List (List Key × V))
  /-- a set of ints: its members, its size -/
  | set (S : Int -> Bool) (n : Nat)
  /-- an instance of the class at C, its dict at dx, its attributes -/
  | ins (C dx : Addr) (fs : List (Str × V))
  /-- the dict of the instance at x -/
  | own (x : Addr)
  /-- the dict of an exception -/
  | xd (fs : List (Str × V))
  /-- a bound method, f of x -/
  | met (f x : Addr)
  /-- a range object lo, lo + 1, .. below hi -/
  | rng (lo hi : Int)
  /-- a thing that is known to the object (the script; a dict while a loop walks it): read, never written while it is so -/
  | frz (o : Obj) (u : HO)
  /-- a code object's table -/
  | tbl (ps : Array Value)
  /-- any other thing, by what is true of its one object (a def of one's own: SetO a S n:=HO.ext λh=>..) -/
  | ext (φ : Heap -> Prop)
noncomputable abbrev Hp:=Addr -> Option HO
noncomputable def upd (H : Hp) (a : Addr) (o : HO) : Hp:=λb=>if b = a then some o else H b
theorem YA {H : Hp} {a : Addr} {o : HO} : upd H a o a = some o:=by unfold upd; rw [if_pos rfl]
theorem XD {H : Hp} {a b : Addr} {o : HO} (h : b ≠ a) : upd H a o b = H b:=by unfold upd; rw [if_neg h]
theorem Cw {H : Hp} {a b : Addr} {o u : HO} (h : H a = some o) (h' : H b = some u) (d : o ≠ u) : a ≠ b:=by
  intro e; subst e; rw [h] at h'; exact d (Option.some.inj h')
theorem Ya {H : Hp} {a b : Addr} {o : HO} (h : H a = some o) (h' : H b = none) : a ≠ b:=by
  intro e; subst e; rw [h] at h'; cases h'
noncomputable def CY (h : Heap) (a : Addr) (items : Array Value) : Prop:=∃ o, h.get? a = some o /\ (o.cls = .type "tuple" /\ o.dict = none) /\ ∃ n, o.data = .seq items n
theorem CY.t {h : Heap} {a : Addr} {items : Array Value} (x : CY h a items) : IsTup h a items:=let ⟨o, ho, c, r⟩:=x; ⟨o, ho, c.1, r⟩
section
variable (P : Program) (w : World)
noncomputable def YW (H : Hp) (h : Heap) (a : Addr) : HO -> Prop
  | .lst xs=>xs.length <= sizeLine /\ ∃ (its : List Value) (n : Nat), Yr xs its /\ h.get? a = some { cls:=.type "list", data:=.seq its.toArray n }
  | .tup xs=>xs.length <= sizeLine /\ ∃ its : List Value, Yr xs its /\ CY h a its.toArray
  | .dK kvs=>kvs.length <= sizeLine /\ (a == sysModules) = false /\ ∃ vs, KV kvs vs /\ h.DictOf (Yz P w) a vs
  | .dT kvs=>kvs.length <= sizeLine /\ (a == sysModules) = false /\ ∃ xs : List (List Key × Addr × Value),
      Paired (λ(p : List Key × V) (q : List Key × Addr × Value)=>p.1 = q.1 /\ H q.2.1 = some (.tup (p.1.map kV)) /\ Yl p.2 q.2.2) kvs xs /\
      ∃ o es ep, h.get? a = some o /\ o.ExactDict /\ o.data = .dict es ep /\ es.toList = xs.map (entryOfKey (tupleKind (Yz P w))) /\ (xs.map (·.1)).Nodup
  | .set S n=>h.SetOf (intKind P w) a S n
  | .ins C dx fs=>H dx = some (.own a) /\ fs.length <= 1000 /\ dx ≠ a /\ h.get? a = some (PySem.W.instObj C dx) /\
      ∃ mA, h.Ns1 dx mA /\ (∀ f, DH (fs.lookup f) (mA f)) /\ PySem.Within mA (fs.map (·.1))
  | .own _=>∃ o, h.get? a = some o
  | .xd fs=>∃ mA, h.Ns1 a mA /\ ∀ f, DH (fs.lookup f) (mA f)
  | .rng lo hi=>∃ t u v, h.get? a = some { cls:=.type "range", data:=.fields #[.int lo t, .int hi u, .int 1 v] }
  | .frz o u=>h.get? a = some o /\ YW H h a u
  | .tbl ps=>h.get? a = some { cls:=.none, data:=.fields ps }
  | .met f x=>h.get? a = some (PySem.W.methodObj (.ref f) (.ref x))
  | .ext φ=>φ h /\ (∃ o, h.get? a = some o) /\ ∀ h1 h2 : Heap, φ h1 -> (∀ o, h1.get? a = some o -> h2.get? a = some o) -> φ h2
noncomputable def HOk (H : Hp) (h : Heap) : Prop:=∀ a o, H a = some o -> YW P w H h a o
end
section
variable {P : Program} {w : World} {H H' : Hp} {h h' : Heap} {a : Addr} {o : HO}
theorem YW.lt (x : YW P w H h a o) : a < h.objs.size:=by
  cases o with
  | lst xs=>obtain ⟨_, _, _, _, e⟩:=x; exact Heap.lt_size e
  | tup xs=>obtain ⟨_, _, _, p⟩:=x; exact p.t.lt
  | dK kvs=>obtain ⟨_, _, _, _, o, _, _, e, _⟩:=x; exact Heap.lt_size e
  | dT kvs=>obtain ⟨_, _, _, _, o, _, _, e, _⟩:=x; exact Heap.lt_size e
  | set S n=>obtain ⟨o, _, _, _, e, _⟩:=x; exact Heap.lt_size e
  | ins C dx fs=>obtain ⟨_, _, _, e, _⟩:=x; exact Heap.lt_size e
  | own y=>obtain ⟨_, e⟩:=x; exact Heap.lt_size e
  | xd fs=>obtain ⟨_, ⟨_, _, _, e, _⟩, _⟩:=x; exact Heap.lt_size e
  | rng lo hi=>obtain ⟨_, _, _, e⟩:=x; exact Heap.lt_size e
  | frz ob u=>obtain ⟨e, _⟩:=x; exact Heap.lt_size e
  | tbl ps=>exact Heap.lt_size (show h.get? a = some _ from x)
  | met f y=>exact Heap.lt_size (show h.get? a = some _ from x)
  | ext φ=>obtain ⟨_, ⟨_, e⟩, _⟩:=x; exact Heap.lt_size e
theorem Paired.mapP {α β : Type} {F G : α -> β -> Prop} : ∀ {l₁ : List α} {l₂ : List β}, Paired F l₁ l₂ -> (∀ a b, F a b -> G a b) -> Paired G l₁ l₂:=λp f=>by
  induction p with
  | nil=>exact .nil
  | cons r _ ih=>exact .cons (f _ _ r) ih
theorem YW.stay (x : YW P w H h a o) (k : ∀ b u, (b = a ∨ H b = some (.own a)) -> h.get? b = some u -> h'.get? b = some u)
    (ho : ∀ b, H b = some (.own a) -> H' b = some (.own a)) (ht : ∀ b xs, H b = some (.tup xs) -> H' b = some (.tup xs)) : YW P w H' h' a o:=by
  induction o with
  | lst xs=>obtain ⟨z, its, n, r, e⟩:=x; exact ⟨z, its, n, r, k _ _ (.inl rfl) e⟩
  | tup xs=>obtain ⟨z, its, r, ob, e, c⟩:=x; exact ⟨z, its, r, ob, k _ _ (.inl rfl) e, c⟩
  | dK kvs=>obtain ⟨z, y, vs, r, ob, es, ep, e, c⟩:=x; exact ⟨z, y, vs, r, ob, es, ep, k _ _ (.inl rfl) e, c⟩
  | dT kvs=>
    obtain ⟨z, y, xs, r, ob, es, ep, e, c⟩:=x
    exact ⟨z, y, xs, Paired.mapP r λp q z=>⟨z.1, ht _ _ z.2.1, z.2.2⟩, ob, es, ep, k _ _ (.inl rfl) e, c⟩
  | set S n=>obtain ⟨ob, es, ep, t, e, c⟩:=x; exact ⟨ob, es, ep, t, k _ _ (.inl rfl) e, c⟩
  | ins C dx fs=>
    obtain ⟨d, z, ne, e, mA, ⟨od, es, ep, e2, c⟩, r⟩:=x
    exact ⟨ho _ d, z, ne, k _ _ (.inl rfl) e, mA, ⟨od, es, ep, k _ _ (.inr d) e2, c⟩, r⟩
  | own y=>obtain ⟨ob, e⟩:=x; exact ⟨ob, k _ _ (.inl rfl) e⟩
  | xd fs=>obtain ⟨mA, ⟨od, es, ep, e, c⟩, r⟩:=x; exact ⟨mA, ⟨od, es, ep, k _ _ (.inl rfl) e, c⟩, r⟩
  | rng lo hi=>obtain ⟨t, u, v, e⟩:=x; exact ⟨t, u, v, k _ _ (.inl rfl) e⟩
  | frz ob u ih=>obtain ⟨e, q⟩:=x; exact ⟨k _ _ (.inl rfl) e, ih q⟩
  | tbl ps=>
    have e : h.get? a = some { cls:=.none, data:=.fields ps }:=x
    show h'.get? a = some { cls:=.none, data:=.fields ps }
    exact k a _ (.inl rfl) e
  | met f y=>
    have e : h.get? a = some (PySem.W.methodObj (.ref f) (.ref y)):=x
    show h'.get? a = some (PySem.W.methodObj (.ref f) (.ref y))
    exact k a _ (.inl rfl) e
  | ext φ=>obtain ⟨p, ⟨o, e⟩, st⟩:=x; exact ⟨st _ _ p λo q=>k _ _ (.inl rfl) q, ⟨o, k _ _ (.inl rfl) e⟩, st⟩
theorem HOk.lt (x : HOk P w H h) (e : H a = some o) : a < h.objs.size:=(x a o e).lt
theorem HOk.fresh (x : HOk P w H h) (e : h.objs.size <= a) : H a = none:=by
  cases q : H a with
  | none=>rfl
  | some u=>exact absurd (Nat.lt_of_lt_of_le (x.lt q) e) (Nat.lt_irrefl _)
theorem HOk.kept (x : HOk P w H h) (k : ∀ b u, h.get? b = some u -> h'.get? b = some u) : HOk P w H h':=λa o e=>
  (x a o e).stay (λb u _ q=>k b u q) (λ_ q=>q) λ_ _ q=>q
theorem HOk.laid (x : HOk P w H h) (k : ∀ b u, h.get? b = some u -> h'.get? b = some u) (hp : h.objs.size <= a) (new : YW P w (upd H a o) h' a o) : HOk P w (upd H a o) h':=λb u e=>by
  have hn:=x.fresh hp
  by_cases hb : b = a
  . subst hb; rw [YA] at e; cases e; exact new
  . rw [XD hb] at e
    exact (x b u e).stay (λc v _ q=>k c v q) (λc q=>by rw [XD (Ya q hn)]; exact q) λc xs q=>by rw [XD (Ya q hn)]; exact q
end
noncomputable def Rd (H : Hp) (a : Addr) (u : HO) : Prop:=H a = some u ∨ ∃ o, H a = some (.frz o u)
theorem Rd.ok {P : Program} {w : World} {H : Hp} {h : Heap} {a : Addr} {u : HO} (r : Rd H a u) (x : HOk P w H h) : YW P w H h a u:=by
  rcases r with r | ⟨o, r⟩
  . exact x a u r
  . obtain ⟨_, q⟩ := x a _ r
    exact q
noncomputable def Mut : Option HO -> Prop
  | some (.lst _)=>True
  | some (.dK _)=>True
  | some (.dT _)=>True
  | some (.set _ _)=>True
  | some (.ins _ _ _)=>True
  | some (.ext _)=>True
  | _=>False
section
variable {P : Program} {w : World} {H : Hp} {h h' : Heap} {x e : Addr} {o' : HO}
theorem HOk.write (ok : HOk P w H h) (mu : Mut (H x)) (he : e = x ∨ H e = some (.own x)) (k : ∀ b u, b ≠ e -> h.get? b = some u -> h'.get? b = some u) (heo : ∃ u, h'.get? e = some u)
    (new : YW P w (upd H x o') h' x o') : HOk P w (upd H x o') h':=λb u q=>by
  have nown : ∀ c y, H c = some (.own y) -> c ≠ x:=λc y r z=>by subst z; rw [r] at mu; exact mu
  have ntup : ∀ c xs, H c = some (.tup xs) -> c ≠ x:=λc xs r z=>by subst z; rw [r] at mu; exact mu
  by_cases hb : b = x
  . subst hb; rw [YA] at q; cases q; exact new
  . rw [XD hb] at q
    by_cases hbe : b = e
    . have q' : H b = some (.own x):=by
        rcases he with z | z
        . exact absurd (hbe.trans z) hb
        . rw [hbe]; exact z
      rw [q] at q'; cases q'
      obtain ⟨v, hv⟩:=heo
      exact ⟨v, by rw [hbe]; exact hv⟩
    . refine (ok b u q).stay (λc v hc r => k c v ?_ r) (λc r => by rw [XD (nown c b r)]; exact r) λc xs r => by rw [XD (ntup c xs r)]; exact r
      rcases hc with rfl | hc
      . exact hbe
      . rintro rfl
        rcases he with z | z
        . exact nown c b hc z
        . rw [hc] at z; cases z; exact hb rfl
end
structure Un (fs ex : List Addr) (H H' : Hp) (h h' : Heap) : Prop where
  keep : ∀ b o, h.get? b = some o -> H b = none -> b ∉ fs -> b ∉ ex -> h'.get? b = some o
  slot : ∀ b o, h.get? b = some o -> H b = none -> b ∈ fs -> b ∉ ex -> ∃ sl, h'.get? b = some { o with slots:=sl }
  free : ∀ b o, h.get? b = some o -> H b = none -> b ∉ ex -> H' b = none
  there : ∀ b o, h.get? b = some o -> b ∉ ex -> ∃ o', h'.get? b = some o'
  tups : ∀ b xs, H b = some (.tup xs) -> H' b = some (.tup xs)
  frzs : ∀ b o u, H b = some (.frz o u) -> H' b = some (.frz o u)
  tbls : ∀ b ps, H b = some (.tbl ps) -> ∃ more, H' b = some (.tbl (ps ++ more))
section
variable {fs fs' ex ex' : List Addr} {H H1 H2 : Hp} {h h1 h2 h' : Heap} {a x e : Addr} {o : HO}
theorem Un.any (u : Un fs ex H H1 h h1) {b : Addr} {ob : Obj} (q : h.get? b = some ob) (n : H b = none) (hx : b ∉ ex) : ∃ sl, h1.get? b = some { ob with slots:=sl }:=by
  by_cases hb : b ∈ fs
  . exact u.slot b ob q n hb hx
  . exact ⟨ob.slots, u.keep b ob q n hb hx⟩
theorem Un.kept (k : ∀ b u, h.get? b = some u -> h'.get? b = some u) : Un fs ex H H h h':=
  ⟨λb ob q _ _ _=>k b ob q, λb ob q _ _ _=>⟨ob.slots, k b ob q⟩, λ_ _ _ n _=>n, λb ob q _=>⟨ob, k b ob q⟩, λ_ _ q=>q, λ_ _ _ q=>q, λ_ ps q=>⟨#[], by rw [q]; simp⟩⟩
theorem Un.refl : Un fs ex H H h h:=Un.kept λ_ _ q=>q
theorem Un.laid (k : ∀ b u, h.get? b = some u -> h'.get? b = some u) (hp : h.objs.size <= a) (hn : H a = none) : Un fs ex H (upd H a o) h h' where
  keep:=λb u q _ _ _=>k b u q
  slot:=λb u q _ _ _=>⟨u.slots, k b u q⟩
  free:=λb u q n _=>by rw [XD (Nat.ne_of_lt (Nat.lt_of_lt_of_le (Heap.lt_size q) hp))]; exact n
  there:=λb u q _=>⟨u, k b u q⟩
  tups:=λb xs q=>by rw [XD (Ya q hn)]; exact q
  frzs:=λb u xs q=>by rw [XD (Ya q hn)]; exact q
  tbls:=λb ps q=>⟨#[], by rw [XD (Ya q hn), q]; simp⟩
theorem Un.write (mu : Mut (H x)) (he : e = x ∨ H e = some (.own x)) (k : ∀ b u, b ≠ e -> h.get? b = some u -> h'.get? b = some u) (heo : ∃ u, h'.get? e = some u) : Un fs ex H (upd H x o) h h':=by
  have hx : ∀ b, H b = none -> b ≠ x:=λb n z=>by subst z; rw [n] at mu; exact mu
  have hb : ∀ b, H b = none -> b ≠ e:=λb n z=>by
    subst z
    rcases he with r | r
    . exact hx b n r
    . rw [n] at r; cases r
  have hm : ∀ b u, H b = some u -> ¬ Mut (some u) -> b ≠ x:=λb u q nm z=>by subst z; rw [q] at mu; exact nm mu
  refine ⟨λb u q n _ _=>k b u (hb b n) q, λb u q n _ _=>⟨u.slots, k b u (hb b n) q⟩, λb u q n _=>by rw [XD (hx b n)]; exact n, λb u q _=>?_,
    λb xs q=>by rw [XD (hm b _ q λz=>z)]; exact q, λb u xs q=>by rw [XD (hm b _ q λz=>z)]; exact q, λb ps q=>⟨#[], by rw [XD (hm b _ q λz=>z), q]; simp⟩⟩
  by_cases hbe : b = e
  . subst hbe; exact heo
  . exact ⟨u, k b u hbe q⟩
end
noncomputable def trk (h : Heap) (H : Hp) : List Addr:=(List.range h.objs.size).filter λa=>(H a).isSome
noncomputable def Ep (h : Heap) (H : Hp) : Heap:=PySem.W.hideAll h (trk h H)
theorem Cq (h : Heap) (H : Hp) : (Ep h H).objs.size = h.objs.size:=PySem.W.hideAll_size _ _
theorem Bw {h : Heap} {H : Hp} {b : Addr} {o : Obj} (e : h.get? b = some o) (n : H b = none) : (Ep h H).get? b = some o:=
  PySem.W.hideAll_get _ e λhm=>by
    have q : (H b).isSome = true:=(List.mem_filter.mp hm).2
    rw [n] at q; simp at q
theorem Hc {h : Heap} {H : Hp} {b : Addr} {o : Obj} (e : (Ep h H).get? b = some o) : h.get? b = some o /\ H b = none:=by
  have e' : h.get? b = some o:=PySem.W.of_hideAll (trk h H) e
  refine ⟨e', ?_⟩
  cases q : H b with
  | none=>rfl
  | some x=>
    have hm : b ∈ trk h H:=List.mem_filter.mpr ⟨List.mem_range.mpr (Heap.lt_size e'), by simp [q]⟩
    have z : (Ep h H).get? b = none:=PySem.W.hideAll_none (trk h H) hm
    rw [z] at e; cases e
structure Mod (K : PySem.W.Frag) (mg : Str -> Option Value) (base : Heap) : Prop where
  kin : K.In base
  glob : base.Ns mainGlobals mg
  blt : ∃ mb, base.Ns builtinsNs mb /\ ∀ x : Str, x ≠ "__name__" -> mb x = bootBuiltins x
  nolimit : base.NoLimit
structure Cx where
  prog : Program
  w : World
  K : PySem.W.Frag
  mg : Str -> Option Value
  base : Heap
  A : Around
  N : List Str
  s₀ : Shared
  H₀ : Hp
  env : Env
  outer : List Env
  stack : List Env
  ex : List Addr
  fn : Str -> Bool
  calm : Bool
  pn : List (Addr × Obj)
  xe : Value -> Shared -> Prop
noncomputable def frs (l : List Env) : List Addr:=l.filterMap (·.frame)
noncomputable abbrev Cx.fs (X : Cx) : List Addr:=frs X.outer
noncomputable def Vis (sc : Scope) (x : Str) : Prop:=sc.names.lookup x = some .local ∨ sc.names.lookup x = some .cell ∨ sc.names.lookup x = some .free
noncomputable def Loc (sc : Scope) (x : Str) : Prop:=sc.names.lookup x = some .local ∨ sc.names.lookup x = some .cell
noncomputable def MX (env : Env) (h : Heap) (m : Str -> Option Value) (x : Str) (u : Value) : Prop:=
  (env.kindOf x = some .local /\ m x = some u) ∨ ((env.kindOf x = some .cell ∨ env.kindOf x = some .free) /\ ∃ c, env.cells.lookup x = some c /\ h.IsCell c (some u))
structure Cx.Ok (X : Cx) : Prop where
  mod : Mod X.K X.mg X.base
  kind : X.env.scope.kind = .function
  glob : X.env.globals = mainGlobals
  blt : X.env.builtins = builtinsNs
  above : X.s₀.heap.objs.size <= X.env.locals
  inj : ∀ x y c, X.env.cells.lookup x = some c -> X.env.cells.lookup y = some c -> x = y
  has : ∀ x, (X.env.kindOf x = some .cell ∨ X.env.kindOf x = some .free) -> ∃ c, X.env.cells.lookup x = some c
  cab : ∀ x c, X.fn x = true -> X.env.cells.lookup x = some c -> X.s₀.heap.objs.size <= c
  hd : X.calm = true -> X.A.handled = none
  frames : X.A.frames = some X.stack
  stk : X.stack = X.outer ∨ (X.stack = X.env :: X.outer /\ X.env.frame = some X.env.locals)
  exf : ∀ b ∈ X.ex, b ≠ X.env.locals /\ ∀ x c, X.env.cells.lookup x = some c -> c ≠ b
  bs : ∀ b o, X.base.get? b = some o -> X.s₀.heap.get? b = some o /\ X.H₀ b = none
  bsz : X.base.objs.size <= X.s₀.heap.objs.size
  noex : ∀ b o, X.base.get? b = some o -> b ∉ X.ex
  exfs : ∀ b ∈ X.ex, b ∉ X.fs
  funs : X.s₀.heap.FunFrames X.base X.outer
  frf : ∀ b ∈ X.fs, X.H₀ b = none
structure Inv (X : Cx) (pins : List (Addr × Obj)) (σ : List (Option V)) (H : Hp) (s : Shared) : Prop where
  ok : X.Ok
  os : s.os = X.s₀.os
  bare : AllBare s.gens
  base : Un X.fs X.ex X.H₀ H X.s₀.heap s.heap
  loc : ∃ m, s.heap.Ns X.env.locals m /\ ∀ (i : Nat) (x : Str) (v : V), X.N[i]? = some x -> σ[i]? = some (some v) -> Vis X.env.scope x -> ∃ u, Yl v u /\ MX X.env s.heap m x u
  cell : ∀ x c, X.env.cells.lookup x = some c -> ∃ v, s.heap.IsCell c v
  free : H X.env.locals = none
  freeC : ∀ x c, X.env.cells.lookup x = some c -> H c = none
  pin : ∀ p ∈ X.pn ++ pins, s.heap.get? p.1 = some p.2 /\ H p.1 = none /\ p.1 ≠ X.env.locals /\ p.1 ∉ X.fs /\ ∀ v, p.2.data ≠ .cell v
  hok : HOk X.prog X.w H s.heap
  len : σ.length = X.N.length
section
variable {X : Cx} {pins : List (Addr × Obj)} {σ : List (Option V)} {H H' : Hp} {s : Shared} {h' : Heap}
theorem Cx.Ok.nofr (ok : X.Ok) {b : Addr} {o : Obj} (e : X.base.get? b = some o) : b ∉ X.fs:=λhb=>by
  have:=(ok.funs.mem hb).1
  rw [e] at this; cases this
theorem Inv.bs (I : Inv X pins σ H s) : ∀ b o, X.base.get? b = some o -> s.heap.get? b = some o /\ H b = none:=λb o e=>
  ⟨I.base.keep b o (I.ok.bs b o e).1 (I.ok.bs b o e).2 (I.ok.nofr e) (I.ok.noex b o e), I.base.free b o (I.ok.bs b o e).1 (I.ok.bs b o e).2 (I.ok.noex b o e)⟩
theorem Inv.bk (I : Inv X pins σ H s) : ∀ b o, X.base.get? b = some o -> s.heap.get? b = some o:=λb o e=>(I.bs b o e).1
theorem Inv.mod (I : Inv X pins σ H s) : Mod X.K X.mg X.base:=I.ok.mod
theorem Inv.kIn (I : Inv X pins σ H s) : X.K.In s.heap:=I.ok.mod.kin.keeps I.bk
theorem Inv.lt (I : Inv X pins σ H s) : X.env.locals < s.heap.objs.size:=let ⟨_, hn, _⟩:=I.loc; hn.lt
theorem Inv.sz (I : Inv X pins σ H s) : X.s₀.heap.objs.size <= s.heap.objs.size:=Nat.le_trans I.ok.above (Nat.le_of_lt I.lt)
theorem Inv.nofs (I : Inv X pins σ H s) {a : Addr} (h : s.heap.objs.size <= a) : a ∉ X.fs:=λhb=>by
  obtain ⟨_, o, ho, _⟩:=I.ok.funs.mem hb
  exact absurd (Nat.lt_of_lt_of_le (Heap.lt_size ho) (Nat.le_trans I.sz h)) (Nat.lt_irrefl _)
theorem Inv.cne (I : Inv X pins σ H s) : ∀ x c, X.env.cells.lookup x = some c -> c ≠ X.env.locals:=λx c e z=>by
  obtain ⟨v, o, ho, hd⟩:=I.cell x c e
  obtain ⟨m, ⟨o', es, ep, ho', hd', _⟩, _⟩:=I.loc
  rw [z, ho'] at ho; cases ho; rw [hd'] at hd; cases hd
theorem Inv.funs (I : Inv X pins σ H s) : s.heap.FunFrames X.base X.outer:=by
  have all : ∀ (l : List Env), (∀ b ∈ frs l, b ∈ X.fs) -> X.s₀.heap.FunFrames X.base l -> s.heap.FunFrames X.base l:=by
    intro l
    induction l with
    | nil=>intro _ _; trivial
    | cons env r ih=>
      intro hs hl
      obtain ⟨hk, ⟨L, o, hf, hn, ho, hd⟩, hr⟩:=hl
      have hL : L ∈ X.fs:=hs L (by unfold frs; rw [List.filterMap_cons, hf]; exact List.mem_cons_self)
      obtain ⟨sl, e⟩:=I.base.slot L o ho (I.ok.frf L hL) hL λz=>I.ok.exfs L z hL
      exact ⟨hk, ⟨L, _, hf, hn, e, hd⟩, ih (λb hb=>hs b (by unfold frs; rw [List.filterMap_cons, hf]; exact List.mem_cons_of_mem _ hb)) hr⟩
  exact all X.outer (λ_ hb=>hb) I.ok.funs
theorem Inv.stack (I : Inv X pins σ H s) : s.heap.FunFrames X.base X.stack:=by
  rcases I.ok.stk with e | ⟨e, hf⟩
  . rw [e]; exact I.funs
  . rw [e]
    obtain ⟨m, hn, _⟩:=I.loc
    refine .cons (by rw [I.ok.kind]; decide) hf hn ?_ I.funs
    exact Heap.get?_none_of_le (Nat.le_trans I.ok.bsz I.ok.above)
theorem Inv.stkSub (I : Inv X pins σ H s) : ∀ b ∈ frs X.stack, b ∈ X.env.locals :: X.fs:=λb hb=>by
  rcases I.ok.stk with e | ⟨e, hf⟩
  . rw [e] at hb; exact List.mem_cons_of_mem _ hb
  . rw [e] at hb
    unfold frs at hb
    rw [List.filterMap_cons, hf] at hb
    exact hb
theorem Inv.stkFree (I : Inv X pins σ H s) : ∀ b ∈ frs X.stack, H b = none:=λb hb=>by
  rcases List.mem_cons.mp (I.stkSub b hb) with e | hb
  . rw [e]; exact I.free
  . obtain ⟨_, o, ho, _⟩ := I.ok.funs.mem hb
    exact I.base.free b o ho (I.ok.frf b hb) λz=>I.ok.exfs b z hb
theorem Inv.step {g' : Array GenState} {t' : Nat} {d' : Drawn} {ch : List Addr} (I : Inv X pins σ H s)
    (hch : ∀ b ∈ ch, (b ∈ X.ex ∨ X.s₀.heap.objs.size <= b) /\ b ≠ X.env.locals /\ (∀ x c, X.env.cells.lookup x = some c -> c ≠ b) /\ ∀ p ∈ X.pn ++ pins, p.1 ≠ b)
    (keep : ∀ b o, b ≠ X.env.locals -> b ∉ X.fs -> b ∉ ch -> s.heap.get? b = some o -> H b = none -> h'.get? b = some o)
    (slot : ∀ b o, b ≠ X.env.locals -> b ∈ X.fs -> b ∉ ch -> s.heap.get? b = some o -> H b = none -> ∃ sl, h'.get? b = some { o with slots:=sl }) (free : ∀ b o, b ∉ ch -> s.heap.get? b = some o -> H b = none -> H' b = none)
    (there : ∀ b o, b ∉ ch -> s.heap.get? b = some o -> ∃ o', h'.get? b = some o')
    (tups : ∀ b xs, H b = some (.tup xs) -> H' b = some (.tup xs)) (frzs : ∀ b o u, H b = some (.frz o u) -> H' b = some (.frz o u)) (tbls : ∀ b ps, H b = some (.tbl ps) -> ∃ more, H' b = some (.tbl (ps ++ more)))
    (ns : ∀ m, s.heap.Ns X.env.locals m -> h'.Ns X.env.locals m) (hok : HOk X.prog X.w H' h') (hg : AllBare g') :
    Inv X pins σ H' { s with heap:=h', gens:=g', drawn:=d', toks:=t' }:=by
  have neL : ∀ b o, X.s₀.heap.get? b = some o -> b ≠ X.env.locals:=λb o e=>Nat.ne_of_lt (Nat.lt_of_lt_of_le (Heap.lt_size e) I.ok.above)
  have neC : ∀ b o, X.s₀.heap.get? b = some o -> b ∉ X.ex -> b ∉ ch:=λb o e hx hb=>by
    rcases (hch b hb).1 with z | z
    . exact hx z
    . exact absurd (Nat.lt_of_lt_of_le (Heap.lt_size e) z) (Nat.lt_irrefl _)
  have cellK : ∀ x c, X.env.cells.lookup x = some c -> ∀ v, s.heap.IsCell c v -> h'.IsCell c v:=λx c e v ⟨o, ho, hd⟩=>by
    have nch : c ∉ ch:=λz=>(hch c z).2.2.1 x c e rfl
    by_cases hc : c ∈ X.fs
    . obtain ⟨sl, q⟩ := slot c o (I.cne x c e) hc nch ho (I.freeC x c e)
      exact ⟨_, q, hd⟩
    . exact ⟨o, keep c o (I.cne x c e) hc nch ho (I.freeC x c e), hd⟩
  refine ⟨I.ok, I.os, hg, ⟨λb o e n hb hx=>?_, λb o e n hb hx=>?_, λb o e n hx=>?_, λb o e hx=>?_, λb xs e=>tups b xs (I.base.tups b xs e), λb o xs e=>frzs b o xs (I.base.frzs b o xs e), λb ps e=>?_⟩, ?_, λx c e=>?_, ?_, λx c e=>?_, λp hp=>?_, hok, I.len⟩
  . exact keep b o (neL b o e) hb (neC b o e hx) (I.base.keep b o e n hb hx) (I.base.free b o e n hx)
  . obtain ⟨sl, e1⟩ := I.base.slot b o e n hb hx
    obtain ⟨sl', e2⟩:=slot b _ (neL b o e) hb (neC b o e hx) e1 (I.base.free b o e n hx)
    exact ⟨sl', e2⟩
  . obtain ⟨o', e1⟩ := I.base.there b o e hx
    exact free b o' (neC b o e hx) e1 (I.base.free b o e n hx)
  . obtain ⟨o', e1⟩ := I.base.there b o e hx
    exact there b o' (neC b o e hx) e1
  . obtain ⟨m1, e1⟩ := I.base.tbls b ps e
    obtain ⟨m2, e2⟩:=tbls b _ e1
    exact ⟨m1 ++ m2, by rw [e2, Array.append_assoc]⟩
  . obtain ⟨m, hn, hl⟩ := I.loc
    refine ⟨m, ns m hn, λi x v e1 e2 e3=>?_⟩
    obtain ⟨u, r, l⟩:=hl i x v e1 e2 e3
    refine ⟨u, r, ?_⟩
    rcases l with l | ⟨k, c, e, z⟩
    . exact .inl l
    . exact .inr ⟨k, c, e, cellK x c e _ z⟩
  . obtain ⟨v, z⟩ := I.cell x c e
    exact ⟨v, cellK x c e v z⟩
  . obtain ⟨m, ⟨o, _, _, ho, _⟩, _⟩ := I.loc
    exact free _ o (λz=>(hch _ z).2.1 rfl) ho I.free
  . obtain ⟨v, o, ho, hd⟩ := I.cell x c e
    exact free c o (λz=>(hch c z).2.2.1 x c e rfl) ho (I.freeC x c e)
  . obtain ⟨e, n, ne, nf, d⟩ := I.pin p hp
    have nch : p.1 ∉ ch:=λz=>(hch p.1 z).2.2.2 p hp rfl
    exact ⟨keep p.1 p.2 ne nf nch e n, free p.1 p.2 nch e n, ne, nf, d⟩
theorem Inv.un {t' : Nat} (I : Inv X pins σ H s) (u : Un X.fs [] H H' s.heap h') (hok : HOk X.prog X.w H' h') : Inv X pins σ H' { s with heap:=h', toks:=t' }:=by
  obtain ⟨m, ⟨o, es, ep, ho, r⟩, _⟩:=id I.loc
  obtain ⟨sl, hL⟩:=u.any ho I.free (by simp)
  exact I.step (g':=s.gens) (d':=s.drawn) (ch:=[]) (λ_ z=>nomatch z) (λb o _ hb _ e n=>u.keep b o e n hb (by simp)) (λb o _ hb _ e n=>u.slot b o e n hb (by simp)) (λb o _ e n=>u.free b o e n (by simp)) (λb o _ e=>u.there b o e (by simp)) u.tups u.frzs u.tbls (λm' hm=>by
    obtain ⟨o', es', ep', ho', r'⟩:=hm
    rw [ho] at ho'; cases ho'
    exact ⟨_, es', ep', hL, r'⟩) hok I.bare
theorem Inv.call {g' : Array GenState} {t' : Nat} {d' : Drawn} {ch : List Addr} (I : Inv X pins σ H s) (u : Un (frs X.stack) ch H H' s.heap h') (hok : HOk X.prog X.w H' h') (hg : AllBare g')
    (hch : ∀ b ∈ ch, (b ∈ X.ex ∨ X.s₀.heap.objs.size <= b) /\ b ≠ X.env.locals /\ (∀ x c, X.env.cells.lookup x = some c -> c ≠ b) /\ ∀ p ∈ X.pn ++ pins, p.1 ≠ b) :
    Inv X pins σ H' { s with heap:=h', gens:=g', drawn:=d', toks:=t' }:=by
  obtain ⟨m, ⟨o, es, ep, ho, r⟩, _⟩:=id I.loc
  obtain ⟨sl, hL⟩:=u.any ho I.free λz=>(hch _ z).2.1 rfl
  exact I.step (ch:=ch) hch (λb o hL hb hc e n=>u.keep b o e n (λz=>(List.mem_cons.mp (I.stkSub b z)).elim hL hb) hc) (λb o _ _ hc e n=>u.any e n hc) (λb o hc e n=>u.free b o e n hc) (λb o hc e=>u.there b o e hc) u.tups u.frzs u.tbls (λm' hm=>by
    obtain ⟨o', es', ep', ho', r'⟩:=hm
    rw [ho] at ho'; cases ho'
    exact ⟨_, es', ep', hL, r'⟩) hok hg
theorem Inv.turned {t' : Nat} {it : Addr} (I : Inv X pins σ H s) (k : ∀ b o, b ≠ it -> s.heap.get? b = some o -> h'.get? b = some o) (hn : H it = none) (hL : it ≠ X.env.locals)
    (h1 : it ∈ X.ex ∨ X.s₀.heap.objs.size <= it) (h2 : ∀ x c, X.env.cells.lookup x = some c -> c ≠ it) (h3 : ∀ p ∈ X.pn ++ pins, p.1 ≠ it) : Inv X pins σ H { s with heap:=h', toks:=t' }:=by
  have nit : ∀ b u, H b = some u -> b ≠ it:=λb u e z=>by rw [z, hn] at e; cases e
  refine I.step (g':=s.gens) (d':=s.drawn) (ch:=[it]) (λb hb=>?_) (λb o _ _ hc e _=>k b o (λz=>hc (by simp [z])) e) (λb o _ _ hc e _=>⟨o.slots, k b o (λz=>hc (by simp [z])) e⟩) (λ_ _ _ _ n=>n)
    (λb o hc e=>⟨o, k b o (λz=>hc (by simp [z])) e⟩) (λ_ _ e=>e) (λ_ _ _ e=>e) (λb ps e=>⟨#[], by rw [e]; simp⟩) (λm hm=>?_) (λb u e=>?_) I.bare
  . have e : b = it := by simpa using hb
    subst e
    exact ⟨h1, hL, h2, h3⟩
  . obtain ⟨o, es, ep, ho, r⟩ := hm
    exact ⟨o, es, ep, k _ o (Ne.symm hL) ho, r⟩
  . refine (I.hok b u e).stay (λc v hc q => k c v ?_ q) (λ_ q => q) λ_ _ q => q
    rcases hc with z | z
    . rw [z]; exact nit b u e
    . exact nit c _ z
theorem Inv.tok (I : Inv X pins σ H s) (t : Nat) : Inv X pins σ H { s with toks:=t }:=I.un (h':=s.heap) (t':=t) Un.refl I.hok
theorem Inv.kept {t' : Nat} (I : Inv X pins σ H s) (k : ∀ b u, s.heap.get? b = some u -> h'.get? b = some u) : Inv X pins σ H { s with heap:=h', toks:=t' }:=I.un (Un.kept k) (I.hok.kept k)
theorem Inv.laid {a : Addr} {o : HO} {t' : Nat} (I : Inv X pins σ H s) (k : ∀ b u, s.heap.get? b = some u -> h'.get? b = some u) (hp : s.heap.objs.size <= a) (new : YW X.prog X.w (upd H a o) h' a o) :
    Inv X pins σ (upd H a o) { s with heap:=h', toks:=t' }:=I.un (Un.laid k hp (I.hok.fresh hp)) (I.hok.laid k hp new)
theorem Inv.write {x e : Addr} {o : HO} {t' : Nat} (I : Inv X pins σ H s) (mu : Mut (H x)) (he : e = x ∨ H e = some (.own x)) (k : ∀ b u, b ≠ e -> s.heap.get? b = some u -> h'.get? b = some u) (heo : ∃ u, h'.get? e = some u)
    (new : YW X.prog X.w (upd H x o) h' x o) : Inv X pins σ (upd H x o) { s with heap:=h', toks:=t' }:=I.un (Un.write mu he k heo) (I.hok.write mu he k heo new)
theorem Inv.weak {σ' : List (Option V)} (I : Inv X pins σ H s) (hl : σ'.length = σ.length) (w : ∀ (i : Nat) v, σ'[i]? = some (some v) -> σ[i]? = some (some v)) : Inv X pins σ' H s:=
  ⟨I.ok, I.os, I.bare, I.base, let ⟨m, hn, hl'⟩:=I.loc; ⟨m, hn, λi x v e1 e2 e3=>hl' i x v e1 (w i v e2) e3⟩, I.cell, I.free, I.freeC, I.pin, I.hok, hl.trans I.len⟩
theorem Inv.pins_of {pins' : List (Addr × Obj)} (I : Inv X pins σ H s) (h : ∀ p ∈ pins', s.heap.get? p.1 = some p.2 /\ H p.1 = none /\ p.1 ≠ X.env.locals /\ p.1 ∉ X.fs /\ ∀ v, p.2.data ≠ .cell v) : Inv X pins' σ H s:=
  ⟨I.ok, I.os, I.bare, I.base, I.loc, I.cell, I.free, I.freeC, λp hp=>(List.mem_append.mp hp).elim (λz=>I.pin p (List.mem_append_left _ z)) (h p), I.hok, I.len⟩
theorem Fc {N : List Str} (hN : N.Nodup) {i j : Nat} {x : Str} (a : N[i]? = some x) (b : N[j]? = some x) : i = j:=by
  obtain ⟨h1, e1⟩:=List.getElem?_eq_some_iff.mp a
  obtain ⟨h2, e2⟩:=List.getElem?_eq_some_iff.mp b
  exact (List.getElem_inj hN).mp (e1.trans e2.symm)
theorem Kg {M : Model} {A : Around} {E : Value -> Shared -> Prop} {i : Nat} {x : Str} {v : V} {u : Value} {Q : Unit -> Shared -> Prop} (I : Inv X pins σ H s) (hN : X.N.Nodup) (hi : X.N[i]? = some x) (hx : Loc X.env.scope x) (r : Yl v u)
    (h : ∀ s', Inv X pins (σ.set i (some v)) H s' -> (∃ a, Heap.SameBut a s.heap s'.heap /\ (a = X.env.locals ∨ X.env.cells.lookup x = some a)) -> Q () s') (hf : X.fn x = true ∨ X.env.scope.names.lookup x = some .local:=by first | exact .inl rfl | exact .inr rfl | assumption) : wpAny M A (storeName X.env x u) Q E s:=by
  obtain ⟨m, hn, hl⟩:=id I.loc
  have hcls : (X.env.scope.kind == .class || (X.env.scope.kind == .module && X.env.locals != X.env.globals)) = false:=by rw [I.ok.kind]; rfl
  have hiσ : i < σ.length:=by rw [I.len]; exact (List.getElem?_eq_some_iff.mp hi).1
  have cne:=I.cne
  have tracked : ∀ {a : Addr} {h' : Heap}, (∃ o, s.heap.get? a = some o /\ H a = none) -> Heap.SameBut a s.heap h' -> HOk X.prog X.w H h':=fun {a h'} ha hs b ob e=>by
    obtain ⟨_, _, hfree⟩:=ha
    refine (I.hok b ob e).stay (λc w' hc q=>(hs.2 c ?_).trans q) (λ_ q=>q) λ_ _ q=>q
    rintro rfl
    rcases hc with rfl | hc
    . rw [hfree] at e; cases e
    . rw [hfree] at hc; cases hc
  rcases hx with hk | hk
  . refine wpAny_storeName_local hk hn (λh' hn' hs => ?_) hcls
    obtain ⟨oL, _, _, hoL, _⟩:=id hn
    refine h _ ⟨I.ok, I.os, I.bare, ⟨λb o e n hb hx=>?_, λb o e n hb hx=>?_, I.base.free, λb o e hx=>?_, I.base.tups, I.base.frzs, I.base.tbls⟩, ⟨_, hn', λj y v' e1 e2 e3=>?_⟩, λy c e=>?_, I.free, I.freeC, λp hp=>?_, tracked ⟨oL, hoL, I.free⟩ hs, by simpa using I.len⟩ ⟨_, hs, .inl rfl⟩
    . exact (hs.2 b (Nat.ne_of_lt (Nat.lt_of_lt_of_le (Heap.lt_size e) I.ok.above))).trans (I.base.keep b o e n hb hx)
    . obtain ⟨sl, e1⟩ := I.base.slot b o e n hb hx
      exact ⟨sl, (hs.2 b (Nat.ne_of_lt (Nat.lt_of_lt_of_le (Heap.lt_size e) I.ok.above))).trans e1⟩
    . obtain ⟨o', e1⟩ := I.base.there b o e hx
      exact ⟨o', (hs.2 b (Nat.ne_of_lt (Nat.lt_of_lt_of_le (Heap.lt_size e) I.ok.above))).trans e1⟩
    . by_cases hj : j = i
      . subst hj
        rw [hi] at e1; cases e1
        rw [List.getElem?_set_self hiσ] at e2
        cases e2
        exact ⟨u, r, .inl ⟨hk, by simp⟩⟩
      . rw [List.getElem?_set_ne (Ne.symm hj)] at e2
        obtain ⟨u', r', q⟩:=hl j y v' e1 e2 e3
        refine ⟨u', r', ?_⟩
        rcases q with ⟨k, e⟩ | ⟨k, c, e, z⟩
        . refine .inl ⟨k, ?_⟩
          have : y ≠ x:=λe=>hj (Fc hN e1 (e ▸ hi))
          simp [this, e]
        . exact .inr ⟨k, c, e, z.sameBut hs (cne y c e)⟩
    . obtain ⟨w', z⟩ := I.cell y c e
      exact ⟨w', z.sameBut hs (cne y c e)⟩
    . obtain ⟨e, n, ne, nf, d⟩ := I.pin p hp
      exact ⟨(hs.2 p.1 ne).trans e, n, ne, nf, d⟩
  . have hfn : X.fn x = true:=by
      rcases hf with z | z
      . exact z
      . rw [z] at hk; cases hk
    obtain ⟨c, hc⟩:=I.ok.has x (.inl hk)
    obtain ⟨w', z⟩:=I.cell x c hc
    refine wpAny_storeName_cell I.ok.kind hk hc z (λh' hc' hs=>?_)
    obtain ⟨oc, hoc, hocd⟩:=id z
    refine h { s with heap:=h' } ⟨I.ok, I.os, I.bare, ⟨λb o e n hb hx=>?_, λb o e n hb hx=>?_, I.base.free, λb o e hx=>?_, I.base.tups, I.base.frzs, I.base.tbls⟩, ⟨m, hn.sameBut hs (Ne.symm (cne x c hc)), λj y v' e1 e2 e3=>?_⟩, λy c' e=>?_, I.free, I.freeC, λp hp=>?_, tracked ⟨oc, hoc, I.freeC x c hc⟩ hs, by simpa using I.len⟩ ⟨c, hs, .inr hc⟩
    . exact (hs.2 b (Nat.ne_of_lt (Nat.lt_of_lt_of_le (Heap.lt_size e) (I.ok.cab x c hfn hc)))).trans (I.base.keep b o e n hb hx)
    . obtain ⟨sl, e1⟩ := I.base.slot b o e n hb hx
      exact ⟨sl, (hs.2 b (Nat.ne_of_lt (Nat.lt_of_lt_of_le (Heap.lt_size e) (I.ok.cab x c hfn hc)))).trans e1⟩
    . obtain ⟨o', e1⟩ := I.base.there b o e hx
      exact ⟨o', (hs.2 b (Nat.ne_of_lt (Nat.lt_of_lt_of_le (Heap.lt_size e) (I.ok.cab x c hfn hc)))).trans e1⟩
    . by_cases hj : j = i
      . subst hj
        rw [hi] at e1; cases e1
        rw [List.getElem?_set_self hiσ] at e2
        cases e2
        exact ⟨u, r, .inr ⟨.inl hk, c, hc, hc'⟩⟩
      . rw [List.getElem?_set_ne (Ne.symm hj)] at e2
        obtain ⟨u', r', q⟩:=hl j y v' e1 e2 e3
        refine ⟨u', r', ?_⟩
        rcases q with q | ⟨k, c', e, z'⟩
        . exact .inl q
        . refine .inr ⟨k, c', e, z'.sameBut hs ?_⟩
          rintro rfl
          exact hj (Fc hN e1 (I.ok.inj _ _ _ e hc ▸ hi))
    . by_cases hcc : c' = c
      . subst hcc; exact ⟨_, hc'⟩
      . obtain ⟨w2, z2⟩ := I.cell y c' e
        exact ⟨w2, z2.sameBut hs hcc⟩
    . obtain ⟨e, n, ne, nf, d⟩ := I.pin p hp
      refine ⟨(hs.2 p.1 ?_).trans e, n, ne, nf, d⟩
      intro q
      rw [q, hoc] at e
      have q' : oc = p.2:=Option.some.inj e
      exact d w' (by rw [← q']; exact hocd)
theorem Jf {M : Model} {A : Around} {E : Value -> Shared -> Prop} {i : Nat} {x : Str} {v : V} {u : Value} {Q : Unit -> Shared -> Prop} (I : Inv X pins σ H s) (hN : X.N.Nodup) (hi : X.N[i]? = some x) (hx : Loc X.env.scope x) (r : Yl v u)
    (h : ∀ s', Inv X pins (σ.set i (some v)) H s' -> Q () s') (hf : X.fn x = true ∨ X.env.scope.names.lookup x = some .local:=by first | exact .inl rfl | exact .inr rfl | assumption) : wpAny M A (storeName X.env x u) Q E s:=
  Kg I hN hi hx r (λs' I' _=>h s' I') hf
theorem Inv.call' {s' : Shared} {ch : List Addr} (I : Inv X pins σ H s) (ho : s'.os = s.os) (u : Un (frs X.stack) ch H H' s.heap s'.heap) (hok : HOk X.prog X.w H' s'.heap) (hg : AllBare s'.gens)
    (hch : ∀ b ∈ ch, (b ∈ X.ex ∨ X.s₀.heap.objs.size <= b) /\ b ≠ X.env.locals /\ (∀ x c, X.env.cells.lookup x = some c -> c ≠ b) /\ ∀ p ∈ X.pn ++ pins, p.1 ≠ b) : Inv X pins σ H' s':=by
  obtain ⟨h', g', d', t', o'⟩:=s'
  have e : o' = s.os:=ho
  subst e
  exact I.call (g':=g') (t':=t') (d':=d') u hok hg hch
end
noncomputable abbrev XK:=Value -> Option Addr -> Hp -> Prop
noncomputable abbrev St:=List (Option V)
noncomputable abbrev VK:=V -> Hp -> Prop
noncomputable abbrev TE:=St -> Hp -> VK -> Prop
noncomputable abbrev TT:=St -> Hp -> (Bool -> Hp -> Prop) -> Prop
noncomputable abbrev TA:=St -> Hp -> (List V -> Hp -> Prop) -> Prop
structure Ends where
  nx : St -> Hp -> Prop
  rt : VK
  bk : St -> Hp -> Prop:=λ_ _=>False
  ct : St -> Hp -> Prop:=λ_ _=>False
noncomputable abbrev TS:=Ends -> St -> Hp -> Prop
noncomputable def EP (X : Cx) (pins : List (Addr × Obj)) (σ : St) (Q : VK) (u : Value) (s' : Shared) : Prop:=∃ v H', Inv X pins σ H' s' /\ Yl v u /\ Q v H'
noncomputable def TP (X : Cx) (pins : List (Addr × Obj)) (σ : St) (Q : Bool -> Hp -> Prop) (b : Bool) (s' : Shared) : Prop:=∃ H', Inv X pins σ H' s' /\ Q b H'
noncomputable def AP (X : Cx) (pins : List (Addr × Obj)) (σ : St) (Q : List V -> Hp -> Prop) (us : List Value) (s' : Shared) : Prop:=∃ vs H', Inv X pins σ H' s' /\ Yr vs us /\ Q vs H'
noncomputable def SP (X : Cx) (pins : List (Addr × Obj)) (D : Ends) (f : Flow) (s' : Shared) : Prop:=
  match f with
  | .next=>∃ σ' H', Inv X pins σ' H' s' /\ D.nx σ' H'
  | .brk=>∃ σ' H', Inv X pins σ' H' s' /\ D.bk σ' H'
  | .cont=>∃ σ' H', Inv X pins σ' H' s' /\ D.ct σ' H'
  | .ret u=>∃ v σ' H', Inv X pins σ' H' s' /\ Yl v u /\ D.rt v H'
noncomputable def PE (X : Cx) (e : Expr) (t : TE) : Prop:=
  ∀ (pins : List (Addr × Obj)) (s : Shared) (σ : St) (H : Hp) (Q : VK), Inv X pins σ H s -> t σ H Q -> wpAny (model X.prog X.w) X.A (eval e X.env) (EP X pins σ Q) X.xe s
noncomputable def PT (X : Cx) (e : Expr) (t : TT) : Prop:=
  ∀ (pins : List (Addr × Obj)) (s : Shared) (σ : St) (H : Hp) (Q : Bool -> Hp -> Prop), Inv X pins σ H s -> t σ H Q -> wpAny (model X.prog X.w) X.A (isTrue e X.env (eval e X.env)) (TP X pins σ Q) X.xe s
noncomputable def PW (X : Cx) (e : Expr) (t : TT) : Prop:=
  ∀ (whole : Sem Value) (pins : List (Addr × Obj)) (s : Shared) (σ : St) (H : Hp) (Q : Bool -> Hp -> Prop), Inv X pins σ H s -> t σ H Q -> wpAny (model X.prog X.w) X.A (isTrue e X.env whole) (TP X pins σ Q) X.xe s
theorem PW.pt {X : Cx} {e : Expr} {t : TT} (h : PW X e t) : PT X e t:=h _
noncomputable def PA (X : Cx) (es : List Expr) (t : TA) : Prop:=
  ∀ (pos : Pos) (pins : List (Addr × Obj)) (s : Shared) (σ : St) (H : Hp) (Q : List V -> Hp -> Prop), Inv X pins σ H s -> t σ H Q -> wpAny (model X.prog X.w) X.A (spliced (backTo pos (starEach es X.env))) (AP X pins σ Q) X.xe s
noncomputable def PS (X : Cx) (st : Stmt) (t : TS) : Prop:=
  ∀ (pins : List (Addr × Obj)) (s : Shared) (σ : St) (H : Hp) (D : Ends), Inv X pins σ H s -> t D σ H -> wpAny (model X.prog X.w) X.A (exec st X.env) (SP X pins D) X.xe s
noncomputable def PSs (X : Cx) (st : List Stmt) (t : TS) : Prop:=
  ∀ (pins : List (Addr × Obj)) (s : Shared) (σ : St) (H : Hp) (D : Ends), Inv X pins σ H s -> t D σ H -> wpAny (model X.prog X.w) X.A (execs st X.env) (SP X pins D) X.xe s
theorem thn {α : Type} {t : Sem α} {Q Q' : α -> Shared -> Prop} {M : Model} {A : Around} {E : Value -> Shared -> Prop} {s : Shared} (h : wpAny M A t Q E s) (hQ : ∀ a s, Q a s -> Q' a s) : wpAny M A t Q' E s:=wpAny_mono h hQ λ_ _ x=>x
section
variable {X : Cx}
noncomputable def Uw (i : Nat) : TE:=λσ H Q=>∃ v, σ[i]? = some (some v) /\ Q v H
noncomputable def tC (v : V) : TE:=λ_ H Q=>Q v H
theorem Lq {i : Nat} {x : Str} {pos : Pos} (hN : X.N[i]? = some x) (hv : Vis X.env.scope x) (hd : (x == ("__debug__" : Str)) = false:=by decide) (hcd : (x == ("__classdict__" : Str)) = false:=by decide) : PE X (.Name x pos) (Uw i):=by
  intro pins s σ H Q I h
  obtain ⟨v, e, h⟩:=h
  obtain ⟨m, hn, hl⟩:=I.loc
  obtain ⟨u, r, l⟩:=hl i x v hN e hv
  have fin : EP X pins σ Q u s:=⟨v, H, I, r, h⟩
  rcases l with ⟨hk, hm⟩ | ⟨hk, c, hc, hcell⟩
  . exact wpAny_Name (wpAny_loadName_local I.ok.kind hk hn hm fin) hd
  . rcases hk with hk | hk
    . exact wpAny_Name (wpAny_loadName_cell I.ok.kind hk hc hcell fin) hd
    . exact wpAny_Name (wpAny_loadName_free I.ok.kind hk hc hcell fin hcd) hd
theorem Xh {i j pos} : PE X (.Constant (.int i) j pos) (tC (.int i)):=λ_ _ _ H _ I h=>wpAny_Constant_int ⟨.int i, H, I.tok _, ⟨_, rfl⟩, h⟩
theorem Zj {b j pos} : PE X (.Constant (.bool b) j pos) (tC (.bl b)):=λ_ _ _ H _ I h=>Constant_bool ⟨.bl b, H, I, rfl, h⟩
noncomputable def Gl (X : Cx) (x : Str) : Prop:=X.env.kindOf x = some .globalImplicit
theorem Cv {E : Value -> Shared -> Prop} {pins : List (Addr × Obj)} {s : Shared} {σ : St} {H : Hp} {x : Str} {u : Value} {pos : Pos} {Q : Value -> Shared -> Prop} (I : Inv X pins σ H s) (hg : Gl X x) (hm : X.mg x = some u) (h : Q u s)
    (hd : (x == ("__debug__" : Str)) = false:=by decide) : wpAny (model X.prog X.w) X.A (eval (.Name x pos) X.env) Q E s:=
  Calls.Name_function_global I.ok.kind hg (Calls.loadGlobal_global (by rw [I.ok.glob]; exact I.mod.glob.keeps I.bk) hm h) hd
theorem Vy {E : Value -> Shared -> Prop} {pins : List (Addr × Obj)} {s : Shared} {σ : St} {H : Hp} {x : Str} {u : Value} {pos : Pos} {Q : Value -> Shared -> Prop} (I : Inv X pins σ H s) (hg : Gl X x) (hm : X.mg x = none) (hv : bootBuiltins x = some u) (h : Q u s)
    (hn : x ≠ "__name__":=by decide) (hd : (x == ("__debug__" : Str)) = false:=by decide) : wpAny (model X.prog X.w) X.A (eval (.Name x pos) X.env) Q E s:=by
  obtain ⟨mb, h1, h2⟩:=I.mod.blt
  exact Calls.Name_function_global I.ok.kind hg (Calls.loadGlobal_builtin (by rw [I.ok.glob]; exact I.mod.glob.keeps I.bk) hm (by rw [I.ok.blt]; exact h1.keeps I.bk) ((h2 x hn).trans hv) h) hd
theorem HC {x : Str} {v : V} {u : Value} {pos : Pos} (hg : Gl X x) (hm : X.mg x = some u) (r : Yl v u) (hd : (x == ("__debug__" : Str)) = false:=by decide) : PE X (.Name x pos) (tC v):=
  λ_ _ _ H _ I h=>Cv I hg hm ⟨v, H, I, r, h⟩ hd
theorem Jt {x : Str} {v : V} {u : Value} {pos : Pos} (hg : Gl X x) (hm : X.mg x = none) (hv : bootBuiltins x = some u) (r : Yl v u) (hn : x ≠ "__name__":=by decide) (hd : (x == ("__debug__" : Str)) = false:=by decide) : PE X (.Name x pos) (tC v):=
  λ_ _ _ H _ I h=>Vy I hg hm hv ⟨v, H, I, r, h⟩ hn hd
variable {a b : Expr} {ta tb : TE} {pos : Pos}
noncomputable def PC (X : Cx) (op : CmpOp) (a b : Expr) (t : TE) : Prop:=
  ∀ (pins : List (Addr × Obj)) (s : Shared) (σ : St) (H : Hp) (Q : VK), Inv X pins σ H s -> t σ H Q ->
    wpAny (model X.prog X.w) X.A (eval a X.env) (λv s₁=>wpAny (model X.prog X.w) X.A (eval b X.env) (λu s₂=>wpAny (model X.prog X.w) X.A (compareOp op v u) (EP X pins σ Q) X.xe s₂) X.xe s₁) X.xe s
noncomputable def tB (t : TE) : TT:=λσ H Q=>t σ H λx H1=>∃ c, x = .bl c /\ Q c H1
theorem LN {op : CmpOp} {t : TE} (h : PC X op a b t) (h1 : behindInMarks op b = false:=by first | exact nobehind _ (by decide) (by decide) | rfl) : PT X (.Compare a [op] [b] pos) (tB t):=by
  intro pins s σ H Q I hw
  refine wpAny_isTrue_Compare1 (thn (h pins s σ H _ I hw) λv s1 h1=>thn h1 λu s2 h2=>thn h2 λc s3 r9=>?_) h1
  obtain ⟨x, H1, I1, r1, q1⟩:=r9
  obtain ⟨d, rfl, q⟩:=q1
  cases r1
  exact wpAny_truthy_bool ⟨H1, I1, q⟩
theorem ZK {e : Expr} {t : TE} (h : PE X e t) (he : ∀ whole, isTrue e X.env whole = (do let v ← whole; standAt e.pos; holding [v] (truthy v)):=by intro _; rfl) : PT X e (tB t):=by
  intro pins s σ H Q I hw
  refine isTrue_plain (thn (h pins s σ H _ I hw) λv s1 r9=>?_) (he _)
  obtain ⟨x, H1, I1, r1, q1⟩:=r9
  obtain ⟨d, rfl, q⟩:=q1
  cases r1
  exact wpAny_truthy_bool ⟨H1, I1, q⟩
variable {tA tB' : TT} {rest : List Expr}
noncomputable def MR (t u : TT) : TT:=λσ H Q=>t σ H λc H1=>if c = true then u σ H1 Q else Q false H1
noncomputable def tOr (t u : TT) : TT:=λσ H Q=>t σ H λc H1=>if c = true then Q true H1 else u σ H1 Q
noncomputable def ML (t : TT) : TT:=λσ H Q=>t σ H λc H1=>Q (!c) H1
theorem F7 (ha : PT X a tA) : PW X (.BoolOp .And [a] pos) tA:=by
  intro wh pins s σ H Q I h
  refine isTrue_and (thn (ha pins s σ H Q I h) λc s1 e=>?_)
  cases c with
  | true=>exact isTrue_and_nil e
  | false=>exact e
theorem Uh (ha : PT X a tA) : PW X (.BoolOp .Or [a] pos) tA:=by
  intro wh pins s σ H Q I h
  refine isTrue_or (thn (ha pins s σ H Q I h) λc s1 e=>?_)
  cases c with
  | false=>exact isTrue_or_nil e
  | true=>exact e
theorem EK (ha : PT X a tA) (hb : PW X (.BoolOp .And (b :: rest) pos) tB') : PW X (.BoolOp .And (a :: b :: rest) pos) (MR tA tB'):=by
  intro wh pins s σ H Q I h
  refine isTrue_and (thn (ha pins s σ H _ I h) λc s1 r9=>?_)
  obtain ⟨H1, I1, q1⟩:=r9
  cases c with
  | true=>exact hb wh pins s1 σ H1 Q I1 q1
  | false=>exact ⟨H1, I1, q1⟩
theorem FJ (ha : PT X a tA) (hb : PW X (.BoolOp .Or (b :: rest) pos) tB') : PW X (.BoolOp .Or (a :: b :: rest) pos) (tOr tA tB'):=by
  intro wh pins s σ H Q I h
  refine isTrue_or (thn (ha pins s σ H _ I h) λc s1 r9=>?_)
  obtain ⟨H1, I1, q1⟩:=r9
  cases c with
  | true=>exact ⟨H1, I1, q1⟩
  | false=>exact hb wh pins s1 σ H1 Q I1 q1
theorem Zt (ha : PT X a tA) : PT X (.UnaryOp .Not a pos) (ML tA):=by
  intro pins s σ H Q I h
  exact isTrue_not (ha pins s σ H (λc H1=>Q (!c) H1) I h)
noncomputable def LD (ta tb : TE) : TE:=λσ H Q=>ta σ H λx H1=>∃ c, x = .bl c /\ if c = true then tb σ H1 Q else Q (.bl false) H1
noncomputable def MB (ta tb : TE) : TE:=λσ H Q=>ta σ H λx H1=>∃ c, x = .bl c /\ if c = true then Q (.bl true) H1 else tb σ H1 Q
noncomputable def La (ta : TE) : TE:=λσ H Q=>ta σ H λx H1=>∃ c, x = .bl c /\ Q (.bl (!c)) H1
theorem ES {op} {t : TE} (h : PE X a t) : PE X (.BoolOp op [a] pos) t:=λpins s σ H Q I hw=>BoolOp_one (h pins s σ H Q I hw)
theorem IL (ha : PE X a ta) (hb : PE X (.BoolOp .And (b :: rest) pos) tb) : PE X (.BoolOp .And (a :: b :: rest) pos) (LD ta tb):=by
  intro pins s σ H Q I h
  refine BoolOp_and (thn (ha pins s σ H _ I h) λv s1 r9=>?_)
  obtain ⟨x, H1, I1, r1, q1⟩:=r9
  obtain ⟨c, rfl, q1⟩:=q1
  cases r1
  refine wpAny_truthy_bool ?_
  cases c with
  | true=>exact hb pins s1 σ H1 Q I1 q1
  | false=>exact ⟨.bl false, H1, I1, rfl, q1⟩
theorem Mo (ha : PE X a ta) (hb : PE X (.BoolOp .Or (b :: rest) pos) tb) : PE X (.BoolOp .Or (a :: b :: rest) pos) (MB ta tb):=by
  intro pins s σ H Q I h
  refine BoolOp_or (thn (ha pins s σ H _ I h) λv s1 r9=>?_)
  obtain ⟨x, H1, I1, r1, q1⟩:=r9
  obtain ⟨c, rfl, q1⟩:=q1
  cases r1
  refine wpAny_truthy_bool ?_
  cases c with
  | false=>exact hb pins s1 σ H1 Q I1 q1
  | true=>exact ⟨.bl true, H1, I1, rfl, q1⟩
theorem Lo (ha : PE X a ta) : PE X (.UnaryOp .Not a pos) (La ta):=by
  intro pins s σ H Q I h
  refine UnaryOp_ (thn (ha pins s σ H _ I h) λv s1 r9=>?_)
  obtain ⟨x, H1, I1, r1, q1⟩:=r9
  obtain ⟨c, rfl, q1⟩:=q1
  cases r1
  exact not_of (wpAny_truthy_bool ⟨.bl (!c), H1, I1, rfl, q1⟩)
noncomputable def tIf (t : TT) (ta tb : TE) : TE:=λσ H Q=>t σ H λc H1=>if c = true then ta σ H1 Q else tb σ H1 Q
theorem B2 {c : Expr} (hc : PT X c tA) (ha : PE X a ta) (hb : PE X b tb) : PE X (.IfExp c a b pos) (tIf tA ta tb):=by
  intro pins s σ H Q I h
  refine wpAny_IfExp (thn (hc pins s σ H _ I h) λd s1 r9=>?_)
  obtain ⟨H1, I1, q1⟩:=r9
  cases d with
  | true=>exact ha pins s1 σ H1 Q I1 q1
  | false=>exact hb pins s1 σ H1 Q I1 q1
end
noncomputable def SqL (K : PySem.W.Frag) (H : Hp) (a : Addr) (xs : List V) : Prop:=
  Rd H a (.lst xs) ∨
    ∃ (o : Obj) (its : Array Value) (n : Nat), K.lookup a = some o /\ o.cls = .type "list" /\ o.dict = none /\ o.data = .seq its n /\ its.size <= sizeLine /\ Yr xs its.toList
noncomputable def SqT (K : PySem.W.Frag) (H : Hp) (a : Addr) (xs : List V) : Prop:=
  Rd H a (.tup xs) ∨
    ∃ (o : Obj) (its : Array Value) (n : Nat), K.lookup a = some o /\ o.cls = .type "tuple" /\ o.data = .seq its n /\ its.size <= sizeLine /\ Yr xs its.toList
noncomputable def M2 : Value -> Option V
  | .none=>some .non
  | .bool b=>some (.bl b)
  | .int i _=>some (.int i)
  | .str x _=>some (.str x)
  | .bytes b _=>some (.byt b)
  | .float b _=>some (.flt b)
  | .ref a=>some (.ref a)
  | .type n=>some (.ty n)
  | _=>none
theorem Yl.abs {x : V} {u : Value} (r : Yl x u) : M2 u = some x:=by
  cases x with
  | non=>cases r; rfl
  | bl _=>cases r; rfl
  | int _=>obtain ⟨t, rfl⟩:=r; rfl
  | str _=>obtain ⟨t, rfl⟩:=r; rfl
  | byt _=>obtain ⟨t, rfl⟩:=r; rfl
  | flt _=>obtain ⟨t, rfl⟩:=r; rfl
  | ref _=>cases r; rfl
  | ty _=>cases r; rfl
theorem Yl.inj {x y : V} {u : Value} (r : Yl x u) (q : Yl y u) : x = y:=Option.some.inj (r.abs.symm.trans q.abs)
theorem Yr.inj : ∀ {xs ys : List V} {us : List Value}, Yr xs us -> Yr ys us -> xs = ys:=fun {xs ys us} p=>by
  induction p generalizing ys with
  | nil=>intro q; cases q; rfl
  | cons r _ ih=>intro q; cases q with | cons r' t'=>rw [r.inj r', ih t']
section
variable {X : Cx} {pins : List (Addr × Obj)} {σ : St} {H : Hp} {s : Shared} {a : Addr} {xs ys : List V}
theorem SqL.of {K : PySem.W.Frag} (h : H a = some (.lst xs)) : SqL K H a xs:=.inl (.inl h)
theorem SqT.of {K : PySem.W.Frag} (h : H a = some (.tup xs)) : SqT K H a xs:=.inl (.inl h)
theorem Inv.list (I : Inv X pins σ H s) (h : SqL X.K H a xs) : ∃ its : List Value, Yr xs its /\ PlainL s.heap a its.toArray /\ xs.length <= sizeLine:=by
  rcases h with h | ⟨o, its, n, hk, hc, hd, hs, hz, r⟩
  . obtain ⟨z, its, n, r, e⟩ := h.ok I.hok
    exact ⟨its, r, ⟨_, n, e, rfl, rfl, rfl⟩, z⟩
  . refine ⟨its.toList, r, ⟨o, n, I.kIn a o hk, hc, hd, by simpa using hs⟩, ?_⟩
    have e:=r.length
    simp only [Array.length_toList] at e
    omega
theorem Inv.tuple (I : Inv X pins σ H s) (h : SqT X.K H a xs) : ∃ its : List Value, Yr xs its /\ IsTup s.heap a its.toArray /\ xs.length <= sizeLine:=by
  rcases h with h | ⟨o, its, n, hk, hc, hs, hz, r⟩
  . obtain ⟨z, its, r, p⟩ := h.ok I.hok
    exact ⟨its, r, p.t, z⟩
  . refine ⟨its.toList, r, ⟨o, I.kIn a o hk, hc, n, by simpa using hs⟩, ?_⟩
    have e:=r.length
    simp only [Array.length_toList] at e
    omega
theorem Inv.list_inj (I : Inv X pins σ H s) (h : SqL X.K H a xs) (h' : SqL X.K H a ys) : xs = ys:=by
  obtain ⟨its, r, ⟨o, n, e, _, _, d⟩, _⟩:=I.list h
  obtain ⟨its', r', ⟨o', n', e', _, _, d'⟩, _⟩:=I.list h'
  rw [e] at e'; cases e'
  rw [d] at d'
  injection d' with d1 _
  have : its = its':=by simpa using congrArg Array.toList d1
  subst this
  exact r.inj r'
theorem Inv.tuple_inj (I : Inv X pins σ H s) (h : SqT X.K H a xs) (h' : SqT X.K H a ys) : xs = ys:=by
  obtain ⟨its, r, ⟨o, e, _, n, d⟩, _⟩:=I.tuple h
  obtain ⟨its', r', ⟨o', e', _, n', d'⟩, _⟩:=I.tuple h'
  rw [e] at e'; cases e'
  rw [d] at d'
  injection d' with d1 _
  have : its = its':=by simpa using congrArg Array.toList d1
  subst this
  exact r.inj r'
end
noncomputable abbrev Cx.wish (X : Cx) (E : Value -> Shared -> Prop) : Cx:={ X with xe:=E }
noncomputable abbrev Cx.nox (X : Cx) : Cx:=X.wish λ_ _=>False
theorem Cx.Ok.wish {X : Cx} (ok : X.Ok) (E : Value -> Shared -> Prop) : (X.wish E).Ok:=
  ⟨ok.mod, ok.kind, ok.glob, ok.blt, ok.above, ok.inj, ok.has, ok.cab, ok.hd, ok.frames, ok.stk, ok.exf, ok.bs, ok.bsz, ok.noex, ok.exfs, ok.funs, ok.frf⟩
theorem Cx.Ok.unwish {X : Cx} {E : Value -> Shared -> Prop} (ok : (X.wish E).Ok) : X.Ok:=
  ⟨ok.mod, ok.kind, ok.glob, ok.blt, ok.above, ok.inj, ok.has, ok.cab, ok.hd, ok.frames, ok.stk, ok.exf, ok.bs, ok.bsz, ok.noex, ok.exfs, ok.funs, ok.frf⟩
section
variable {X : Cx} {pins : List (Addr × Obj)} {σ : St} {H : Hp} {s : Shared} {E : Value -> Shared -> Prop}
theorem Inv.wish (I : Inv X pins σ H s) (E : Value -> Shared -> Prop) : Inv (X.wish E) pins σ H s:=⟨I.ok.wish E, I.os, I.bare, I.base, I.loc, I.cell, I.free, I.freeC, I.pin, I.hok, I.len⟩
theorem Inv.unwish (I : Inv (X.wish E) pins σ H s) : Inv X pins σ H s:=⟨I.ok.unwish, I.os, I.bare, I.base, I.loc, I.cell, I.free, I.freeC, I.pin, I.hok, I.len⟩
theorem SP.unwish {D : Ends} {f : Flow} {s' : Shared} (h : SP (X.wish E) pins D f s') : SP X pins D f s':=by
  cases f with
  | next=>obtain ⟨σ', H', I, q⟩:=h; exact ⟨σ', H', I.unwish, q⟩
  | brk=>obtain ⟨σ', H', I, q⟩:=h; exact ⟨σ', H', I.unwish, q⟩
  | cont=>obtain ⟨σ', H', I, q⟩:=h; exact ⟨σ', H', I.unwish, q⟩
  | ret u=>obtain ⟨v, σ', H', I, r, q⟩:=h; exact ⟨v, σ', H', I.unwish, r, q⟩
theorem PSs.nox {st : List Stmt} {t : TS} (h : PSs X.nox st t) : PSs X st t:=λpins s σ H D I hw=>
  wpAny_mono (h pins s σ H D (I.wish _) hw) (λ_ _ q=>q.unwish) λ_ _ z=>False.elim z
end
section
variable {X : Cx} {st : Stmt} {rest : List Stmt} {t u : TS} {e : Expr} {te : TE} {pos : Pos}
noncomputable def GK : TS:=λD σ H=>D.nx σ H
noncomputable def QF (t u : TS) : TS:=λD σ H=>t { D with nx:=u D } σ H
theorem Xf : PSs X [] GK:=λ_ _ σ H _ I h=>wpAny_execs_nil ⟨σ, H, I, h⟩
theorem Xb (h1 : PS X st t) (h2 : PSs X rest u) : PSs X (st :: rest) (QF t u):=by
  intro pins s σ H D I h
  refine wpAny_execs_cons (thn (h1 pins s σ H { D with nx:=u D } I h) λf s1 q=>?_)
  cases f with
  | next=>
    obtain ⟨σ', H', I', q⟩:=q
    exact h2 pins s1 σ' H' D I' q
  | ret v=>exact q
  | brk=>exact q
  | cont=>exact q
theorem Inv.quiet {pins : List (Addr × Obj)} {σ : St} {H : Hp} {s : Shared} (I : Inv X pins σ H s) : interactive X.env = false:=by simp [interactive, I.ok.kind]
noncomputable def Ga (te : TE) : TS:=λD σ H=>te σ H λ_ H1=>D.nx σ H1
theorem Yh (he : PE X e te) (hs : swapsWith e none pos.line X.env = pure false:=by rfl) : PS X (.Expr e pos) (Ga te):=by
  intro pins s σ H D I h
  exact wpAny_Expr_any (thn (he pins s σ H _ I h) λv s1 r9=>by obtain ⟨x, H1, I1, r1, q1⟩:=r9; exact ⟨σ, H1, I1, q1⟩) I.quiet hs
noncomputable def MH (te : TE) : TS:=λD σ H=>te σ H D.rt
theorem Xz (he : PE X e te) : PS X (.Return (some e) pos) (MH te):=by
  intro pins s σ H D I h
  exact wpAny_Return_some (thn (he pins s σ H _ I h) λv s1 r9=>by obtain ⟨x, H1, I1, r1, q1⟩:=r9; exact ⟨x, σ, H1, I1, r1, q1⟩)
noncomputable def LJ (c : TT) (t u : TS) : TS:=λD σ H=>c σ H λb H1=>if b = true then t D σ H1 else u D σ H1
theorem YC {c : Expr} {a b : List Stmt} {tc : TT} (hc : PT X c tc) (ha : PSs X a t) (hb : PSs X b u) : PS X (.If c a b pos) (LJ tc t u):=by
  intro pins s σ H D I h
  refine wpAny_If (thn (hc pins s σ H _ I h) λd s1 r9=>?_)
  obtain ⟨H1, I1, q1⟩:=r9
  cases d with
  | true=>exact ha pins s1 σ H1 D I1 q1
  | false=>exact hb pins s1 σ H1 D I1 q1
noncomputable def Lh : TS:=λ_ _ _=>False
theorem UD : PS X st Lh:=λ_ _ _ _ _ _ h=>h.elim
end
noncomputable abbrev TG:=V -> St -> Hp -> (St -> Hp -> Prop) -> Prop
noncomputable abbrev TGs:=List V -> St -> Hp -> (St -> Hp -> Prop) -> Prop
noncomputable def PG (X : Cx) (target : Expr) (t : TG) : Prop:=
  ∀ (pins : List (Addr × Obj)) (s : Shared) (σ : St) (H : Hp) (v : V) (u : Value) (Q : St -> Hp -> Prop), Inv X pins σ H s -> Yl v u -> t v σ H Q ->
    wpAny (model X.prog X.w) X.A (assign target X.env u) (λ_ s'=>∃ σ' H', Inv X pins σ' H' s' /\ Q σ' H') X.xe s
noncomputable def PGs (X : Cx) (ts : List Expr) (t : TGs) : Prop:=
  ∀ (pins : List (Addr × Obj)) (s : Shared) (σ : St) (H : Hp) (vs : List V) (us : List Value) (Q : St -> Hp -> Prop), Inv X pins σ H s -> Yr vs us -> t vs σ H Q ->
    wpAny (model X.prog X.w) X.A (assignInOrder ((assignEach ts X.env).map (·.2)) us) (λ_ s'=>∃ σ' H', Inv X pins σ' H' s' /\ Q σ' H') X.xe s
noncomputable abbrev LR:=V -> V -> V -> Hp -> (Hp -> Prop) -> Prop
noncomputable def Mi (X : Cx) (t : LR) : Prop:=
  ∀ (pins : List (Addr × Obj)) (s : Shared) (σ : St) (H : Hp) (o i v : V) (ov iv u : Value) (Q : Hp -> Prop), Inv X pins σ H s -> Yl o ov -> Yl i iv -> Yl v u -> t o i v H Q ->
    wpAny (model X.prog X.w) X.A (setItem ov iv u) (λ_ s'=>∃ H', Inv X pins σ H' s' /\ Q H') X.xe s
noncomputable abbrev TIp:=V -> V -> Hp -> VK -> Prop
noncomputable def PIp (X : Cx) (op : Operator) (t : TIp) : Prop:=
  ∀ (pins : List (Addr × Obj)) (s : Shared) (σ : St) (H : Hp) (x y : V) (v u : Value) (Q : VK), Inv X pins σ H s -> Yl x v -> Yl y u -> t x y H Q ->
    wpAny (model X.prog X.w) X.A (inplaceOp op v u) (EP X pins σ Q) X.xe s
section
variable {X : Cx} {pos : Pos}
noncomputable def Zd (i : Nat) : TG:=λv σ H Q=>Q (σ.set i (some v)) H
theorem Xm {i : Nat} {x : Str} (hN : X.N.Nodup) (hi : X.N[i]? = some x) (hx : Loc X.env.scope x) (hf : X.fn x = true ∨ X.env.scope.names.lookup x = some .local:=by first | exact .inl rfl | exact .inr rfl | assumption) : PG X (.Name x pos) (Zd i):=by
  intro pins s σ H v u Q I r h
  exact wpAny_assign_Name (Jf I hN hi hx r (λs' I'=>⟨_, H, I', h⟩) hf)
noncomputable def Ic : TGs:=λvs σ H Q=>vs = [] /\ Q σ H
noncomputable def Qr (t : TG) (u : TGs) : TGs:=λvs σ H Q=>∃ v r, vs = v :: r /\ t v σ H λσ' H'=>u r σ' H' Q
theorem YZ : PGs X [] Ic:=by
  intro pins s σ H vs us Q I r h
  obtain ⟨e, h⟩:=h
  subst e
  cases r
  exact assignInOrder_nil ⟨σ, H, I, h⟩
theorem Xt {e : Expr} {es : List Expr} {t : TG} {u : TGs} (h1 : PG X e t) (h2 : PGs X es u)
    (hs : (assignEach (e :: es) X.env).map (·.2) = assign e X.env :: (assignEach es X.env).map (·.2):=by rfl) : PGs X (e :: es) (Qr t u):=by
  intro pins s σ H vs us Q I r h
  obtain ⟨v, vr, e1, h⟩:=h
  subst e1
  cases r with
  | cons r rr=>
    rw [hs]
    refine assignInOrder_cons (thn (h1 pins s σ H _ _ _ I r h) λ_ s1 r9=>?_)
    obtain ⟨σ1, H1, I1, q1⟩:=r9
    exact h2 pins s1 σ1 H1 _ _ Q I1 rr q1
noncomputable def EV (K : PySem.W.Frag) (n : Nat) (t : TGs) : TG:=λv σ H Q=>∃ a xs, v = .ref a /\ SqT K H a xs /\ xs.length = n /\ t xs σ H Q
theorem Z4 {es : List Expr} {k : Nat} {t : TGs} {n : Nat} (hc : X.calm = true) (h : PGs X es t)
    (hn : (assignEach es X.env).length = n:=by rfl) (hst : (assignEach es X.env).findIdx? (·.1) = none:=by rfl) : PG X (.Tuple es k pos) (EV X.K n t):=by
  intro pins s σ H v u Q I r hw
  obtain ⟨a, xs, e1, hq, hl, hw⟩:=hw
  subst e1
  cases r
  obtain ⟨its, rv, ht, hz⟩:=I.tuple hq
  refine assign_Tuple_tuple (I.ok.hd hc) ht (by simp [hn, ← hl, rv.length]) hst λh' hx=>?_
  have I1 : Inv X pins σ H { s with heap:=h' }:=I.kept (t':=s.toks) λb o e=>hx b o (Nat.ne_of_lt (Heap.lt_size e)) e
  exact h pins _ σ H xs _ Q I1 (by simpa using rv) hw
noncomputable def MN (to ti : TE) (t : LR) : TG:=λv σ H Q=>to σ H λo H1=>ti σ H1 λi H2=>t o i v H2 λH3=>Q σ H3
theorem Vf {o i : Expr} {to ti : TE} {t : LR} (ho : PE X o to) (hi : PE X i ti) (hs : Mi X t)
    (ha : ∀ v, assign (.Subscript o i pos) X.env v = (do
      let ov ← holding [v] (eval o X.env)
      let iv ← holding [v, ov] (eval i X.env)
      standAt pos
      holding [v, ov, iv] (setItem ov iv v)
      release [v, ov, iv] []):=by intro _; rfl) : PG X (.Subscript o i pos) (MN to ti t):=by
  intro pins s σ H v u Q I r h
  rw [ha]
  refine wpAny_bind (wpAny_holding (thn (ho pins s σ H _ I h) λov s1 r9=>?_))
  obtain ⟨x, H1, I1, r1, q1⟩:=r9
  refine wpAny_bind (wpAny_holding (thn (hi pins s1 σ H1 _ I1 q1) λiv s2 r9=>?_))
  obtain ⟨y, H2, I2, r2, q2⟩:=r9
  refine wpAny_bind (wpAny_standAt (wpAny_bind (wpAny_holding (thn (hs pins s2 σ H2 x y v ov iv u _ I2 r1 r2 r q2) λ_ s3 r9=>?_))))
  obtain ⟨H3, I3, q3⟩:=r9
  exact wpAny_release ⟨σ, H3, I3, q3⟩
noncomputable def Bq (te : TE) (g : TG) : TS:=λD σ H=>te σ H λx H1=>g x σ H1 D.nx
theorem Qm {tg e : Expr} {te : TE} {g : TG} (he : PE X e te) (hg : PG X tg g) (hs : swapsWithSole [tg] e pos.line X.env = pure false:=by rfl) (hw : swappedStores [tg] e X.env = pure none:=by rfl)
    (h1 : (assignEach [tg] X.env).map (·.2) = [assign tg X.env]:=by rfl) : PS X (.Assign [tg] e pos) (Bq te g):=by
  intro pins s σ H D I h
  refine wpAny_Assign_stores (thn (he pins s σ H _ I h) λv s1 r9=>?_) hs hw
  obtain ⟨x, H1, I1, r1, q1⟩:=r9
  rw [h1]
  exact thn (hg pins s1 σ H1 x v _ I1 r1 q1) λ_ s2 q=>q
theorem Xo {i : Nat} {x : Str} {e : Expr} {te : TE} {pos' : Pos} (hN : X.N.Nodup) (hi : X.N[i]? = some x) (hx : Loc X.env.scope x) (he : PE X e te) (hs : swapsWith e (some (.Name x pos')) pos.line X.env = pure false:=by rfl) (hf : X.fn x = true ∨ X.env.scope.names.lookup x = some .local:=by first | exact .inl rfl | exact .inr rfl | assumption) :
    PS X (.Assign [.Name x pos'] e pos) (Bq te (Zd i)):=by
  intro pins s σ H D I h
  refine wpAny_Assign_Name (thn (he pins s σ H _ I h) λv s1 r9=>?_) hs
  obtain ⟨y, H1, I1, r1, q1⟩:=r9
  exact Jf I1 hN hi hx r1 (λs2 I2=>⟨_, H1, I2, q1⟩) hf
noncomputable def MQ (i j : Nat) (ta : TA) : TS:=λD σ H=>ta σ H λvs H1=>∃ v w, vs = [v, w] /\ D.nx ((σ.set i (some v)).set j (some w)) H1
theorem E1 {i j : Nat} {x y : Str} {a b : Expr} {ta : TA} {px py pt : Pos} {kt k2 pt2} (hc : X.calm = true) (hN : X.N.Nodup) (hi : X.N[i]? = some x) (hj : X.N[j]? = some y) (hij : i ≠ j)
    (hx : X.env.scope.names.lookup x = some .local) (hy : X.env.scope.names.lookup y = some .local) (ha : PA X [a, b] ta)
    (hw : swappedStores [.Tuple [.Name x px, .Name y py] kt pt] (.Tuple [a, b] k2 pt2) X.env = pure (some [x, y]))
    (hs : swapsWithSole [.Tuple [.Name x px, .Name y py] kt pt] (.Tuple [a, b] k2 pt2) pos.line X.env = pure false:=by rfl) :
    PS X (.Assign [.Tuple [.Name x px, .Name y py] kt pt] (.Tuple [a, b] k2 pt2) pos) (MQ i j ta):=by
  intro pins s σ H D I h
  rw [exec_Assign_arm]
  refine wpAny_bind (wpAny_standAt ?_)
  rw [hs]
  refine wpAny_bind (wpAny_pure ?_)
  rw [if_neg (by decide)]
  refine wpAny_bind (Tuple_ (thn (ha _ pins s σ H _ I h) λus s1 r9=>?_))
  obtain ⟨vs, H1, I1, r1, q1⟩:=r9
  obtain ⟨v, w, e1, q1⟩:=q1
  subst e1
  obtain ⟨u1, u2, rfl, rv, rw'⟩ : ∃ u1 u2, us = [u1, u2] /\ Yl v u1 /\ Yl w u2:=by
    cases r1 with
    | cons p q=>
      cases q with
      | cons p' q'=>
        cases q'
        exact ⟨_, _, rfl, p, p'⟩
  refine wpAny_newObj_type ?_ (by show 2 <= sizeLine; decide)
  have I2 : Inv X pins σ H1 { s1 with heap:=s1.heap.push { cls:=.type "tuple", data:=.seq [u1, u2].toArray } }:=I1.kept (t':=s1.toks) λb o e=>Heap.get?_push_of_some _ e
  rw [hw]
  refine wpAny_bind (wpAny_pure ?_)
  show wpAny (model X.prog X.w) X.A (do rule "assign.swapped-stores"; let items ← unpackItems (.ref s1.heap.objs.size) 2 none; assignInOrder [λv=>bindName X.env y v, λv=>bindName X.env x v] items.reverse; pure Flow.next) _ _ _
  refine wpAny_bind (wpAny_rule (wpAny_bind (unpackItems_tuple (items:=#[u1, u2]) (I.ok.hd hc) (IsTup.new s1.heap _) λh' hx'=>?_)))
  have I3:=I2.kept (h':=h') (t':=s1.toks) λb o e=>hx' b o (Nat.ne_of_lt (Heap.lt_size e)) e
  show wpAny _ _ (assignInOrder [λv=>bindName X.env y v, λv=>bindName X.env x v] [u2, u1] >>= λ_=>pure Flow.next) _ _ _
  refine wpAny_bind (assignInOrder_cons (wpAny_bindName (Jf I3 hN hj (.inl hy) rw' (λs2 I4=>?_) (.inr hy))))
  refine assignInOrder_cons (wpAny_bindName (Jf I4 hN hi (.inl hx) rv (λs3 I5=>assignInOrder_nil (wpAny_pure ?_)) (.inr hx)))
  rw [List.set_comm _ _ (Ne.symm hij)] at I5
  exact ⟨_, H1, I5, q1⟩
noncomputable def LY (i : Nat) (te : TE) (ti : TIp) : TS:=λD σ H=>∃ x, σ[i]? = some (some x) /\ te σ H λy H1=>ti x y H1 λz H2=>D.nx (σ.set i (some z)) H2
theorem KN {i : Nat} {x : Str} {e : Expr} {te : TE} {op : Operator} {ti : TIp} {pos' : Pos} (hN : X.N.Nodup) (hi : X.N[i]? = some x) (hx : Loc X.env.scope x) (he : PE X e te) (ho : PIp X op ti) (hf : X.fn x = true ∨ X.env.scope.names.lookup x = some .local:=by first | exact .inl rfl | exact .inr rfl | assumption) :
    PS X (.AugAssign (.Name x pos') op e pos) (LY i te ti):=by
  intro pins s σ H D I h
  obtain ⟨v, e1, h⟩:=h
  obtain ⟨m, hn, hl⟩:=I.loc
  have vis : Vis X.env.scope x:=by rcases hx with k | k; exact .inl k; exact .inr (.inl k)
  obtain ⟨u, r, l⟩:=hl i x v hi e1 vis
  refine wpAny_AugAssign_Name ?_
  have go : wpAny (model X.prog X.w) X.A (eval e X.env) (λw s₂=>wpAny (model X.prog X.w) X.A (inplaceOp op u w) (λr s₃=>wpAny (model X.prog X.w) X.A (storeName X.env x r) (λ_=>SP X pins D .next) X.xe s₃) X.xe s₂) X.xe s:=by
    refine thn (he pins s σ H _ I h) λw s1 r9=>?_
    obtain ⟨y, H1, I1, r1, q1⟩:=r9
    refine thn (ho pins s1 σ H1 v y u w _ I1 r r1 q1) λz s2 r9=>?_
    obtain ⟨zv, H2, I2, r2, q2⟩:=r9
    exact Jf I2 hN hi hx r2 (λs3 I3=>⟨_, H2, I3, q2⟩) hf
  rcases l with ⟨hk, hm⟩ | ⟨hk, c, hc, hcell⟩
  . exact wpAny_loadName_local I.ok.kind hk hn hm go
  . rcases hk with hk | hk
    . exact wpAny_loadName_cell I.ok.kind hk hc hcell go
    . rcases hx with k | k
      . have : X.env.scope.names.lookup x = some .free := hk
        rw [k] at this; cases this
      . have : X.env.scope.names.lookup x = some .free := hk
        rw [k] at this; cases this
noncomputable def LK (to ti te : TE) (tget : V -> V -> Hp -> VK -> Prop) (tip : TIp) (tset : LR) : TS:=λD σ H=>to σ H λo H1=>ti σ H1 λi H2=>tget o i H2 λx H3=>te σ H3 λy H4=>tip x y H4 λz H5=>tset o i z H5 λH6=>D.nx σ H6
noncomputable def MU (X : Cx) (t : V -> V -> Hp -> VK -> Prop) : Prop:=
  ∀ (pins : List (Addr × Obj)) (s : Shared) (σ : St) (H : Hp) (o i : V) (ov iv : Value) (Q : VK), Inv X pins σ H s -> Yl o ov -> Yl i iv -> t o i H Q ->
    wpAny (model X.prog X.w) X.A (getItem ov iv) (EP X pins σ Q) X.xe s
theorem Gx {o i e : Expr} {to ti te : TE} {tget : V -> V -> Hp -> VK -> Prop} {tip : TIp} {tset : LR} {op : Operator} {tpos : Pos} (ho : PE X o to) (hi : PE X i ti) (hg : MU X tget) (he : PE X e te) (hp : PIp X op tip) (hs : Mi X tset)
    (ha : ∀ ov iv new, augStore i ov iv new = (do holding [new, ov, iv] (setItem ov iv new); release [new, ov, iv] []; pure .next):=by intros; rfl) : PS X (.AugAssign (.Subscript o i tpos) op e pos) (LK to ti te tget tip tset):=by
  intro pins s σ H D I h
  refine wpAny_AugAssign_SubscriptAny (thn (ho pins s σ H _ I h) λov s1 r9=>?_) ha
  obtain ⟨x1, H1, I1, r1, q1⟩:=r9
  refine thn (hi pins s1 σ H1 _ I1 q1) λiv s2 r9=>?_
  obtain ⟨x2, H2, I2, r2, q2⟩:=r9
  refine thn (hg pins s2 σ H2 x1 x2 ov iv _ I2 r1 r2 q2) λold s3 r9=>?_
  obtain ⟨x3, H3, I3, r3, q3⟩:=r9
  refine thn (he pins s3 σ H3 _ I3 q3) λv s4 r9=>?_
  obtain ⟨x4, H4, I4, r4, q4⟩:=r9
  refine thn (hp pins s4 σ H4 x3 x4 old v _ I4 r3 r4 q4) λnew s5 r9=>?_
  obtain ⟨x5, H5, I5, r5, q5⟩:=r9
  exact thn (hs pins s5 σ H5 x1 x2 x5 ov iv new _ I5 r1 r2 r5 q5) λ_ s6 r9=>by obtain ⟨H6, I6, q6⟩:=r9; exact ⟨σ, H6, I6, q6⟩
noncomputable def ipI (f : Int -> Int -> Int) : TIp:=λx y H Q=>∃ i j, x = .int i /\ y = .int j /\ Q (.int (f i j)) H
theorem Kw : PIp X .Add (ipI λi j=>i + j):=by
  intro pins s σ H x y v u Q I r1 r2 h
  obtain ⟨i, j, e1, e2, q⟩:=h
  subst e1; subst e2
  obtain ⟨t, rfl⟩:=r1
  obtain ⟨t', rfl⟩:=r2
  exact iadd_int ⟨.int _, H, I.tok _, ⟨_, rfl⟩, q⟩
theorem II : PIp X .Sub (ipI λi j=>i - j):=by
  intro pins s σ H x y v u Q I r1 r2 h
  obtain ⟨i, j, e1, e2, q⟩:=h
  subst e1; subst e2
  obtain ⟨t, rfl⟩:=r1
  obtain ⟨t', rfl⟩:=r2
  exact isub_int ⟨.int _, H, I.tok _, ⟨_, rfl⟩, q⟩
end
section
variable {X : Cx} {pos : Pos}
noncomputable def Ba (c : TT) (tb : TS) : TS:=λD σ H=>∃ W : Nat -> St -> Hp -> Prop, (∃ m, W m σ H) /\ ∀ m σ H, W m σ H ->
  c σ H λb H1=>if b = true then ∃ N : St -> Hp -> Prop, (∀ σ' H', N σ' H' -> ∃ m', m' < m /\ W m' σ' H') /\ tb { D with nx:=N, ct:=N, bk:=D.nx } σ H1 else D.nx σ H1
theorem JY {c : Expr} {body : List Stmt} {tc : TT} {tb : TS} (hp : PassesOwn (model X.prog X.w) X.A X.env X.xe) (hc : PT X c tc) (hb : PSs X body tb) : PS X (.While c body [] pos) (Ba tc tb):=by
  intro pins s σ H D I h
  obtain ⟨W, ⟨m0, w0⟩, turn⟩:=h
  refine wpAny_While (codeAny_whileLoop (λn s'=>∃ σ' H', Inv X pins σ' H' s' /\ W n σ' H') ?_ m0 ⟨σ, H, I, w0⟩)
  rintro n s1 ⟨σ1, H1, I1, w1⟩
  refine wpAny_passesOwn hp (thn (hc pins s1 σ1 H1 _ I1 (turn n σ1 H1 w1)) λb s2 r9=>?_)
  obtain ⟨H2, I2, q2⟩:=r9
  cases b with
  | true=>
    obtain ⟨N, hN, q2⟩:=q2
    rw [if_pos rfl]
    refine wpAny_passesOwn hp (thn (hb pins s2 σ1 H2 _ I2 q2) λf s3 q3=>?_)
    cases f with
    | next=>
      obtain ⟨σ3, H3, I3, n3⟩:=q3
      obtain ⟨m', hm, w3⟩:=hN σ3 H3 n3
      exact ⟨m', hm, σ3, H3, I3, w3⟩
    | cont=>
      obtain ⟨σ3, H3, I3, n3⟩:=q3
      obtain ⟨m', hm, w3⟩:=hN σ3 H3 n3
      exact ⟨m', hm, σ3, H3, I3, w3⟩
    | brk=>exact q3
    | ret v=>exact q3
  | false=>
    rw [if_neg Bool.false_ne_true]
    exact wpAny_execs_nil ⟨σ1, H2, I2, q2⟩
end
structure It where
  go : Nat -> Hp -> Prop
  yld : Nat -> Hp -> V -> Hp -> Prop
  stop : Nat -> Hp -> Prop
noncomputable def GD (X : Cx) (pins : List (Addr × Obj)) (H : Hp) (b : Addr) : Prop:=
  H b = none /\ b ≠ X.env.locals /\ b ∉ X.fs /\ (b ∈ X.ex ∨ X.s₀.heap.objs.size <= b) /\ (∀ x c, X.env.cells.lookup x = some c -> c ≠ b) /\ ∀ p ∈ X.pn ++ pins, p.1 ≠ b
theorem Inv.fpOk {X : Cx} {pins : List (Addr × Obj)} {σ : St} {H H' : Hp} {s : Shared} {b : Addr} (I : Inv X pins σ H s) (hb : s.heap.objs.size <= b) (hn : H' b = none) : GD X pins H' b:=by
  refine ⟨hn, Nat.ne_of_gt (Nat.lt_of_lt_of_le I.lt hb), I.nofs hb, .inr (Nat.le_trans I.sz hb), λx c e z=>?_, λp hp z=>?_⟩
  . obtain ⟨v, q⟩ := I.cell x c e
    exact absurd (Nat.lt_of_lt_of_le q.lt (by rw [z]; exact hb)) (Nat.lt_irrefl _)
  . exact absurd (Nat.lt_of_lt_of_le (Heap.lt_size (I.pin p hp).1) (by rw [z]; exact hb)) (Nat.lt_irrefl _)
structure Turn (P : Program) (w : World) (K : PySem.W.Frag) (tg : Expr) (J : It) (fp : List Addr) (it : Addr) (tn : Nat -> Heap -> Prop) : Prop where
  mem : it ∈ fp
  obj : ∀ i h, tn i h -> ∀ b ∈ fp, ∃ o, h.get? b = some o /\ ∀ v, o.data ≠ .cell v
  keep : ∀ i h h', tn i h -> (∀ b ∈ fp, ∀ o, h.get? b = some o -> h'.get? b = some o) -> tn i h'
  item : ∀ (X : Cx), X.prog = P -> X.w = w -> X.K = K -> X.calm = true -> ∀ (i : Nat) (pins : List (Addr × Obj)) (s : Shared) (σ : St) (H : Hp) (E : Value -> Shared -> Prop), Inv X pins σ H s -> (∀ b ∈ fp, GD X pins H b) -> tn i s.heap -> J.go i H ->
    wpAny (model P w) X.A (pyNext (.ref it)) (λr s1=>∃ u, r = some u /\
      wpAny (model P w) X.A (letOwnedTupleGo tg (.ref it) u) (λ_ s2=>∃ x H', Inv X pins σ H' s2 /\ Yl x u /\ J.yld i H x H' /\ tn (i + 1) s2.heap /\ ∀ b ∈ fp, H' b = none) E s1) E s
  done : ∀ (X : Cx), X.prog = P -> X.w = w -> X.K = K -> X.calm = true -> ∀ (i : Nat) (pins : List (Addr × Obj)) (s : Shared) (σ : St) (H : Hp) (E : Value -> Shared -> Prop), Inv X pins σ H s -> (∀ b ∈ fp, GD X pins H b) -> tn i s.heap -> J.stop i H ->
    wpAny (model P w) X.A (pyNext (.ref it)) (λr s1=>r = none /\ Inv X pins σ H s1) E s
  self : ∀ (A : Around) (i : Nat) (s : Shared) (Q : Value -> Shared -> Prop) (E : Value -> Shared -> Prop), tn i s.heap -> Q (.ref it) s -> wpAny (model P w) A (pyIter (.ref it)) Q E s
noncomputable abbrev TI:=St -> Hp -> (It -> Hp -> Prop) -> Prop
noncomputable def PIE (X : Cx) (pins : List (Addr × Obj)) (σ : St) (tg : Expr) (R : It -> Hp -> Prop) (itv : Value) (s2 : Shared) : Prop:=
  ∃ (it : Addr) (fp : List Addr) (tn : Nat -> Heap -> Prop) (J : It) (H' : Hp), itv = .ref it /\ Inv X pins σ H' s2 /\ Turn X.prog X.w X.K tg J fp it tn /\ tn 0 s2.heap /\ (∀ b ∈ fp, GD X pins H' b) /\ R J H'
noncomputable def PI (X : Cx) (tg iter : Expr) (wi : TI) : Prop:=
  ∀ (pins : List (Addr × Obj)) (s : Shared) (σ : St) (H : Hp) (R : It -> Hp -> Prop), Inv X pins σ H s -> wi σ H R ->
    wpAny (model X.prog X.w) X.A (eval iter X.env) (λv s1=>wpAny (model X.prog X.w) X.A (pyIter v) (PIE X pins σ tg R) X.xe s1) X.xe s
theorem I0 {M : Model} {A : Around} {E : Value -> Shared -> Prop} {s : Shared} {tg : Expr} {it : Addr} {u : Value} {o : Obj} {n : String} {vs : Array Value} {Q : Unit -> Shared -> Prop} (ho : s.heap.get? it = some o) (hc : o.cls = .type n) (hd : o.data = .fields vs)
    (hn : ["enumerate", "zip", "dict_itemiterator", "dict_reverseitemiterator", "odict_iterator", "itertools.zip_longest", "itertools.pairwise"].contains n = false) (hQ : Q () s) : wpAny M A (letOwnedTupleGo tg (.ref it) u) Q E s:=by
  unfold letOwnedTupleGo
  cases tg <;> first
    | exact wpAny_pure hQ
    | (cases u <;> first
        | exact wpAny_pure hQ
        | (refine wpAny_bind (wpAny_load ho ?_)
           rw [hc, hd]
           show wpAny M A (if (["enumerate", "zip", "dict_itemiterator", "dict_reverseitemiterator", "odict_iterator", "itertools.zip_longest", "itertools.pairwise"].contains n && vs[0]? == some (rawInt _)) = true then _ else _) Q E s
           rw [if_neg (by intro h; rw [hn, Bool.false_and] at h; cases h)]
           exact wpAny_pure hQ))
noncomputable def Itl (K : PySem.W.Frag) (a : Addr) : It:=
  ⟨λi H=>∃ xs x, SqL K H a xs /\ xs[i]? = some x, λi H x H'=>H' = H /\ ∀ xs, SqL K H a xs -> xs[i]? = some x, λi H=>∃ xs, SqL K H a xs /\ xs.length <= i⟩
noncomputable def Itr (lo : Int) (n : Nat) : It:=⟨λi _=>i < n, λi H x H'=>H' = H /\ x = .int (lo + i), λi _=>n <= i⟩
theorem C0 {P : Program} {w : World} {K : PySem.W.Frag} {tg : Expr} (a it : Addr) : Turn P w K tg (Itl K a) [it] it (λi h=>h.IsListIter it a i) where
  mem:=by simp
  obj:=λi h st b hb=>by
    have e : b = it:=by simpa using hb
    subst e
    obtain ⟨o, e, c, d⟩:=st
    exact ⟨o, e, λv z=>by rw [d] at z; cases z⟩
  keep:=λi h h' st k=>st.at λo e=>k it (by simp) o e
  item:=by
    intro X hP hw hK hc i pins s σ H E I hf st hg
    subst hP hw hK
    obtain ⟨xs, x, hq, hx⟩:=hg
    obtain ⟨its, rv, p, hz⟩:=I.list hq
    obtain ⟨u, hu, ru⟩:=rv.get hx
    obtain ⟨f0, f1, f2, f3, f4, f5⟩:=hf it (by simp)
    refine wpAny_pyNext_list_item st p.isList (x:=u) (by simpa using hu) λh' st' sb=>?_
    have I1 : Inv X pins σ H { s with heap:=h' }:=I.turned (t':=s.toks) (λb o hb e=>(sb.2 b hb).trans e) f0 f1 f3 f4 f5
    obtain ⟨o, e, c, d⟩:=id st'
    exact ⟨u, rfl, I0 (s:={ s with heap:=h' }) e c d (by decide) ⟨x, H, I1, ru, ⟨rfl, λys hy=>by rw [I.list_inj hy hq]; exact hx⟩, st', λb hb=>(hf b hb).1⟩⟩
  done:=by
    intro X hP hw hK hc i pins s σ H E I hf st hg
    subst hP hw hK
    obtain ⟨xs, hq, hx⟩:=hg
    obtain ⟨its, rv, p, hz⟩:=I.list hq
    obtain ⟨f0, f1, f2, f3, f4, f5⟩:=hf it (by simp)
    have hl:=rv.length
    exact wpAny_pyNext_list_end (I.ok.hd hc) st p.isList (by simp; omega) λh' eb=>⟨rfl, I.turned (t':=s.toks) (λb o hb e=>eb b o hb e) f0 f1 f3 f4 f5⟩
  self:=λ_ _ _ _ _ st h=>wpAny_pyIter_listiter st h
theorem FX {P : Program} {w : World} {K : PySem.W.Frag} {tg : Expr} (it : Addr) (lo : Int) (n : Nat) : Turn P w K tg (Itr lo n) [it] it (λi h=>IsRangeIter h it (lo + (i : Nat) * 1) ((n : Int) - (i : Nat)) 1) where
  mem:=by simp
  obj:=λi h st b hb=>by
    have e : b = it:=by simpa using hb
    subst e
    exact ⟨_, st, λv z=>by
      have z' : Data.fields _ = Data.cell v:=z
      cases z'⟩
  keep:=λi h h' st k=>k it (by simp) _ st
  item:=by
    intro X hP hw hK hc i pins s σ H E I hf st hg
    subst hP hw hK
    obtain ⟨f0, f1, f2, f3, f4, f5⟩:=hf it (by simp)
    have W:=Walks.range (prog:=X.prog) (w:=X.w) (I.ok.hd hc) it lo 1 n
    refine W.item i s _ _ hg st λv h' tk hv st' kk=>?_
    obtain ⟨t, rfl⟩:=hv
    have I1 : Inv X pins σ H { s with heap:=h', toks:=tk }:=I.turned (λb o hb e=>kk b o (by simpa using hb) e) f0 f1 f3 f4 f5
    refine ⟨_, rfl, I0 (s:={ s with heap:=h', toks:=tk }) (n:="range_iterator") st' rfl rfl (by decide) ⟨.int (lo + i), H, I1, ⟨t, ?_⟩, ⟨rfl, rfl⟩, st', λb hb=>(hf b hb).1⟩⟩
    rw [Int.mul_one]
  done:=by
    intro X hP hw hK hc i pins s σ H E I hf st hg
    subst hP hw hK
    obtain ⟨f0, f1, f2, f3, f4, f5⟩:=hf it (by simp)
    exact wpAny_pyNext_range_end (I.ok.hd hc) st (by have : n <= i:=hg; omega) λh' eb=>⟨rfl, I.turned (t':=s.toks) (λb o hb e=>eb b o hb e) f0 f1 f3 f4 f5⟩
  self:=λ_ _ _ _ _ st h=>wpAny_pyIter_rangeiter st h
section
variable {X : Cx} {tg : Expr}
noncomputable def DW (K : PySem.W.Frag) (tl : TE) : TI:=λσ H R=>tl σ H λx H1=>∃ a, x = .ref a /\ (∃ xs, SqL K H1 a xs) /\ R (Itl K a) H1
theorem Ip {l : Expr} {tl : TE} (hl : PE X l tl) : PI X tg l (DW X.K tl):=by
  intro pins s σ H R I h
  refine thn (hl pins s σ H _ I h) λv s1 r9=>?_
  obtain ⟨x, H1, I1, r1, q1⟩:=r9
  obtain ⟨a, e, ⟨xs, hq⟩, q⟩:=q1
  subst e
  cases r1
  obtain ⟨its, rv, p, hz⟩:=I1.list hq
  refine wpAny_pyIter_list p.isList ?_
  refine ⟨s1.heap.objs.size, [s1.heap.objs.size], _, _, H1, rfl, I1.kept (t':=s1.toks) λb o e=>Heap.get?_push_of_some _ e, C0 a _, ⟨_, Heap.get?_push_size _ rfl, rfl, rfl⟩, λb hb=>?_, q⟩
  have e : b = s1.heap.objs.size:=by simpa using hb
  subst e
  exact I1.fpOk (Nat.le_refl _) (I1.hok.fresh (Nat.le_refl _))
theorem G0 {pins : List (Addr × Obj)} {σ : St} {H : Hp} {s : Shared} {R : It -> Hp -> Prop} {E : Value -> Shared -> Prop} {lo hi : Int} {t u v : Tok} {tk : Nat} (I : Inv X pins σ H s) (h1 : -(2 ^ 62) <= lo) (h2 : lo < 2 ^ 62) (h3 : -(2 ^ 62) <= hi) (h4 : hi < 2 ^ 62)
    (q : R (Itr lo (hi - lo).toNat) H) : wpAny (model X.prog X.w) X.A (pyIter (.ref s.heap.objs.size)) (PIE X pins σ tg R) E { s with heap:=s.heap.push { cls:=.type "range", data:=.fields #[.int lo t, .int hi u, .int 1 v] }, toks:=tk }:=by
  refine wpAny_pyIter_range (IsRange.new ..) (small_one h1 h2 h3 h4) ?_
  have I1 : Inv X pins σ H { s with heap:=s.heap.push { cls:=.type "range", data:=.fields #[.int lo t, .int hi u, .int 1 v] }, toks:=tk }:=I.kept λb o e=>Heap.get?_push_of_some _ e
  refine ⟨(s.heap.push { cls:=.type "range", data:=.fields #[.int lo t, .int hi u, .int 1 v] }).objs.size, [(s.heap.push { cls:=.type "range", data:=.fields #[.int lo t, .int hi u, .int 1 v] }).objs.size], _, _, H, rfl,
    I1.kept (t':=tk) λb o e=>Heap.get?_push_of_some _ e, FX _ lo (hi - lo).toNat, ?_, λb hb=>?_, q⟩
  . have e1 : lo + ((0 : Nat) : Int) * 1 = lo := by simp
    have e2 : (((hi - lo).toNat : Nat) : Int) - ((0 : Nat) : Int) = Builtin.Range.rangeSize lo hi 1:=by rw [rangeSize_one]; split <;> omega
    show IsRangeIter _ _ (lo + ((0 : Nat) : Int) * 1) ((((hi - lo).toNat : Nat) : Int) - ((0 : Nat) : Int)) 1
    rw [e1, e2]
    exact Heap.get?_push_size _ rfl
  . have e : b = (s.heap.push { cls := .type "range", data := .fields #[.int lo t, .int hi u, .int 1 v] }).objs.size := by simpa using hb
    subst e
    exact I1.fpOk (Nat.le_refl _) (I1.hok.fresh (Nat.le_refl _))
noncomputable def Lr (ta : TA) : TI:=λσ H R=>ta σ H λvs H1=>∃ j : Int, vs = [.int j] /\ -(2 ^ 62) <= j /\ j < 2 ^ 62 /\ R (Itr 0 j.toNat) H1
noncomputable def Ln (ta : TA) : TI:=λσ H R=>ta σ H λvs H1=>∃ i j : Int, vs = [.int i, .int j] /\ (-(2 ^ 62) <= i /\ i < 2 ^ 62 /\ -(2 ^ 62) <= j /\ j < 2 ^ 62) /\ R (Itr i (j - i).toNat) H1
theorem X1 {a : Expr} {ta : TA} {p pos : Pos} (hg : Gl X "range") (hm : X.mg "range" = none) (ha : PA X [a] ta) (hs : starEach [a] X.env = [(false, eval a X.env)]:=by rfl) : PI X tg (.Call (.Name "range" p) [a] [] pos) (Lr ta):=by
  intro pins s σ H R I h
  refine Call_ (Vy I hg hm boot_range (PyProof.Rows.callWith_type1 (thn (ha pos pins s σ H _ I h) λus s1 r9=>?_) hs rfl))
  obtain ⟨vs, H1, I1, r1, q1⟩:=r9
  obtain ⟨j, e, q1, q2, q⟩:=q1
  subst e
  cases r1 with
  | cons r rr=>
    cases rr
    obtain ⟨t, rfl⟩:=r
    exact call_range_1 (G0 I1 (by omega) (by omega) q1 q2 (by simpa using q))
theorem DS {a b : Expr} {ta : TA} {p pos : Pos} (hg : Gl X "range") (hm : X.mg "range" = none) (ha : PA X [a, b] ta) (hs : starEach [a, b] X.env = [(false, eval a X.env), (false, eval b X.env)]:=by rfl) (hs2 : starEach [b] X.env = [(false, eval b X.env)]:=by rfl) :
    PI X tg (.Call (.Name "range" p) [a, b] [] pos) (Ln ta):=by
  intro pins s σ H R I h
  refine Call_ (Vy I hg hm boot_range (PyProof.Rows.callWith_type1 (thn (ha pos pins s σ H _ I h) λus s1 r9=>?_) (by rw [hs, hs2]) (by rw [hs2]; rfl)))
  obtain ⟨vs, H1, I1, r1, q1⟩:=r9
  obtain ⟨i, j, e, ⟨q1, q2, q3, q4⟩, q⟩:=q1
  subst e
  cases r1 with
  | cons r rr=>
    cases rr with
    | cons r' rr=>
      cases rr
      obtain ⟨t, rfl⟩:=r
      obtain ⟨t', rfl⟩:=r'
      exact call_range_2 (G0 I1 q1 q2 q3 q4 q)
noncomputable def Iz (wi : TI) (g : TG) (tb : TS) : TS:=λD σ H=>wi σ H λJ H1=>∃ W : Nat -> Nat -> St -> Hp -> Prop, (∃ m, W 0 m σ H1) /\ ∀ i m σ H, W i m σ H ->
  (J.stop i H /\ D.nx σ H) ∨ (J.go i H /\ ∃ N : St -> Hp -> Prop, (∀ σ' H', N σ' H' -> ∃ m', m' < m /\ W (i + 1) m' σ' H') /\ ∀ x H', J.yld i H x H' -> g x σ H' λσ2 H2=>tb { D with nx:=N, ct:=N, bk:=D.nx } σ2 H2)
noncomputable def Kd (fp : List Addr) (h : Heap) : List (Addr × Obj):=fp.filterMap λb=>(h.get? b).map λo=>(b, o)
theorem Jo {fp : List Addr} {h : Heap} {b : Addr} {o : Obj} (hb : b ∈ fp) (e : h.get? b = some o) : (b, o) ∈ Kd fp h:=List.mem_filterMap.mpr ⟨b, hb, by rw [e]; rfl⟩
theorem Bl {fp : List Addr} {h : Heap} {p : Addr × Obj} (hp : p ∈ Kd fp h) : p.1 ∈ fp /\ h.get? p.1 = some p.2:=by
  obtain ⟨b, hb, e⟩:=List.mem_filterMap.mp hp
  cases q : h.get? b with
  | none=>rw [q] at e; cases e
  | some o=>
    rw [q] at e
    have e' : (b, o) = p:=Option.some.inj e
    subst e'
    exact ⟨hb, q⟩
theorem Inv.pinned {pins : List (Addr × Obj)} {σ : St} {H : Hp} {s : Shared} {fp : List Addr} (I : Inv X pins σ H s) (hf : ∀ b ∈ fp, GD X pins H b) (ho : ∀ b ∈ fp, ∃ o, s.heap.get? b = some o /\ ∀ v, o.data ≠ .cell v) : Inv X (pins ++ Kd fp s.heap) σ H s:=
  I.pins_of λp hp=>(List.mem_append.mp hp).elim (λz=>I.pin p (List.mem_append_right _ z)) λz=>by
    obtain ⟨hb, e⟩:=Bl z
    obtain ⟨f0, f1, f2, _⟩:=hf p.1 hb
    obtain ⟨o, e', d⟩:=ho p.1 hb
    rw [e] at e'; cases e'
    exact ⟨e, f0, f1, f2, d⟩
theorem Inv.unpinned {pins pl : List (Addr × Obj)} {σ : St} {H : Hp} {s : Shared} (I : Inv X (pins ++ pl) σ H s) : Inv X pins σ H s:=I.pins_of λp hp=>I.pin p (List.mem_append_right _ (List.mem_append_left _ hp))
theorem X9 {iter : Expr} {body : List Stmt} {wi : TI} {g : TG} {tb : TS} {pos : Pos} (hp : PassesOwn (model X.prog X.w) X.A X.env X.xe) (hc : X.calm = true) (hi : PI X tg iter wi) (hg : PG X tg g) (hb : PSs X body tb)
    (hs : ∀ x, foldedSetIterable iter X.env x = pure x:=by intro _; rfl) : PS X (.For tg iter body [] pos) (Iz wi g tb):=by
  intro pins s σ H D I h
  refine wpAny_For (thn (hi pins s σ H _ I h) λv s1 h1=>thn h1 λitv s2 h2=>?_) hs
  obtain ⟨it, fp, tn, J, H2, e, I2, T, st2, f2, W, ⟨m0, w0⟩, turn⟩:=h2
  subst e
  -- what stays true of the iterator's objects through the loop
  have stat : ∀ {H' : Hp}, (∀ b ∈ fp, H' b = none) -> ∀ b ∈ fp, GD X pins H' b:=λhn b hb=>⟨hn b hb, (f2 b hb).2⟩
  refine codeAny_forLoop_any (λn s'=>∃ i σ' H', Inv X pins σ' H' s' /\ tn i s'.heap /\ (∀ b ∈ fp, H' b = none) /\ W i n σ' H') ?_ m0 ⟨0, σ, H2, I2, st2, λb hb=>(f2 b hb).1, w0⟩
  rintro n s3 ⟨i, σ3, H3, I3, st3, fr3, w3⟩
  rcases turn i n σ3 H3 w3 with ⟨stop, qn⟩ | ⟨go, N, hN, step⟩
  . refine wpAny_passesOwn hp (thn (T.done X rfl rfl rfl hc i pins s3 σ3 H3 X.xe I3 (stat fr3) st3 stop) λr s4 r9 => ?_)
    obtain ⟨hr, I4⟩:=r9
    subst hr
    exact wpAny_execs_nil ⟨σ3, H3, I4, qn⟩
  . refine wpAny_passesOwn hp (thn (T.item X rfl rfl rfl hc i pins s3 σ3 H3 X.xe I3 (stat fr3) st3 go) λr s4 r9 => ?_)
    obtain ⟨u, hr, h4⟩:=r9
    subst hr
    refine wpAny_passesOwn hp (thn h4 λ_ s5 r9=>?_)
    obtain ⟨x, H5, I5, r5, y5, st5, fr5⟩:=r9
    have I5':=I5.pinned (stat fr5) (T.obj _ _ st5)
    refine wpAny_passesOwn hp (thn (hg _ s5 σ3 H5 x u _ I5' r5 (step x H5 y5)) λ_ s6 r9=>?_)
    obtain ⟨σ6, H6, I6, q6⟩:=r9
    refine wpAny_passesOwn hp (thn (hb _ s6 σ6 H6 _ I6 q6) λf s7 q7=>?_)
    have again : ∀ {σ7 : St} {H7 : Hp}, Inv X (pins ++ Kd fp s5.heap) σ7 H7 s7 -> N σ7 H7 -> ∃ m, m < n /\ ∃ i σ' H', Inv X pins σ' H' s7 /\ tn i s7.heap /\ (∀ b ∈ fp, H' b = none) /\ W i m σ' H':=fun {σ7 H7} I7 n7=>by
      obtain ⟨m', hm, w7⟩:=hN σ7 H7 n7
      refine ⟨m', hm, i + 1, σ7, H7, I7.unpinned, T.keep _ _ _ st5 λb hb o e=>(I7.pin (b, o) (List.mem_append_right _ (List.mem_append_right _ (Jo hb e)))).1, λb hb=>?_, w7⟩
      obtain ⟨o, e, d⟩:=T.obj _ _ st5 b hb
      exact (I7.pin (b, o) (List.mem_append_right _ (List.mem_append_right _ (Jo hb e)))).2.1
    cases f with
    | next=>obtain ⟨σ7, H7, I7, n7⟩:=q7; exact again I7 n7
    | cont=>obtain ⟨σ7, H7, I7, n7⟩:=q7; exact again I7 n7
    | brk=>obtain ⟨σ7, H7, I7, q7⟩:=q7; exact ⟨σ7, H7, I7.unpinned, q7⟩
    | ret v=>obtain ⟨x7, σ7, H7, I7, r7, q7⟩:=q7; exact ⟨x7, σ7, H7, I7.unpinned, r7, q7⟩
end
theorem G3 {K : PySem.W.Frag} {a : Addr} {xs : List V} {g : TG} {tb : TS} {D : Ends} {σ : St} {H : Hp} (Pv : Nat -> St -> Hp -> Prop) (h0 : Pv 0 σ H) (hl : ∀ i σ H, i <= xs.length -> Pv i σ H -> SqL K H a xs)
    (hs : ∀ i x σ H, xs[i]? = some x -> Pv i σ H -> g x σ H λσ2 H2=>tb { D with nx:=Pv (i + 1), ct:=Pv (i + 1), bk:=D.nx } σ2 H2) (hd : ∀ σ H, Pv xs.length σ H -> D.nx σ H) :
    ∃ W : Nat -> Nat -> St -> Hp -> Prop, (∃ m, W 0 m σ H) /\ ∀ i m σ H, W i m σ H ->
      ((Itl K a).stop i H /\ D.nx σ H) ∨ ((Itl K a).go i H /\ ∃ N : St -> Hp -> Prop, (∀ σ' H', N σ' H' -> ∃ m', m' < m /\ W (i + 1) m' σ' H') /\ ∀ x H', (Itl K a).yld i H x H' -> g x σ H' λσ2 H2=>tb { D with nx:=N, ct:=N, bk:=D.nx } σ2 H2):=by
  refine ⟨λi m σ H=>m = xs.length - i /\ i <= xs.length /\ Pv i σ H, ⟨xs.length, by simp, Nat.zero_le _, h0⟩, ?_⟩
  rintro i m σ H ⟨rfl, hi, p⟩
  have q:=hl i σ H hi p
  by_cases hlt : i < xs.length
  . refine .inr ⟨⟨xs, xs[i], q, by simp [hlt]⟩, Pv (i + 1), λσ' H' p' => ⟨xs.length - (i + 1), by omega, rfl, hlt, p'⟩, λx H' y => ?_⟩
    obtain ⟨e, y⟩:=y
    subst e
    exact hs i x σ _ (y xs q) p
  . have e : i = xs.length := by omega
    subst e
    exact .inl ⟨⟨xs, q, Nat.le_refl _⟩, hd σ H p⟩
noncomputable abbrev R2:=V -> V -> Hp -> VK -> Prop
noncomputable def OpR (X : Cx) (f : Value -> Value -> Sem Value) (r : R2) : Prop:=
  ∀ (pins : List (Addr × Obj)) (s : Shared) (σ : St) (H : Hp) (x y : V) (v u : Value) (Q : VK), Inv X pins σ H s -> Yl x v -> Yl y u -> r x y H Q ->
    wpAny (model X.prog X.w) X.A (f v u) (EP X pins σ Q) X.xe s
noncomputable def UnR (X : Cx) (f : Value -> Sem Value) (r : V -> Hp -> VK -> Prop) : Prop:=
  ∀ (pins : List (Addr × Obj)) (s : Shared) (σ : St) (H : Hp) (x : V) (v : Value) (Q : VK), Inv X pins σ H s -> Yl x v -> r x H Q ->
    wpAny (model X.prog X.w) X.A (f v) (EP X pins σ Q) X.xe s
noncomputable def Jr (X : Cx) (f : Value) (r : List V -> Hp -> VK -> Prop) : Prop:=
  ∀ (pins : List (Addr × Obj)) (s : Shared) (σ : St) (H : Hp) (xs : List V) (us : List Value) (Q : VK), Inv X pins σ H s -> Yr xs us -> r xs H Q ->
    wpAny (model X.prog X.w) X.A (call f us) (EP X pins σ Q) X.xe s
noncomputable def tOp (r : R2) (ta tb : TE) : TE:=λσ H Q=>ta σ H λx H1=>tb σ H1 λy H2=>r x y H2 Q
noncomputable def tUn (r : V -> Hp -> VK -> Prop) (ta : TE) : TE:=λσ H Q=>ta σ H λx H1=>r x H1 Q
noncomputable def rI (C : Int -> Int -> Prop) (g : Int -> Int -> V) : R2:=λx y H Q=>∃ i j, x = .int i /\ y = .int j /\ C i j /\ Q (g i j) H
noncomputable def rI0 (g : Int -> Int -> V) : R2:=λx y H Q=>∃ i j, x = .int i /\ y = .int j /\ Q (g i j) H
noncomputable def rU (g : Int -> V) : V -> Hp -> VK -> Prop:=λx H Q=>∃ i, x = .int i /\ Q (g i) H
section
variable {X : Cx} {a b c : Expr} {ta tb tc : TE} {pos : Pos}
theorem Mk (ha : PE X a ta) (hb : PE X b tb) {pins : List (Addr × Obj)} {s : Shared} {σ : St} {H : Hp} {R : V -> V -> Hp -> Prop} (I : Inv X pins σ H s)
    (h : ta σ H λx H1=>tb σ H1 λy H2=>R x y H2) {Q : Value -> Shared -> Prop} {f : Value -> Value -> Sem Value}
    (hf : ∀ v u s2 x y H2, Inv X pins σ H2 s2 -> Yl x v -> Yl y u -> R x y H2 -> wpAny (model X.prog X.w) X.A (f v u) Q X.xe s2) :
    wpAny (model X.prog X.w) X.A (eval a X.env) (λv s₁=>wpAny (model X.prog X.w) X.A (eval b X.env) (λu s₂=>wpAny (model X.prog X.w) X.A (f v u) Q X.xe s₂) X.xe s₁) X.xe s:=by
  refine thn (ha pins s σ H _ I h) λv s1 r9=>?_
  obtain ⟨x, H1, I1, r1, q1⟩:=r9
  refine thn (hb pins s1 σ H1 _ I1 q1) λu s2 r9=>?_
  obtain ⟨y, H2, I2, r2, q2⟩:=r9
  exact hf v u s2 x y H2 I2 r1 r2 q2
theorem Xp {op : Operator} {r : R2} (ho : OpR X (binaryOp op) r) (ha : PE X a ta) (hb : PE X b tb) : PE X (.BinOp a op b pos) (tOp r ta tb):=by
  intro pins s σ H Q I h
  exact wpAny_BinOp (Mk ha hb I h λv u s2 x y H2 I2 rx ry q=>ho pins s2 σ H2 x y v u Q I2 rx ry q)
theorem V2 {op : UnaryOp} {r : V -> Hp -> VK -> Prop} (ho : UnR X (unaryOp op) r) (ha : PE X a ta) : PE X (.UnaryOp op a pos) (tUn r ta):=by
  intro pins s σ H Q I h
  exact UnaryOp_ (thn (ha pins s σ H _ I h) λv s1 r9=>by obtain ⟨x, H1, I1, r1, q1⟩:=r9; exact ho pins s1 σ H1 x v Q I1 r1 q1)
theorem opI {f : Value -> Value -> Sem Value} {C : Int -> Int -> Prop} {g : Int -> Int -> Int}
    (rule : ∀ (i j : Int) (t u : Tok) (s : Shared) (Q : Value -> Shared -> Prop) (E : Value -> Shared -> Prop), C i j -> Q (.int (g i j) s.toks) { s with toks:=s.toks + 1 } -> wpAny (model X.prog X.w) X.A (f (.int i t) (.int j u)) Q E s) :
    OpR X f (rI C λi j=>.int (g i j)):=by
  intro pins s σ H x y v u Q I rx ry h
  obtain ⟨i, j, rfl, rfl, hc, q⟩:=h
  obtain ⟨t, rfl⟩:=rx
  obtain ⟨t', rfl⟩:=ry
  exact rule i j t t' s _ _ hc ⟨.int (g i j), H, I.tok _, ⟨_, rfl⟩, q⟩
theorem ME {f : Value -> Value -> Sem Value} {g : Int -> Int -> Int}
    (rule : ∀ (i j : Int) (t u : Tok) (s : Shared) (Q : Value -> Shared -> Prop) (E : Value -> Shared -> Prop), Q (.int (g i j) s.toks) { s with toks:=s.toks + 1 } -> wpAny (model X.prog X.w) X.A (f (.int i t) (.int j u)) Q E s) :
    OpR X f (rI0 λi j=>.int (g i j)):=by
  intro pins s σ H x y v u Q I rx ry h
  obtain ⟨i, j, rfl, rfl, q⟩:=h
  obtain ⟨t, rfl⟩:=rx
  obtain ⟨t', rfl⟩:=ry
  exact rule i j t t' s _ _ ⟨.int (g i j), H, I.tok _, ⟨_, rfl⟩, q⟩
theorem Me {f : Value -> Value -> Sem Value} {g : Int -> Int -> Bool}
    (rule : ∀ (i j : Int) (t u : Tok) (s : Shared) (Q : Value -> Shared -> Prop) (E : Value -> Shared -> Prop), Q (.bool (g i j)) s -> wpAny (model X.prog X.w) X.A (f (.int i t) (.int j u)) Q E s) :
    OpR X f (rI0 λi j=>.bl (g i j)):=by
  intro pins s σ H x y v u Q I rx ry h
  obtain ⟨i, j, rfl, rfl, q⟩:=h
  obtain ⟨t, rfl⟩:=rx
  obtain ⟨t', rfl⟩:=ry
  exact rule i j t t' s _ _ ⟨.bl (g i j), H, I, rfl, q⟩
noncomputable def M0 (i j : Int) : Prop:=0 < j /\ j < 1073741824
noncomputable def MS (i j : Int) : Prop:=0 <= j /\ j <= 1000000 /\ i.natAbs < 2 ^ 64
noncomputable def Lf (i j : Int) : Prop:=(-(2 ^ 64) < i /\ i < 2 ^ 64) ∨ (-(2 ^ 64) < j /\ j < 2 ^ 64)
theorem Lf.ok {i j : Int} (h : Lf i j) : IntMulOk i j:=by
  rcases h with ⟨h1, h2⟩ | ⟨h1, h2⟩
  . exact .of_left (intBits_le_64 h1 h2)
  . exact .of_right (intBits_le_64 h1 h2)
theorem XZ : OpR X (binaryOp .Add) (rI0 λi j=>.int (i + j)):=ME λ_ _ _ _ _ _ _ q=>add_int q
theorem Q6 : OpR X (binaryOp .Sub) (rI0 λi j=>.int (i - j)):=ME λ_ _ _ _ _ _ _ q=>sub_int q
theorem Yu : OpR X (binaryOp .Mult) (rI Lf λi j=>.int (i * j)):=opI λ_ _ _ _ _ _ _ hc q=>mul_int q hc.ok
theorem Yf : OpR X (binaryOp .Mod) (rI (λ_ j=>0 < j) λi j=>.int (i % j)):=opI λi j _ _ _ _ _ hc q=>by
  have h1 : (0 : Int) < j:=hc
  exact mod_int' (by omega) (by rw [Int.fmod_eq_emod_of_nonneg i (by omega)]; exact q)
theorem GT : OpR X (binaryOp .Pow) (rI MS λi j=>.int (i ^ j.toNat)):=opI λ_ _ _ _ _ _ _ hc q=>pow_int_small hc.1 hc.2.1 hc.2.2 q
theorem unI {f : Value -> Sem Value} {g : Int -> Int}
    (rule : ∀ (i : Int) (t : Tok) (s : Shared) (Q : Value -> Shared -> Prop) (E : Value -> Shared -> Prop), Q (.int (g i) s.toks) { s with toks:=s.toks + 1 } -> wpAny (model X.prog X.w) X.A (f (.int i t)) Q E s) :
    UnR X f (rU λi=>.int (g i)):=by
  intro pins s σ H x v Q I rx h
  obtain ⟨i, rfl, q⟩:=h
  obtain ⟨t, rfl⟩:=rx
  exact rule i t s _ _ ⟨.int (g i), H, I.tok _, ⟨_, rfl⟩, q⟩
theorem QN : UnR X (unaryOp .USub) (rU λi=>.int (-i)):=unI λ_ _ _ _ _ q=>neg_int q
end
noncomputable def L9 : V -> V -> Bool
  | .non, .non=>true | .non, .int _=>true | .int _, .non=>true | .non, .bl _=>true | .bl _, .non=>true | .non, .str _=>true | .str _, .non=>true
  | .int _, .int _=>true | .bl _, .bl _=>true | .str _, .str _=>true | .byt _, .byt _=>true
  | .int _, .str _=>true | .str _, .int _=>true | .bl _, .str _=>true | .str _, .bl _=>true
  | _, _=>false
noncomputable def rEq : R2:=λx y H Q=>L9 x y = true /\ Q (.bl (decide (x = y))) H
noncomputable def rNe : R2:=λx y H Q=>L9 x y = true /\ Q (.bl (!decide (x = y))) H
theorem DE {i j : Int} : decide (V.int i = V.int j) = (i == j):=by
  rw [Bool.eq_iff_iff]
  simp
theorem EL {i j : Bool} : decide (V.bl i = V.bl j) = (i == j):=by
  rw [Bool.eq_iff_iff]
  simp
theorem DO {i j : Str} : decide (V.str i = V.str j) = (i == j):=by
  rw [Bool.eq_iff_iff]
  simp
theorem DQ {i j : Array UInt8} : decide (V.byt i = V.byt j) = (i.toList == j.toList):=by
  rw [Bool.eq_iff_iff]
  cases i
  cases j
  simp
section
variable {X : Cx} {a b c : Expr} {ta tb tc : TE} {pos : Pos}
theorem Ye {pins : List (Addr × Obj)} {σ : St} {H : Hp} {s : Shared} {Q : VK} {k k' : Bool} (I : Inv X pins σ H s) (q : Q (.bl k) H) (e : k = k') : EP X pins σ Q (.bool k') s:=by
  subst e
  exact ⟨.bl k, H, I, rfl, q⟩
theorem VY : OpR X (compareOp .Eq) rEq:=by
  intro pins s σ H x y v u Q I rx ry h
  obtain ⟨hs, q⟩:=h
  cases x with
  | non=>
    cases rx
    cases y with
    | non=>cases ry; exact PySem.EqNone.eq_none_none (Ye I q (by simp))
    | bl j=>cases ry; exact PySem.EqNone.eq_none_bool (Ye I q (by simp))
    | int j=>obtain ⟨t', rfl⟩:=ry; exact PySem.EqNone.eq_none_int (Ye I q (by simp))
    | str j=>obtain ⟨t', rfl⟩:=ry; exact PySem.EqNone.eq_none_str (Ye I q (by simp))
    | _=>exact absurd (show false = true from hs) Bool.false_ne_true
  | bl i=>
    cases rx
    cases y with
    | non=>cases ry; exact PySem.EqNone.eq_bool_none (Ye I q (by simp))
    | bl j=>cases ry; exact eq_bool (Ye I q EL)
    | str j=>obtain ⟨t', rfl⟩:=ry; exact PySem.EqMixed.eq_bool_str (Ye I q (by simp))
    | _=>exact absurd (show false = true from hs) Bool.false_ne_true
  | int i=>
    obtain ⟨t, rfl⟩:=rx
    cases y with
    | non=>cases ry; exact PySem.EqNone.eq_int_none (Ye I q (by simp))
    | int j=>obtain ⟨t', rfl⟩:=ry; exact eq_int (Ye I q DE)
    | str j=>obtain ⟨t', rfl⟩:=ry; exact PySem.EqMixed.eq_int_str (Ye I q (by simp))
    | _=>exact absurd (show false = true from hs) Bool.false_ne_true
  | str i=>
    obtain ⟨t, rfl⟩:=rx
    cases y with
    | non=>cases ry; exact PySem.EqNone.eq_str_none (Ye I q (by simp))
    | bl j=>cases ry; exact PySem.EqMixed.eq_str_bool (Ye I q (by simp))
    | int j=>obtain ⟨t', rfl⟩:=ry; exact PySem.EqMixed.eq_str_int (Ye I q (by simp))
    | str j=>obtain ⟨t', rfl⟩:=ry; exact eq_str (Ye I q DO)
    | _=>exact absurd (show false = true from hs) Bool.false_ne_true
  | byt i=>
    obtain ⟨t, rfl⟩:=rx
    cases y with
    | byt j=>obtain ⟨t', rfl⟩:=ry; exact PySem.W.eq_bytes (Ye I q DQ)
    | _=>exact absurd (show false = true from hs) Bool.false_ne_true
  | _=>cases y <;> exact absurd (show false = true from hs) Bool.false_ne_true
theorem Ka : OpR X (compareOp .NotEq) rNe:=by
  intro pins s σ H x y v u Q I rx ry h
  obtain ⟨hs, q⟩:=h
  cases x with
  | non=>
    cases rx
    cases y with
    | non=>cases ry; exact PySem.EqNone.ne_none_none (Ye I q (by simp))
    | bl j=>cases ry; exact PySem.EqNone.ne_none_bool (Ye I q (by simp))
    | int j=>obtain ⟨t', rfl⟩:=ry; exact PySem.EqNone.ne_none_int (Ye I q (by simp))
    | str j=>obtain ⟨t', rfl⟩:=ry; exact PySem.EqNone.ne_none_str (Ye I q (by simp))
    | _=>exact absurd (show false = true from hs) Bool.false_ne_true
  | bl i=>
    cases rx
    cases y with
    | non=>cases ry; exact PySem.EqNone.ne_bool_none (Ye I q (by simp))
    | bl j=>cases ry; exact ne_bool (Ye I q (congrArg not EL))
    | str j=>obtain ⟨t', rfl⟩:=ry; exact PySem.EqMixed.ne_bool_str (Ye I q (by simp))
    | _=>exact absurd (show false = true from hs) Bool.false_ne_true
  | int i=>
    obtain ⟨t, rfl⟩:=rx
    cases y with
    | non=>cases ry; exact PySem.EqNone.ne_int_none (Ye I q (by simp))
    | int j=>obtain ⟨t', rfl⟩:=ry; exact ne_int (Ye I q (congrArg not DE))
    | str j=>obtain ⟨t', rfl⟩:=ry; exact PySem.EqMixed.ne_int_str (Ye I q (by simp))
    | _=>exact absurd (show false = true from hs) Bool.false_ne_true
  | str i=>
    obtain ⟨t, rfl⟩:=rx
    cases y with
    | non=>cases ry; exact PySem.EqNone.ne_str_none (Ye I q (by simp))
    | bl j=>cases ry; exact PySem.EqMixed.ne_str_bool (Ye I q (by simp))
    | int j=>obtain ⟨t', rfl⟩:=ry; exact PySem.EqMixed.ne_str_int (Ye I q (by simp))
    | str j=>obtain ⟨t', rfl⟩:=ry; exact ne_str (Ye I q (congrArg not DO))
    | _=>exact absurd (show false = true from hs) Bool.false_ne_true
  | byt i=>
    obtain ⟨t, rfl⟩:=rx
    cases y with
    | byt j=>obtain ⟨t', rfl⟩:=ry; exact PySem.W.ne_bytes (Ye I q (congrArg not DQ))
    | _=>exact absurd (show false = true from hs) Bool.false_ne_true
  | _=>cases y <;> exact absurd (show false = true from hs) Bool.false_ne_true
theorem JG : OpR X (compareOp .Lt) (rI0 λi j=>.bl (decide (i < j))):=Me λ_ _ _ _ _ _ _ q=>lt_int q
theorem CD : OpR X (compareOp .LtE) (rI0 λi j=>.bl (decide (i <= j))):=Me λ_ _ _ _ _ _ _ q=>le_int q
theorem FN : OpR X (compareOp .Gt) (rI0 λi j=>.bl (decide (j < i))):=Me λ_ _ _ _ _ _ _ q=>gt_int q
theorem XV (b : Expr) {op : CmpOp} (h : op ≠ .In:=by decide) (h2 : op ≠ .NotIn:=by decide) : behindInMarks op b = false:=by
  have e1 : (op == CmpOp.In) = false:=by cases op <;> first | rfl | exact absurd rfl h
  have e2 : (op == CmpOp.NotIn) = false:=by cases op <;> first | rfl | exact absurd rfl h2
  cases b <;> simp [behindInMarks, e1, e2]
theorem K9 {op : CmpOp} {r : R2} (ho : OpR X (compareOp op) r) (ha : PE X a ta) (hb : PE X b tb) (hm : behindInMarks op b = false) : PE X (.Compare a [op] [b] pos) (tOp r ta tb):=by
  intro pins s σ H Q I h
  exact wpAny_Compare1 (Mk ha hb I h λv u s2 x y H2 I2 rx ry q=>ho pins s2 σ H2 x y v u Q I2 rx ry q) hm
noncomputable def Hh (t : TE) : TT:=λσ H Q=>t σ H λx H'=>∃ k, x = .bl k /\ Q k H'
theorem XH {op : CmpOp} {r : R2} (ho : OpR X (compareOp op) r) (ha : PE X a ta) (hb : PE X b tb) (hm : behindInMarks op b = false) : PT X (.Compare a [op] [b] pos) (Hh (tOp r ta tb)):=by
  intro pins s σ H Q I h
  refine wpAny_isTrue_Compare1 (thn (ha pins s σ H _ I h) λv s1 ⟨x, H1, I1, r1, q1⟩=>thn (hb pins s1 σ H1 _ I1 q1) λu s2 ⟨y, H2, I2, r2, q2⟩=>
    thn (ho pins s2 σ H2 x y v u _ I2 r1 r2 q2) λc s3 ⟨z, H3, I3, r3, k, e, q3⟩=>?_) hm
  subst e
  cases r3
  exact wpAny_truthy_bool ⟨H3, I3, q3⟩
noncomputable def EC (r r' : R2) (ta tb tc : TE) : TE:=λσ H Q=>ta σ H λx H1=>tb σ H1 λy H2=>r x y H2 λz H3=>∃ k, z = .bl k /\
  (if k = true then tc σ H3 λw' H4=>r' y w' H4 Q else Q (.bl false) H3)
theorem Fg {op op' : CmpOp} {r r' : R2} (ho : OpR X (compareOp op) r) (ho' : OpR X (compareOp op') r') (ha : PE X a ta) (hb : PE X b tb) (hc : PE X c tc)
    (hm : lastMarks [op, op'] [b, c] = false:=by with_unfolding_all rfl) : PT X (.Compare a [op, op'] [b, c] pos) (Hh (EC r r' ta tb tc)):=by
  intro pins s σ H Q I h
  refine isTrue_chain (thn (ha pins s σ H _ I h) λv s1 ⟨x, H1, I1, r1, q1⟩=>test_link (thn (hb pins s1 σ H1 _ I1 q1) λu s2 ⟨y, H2, I2, r2, q2⟩=>
    thn (ho pins s2 σ H2 x y v u _ I2 r1 r2 q2) λd s3 ⟨z, H3, I3, r3, k, e, q3⟩=>?_)) hm
  subst e
  cases r3
  refine wpAny_truthy_bool ?_
  cases k with
  | false=>
    obtain ⟨k', e', q'⟩:=q3
    cases e'
    exact ite_ff ⟨H3, I3, q'⟩
  | true=>
    refine ite_tt (test_last (thn (hc pins s3 σ H3 _ I3 q3) λw' s4 ⟨z', H4, I4, r4, q4⟩=>thn (ho' pins s4 σ H4 y z' u w' _ I4 r2 r4 q4) λd' s5 r9=>?_))
    obtain ⟨z2, H5, I5, r5, k2, e2, q5⟩:=r9
    subst e2
    cases r5
    exact wpAny_truthy_bool ⟨H5, I5, q5⟩
theorem KH : (sizeLine : Nat) < 2 ^ 63:=by rw [sizeLine_eq]; decide
theorem GM {x : V} {us : List Value} (r : Yr [x] us) : ∃ u, us = [u] /\ Yl x u:=by
  cases r with
  | cons r1 r2=>cases r2; exact ⟨_, rfl, r1⟩
theorem Lw {x y : V} {us : List Value} (r : Yr [x, y] us) : ∃ u w', us = [u, w'] /\ Yl x u /\ Yl y w':=by
  cases r with
  | cons r1 r2=>
    cases r2 with
    | cons r3 r4=>cases r4; exact ⟨_, _, rfl, r1, r3⟩
theorem Jc (hc : X.calm = true) : Jr X (.builtin "max") (λxs H Q=>∃ i j, xs = [.int i, .int j] /\ Q (.int (if j > i then j else i)) H):=by
  intro pins s σ H xs us Q I r h
  obtain ⟨i, j, rfl, q⟩:=h
  obtain ⟨u, w', rfl, ⟨t, rfl⟩, ⟨t', rfl⟩⟩:=Lw r
  refine max_two_ints (I.ok.hd hc) λh' tk k=>⟨_, H, I.kept k, ?_, q⟩
  by_cases hj : j > i
  . rw [if_pos hj, if_pos hj]; exact ⟨_, rfl⟩
  . rw [if_neg hj, if_neg hj]; exact ⟨_, rfl⟩
theorem CM (hc : X.calm = true) : Jr X (.builtin "min") (λxs H Q=>∃ i j, xs = [.int i, .int j] /\ Q (.int (if j < i then j else i)) H):=by
  intro pins s σ H xs us Q I r h
  obtain ⟨i, j, rfl, q⟩:=h
  obtain ⟨u, w', rfl, ⟨t, rfl⟩, ⟨t', rfl⟩⟩:=Lw r
  refine min_two_ints (I.ok.hd hc) λh' tk k=>⟨_, H, I.kept k, ?_, q⟩
  by_cases hj : j < i
  . rw [if_pos hj, if_pos hj]; exact ⟨_, rfl⟩
  . rw [if_neg hj, if_neg hj]; exact ⟨_, rfl⟩
theorem Dx : Jr X (.type "int") (λxs H Q=>(∃ i, xs = [.int i] /\ Q (.int i) H) ∨ ∃ k, xs = [.bl k] /\ Q (.int (if k then 1 else 0)) H):=by
  intro pins s σ H xs us Q I r h
  rcases h with ⟨i, rfl, q⟩ | ⟨k, rfl, q⟩
  . obtain ⟨u, rfl, t, rfl⟩ := GM r
    exact call_int_int ⟨.int i, H, I, ⟨_, rfl⟩, q⟩
  . obtain ⟨u, rfl, r1⟩ := GM r
    cases r1
    exact call_int_bool ⟨.int (if k then 1 else 0), H, I.tok _, ⟨_, rfl⟩, q⟩
end
structure ObjM (h : Heap) (x dx C : Addr) (mA : Str -> Option Value) : Prop where
  obj : h.get? x = some (PySem.W.instObj C dx)
  ns : h.Ns1 dx mA
  ne : dx ≠ x
theorem F6 {h : Heap} {dx : Addr} {mA : Str -> Option Value} (n : h.Ns1 dx mA) : ∃ od, h.get? dx = some od /\ ∀ name, PySem.W.lookIn name od = some (mA name):=by
  obtain ⟨o, es, ep, ho, hd, hk, _, hm⟩:=n
  refine ⟨o, ho, λname=>?_⟩
  have e:=hm name
  unfold nsFind findBy at e
  rw [← Array.find?_toList] at e
  unfold PySem.W.lookIn
  rw [hd]
  dsimp only
  split
  . rename_i y q
    rw [q] at e
    exact congrArg some e
  . rename_i q
    rw [q] at e
    have a : es.toList.any (·.refKey) = false:=by
      rw [List.any_eq_false]
      intro y hy
      obtain ⟨z, t, hkey⟩:=hk y (Array.mem_toList_iff.mp hy)
      simp [DictEntry.refKey, hkey]
    have a' : ¬ es.toList.any (·.refKey) = true:=by rw [a]; exact Bool.false_ne_true
    rw [if_neg a']
    exact congrArg some e
theorem ObjM.look {h : Heap} {x dx C : Addr} {mA : Str -> Option Value} (I : ObjM h x dx C mA) : ∃ od, PySem.W.InstAt h x (PySem.W.instObj C dx) C (some od) /\ ∀ name, PySem.W.lookIn name od = some (mA name):=
  let ⟨od, ho, hl⟩:=F6 I.ns
  ⟨od, ⟨I.obj, rfl, rfl, ho⟩, hl⟩
section
variable {prog : Program} {w : World} {A : Around} {E : Value -> Shared -> Prop} {s : Shared} {K : PySem.W.Frag} {x dx C f : Addr} {mA : Str -> Option Value} {name : Str} {v : Value}
end
theorem DH.some_of {v : V} {o : Option Value} (r : DH (some v) o) : ∃ u, o = some u /\ Yl v u:=by
  cases o with
  | none=>exact (show False from r).elim
  | some u=>exact ⟨u, rfl, r⟩
section
variable {P : Program} {w : World} {H H' : Hp} {h h' : Heap} {a C dx : Addr} {fs fs' : List (Str × V)}
theorem Hn (hok : HOk P w H h) (e : H a = some (.ins C dx fs)) : ∃ mA, ObjM h a dx C mA /\ (∀ f, DH (fs.lookup f) (mA f)) /\ PySem.Within mA (fs.map (·.1)) /\ fs.length <= 1000 /\ H dx = some (.own a):=by
  obtain ⟨d, z, ne, ob, mA, n, r, q⟩:=(show YW P w H h a (.ins C dx fs) from hok a _ e)
  exact ⟨mA, ⟨ob, n, ne⟩, r, q, z, d⟩
end
structure Cls (K : PySem.W.Frag) (C : Addr) : Prop where
  pg : PySem.W.plainGet K C Str.empty = true
  hd : PySem.W.hasDictIn K C = true
  po : PySem.W.plainOver K C = true
  sa : PySem.W.findIn K (.ref C) "__setattr__" = some (some (.builtin "object.__setattr__"))
theorem Cls.get {K : PySem.W.Frag} {C : Addr} (c : Cls K C) (f : Str) : PySem.W.plainGet K C f = true:=c.pg
section
variable {X : Cx} {pins : List (Addr × Obj)} {σ : St} {H : Hp} {s : Shared} {a C dx : Addr} {fs : List (Str × V)} {f : Str} {v : V} {A : Around} {E : Value -> Shared -> Prop}
end
section
variable {X : Cx} {o e value : Expr} {f : Str} {pos pos' tpos : Pos} {ta tv : TE}
end
section
variable {X : Cx} {pins : List (Addr × Obj)} {σ : St} {H : Hp} {s : Shared} {A : Around} {E : Value -> Shared -> Prop} {Q : Value -> Shared -> Prop} {c : Value} {b : Bool}
inductive TyOf (K : PySem.W.Frag) (H : Hp) : V -> Value -> Prop where
  | non : TyOf K H .non (.type "NoneType")
  | bl (x : Bool) : TyOf K H (.bl x) (.type "bool")
  | int (i : Int) : TyOf K H (.int i) (.type "int")
  | str (x : Str) : TyOf K H (.str x) (.type "str")
  | flt (x : UInt64) : TyOf K H (.flt x) (.type "float")
  | lst {a : Addr} {xs : List V} (e : H a = some (.lst xs)) : TyOf K H (.ref a) (.type "list")
  | frz {a : Addr} {o : Obj} {xs : List V} (e : H a = some (.frz o (.lst xs))) : TyOf K H (.ref a) (.type "list")
  | tup {a : Addr} {xs : List V} (e : H a = some (.tup xs)) : TyOf K H (.ref a) (.type "tuple")
  | dK {a : Addr} {kvs : List (Key × V)} (e : H a = some (.dK kvs)) : TyOf K H (.ref a) (.type "dict")
  | dT {a : Addr} {kvs : List (List Key × V)} (e : H a = some (.dT kvs)) : TyOf K H (.ref a) (.type "dict")
  | ins {a C dx : Addr} {fs : List (Str × V)} (e : H a = some (.ins C dx fs)) (cl : Cls K C) (ha : PySem.W.findIn K (.ref C) "__class__" = some (some (.builtin "object.__class__")))
      (hn : PySem.W.specialIn K (.builtin "object.__class__") "__get__" = some (some (.builtin "getset_descriptor.__get__"))) (htk : PySem.W.takesIn K (.builtin "object.__class__") = some true)
      (hm : PySem.W.mroIn K C (.type "object") = some true) : TyOf K H (.ref a) (.ref C)
theorem Dh {x : V} {u t : Value} (I : Inv X pins σ H s) (rx : Yl x u) (ty : TyOf X.K H x t) (e : PySem.W.kitOne X.K t c = some b) (h : ∀ tk, Q (.bool b) { s with toks:=tk }) :
    wpAny (model X.prog X.w) A (call (.builtin "isinstance") [u, c]) Q E s:=by
  cases ty with
  | non=>cases (show u = Value.none from rx); exact PySem.W.kia_one PySem.W.kitx_none I.kIn True.intro e (λz=>nomatch z) h
  | bl y=>cases (show u = Value.bool y from rx); exact PySem.W.kia_one PySem.W.kitx_bool I.kIn True.intro e (λz=>nomatch z) h
  | int i=>obtain ⟨t, q⟩:=(show ∃ t, u = Value.int i t from rx); cases q; exact PySem.W.kia_one PySem.W.kitx_int I.kIn True.intro e (λz=>nomatch z) h
  | str y=>obtain ⟨t, q⟩:=(show ∃ t, u = Value.str y t from rx); cases q; exact PySem.W.kia_one PySem.W.kitx_str I.kIn True.intro e (λz=>nomatch z) h
  | flt y=>obtain ⟨t, q⟩:=(show ∃ t, u = Value.float y t from rx); cases q; exact PySem.W.kia_one PySem.W.kitx_float I.kIn True.intro e (λz=>nomatch z) h
  | @lst a xs ea=>
    cases (show u = Value.ref a from rx)
    obtain ⟨_, _, n, _, h1⟩:=(show YW X.prog X.w H s.heap a (.lst xs) from I.hok a _ ea)
    exact PySem.W.kia_one PySem.W.kitx_list I.kIn ⟨_, h1, rfl⟩ e (λz=>nomatch z) h
  | @frz a ob xs ea=>
    cases (show u = Value.ref a from rx)
    obtain ⟨_, _, _, n, _, h1⟩:=(show YW X.prog X.w H s.heap a (.frz ob (.lst xs)) from I.hok a _ ea)
    exact PySem.W.kia_one PySem.W.kitx_list I.kIn ⟨_, h1, rfl⟩ e (λz=>nomatch z) h
  | @tup a xs ea=>
    cases (show u = Value.ref a from rx)
    obtain ⟨_, _, _, p⟩:=(show YW X.prog X.w H s.heap a (.tup xs) from I.hok a _ ea)
    obtain ⟨o, h1, h2, _⟩:=p
    exact PySem.W.kia_one PySem.W.kitx_tuple I.kIn ⟨o, h1, h2.1⟩ e (λz=>nomatch z) h
  | @dK a kvs ea=>
    cases (show u = Value.ref a from rx)
    obtain ⟨_, _, vs, _, p⟩:=(show YW X.prog X.w H s.heap a (.dK kvs) from I.hok a _ ea)
    obtain ⟨o, es, ep, h1, h2, _⟩:=p
    exact PySem.W.kia_one PySem.W.kitx_dict I.kIn ⟨o, h1, h2.1⟩ e (λz=>nomatch z) h
  | @dT a kvs ea=>
    cases (show u = Value.ref a from rx)
    obtain ⟨_, _, xs, _, o, es, ep, h1, h2, _⟩:=(show YW X.prog X.w H s.heap a (.dT kvs) from I.hok a _ ea)
    exact PySem.W.kia_one PySem.W.kitx_dict I.kIn ⟨o, h1, h2.1⟩ e (λz=>nomatch z) h
  | @ins a C dx fs ea cl ha hn htk hm=>
    cases (show u = Value.ref a from rx)
    obtain ⟨mA, O, _⟩:=Hn I.hok ea
    obtain ⟨od, J, _⟩:=O.look
    exact PySem.W.kia_one (PySem.W.kitx_own (cl.get _) cl.hd ha hn htk hm) I.kIn J e (λz=>nomatch z) h
end
structure Room (k : Nat) (A : Around) : Prop where
  hd : A.handled = none
  dp : A.depth + 3 * k + 5 < recursionLimit
  un : A.units + 16 * k + 200 < cLine
theorem Room.mono {j k : Nat} {A : Around} (r : Room k A) (h : j <= k) : Room j A:=⟨r.hd, by have:=r.dp; omega, by have:=r.un; omega⟩
theorem Room.deeper {k : Nat} {A : Around} (r : Room (k + 1) A) (env : Env) : Room k (A.deeper env):=
  ⟨r.hd, by have:=r.dp; show A.depth + 1 + 3 * k + 5 < _; omega, by have:=r.un; show A.units + 3 + 16 * k + 200 < _; omega⟩
theorem Room.depth {k : Nat} {A : Around} (r : Room k A) : A.depth < recursionLimit:=by have:=r.dp; omega
theorem Room.units {k : Nat} {A : Around} (r : Room k A) : A.units + 64 < cLine:=by have:=r.un; omega
noncomputable def Qs : TA:=λ_ H Q=>Q [] H
noncomputable def XQ (ta : TE) (tr : TA) : TA:=λσ H Q=>ta σ H λx H1=>tr σ H1 λxs H2=>Q (x :: xs) H2
section
variable {X : Cx} {e : Expr} {es : List Expr} {te : TE} {t : TA} {pos : Pos}
theorem Xg : PA X [] Qs:=λ_ _ _ _ H Q I h=>Calls.spliced_nil ⟨[], H, I, .nil, h⟩
theorem Xd (ha : PE X e te) (hr : PA X es t) (hs : starEach (e :: es) X.env = (false, eval e X.env) :: starEach es X.env:=by rfl) : PA X (e :: es) (XQ te t):=by
  intro pos pins s σ H Q I h
  rw [hs]
  show wpAny _ _ (spliced ((false, eval e X.env) :: backTo pos (starEach es X.env))) _ _ s
  refine Calls.spliced_cons (thn (ha pins s σ H _ I h) λu s1 r9=>?_)
  obtain ⟨x, H1, I1, r1, q1⟩:=r9
  exact thn (hr pos pins s1 σ H1 _ I1 q1) λus s2 r9=>by obtain ⟨xs, H2, I2, r2, q2⟩:=r9; exact ⟨x :: xs, H2, I2, .cons r1 r2, q2⟩
noncomputable def Iy (t : TA) : TE:=λσ H Q=>t σ H λxs H1=>xs.length <= sizeLine /\ ∀ p, H1 p = none -> Q (.ref p) (upd H1 p (.tup xs))
noncomputable def L5 (t : TA) : TE:=λσ H Q=>t σ H λxs H1=>xs.length <= sizeLine /\ ∀ p, H1 p = none -> Q (.ref p) (upd H1 p (.lst xs))
theorem Zs {x1} (h : PA X es t) : PE X (.Tuple es x1 pos) (Iy t):=by
  intro pins s σ H Q I hq
  refine wpAny_Tuple_spliced (thn (h pos pins s σ H _ I hq) λus s1 ⟨xs, H1, I1, r, z, q⟩=>⟨by rw [← r.length]; exact z, ?_⟩)
  have hf : H1 s1.heap.objs.size = none:=I1.hok.fresh (Nat.le_refl _)
  refine ⟨.ref s1.heap.objs.size, upd H1 s1.heap.objs.size (.tup xs), I1.laid (t':=s1.toks) (λb u e=>Heap.get?_push_of_some _ e) (Nat.le_refl _) ?_, rfl, q _ hf⟩
  exact ⟨z, us, r, ⟨_, Heap.get?_push_size _ rfl, ⟨rfl, rfl⟩, _, rfl⟩⟩
theorem X8 (h : PA X es t) : PE X (.List es pos) (L5 t):=by
  intro pins s σ H Q I hq
  refine wpAny_List_spliced (thn (h pos pins s σ H _ I hq) λus s1 ⟨xs, H1, I1, r, z, q⟩=>⟨by rw [← r.length]; exact z, ?_⟩)
  have hf : H1 s1.heap.objs.size = none:=I1.hok.fresh (Nat.le_refl _)
  refine ⟨.ref s1.heap.objs.size, upd H1 s1.heap.objs.size (.lst xs), I1.laid (t':=s1.toks) (λb u e=>Heap.get?_push_of_some _ e) (Nat.le_refl _) ?_, rfl, q _ hf⟩
  exact ⟨z, us, 0, r, Heap.get?_push_size _ rfl⟩
end
noncomputable abbrev Sp:=List V -> Hp -> VK -> XK -> Prop
noncomputable abbrev CXT:=List Env -> Hp -> Shared -> XK -> Value -> Shared -> Prop
structure Env0 (P : Program) (w : World) (K : PySem.W.Frag) (mg : Str -> Option Value) (base : Heap) (A : Around) (outer : List Env) (s : Shared) (H : Hp) : Prop where
  frames : A.frames = some outer
  mod : Mod K mg base
  bs : ∀ b o, base.get? b = some o -> s.heap.get? b = some o /\ H b = none
  bsz : base.objs.size <= s.heap.objs.size
  funs : s.heap.FunFrames base outer
  frf : ∀ b ∈ frs outer, H b = none
  hok : HOk P w H s.heap
  bare : AllBare s.gens
noncomputable def CE (outer : List Env) (P : Program) (w : World) (H : Hp) (s : Shared) (Q : VK) (u : Value) (s' : Shared) : Prop:=
  ∃ v H', s'.os = s.os /\ AllBare s'.gens /\ Un (frs outer) [] H H' s.heap s'.heap /\ HOk P w H' s'.heap /\ Yl v u /\ Q v H'
noncomputable def CR (CX : CXT) (outer : List Env) (P : Program) (w : World) (H : Hp) (s : Shared) (Q : VK) (E : XK) (r : Result) (s' : Shared) : Prop:=
  match r with
  | .ok (.ret u)=>CE outer P w H s Q u s'
  | .ok _=>False
  | .error e=>CX outer H s E e s'
structure FnOk (P : Program) (w : World) (K : PySem.W.Frag) (mg : Str -> Option Value) (base : Heap) (CX : CXT) (k : Nat) (f : Addr) (fd : FuncData) (ps : List Str) (sp : Sp) : Prop where
  len : ∀ vs H Q E, sp vs H Q E -> vs.length = ps.length
  run : ∀ (A : Around) (outer : List Env) (s : Shared) (H : Hp) (args : Args) (us : List Value) (vs : List V) (Q : VK) (E : XK), Room k A -> Env0 P w K mg base A outer s H -> BindsTo s fd args (ps.zip us) -> Yr vs us -> sp vs H Q E ->
    codeAny (model P w) A (.call (.ref f) args) (CR CX outer P w H s Q E) s
section
variable {X : Cx} {pins : List (Addr × Obj)} {σ : St} {H : Hp} {s s' : Shared}
theorem Inv.env0 (I : Inv X pins σ H s) : Env0 X.prog X.w X.K X.mg X.base X.A X.stack s H:=
  ⟨I.ok.frames, I.ok.mod, I.bs, Nat.le_trans I.ok.bsz I.sz, I.stack, I.stkFree, I.hok, I.bare⟩
theorem Inv.after {Q : VK} {u : Value} (I : Inv X pins σ H s) (h : CE X.stack X.prog X.w H s Q u s') : EP X pins σ Q u s':=by
  obtain ⟨v, H', os, bare, un, hok, r, q⟩:=h
  obtain ⟨hh, g, d, t, os'⟩:=s'
  obtain rfl : os' = s.os:=os
  exact ⟨v, H', I.call (h':=hh) (g':=g) (d':=d) (t':=t) (ch:=[]) un hok bare (λb z=>absurd z (by simp)), r, q⟩
end
noncomputable def GJ (sp : Sp) (dvs : List V) (E : XK) (t : TA) : TE:=λσ H Q=>t σ H λvs H1=>sp (vs ++ dvs) H1 Q E
noncomputable def GB (K : PySem.W.Frag) (fd : FuncData) (ps : List Str) (ds : List Value) : Prop:=
  ∀ (s : Shared) (us : List Value), K.In s.heap -> (us ++ ds).length = ps.length -> BindsTo s fd ⟨us, []⟩ (ps.zip (us ++ ds))
theorem GB.all {K : PySem.W.Frag} {fd : FuncData} {ps : List Str} (h : ∀ us : List Value, us.length = ps.length -> bindArgs fd ⟨us, []⟩ = pure (ps.zip us)) : GB K fd ps []:=λs us _ hl=>by
  rw [List.append_nil] at hl ⊢
  exact .of_eq (h us hl)
noncomputable def DC (CX : CXT) (X : Cx) (E : XK) : Prop:=∀ (pins : List (Addr × Obj)) (σ : St) (H : Hp) (s : Shared) (e : Value) (s' : Shared), Inv X pins σ H s -> CX X.stack H s E e s' -> X.xe e s'
section
variable {X : Cx} {CX : CXT} {k : Nat} {f C : Addr} {fd : FuncData} {ps : List Str} {sp : Sp} {dvs : List V} {ds : List Value} {E : XK} {x m : Str} {p pos apos : Pos} {e o : Expr} {es : List Expr} {ta : TE} {t : TA}
theorem LQ {pins : List (Addr × Obj)} {σ : St} {H : Hp} {s : Shared} {Q : VK} {us : List Value} {vs : List V} (F : FnOk X.prog X.w X.K X.mg X.base CX k f fd ps sp) (hr : Room k X.A) (hb : GB X.K fd ps ds) (hd : Yr dvs ds) (hx : DC CX X E)
    (I : Inv X pins σ H s) (r : Yr vs us) (h : sp (vs ++ dvs) H Q E) : wpAny (model X.prog X.w) X.A (call (.ref f) us) (EP X pins σ Q) X.xe s:=by
  have r2 : Yr (vs ++ dvs) (us ++ ds):=r.append hd
  have hl : (us ++ ds).length = ps.length:=by rw [← r2.length]; exact F.len _ _ _ _ h
  refine wpAny_call (codeAny_mono (F.run X.A X.stack s H ⟨us, []⟩ (us ++ ds) (vs ++ dvs) Q E hr I.env0 (hb s us I.kIn hl) r2 h) λr s' hq=>?_)
  cases r with
  | error e=>exact hx pins σ H s e s' I hq
  | ok fl=>
    cases fl with
    | ret u=>exact I.after hq
    | next=>exact False.elim hq
    | brk=>exact False.elim hq
    | cont=>exact False.elim hq
theorem E8 (F : FnOk X.prog X.w X.K X.mg X.base CX k f fd ps sp) (hr : Room k X.A) (hg : Gl X x) (hm : X.mg x = some (.ref f)) (hk : PySem.W.keepIn X.K (.ref f) = true) (hb : GB X.K fd ps ds) (hd : Yr dvs ds) (hx : DC CX X E)
    (ha : PA X (e :: es) t) (hdb : (x == ("__debug__" : Str)) = false:=by decide) (he : starEach (e :: es) X.env = (false, eval e X.env) :: starEach es X.env:=by rfl) (hpl : (backTo pos (starEach es X.env)).any (·.1) = false:=by rfl) :
    PE X (.Call (.Name x p) (e :: es) [] pos) (GJ sp dvs E t):=by
  intro pins s σ H Q I h
  refine wpAny_Call_Name_kw (Cv I hg hm ?_ hdb)
  refine PySem.W.callWith_K (h₀:=X.base) I.ok.mod.kin hk (thn (ha pos pins s σ H _ I h) λus s1 ⟨vs, H1, I1, r, q⟩=>⟨I1.kIn, ?_⟩) he hpl
  exact LQ F hr hb hd hx I1 r q
end
section
variable {X : Cx} {CX : CXT} {k : Nat} {f C : Addr} {fd : FuncData} {ps ks : List Str} {sp : Sp} {E : XK} {x m : Str} {p pos apos kpos : Pos} {e o : Expr} {es : List Expr} {kws : List Keyword} {te ta : TE} {t tk : TA} {nm : Option Str}
variable {g : List Value -> List Value -> List Value} {gV : List V -> List V -> List V}
end
structure FnScope (N P : List Str) (sc : Scope) : Prop where
  kind : sc.kind = .function
  co : sc.isCoroutine = false
  gen : sc.isGenerator = false
  nd : N.Nodup
  pre : N.take P.length = P
  par : ∀ x ∈ P, sc.names.lookup x = some .local ∨ sc.names.lookup x = some .cell
  nofree : ∀ y ∈ sc.names, y.2 ≠ .free
theorem KW {kindOf : Str -> Option NameKind} {x : Str} : ∀ {binds : List (Str × Value)} {m : Str -> Option Value}, (∀ v, (x, v) ∉ binds) -> bindL kindOf binds m x = m x
  | [], _, _=>rfl
  | (n, v) :: r, m, h=>by
    unfold bindL
    rw [KW λw hw=>h w (List.mem_cons_of_mem _ hw)]
    split
    . have : x ≠ n := by rintro rfl; exact h v List.mem_cons_self
      simp [this]
    . rfl
theorem Ki {kindOf : Str -> Option NameKind} {x : Str} : ∀ {binds : List (Str × Value)} {m : Str -> Option Value}, (∀ v, (x, v) ∉ binds) -> bindC kindOf binds m x = m x
  | [], _, _=>rfl
  | (n, v) :: r, m, h=>by
    unfold bindC
    rw [Ki λw hw=>h w (List.mem_cons_of_mem _ hw)]
    split
    . rfl
    . have : x ≠ n := by rintro rfl; exact h v List.mem_cons_self
      simp [this]
theorem U9 {kindOf : Str -> Option NameKind} {x : Str} {v : Value} : ∀ {P : List Str} {vs : List Value} {i : Nat} {m : Str -> Option Value}, P.Nodup -> P[i]? = some x -> vs[i]? = some v -> kindOf x = some .local ->
    bindL kindOf (P.zip vs) m x = some v
  | [], _, _, _, _, h, _, _=>by simp at h
  | _ :: _, [], _, _, _, _, h, _=>by simp at h
  | p :: P, w :: vs, 0, m, nd, h1, h2, hk=>by
    simp at h1 h2; subst h1; subst h2
    show bindL kindOf ((p, w) :: P.zip vs) m p = _
    unfold bindL
    rw [KW λv hv=>(List.nodup_cons.mp nd).1 (List.of_mem_zip hv).1, if_pos hk]
    simp
  | p :: P, w :: vs, i + 1, m, nd, h1, h2, hk=>by
    show bindL kindOf ((p, w) :: P.zip vs) m x = _
    unfold bindL
    exact U9 (i:=i) (List.nodup_cons.mp nd).2 (by simpa using h1) (by simpa using h2) hk
theorem Kh {kindOf : Str -> Option NameKind} {x : Str} {v : Value} : ∀ {P : List Str} {vs : List Value} {i : Nat} {m : Str -> Option Value}, P.Nodup -> P[i]? = some x -> vs[i]? = some v -> kindOf x ≠ some .local ->
    bindC kindOf (P.zip vs) m x = some v
  | [], _, _, _, _, h, _, _=>by simp at h
  | _ :: _, [], _, _, _, _, h, _=>by simp at h
  | p :: P, w :: vs, 0, m, nd, h1, h2, hk=>by
    simp at h1 h2; subst h1; subst h2
    show bindC kindOf ((p, w) :: P.zip vs) m p = _
    unfold bindC
    rw [Ki λv hv=>(List.nodup_cons.mp nd).1 (List.of_mem_zip hv).1, if_neg hk]
    simp
  | p :: P, w :: vs, i + 1, m, nd, h1, h2, hk=>by
    show bindC kindOf ((p, w) :: P.zip vs) m x = _
    unfold bindC
    exact Kh (i:=i) (List.nodup_cons.mp nd).2 (by simpa using h1) (by simpa using h2) hk
noncomputable def Uy (N : List Str) (vs : List V) : St:=vs.map some ++ List.replicate (N.length - vs.length) none
noncomputable def HF (CX : CXT) (P : Program) (w : World) (K : PySem.W.Frag) (mg : Str -> Option Value) (base : Heap) (N : List Str) (qual : Str) (scope : Scope) (f : Addr) (cd : Value) (A : Around) (outer : List Env) (s : Shared) (H : Hp) (E : XK) : Cx where
  prog:=P
  w:=w
  K:=K
  mg:=mg
  base:=base
  A:=A.deeper (envOfC qual scope s.heap.objs.size f cd)
  N:=N
  s₀:=s
  H₀:=H
  env:=envOfC qual scope s.heap.objs.size f cd
  outer:=outer
  stack:=envOfC qual scope s.heap.objs.size f cd :: outer
  ex:=[]
  calm:=true
  fn:=λ_=>true
  pn:=[]
  xe:=λe s'=>wpAny (model P w) (A.deeper (envOfC qual scope s.heap.objs.size f cd)) (leaving (envOfC qual scope s.heap.objs.size f cd) e) (λ_ s''=>CX outer H s E e s'') (λe' s''=>CX outer H s E e' s'') s'
theorem Fo {sc : Scope} {n : Nat} {x : Str} (h : sc.names.lookup x = some .cell) : ∃ c, (cellsFrom n sc.names []).lookup x = some c:=by
  have q:=PySem.W.cellsFrom_some sc.names n [] (.inl h)
  exact Option.isSome_iff_exists.mp q
theorem DK {CX : CXT} {P : Program} {w : World} {K : PySem.W.Frag} {mg : Str -> Option Value} {base : Heap} {N ps : List Str} {qual : Str} {scope : Scope} {f : Addr} {cd : Value} {A : Around} {outer : List Env} {s s1 : Shared} {H : Hp} {E : XK} {us : List Value} {vs : List V}
    (S : FnScope N ps scope) (hd : A.handled = none) (e0 : Env0 P w K mg base A outer s H) (hl : vs.length = ps.length) (r : Yr vs us)
    (x : InCallC s s.heap.objs.size (bindL (envOfC qual scope s.heap.objs.size f cd).kindOf (ps.zip us) λ_=>none) (cellsFrom (s.heap.objs.size + 1) scope.names []) (bindC (envOfC qual scope s.heap.objs.size f cd).kindOf (ps.zip us) λ_=>none) s1) :
    Inv (HF CX P w K mg base N qual scope f cd A outer s H E) [] (Uy N vs) H s1:=by
  have hpl : ps.length <= N.length:=by have:=congrArg List.length S.pre; rw [List.length_take] at this; omega
  obtain ⟨h1, tk, rfl, hk⟩:=x.done
  have noA : ∀ b : Addr, b ∉ (HF CX P w K mg base N qual scope f cd A outer s H E).ex:=λb z=>absurd (show b ∈ ([] : List Addr) from z) (by simp)
  refine ⟨⟨e0.mod, S.kind, rfl, rfl, Nat.le_refl _, λy z c h1 h2=>?_, λy hy=>?_, λy c _ h=>?_, λ_=>hd, Around.frames_deeper e0.frames, .inr ⟨rfl, rfl⟩, λb z=>absurd z (noA b), e0.bs, e0.bsz, λb _ _=>noA b, λb z=>absurd z (noA b), e0.funs, e0.frf⟩,
    rfl, e0.bare, Un.kept hk, ⟨_, x.toInCall.ns, λi y v h1 h2 h3=>?_⟩, λy c h=>⟨_, x.cell y c h⟩, e0.hok.fresh (Nat.le_refl _), λy c h=>?_, λp hp=>absurd (show p ∈ ([] : List (Addr × Obj)) from hp) (by simp), e0.hok.kept hk, ?_⟩
  . exact name_of_addr x.apart (PySem.mem_of_lookup h1) (PySem.mem_of_lookup h2)
  . have hy : scope.names.lookup y = some .cell ∨ scope.names.lookup y = some .free := hy
    rcases hy with hy | hy
    . exact Fo hy
    . exact absurd rfl (S.nofree _ (PySem.mem_of_lookup hy))
  . exact Nat.le_of_lt (x.above y c (PySem.mem_of_lookup h))
  . have hi : i < vs.length:=by
      unfold Uy at h2
      by_cases hi : i < vs.length
      . exact hi
      . rw [List.getElem?_append_right (by simpa using hi)] at h2
        rw [List.getElem?_replicate] at h2
        split at h2 <;> cases h2
    have ha : vs[i]? = some v:=by
      unfold Uy at h2
      rw [List.getElem?_append_left (by simpa using hi), List.getElem?_map] at h2
      cases e : vs[i]? with
      | none=>rw [e] at h2; cases h2
      | some a=>rw [e] at h2; cases h2; rfl
    obtain ⟨u, hu, rv⟩:=r.get ha
    have hp : ps[i]? = some y:=by
      rw [← S.pre, List.getElem?_take_of_lt (by omega)]; exact h1
    have ndP : ps.Nodup:=by rw [← S.pre]; exact S.nd.sublist (List.take_sublist _ _)
    refine ⟨u, rv, ?_⟩
    rcases S.par y (List.mem_of_getElem? hp) with k | k
    . exact .inl ⟨k, U9 ndP hp hu k⟩
    . obtain ⟨c, e⟩ := Fo (n := s.heap.objs.size + 1) k
      refine .inr ⟨.inl k, c, e, ?_⟩
      have q:=x.cell y c e
      rw [Kh ndP hp hu (by show scope.names.lookup y ≠ _; rw [k]; decide)] at q
      exact q
  . exact e0.hok.fresh (Nat.le_of_lt (x.above y c (PySem.mem_of_lookup h)))
  . unfold Uy
    show _ = N.length
    rw [List.length_append, List.length_map, List.length_replicate]
    omega
theorem L8 {CX : CXT} {P : Program} {w : World} {K : PySem.W.Frag} {mg : Str -> Option Value} {base : Heap} {k : Nat} {f : Addr} {name qual : Str} {params : Arguments} {body : List Stmt} {scope : Scope} {dV kV doc pm cdv ct oc : Value} {an od : Option Addr}
    {osl : Array (Option Value)} {N ps : List Str} {sp : Sp} (lk : K.lookup f = some ⟨oc, od, .func (PySem.W.fnOf name qual params body scope dV kV doc pm an cdv ct), osl⟩) (hcd : PySem.W.codeIn K cdv qual = true) (S : FnScope N ps scope)
    (len : ∀ vs H Q E, sp vs H Q E -> vs.length = ps.length)
    (hbody : ∀ (A : Around) (outer : List Env) (s : Shared) (H : Hp) (vs : List V) (Q : VK) (E : XK), Room k (A.deeper (envOfC qual scope s.heap.objs.size f cdv)) -> sp vs H Q E ->
      ∃ t, PSs (HF CX P w K mg base N qual scope f cdv A outer s H E) body t /\ t { nx:=λ_ H'=>Q .non H', rt:=Q } (Uy N vs) H) :
    FnOk P w K mg base CX (k + 1) f (PySem.W.fnOf name qual params body scope dV kV doc pm an cdv ct) ps sp:=by
  refine ⟨len, λA outer s H args us vs Q E hr e0 hb r hsp=>?_⟩
  have hl:=len _ _ _ _ hsp
  have KX : K.In s.heap:=e0.mod.kin.keeps λb o e=>(e0.bs b o e).1
  have lim : s.heap.NoLimit:=e0.mod.nolimit.keeps λb o e=>(e0.bs b o e).1
  have hkind : ∀ y ∈ ps.zip us, scope.names.lookup y.1 = some .local ∨ (scope.names.lookup y.1 = some .cell /\ ((cellsFrom (s.heap.objs.size + 1) scope.names []).lookup y.1).isSome = true):=λ⟨n, v⟩ hy=>by
    rcases S.par n (List.of_mem_zip hy).1 with q | q
    . exact .inl q
    . exact .inr ⟨q, PySem.W.cellsFrom_some _ _ _ (.inl q)⟩
  refine codeAny_call_function hr.depth (KX _ _ lk) rfl S.co S.gen rfl (PySem.W.codeRec_of KX hcd) (hb _ _ _ _ ?_)
  refine wpAny_newFunctionEnv_cells S.kind hkind λenv he s1 x=>?_
  subst he
  refine ⟨lim.keeps x.toInCall.keep, codeAny_func ?_⟩
  obtain ⟨t, ht, hq⟩:=hbody A outer s H vs Q E (hr.deeper _) hsp
  have I : Inv (HF CX P w K mg base N qual scope f cdv A outer s H E) [] (Uy N vs) H s1:=DK S hr.hd e0 hl r x
  refine wpAny_mono (ht [] s1 (Uy N vs) H _ I hq) (λfl s' hs=>?_) λe s' hs=>hs
  have fin : ∀ {σ' : St} {H' : Hp} {v : V} {u : Value}, Inv (HF CX P w K mg base N qual scope f cdv A outer s H E) [] σ' H' s' -> Yl v u -> Q v H' -> CE outer P w H s Q u s':=
    fun {σ' H' v u} J rv q=>⟨v, H', J.os, J.bare, J.base, J.hok, rv, q⟩
  cases fl with
  | ret u=>
    obtain ⟨v, σ', H', J, rv, q⟩:=hs
    exact fin J rv q
  | next=>
    obtain ⟨σ', H', J, q⟩:=hs
    exact fin (v:=V.non) (u:=Value.none) J rfl q
  | brk=>
    obtain ⟨_, _, _, q⟩:=hs
    exact False.elim q
  | cont=>
    obtain ⟨_, _, _, q⟩:=hs
    exact False.elim q
section
variable {X : Cx} {x : Str} {p pos : Pos} {e : Expr} {es : List Expr} {t : TA} {id T : String} {r : List V -> Hp -> VK -> Prop}
noncomputable def tCB (r : List V -> Hp -> VK -> Prop) (t : TA) : TE:=λσ H Q=>t σ H λvs H1=>r vs H1 Q
theorem Xr (hc : Jr X (.builtin id) r) (hg : Gl X x) (hm : X.mg x = none) (hv : bootBuiltins x = some (.builtin id)) (ha : PA X (e :: es) t) (hn : x ≠ "__name__":=by decide) (hdb : (x == ("__debug__" : Str)) = false:=by decide)
    (he : starEach (e :: es) X.env = (false, eval e X.env) :: starEach es X.env:=by rfl) (hpl : (backTo pos (starEach es X.env)).any (·.1) = false:=by rfl) : PE X (.Call (.Name x p) (e :: es) [] pos) (tCB r t):=by
  intro pins s σ H Q I h
  refine wpAny_Call_Name_kw (Vy I hg hm hv ?_ hn hdb)
  exact PyProof.Rows.callWith_builtin1 (thn (ha pos pins s σ H _ I h) λus s1 r9=>by obtain ⟨vs, H1, I1, r1, q1⟩:=r9; exact hc pins s1 σ H1 vs us Q I1 r1 q1) he hpl
theorem Qy (hc : Jr X (.type T) r) (hg : Gl X x) (hm : X.mg x = none) (hv : bootBuiltins x = some (.type T)) (ha : PA X (e :: es) t) (hn : x ≠ "__name__":=by decide) (hdb : (x == ("__debug__" : Str)) = false:=by decide)
    (he : starEach (e :: es) X.env = (false, eval e X.env) :: starEach es X.env:=by rfl) (hpl : (backTo pos (starEach es X.env)).any (·.1) = false:=by rfl) : PE X (.Call (.Name x p) (e :: es) [] pos) (tCB r t):=by
  intro pins s σ H Q I h
  refine wpAny_Call_Name_kw (Vy I hg hm hv ?_ hn hdb)
  exact PyProof.Rows.callWith_type1 (thn (ha pos pins s σ H _ I h) λus s1 r9=>by obtain ⟨vs, H1, I1, r1, q1⟩:=r9; exact hc pins s1 σ H1 vs us Q I1 r1 q1) he hpl
end
end L2
namespace HT
open PySem PyProof.Rows
section
open PySem.SeqAt
open PySem.AutoSeq1 (wpAny_loadPart')
open PySem.MeetsSeq PySem.MeetsSeq2 PySem.MeetsSeq3
end
section
variable {prog : Program} {w : World} {A : Around} {E : Value -> Shared -> Prop} {s : Shared}
noncomputable def sIx (n d : Nat) : Option Int -> Nat
  | none=>d
  | some v=>if v < 0 then (v + (n : Int)).toNat else min v.toNat n
theorem sIx_none (n d : Nat) : sIx n d none = d:=rfl
theorem sIx_nat (n d k : Nat) : sIx n d (some (k : Int)) = min k n:=by
  show (if (k : Int) < 0 then ((k : Int) + (n : Int)).toNat else min (k : Int).toNat n) = min k n
  rw [if_neg (by omega), Int.toNat_natCast]
end
end HT
namespace L2
open PySem PySem.Spec PyProof.Rows
noncomputable abbrev TO:=St -> Hp -> (Option Int -> Hp -> Prop) -> Prop
noncomputable def PO (X : Cx) (e : Option Expr) (t : TO) : Prop:=
  ∀ (pins : List (Addr × Obj)) (s : Shared) (σ : St) (H : Hp) (Q : Option Int -> Hp -> Prop), Inv X pins σ H s -> t σ H Q ->
    wpAny (model X.prog X.w) X.A (evalPart e X.env) (λu s'=>∃ o H', Inv X pins σ H' s' /\ IsPart u o /\ Q o H') X.xe s
noncomputable def CT : TO:=λ_ H Q=>Q none H
noncomputable def Le (t : TE) : TO:=λσ H Q=>t σ H λx H1=>∃ i, x = .int i /\ Q (some i) H1
theorem F0 {ns : List Int} : ∀ {us : List Value}, Yr (ns.map V.int) us -> IntsAre us ns:=by
  induction ns with
  | nil=>intro us r; rw [List.map_nil] at r; cases r; exact .nil
  | cons n ns ih=>
    intro us r
    rw [List.map_cons] at r
    cases r with
    | cons r1 r2=>
      obtain ⟨t, e⟩:=r1
      subst e
      exact .cons n t (ih r2)
section
variable {X : Cx} {e : Expr} {te : TE} {lo hi : Option Expr} {tl th : TO} {pos p2 : Pos}
theorem GL : PO X none CT:=by
  intro pins s σ H Q I h
  rw [evalPart_none]
  exact wpAny_pure ⟨none, H, I, .none, h⟩
theorem K3 (h : PE X e te) : PO X (some e) (Le te):=by
  intro pins s σ H Q I hw
  rw [evalPart_some]
  refine thn (h pins s σ H _ I hw) λu s1 r9=>?_
  obtain ⟨x, H1, I1, r1, q1⟩:=r9
  obtain ⟨i, rfl, q⟩:=q1
  obtain ⟨t, rfl⟩:=r1
  exact ⟨some i, H1, I1, .int i t, q⟩
noncomputable def SlR (X : Cx) (r : V -> Option Int -> Option Int -> Hp -> VK -> Prop) : Prop:=
  ∀ (pins : List (Addr × Obj)) (s : Shared) (σ : St) (H : Hp) (x : V) (v vl vu : Value) (lo hi : Option Int) (sl : Addr) (Q : VK), Inv X pins σ H s -> Yl x v -> s.heap.IsSliceOf sl vl vu .none -> IsPart vl lo -> IsPart vu hi -> r x lo hi H Q ->
    ∃ T id, typeLookup (.type T) "__getitem__" = pure (some (.builtin id)) /\ s.TypeIs v T /\ wpAny (model X.prog X.w) X.A (getItem v (.ref sl)) (EP X pins σ Q) X.xe s
noncomputable def tSl (r : V -> Option Int -> Option Int -> Hp -> VK -> Prop) (te : TE) (tl th : TO) : TE:=λσ H Q=>te σ H λx H1=>tl σ H1 λl H2=>th σ H2 λu H3=>r x l u H3 Q
theorem UM {r : V -> Option Int -> Option Int -> Hp -> VK -> Prop} (hr : SlR X r) (he : PE X e te) (hl : PO X lo tl) (hu : PO X hi th) : PE X (.Subscript e (.Slice lo hi none p2) pos) (tSl r te tl th):=by
  intro pins s σ H Q I h
  refine Subscript_ (thn (he pins s σ H _ I h) λv s1 r9=>?_)
  obtain ⟨x, H1, I1, r1, q1⟩:=r9
  refine wpAny_Slice (thn (hl pins s1 σ H1 _ I1 q1) λvl s2 ⟨l, H2, I2, pl, q2⟩=>thn (hu pins s2 σ H2 _ I2 q2) λvu s3 r9=>?_)
  obtain ⟨u, H3, I3, pu, q3⟩:=r9
  rw [evalPart_none]
  refine wpAny_pure ?_
  have I4 : Inv X pins σ H3 { s3 with heap:=s3.heap.push { cls:=.type "slice", data:=.fields #[vl, vu, .none] } }:=I3.kept (t':=s3.toks) λb ob q=>Heap.get?_push_of_some _ q
  obtain ⟨T, id, hT, ht, hg⟩:=hr pins { s3 with heap:=s3.heap.push { cls:=.type "slice", data:=.fields #[vl, vu, .none] } } σ H3 x v vl vu l u s3.heap.objs.size Q I4 r1 (Heap.IsSliceOf.new ..) pl pu q3
  show wpAny (model X.prog X.w) X.A (subscriptTail e (.Slice lo hi none p2) v (.ref s3.heap.objs.size)) (EP X pins σ Q) X.xe { s3 with heap:=s3.heap.push { cls:=.type "slice", data:=.fields #[vl, vu, .none] } }
  exact tail_any (ops:=[.ref s3.heap.objs.size, v]) ht hT hg (by with_unfolding_all rfl)
noncomputable def IC (xs : List V) (lo hi : Option Int) : List V:=(xs.drop (HT.sIx xs.length 0 lo)).take (HT.sIx xs.length xs.length hi - HT.sIx xs.length 0 lo)
theorem GC (xs : List V) (lo hi : Option Int) : (IC xs lo hi).length <= xs.length:=by
  unfold IC
  rw [List.length_take, List.length_drop]
  omega
end
noncomputable def ixN (n : Nat) (i : Int) : Option Nat:=if 0 <= i then (if i < n then some i.toNat else none) else if -(n : Int) <= i then some (i + n).toNat else none
noncomputable def atI {α : Type} (xs : List α) (i : Int) : Option α:=(ixN xs.length i).bind λj=>xs[j]?
theorem CW {n : Nat} {i : Int} {j : Nat} (h : ixN n i = some j) : seqIndex? i n = some j /\ j < n /\ -(n : Int) <= i /\ i < n:=by
  unfold ixN at h
  by_cases h0 : 0 <= i
  . rw [if_pos h0] at h
    by_cases h1 : i < n
    . rw [if_pos h1] at h
      have e : i.toNat = j:=Option.some.inj h
      exact ⟨by rw [seqIndex_of h0 h1, e], by omega, by omega, h1⟩
    . rw [if_neg h1] at h; cases h
  . rw [if_neg h0] at h
    by_cases h1 : -(n : Int) <= i
    . rw [if_pos h1] at h
      have e : (i + n).toNat = j:=Option.some.inj h
      exact ⟨by rw [seqIndex_neg (by omega) h1, e], by omega, h1, by omega⟩
    . rw [if_neg h1] at h; cases h
theorem K2 {α : Type} {xs : List α} {i : Int} {v : α} (h : atI xs i = some v) : ∃ j, seqIndex? i xs.length = some j /\ xs[j]? = some v /\ j < xs.length /\ -(xs.length : Int) <= i /\ i < xs.length:=by
  unfold atI at h
  cases e : ixN xs.length i with
  | none=>rw [e] at h; cases h
  | some j=>
    rw [e] at h
    obtain ⟨h1, h2, h3, h4⟩:=CW e
    exact ⟨j, h1, h, h2, h3, h4⟩
noncomputable def HE (b : Expr) : Prop:=∀ o i, subscripted b false o i = operate [o, i] (getItem o i)
noncomputable def IxR (X : Cx) (r : R2) : Prop:=
  ∀ (value slice : Expr) (pins : List (Addr × Obj)) (s : Shared) (σ : St) (H : Hp) (x y : V) (v u : Value) (Q : VK), Inv X pins σ H s -> Yl x v -> Yl y u -> r x y H Q ->
    subscripted slice false v u = operate [v, u] (getItem v u) -> wpAny (model X.prog X.w) X.A (subscriptTail value slice v u) (EP X pins σ Q) X.xe s
noncomputable def MtR (X : Cx) (id : String) (r : V -> List V -> Hp -> VK -> Prop) : Prop:=
  ∀ (pins : List (Addr × Obj)) (s : Shared) (σ : St) (H : Hp) (x : V) (xs : List V) (v : Value) (us : List Value) (Q : VK), Inv X pins σ H s -> Yl x v -> Yr xs us -> r x xs H Q ->
    wpAny (model X.prog X.w) X.A (call (.builtin id) (v :: us)) (EP X pins σ Q) X.xe s
section
variable {X : Cx} {a b : Expr} {ta tb : TE} {pos : Pos}
theorem XE {r : R2} (hr : IxR X r) (ha : PE X a ta) (hb : PE X b tb) (hs : HE b) : PE X (.Subscript a b pos) (tOp r ta tb):=by
  intro pins s σ H Q I h
  exact Subscript_ (Mk ha hb I h λv u s2 x y H2 I2 rx ry q=>hr a b pins s2 σ H2 x y v u Q I2 rx ry q (hs _ _))
noncomputable def ED (K : PySem.W.Frag) : R2:=λx y H Q=>∃ p xs i v, x = .ref p /\ y = .int i /\ SqL K H p xs /\ atI xs i = some v /\ Q v H
noncomputable def EU (K : PySem.W.Frag) : R2:=λx y H Q=>∃ p xs i v, x = .ref p /\ y = .int i /\ SqT K H p xs /\ atI xs i = some v /\ Q v H
theorem Ho : IxR X (ED X.K):=by
  intro value slice pins s σ H x y v u Q I rx ry h hs
  obtain ⟨p, xs, i, z, rfl, rfl, hq, he, q⟩:=h
  cases rx
  obtain ⟨t, rfl⟩:=ry
  obtain ⟨its, r, pl, hz⟩:=I.list hq
  obtain ⟨j, h1, h2, h3, h4, h5⟩:=K2 he
  obtain ⟨w, ew, rw'⟩:=r.get h2
  have hl:=r.length
  have hn:=KH
  have fin : EP X pins σ Q w s:=⟨z, H, I, rw', q⟩
  by_cases h0 : 0 <= i
  . have hj : i.toNat = j:=by
      rw [seqIndex_of h0 h5] at h1
      exact Option.some.inj h1
    exact item_listR pl.isList h0 (by omega) (by rw [hj]; simpa using ew) fin hs
  . have hj : (i + (its.toArray.size : Int)).toNat = j:=by
      rw [seqIndex_neg (by omega) h4] at h1
      rw [List.size_toArray, ← hl]
      exact Option.some.inj h1
    exact subscriptTail_builtinR (x:=w) pl.isList.typeIs slot_list_getitem.lookup
      (wpAny_getItem_list_neg (Q:=λr s'=>r = w /\ EP X pins σ Q r s') pl.isList (by omega) (by rw [List.size_toArray] <;> omega) (by omega) (by rw [hj]; simpa using ew) ⟨rfl, fin⟩) hs
theorem Lg : IxR X (EU X.K):=by
  intro value slice pins s σ H x y v u Q I rx ry h hs
  obtain ⟨p, xs, i, z, rfl, rfl, hq, he, q⟩:=h
  cases rx
  obtain ⟨t, rfl⟩:=ry
  obtain ⟨its, r, pl, hz⟩:=I.tuple hq
  obtain ⟨j, h1, h2, h3, h4, h5⟩:=K2 he
  obtain ⟨w, ew, rw'⟩:=r.get h2
  have hl:=r.length
  have hn:=KH
  have fin : EP X pins σ Q w s:=⟨z, H, I, rw', q⟩
  exact subscriptTail_builtinR (x:=w) pl.typeIs slot_tuple_getitem.lookup
    (getItem_tuple (j:=j) (Q:=λr s'=>r = w /\ EP X pins σ Q r s') pl (by omega) (by omega) (by rw [List.size_toArray, ← hl]; exact h1) (by simpa using ew) ⟨rfl, fin⟩) hs
theorem FY (its : List Value) (n j : Nat) (u : Value) : Obj.mapSeq (·.setIfInBounds j u) { cls:=.type "list", data:=.seq its.toArray n } = { cls:=.type "list", data:=.seq (its.set j u).toArray n }:=by
  simp [Obj.mapSeq]
theorem Inv.lst {pins : List (Addr × Obj)} {σ : St} {H : Hp} {s : Shared} {p : Addr} {xs : List V} (I : Inv X pins σ H s) (h : H p = some (.lst xs)) :
    ∃ (its : List Value) (n : Nat), Yr xs its /\ s.heap.get? p = some { cls:=.type "list", data:=.seq its.toArray n } /\ xs.length <= sizeLine:=by
  obtain ⟨z, its, n, r, e⟩:=I.hok p _ h
  exact ⟨its, n, r, e, z⟩
theorem Inv.lstUpd {pins : List (Addr × Obj)} {σ : St} {H : Hp} {s : Shared} {p : Addr} {xs ys : List V} {its its' : List Value} {n n' : Nat} {f : Obj -> Obj} (I : Inv X pins σ H s) (h : H p = some (.lst xs))
    (ho : s.heap.get? p = some { cls:=.type "list", data:=.seq its.toArray n }) (hf : f { cls:=.type "list", data:=.seq its.toArray n } = { cls:=.type "list", data:=.seq its'.toArray n' }) (r : Yr ys its') (hz : ys.length <= sizeLine) (t : Nat) :
    Inv X pins σ (upd H p (.lst ys)) { s with heap:=s.heap.update p f, toks:=t }:=by
  have e : (s.heap.update p f).get? p = some { cls:=.type "list", data:=.seq its'.toArray n' }:=by
    rw [Heap.get?_update_self f ho (by rw [hf] <;> rfl), hf]
  refine I.write (x:=p) (e:=p) (by rw [h]; trivial) (.inl rfl) (λb u hb q=>(Heap.get?_update_other _ _ (Ne.symm hb)).trans q) ⟨_, e⟩ ?_
  exact ⟨hz, its', n', r, e⟩
noncomputable def Hr : V -> V -> V -> Hp -> (Hp -> Prop) -> Prop:=λo i v H Q=>∃ p xs k j, o = .ref p /\ i = .int k /\ H p = some (.lst xs) /\ ixN xs.length k = some j /\ Q (upd H p (.lst (xs.set j v)))
theorem Zq : Mi X Hr:=by
  intro pins s σ H o i v ov iv u Q I ro ri rv h
  obtain ⟨p, xs, k, j, rfl, rfl, hp, hj, q⟩:=h
  cases ro
  obtain ⟨t, rfl⟩:=ri
  obtain ⟨its, n, r, ho, hz⟩:=I.lst hp
  obtain ⟨h1, h2, h3, h4⟩:=CW hj
  have hl:=r.length
  have hn:=KH
  have I' : Inv X pins σ (upd H p (.lst (xs.set j v))) { s with heap:=s.heap.update p (Obj.mapSeq (·.setIfInBounds j u)) }:=
    I.lstUpd hp ho (FY its n j u) (r.set rv j) (by rw [List.length_set]; exact hz) s.toks
  by_cases h0 : 0 <= k
  . have hk : k.toNat = j:=by
      rw [seqIndex_of h0 h4] at h1
      exact Option.some.inj h1
    exact PySem.W.ki_setAt ho h0 (by omega) (by rw [List.size_toArray, ← hl]; exact h4) (by rw [hk]; exact ⟨_, I', q⟩)
  . have hk : (k + (its.toArray.size : Int)).toNat = j:=by
      rw [seqIndex_neg (by omega) h3] at h1
      rw [List.size_toArray, ← hl]
      exact Option.some.inj h1
    exact PySem.W.ki_setBack ho (by omega) (by rw [List.size_toArray, ← hl]; exact h3) (by omega) (by rw [hk]; exact ⟨_, I', q⟩)
theorem Kx (lo hi : Option Int) (n : Nat) : (sliceBounds lo hi none n).1 = ((HT.sIx n 0 lo : Nat) : Int) /\ (sliceBounds lo hi none n).2.1 = ((HT.sIx n n hi : Nat) : Int) /\ (sliceBounds lo hi none n).2.2 = 1:=by
  refine ⟨?_, ?_, rfl⟩
  . cases lo with
    | none=>simp [sliceBounds, HT.sIx]
    | some i=>
      simp only [sliceBounds, HT.sIx, Option.getD_none, show (1 : Int) > 0 by decide, if_true]
      by_cases h : i < 0
      . simp only [h, if_true] <;> omega
      . simp only [h, if_false] <;> omega
  . cases hi with
    | none=>simp [sliceBounds, HT.sIx]
    | some i=>
      simp only [sliceBounds, HT.sIx, Option.getD_none, show (1 : Int) > 0 by decide, if_true]
      by_cases h : i < 0
      . simp only [h, if_true] <;> omega
      . simp only [h, if_false] <;> omega
theorem UE (its : List Value) (lo hi : Option Int) : slicePick its.toArray lo hi none = ((its.drop (HT.sIx its.length 0 lo)).take (HT.sIx its.length its.length hi - HT.sIx its.length 0 lo)).toArray:=by
  obtain ⟨h1, h2, h3⟩:=Kx lo hi its.toArray.size
  unfold slicePick
  rw [h1, h2, h3]
  simp only [sliceRange_one, pick_run, List.size_toArray] <;> rfl
noncomputable def LZ (K : PySem.W.Frag) : V -> Option Int -> Option Int -> Hp -> VK -> Prop:=λx lo hi H Q=>∃ a xs, x = .ref a /\ SqL K H a xs /\ ∀ p, H p = none -> Q (.ref p) (upd H p (.lst (IC xs lo hi)))
theorem E7 : SlR X (LZ X.K):=by
  intro pins s σ H x v vl vu lo hi sl Q I rx hs pl pu h
  obtain ⟨a, xs, rfl, hx, q⟩:=h
  cases rx
  obtain ⟨its, r, ht, hz⟩:=I.list hx
  have hlen:=r.length
  refine ⟨"list", _, slot_list_getitem.lookup, ht.isList.typeIs, ?_⟩
  refine wpAny_getItem_list_slice ht.isList hs pl pu .none (by simp) ?_ (by rw [List.size_toArray] <;> omega)
  rw [UE, ← hlen]
  refine ⟨.ref s.heap.objs.size, _, I.laid (t':=s.toks) (o:=.lst (IC xs lo hi)) (λb ob q=>Heap.get?_push_of_some _ q) (Nat.le_refl _) ?_, rfl, q _ (I.hok.fresh (Nat.le_refl _))⟩
  exact ⟨Nat.le_trans (GC xs lo hi) hz, _, 0, (r.drop (HT.sIx xs.length 0 lo)).take (HT.sIx xs.length xs.length hi - HT.sIx xs.length 0 lo), Heap.get?_push_size _ rfl⟩
noncomputable def JU : V -> Bool
  | .non=>true
  | .bl _=>true
  | .int _=>true
  | .str _=>true
  | _=>false
noncomputable def eqV : V -> V -> Bool
  | .non, .non=>true
  | .bl a, .bl b=>a == b
  | .bl a, .int b=>(if a then 1 else 0) == b
  | .int a, .bl b=>a == (if b then 1 else 0)
  | .int a, .int b=>a == b
  | .str a, .str b=>a == b
  | _, _=>false
theorem LH {A : Around} {s : Shared} {y x : V} {u v : Value} (ry : Yl y u) (rx : Yl x v) (fy : JU y = true) (fx : JU x = true) : SeqAt.EqAt A s u v (eqV y x):=by
  cases y with
  | non=>
    cases ry
    cases x with
    | non=>cases rx; exact SeqAt.EqAt.same _
    | bl b=>cases rx; exact SeqAt.EqAt.none_bool b
    | int b=>obtain ⟨t, rfl⟩:=rx; exact SeqAt.EqAt.none_int b t
    | str b=>obtain ⟨t, rfl⟩:=rx; exact SeqAt.EqAt.none_str b t
    | _=>exact absurd (show false = true from fx) Bool.false_ne_true
  | bl a=>
    cases ry
    cases x with
    | non=>cases rx; exact SeqAt.EqAt.bool_none a
    | bl b=>cases rx; exact SeqAt.EqAt.bool_bool a b
    | int b=>obtain ⟨t, rfl⟩:=rx; exact SeqAt.EqAt.bool_int a b t
    | str b=>obtain ⟨t, rfl⟩:=rx; exact SeqAt.EqAt.bool_str a b t
    | _=>exact absurd (show false = true from fx) Bool.false_ne_true
  | int a=>
    obtain ⟨t', rfl⟩:=ry
    cases x with
    | non=>cases rx; exact SeqAt.EqAt.int_none a t'
    | bl b=>cases rx; exact SeqAt.EqAt.int_bool a t' b
    | int b=>obtain ⟨t, rfl⟩:=rx; exact SeqAt.EqAt.int_int a t' b t
    | str b=>obtain ⟨t, rfl⟩:=rx; exact SeqAt.EqAt.int_str a t' b t
    | _=>exact absurd (show false = true from fx) Bool.false_ne_true
  | str a=>
    obtain ⟨t', rfl⟩:=ry
    cases x with
    | non=>cases rx; exact SeqAt.EqAt.str_none a t'
    | bl b=>cases rx; exact SeqAt.EqAt.str_bool a t' b
    | int b=>obtain ⟨t, rfl⟩:=rx; exact SeqAt.EqAt.str_int a t' b t
    | str b=>obtain ⟨t, rfl⟩:=rx; exact SeqAt.EqAt.str_str a t' b t
    | _=>exact absurd (show false = true from fx) Bool.false_ne_true
  | _=>exact absurd (show false = true from fy) Bool.false_ne_true
noncomputable def eqU (x : V) (u : Value) : Bool:=match u with
  | .none=>eqV .non x
  | .bool b=>eqV (.bl b) x
  | .int i _=>eqV (.int i) x
  | .str z _=>eqV (.str z) x
  | _=>false
theorem Dj {x y : V} {u : Value} (r : Yl y u) (f : JU y = true) : eqU x u = eqV y x:=by
  cases y with
  | non=>cases r; rfl
  | bl b=>cases r; rfl
  | int i=>obtain ⟨t, rfl⟩:=r; rfl
  | str z=>obtain ⟨t, rfl⟩:=r; rfl
  | _=>exact absurd (show false = true from f) Bool.false_ne_true
theorem GE {x : V} : ∀ {xs : List V} {us : List Value}, Yr xs us -> xs.all JU = true -> us.any (eqU x) = xs.any λy=>eqV y x
  | _, _, .nil, _=>rfl
  | y :: xs, u :: us, .cons r t, f=>by
    rw [List.all_cons, Bool.and_eq_true] at f
    rw [List.any_cons, List.any_cons, Dj r f.1, GE t f.2]
theorem J5 {A : Around} {s : Shared} {x : V} {v : Value} (rx : Yl x v) (fx : JU x = true) : ∀ {xs : List V} {us : List Value}, Yr xs us -> xs.all JU = true -> ∀ u ∈ us, SeqAt.EqAt A s u v (eqU x u)
  | _, _, .nil, _=>λu hu=>by cases hu
  | y :: xs, u :: us, .cons r t, f=>λu' hu=>by
    rw [List.all_cons, Bool.and_eq_true] at f
    rcases List.mem_cons.mp hu with rfl | hu
    . rw [Dj r f.1]; exact LH r rx f.1 fx
    . exact J5 rx fx t f.2 u' hu
noncomputable def inV (x : V) (xs : List V) : Bool:=xs.any λy=>eqV y x
noncomputable def rIn (K : PySem.W.Frag) (neg : Bool) : R2:=λx y H Q=>∃ p xs, y = .ref p /\ (SqL K H p xs ∨ SqT K H p xs) /\ JU x = true /\ xs.all JU = true /\ Q (.bl (if neg then !inV x xs else inV x xs)) H
theorem KM : OpR X (compareOp .In) (rIn X.K false):=by
  intro pins s σ H x y v u Q I rx ry h
  obtain ⟨p, xs, rfl, hq, fx, fs, q⟩:=h
  cases ry
  rcases hq with hq | hq
  . obtain ⟨its, r, pl, hz⟩ := I.list hq
    refine SeqAt.in_listAt (eqU x) pl.isList (λw hw=>J5 rx fx r fs w (by simpa using hw)) ⟨.bl _, H, I, rfl, ?_⟩
    rw [show its.toArray.any (eqU x) = its.any (eqU x) by simp, GE r fs]
    exact q
  . obtain ⟨its, r, pl, hz⟩ := I.tuple hq
    refine SeqAt.in_tupleAt (eqU x) pl (λw hw=>J5 rx fx r fs w (by simpa using hw)) ⟨.bl _, H, I, rfl, ?_⟩
    rw [show its.toArray.any (eqU x) = its.any (eqU x) by simp, GE r fs]
    exact q
theorem U7 : Jr X (.builtin "len") (λxs H Q=>∃ p ys, xs = [.ref p] /\ (SqL X.K H p ys ∨ SqT X.K H p ys) /\ Q (.int ys.length) H):=by
  intro pins s σ H xs us Q I r h
  obtain ⟨p, ys, rfl, hq, q⟩:=h
  obtain ⟨u, rfl, rx⟩:=GM r
  cases rx
  have hn:=KH
  rcases hq with hq | hq
  . obtain ⟨its, r', pl, hz⟩ := I.list hq
    have hlen:=r'.length
    exact Calls.call_len_list pl.isList (by simp only [List.size_toArray] <;> omega) ⟨.int ys.length, H, I.tok _, ⟨s.toks + 1, by rw [List.size_toArray, hlen]⟩, q⟩
  . obtain ⟨its, r', pl, hz⟩ := I.tuple hq
    have hlen:=r'.length
    exact len_tuple pl (by simp only [List.size_toArray] <;> omega) ⟨.int ys.length, H, I.tok _, ⟨s.toks + 1, by rw [List.size_toArray, hlen]⟩, q⟩
theorem Km : Jr X (.type "list") (λxs H Q=>∃ p ys, xs = [.ref p] /\ (SqL X.K H p ys ∨ SqT X.K H p ys) /\ ∀ l, H l = none -> Q (.ref l) (upd H l (.lst ys))):=by
  intro pins s σ H xs us Q I r h
  obtain ⟨p, ys, rfl, hq, q⟩:=h
  obtain ⟨u, rfl, rx⟩:=GM r
  cases rx
  have fin : ∀ (its : List Value), Yr ys its -> ys.length <= sizeLine -> ∀ (h' : Heap) (c' : Nat), (∀ b o', s.heap.get? b = some o' -> h'.get? b = some o') ->
      h'.get? s.heap.objs.size = some { cls:=.type "list", dict:=none, data:=.seq its.toArray c', slots:=#[] } -> EP X pins σ Q (.ref s.heap.objs.size) { s with heap:=h' }:=λits r' hz h' c' kp e=>
    ⟨.ref s.heap.objs.size, _, I.laid (t':=s.toks) kp (Nat.le_refl _) (show YW X.prog X.w _ h' _ (.lst ys) from ⟨hz, its, c', r', e⟩), rfl, q _ (I.hok.fresh (Nat.le_refl _))⟩
  rcases hq with hq | hq
  . obtain ⟨its, r', pl, hz⟩ := I.list hq
    have hlen:=r'.length
    obtain ⟨o, ho, hc, n, hd⟩:=pl.isList
    exact call_list_seq p (.inl rfl) ho hc hd (λh' c' kp e=>fin its r' hz h' c' kp e) (by simp only [List.size_toArray] <;> omega)
  . obtain ⟨its, r', pl, hz⟩ := I.tuple hq
    have hlen:=r'.length
    obtain ⟨o, ho, hc, n, hd⟩:=pl
    exact call_list_seq p (.inr rfl) ho hc hd (λh' c' kp e=>fin its r' hz h' c' kp e) (by simp only [List.size_toArray] <;> omega)
noncomputable def tyV (K : PySem.W.Frag) (T : String) (x : V) (H : Hp) : Prop:=match x with
  | .str _=>T = "str"
  | .int _=>T = "int"
  | .ref p=>(T = "list" /\ ∃ xs, SqL K H p xs) ∨ (T = "tuple" /\ ∃ o, K.lookup p = some o /\ o.cls = .type "tuple" /\ o.dict = none) ∨
      (T = "dict" /\ ((∃ kvs, H p = some (.dK kvs)) ∨ ∃ kvs, H p = some (.dT kvs))) ∨ (T = "set" /\ ∃ S n, H p = some (.set S n))
  | _=>False
theorem EG {pins : List (Addr × Obj)} {σ : St} {H : Hp} {s : Shared} {T : String} {x : V} {v : Value} (I : Inv X pins σ H s) (r : Yl x v) (ty : tyV X.K T x H) :
    s.TypeIs v T /\ ∀ a, v = .ref a -> ∃ ob, s.heap.get? a = some ob /\ ob.dict = none:=by
  cases x with
  | str z=>
    obtain ⟨t, rfl⟩:=r
    cases (show T = "str" from ty)
    exact ⟨typeIs_str s z t, λ_ e=>nomatch e⟩
  | int i=>
    obtain ⟨t, rfl⟩:=r
    cases (show T = "int" from ty)
    exact ⟨typeIs_int s i t, λ_ e=>nomatch e⟩
  | ref p=>
    cases r
    rcases ty with ⟨rfl, xs, hq⟩ | ⟨rfl, o, hk, hc, hd⟩ | ⟨rfl, hk⟩ | ⟨rfl, S, n, hk⟩
    . obtain ⟨its, _, pl, _⟩ := I.list hq
      refine ⟨pl.isList.typeIs, λa e=>?_⟩
      cases e
      obtain ⟨o, n, e, c, hd, _⟩:=pl
      exact ⟨o, e, hd⟩
    . refine ⟨⟨o, I.kIn p o hk, hc⟩, λa e => ?_⟩
      cases e
      exact ⟨o, I.kIn _ o hk, hd⟩
    . have z : ∃ o, s.heap.get? p = some o /\ o.ExactDict:=by
        rcases hk with ⟨kvs, hk⟩ | ⟨kvs, hk⟩
        . obtain ⟨_, _, _, _, o, _, _, e, ex, _⟩ := I.hok p _ hk
          exact ⟨o, e, ex⟩
        . obtain ⟨_, _, _, _, o, _, _, e, ex, _⟩ := I.hok p _ hk
          exact ⟨o, e, ex⟩
      obtain ⟨o, e, ex⟩:=z
      refine ⟨⟨o, e, ex.1⟩, λa e2=>?_⟩
      cases e2
      exact ⟨o, e, ex.2.1⟩
    . obtain ⟨o, _, _, _, e, ex, _⟩ := I.hok p _ hk
      refine ⟨⟨o, e, ex.1⟩, λa e2=>?_⟩
      cases e2
      exact ⟨o, e, ex.2.1⟩
  | _=>exact False.elim ty
noncomputable def MF (K : PySem.W.Frag) (T : String) (r : V -> List V -> Hp -> VK -> Prop) (to : TE) : TE:=λσ H Q=>to σ H λx H1=>tyV K T x H1 /\ r x [] H1 Q
noncomputable def tBM (K : PySem.W.Frag) (T : String) (r : V -> List V -> Hp -> VK -> Prop) (to : TE) (t : TA) : TE:=λσ H Q=>to σ H λx H1=>tyV K T x H1 /\ t σ H1 λxs H2=>r x xs H2 Q
variable {o e : Expr} {es : List Expr} {to : TE} {t : TA} {name : Str} {apos cpos : Pos} {T id : String} {r : V -> List V -> Hp -> VK -> Prop}
theorem IV (pa : PlainAttrs T) (slot : Slot T name id) (hty : typeOf (.builtin id) = pure (.type "method_descriptor")) (hm : MtR X id r) (ho : PE X o to)
    (hbase : attributeBase o name X.env (eval o X.env) = eval o X.env:=by rfl) (hline : (apos.endLine == cpos.line) = true:=by rfl) : PE X (.Call (.Attribute o name apos) [] [] cpos) (MF X.K T r to):=by
  intro pins s σ H Q I h
  refine wpAny_Call_method0_late hbase hline (thn (ho pins s σ H _ I h) λv s1 r9=>?_)
  obtain ⟨x, H1, I1, r1, ty, q1⟩:=r9
  obtain ⟨h1, h2⟩:=EG I1 r1 ty
  exact ⟨T, id, pa, slot, hty, h1, h2, Calls.callWith_builtin rfl (PySem.evalArgs_none (hm pins s1 σ H1 x [] v [] Q I1 r1 .nil q1))⟩
theorem ZJ (pa : PlainAttrs T) (slot : Slot T name id) (hty : typeOf (.builtin id) = pure (.type "method_descriptor")) (hm : MtR X id r) (ho : PE X o to) (ha : PA X (e :: es) t)
    (hbase : attributeBase o name X.env (eval o X.env) = eval o X.env:=by rfl)
    (hfew : ((backTo cpos (starEach (e :: es) X.env)).all (λx=>!x.1) && (backToKw cpos (keywordEach [] X.env)).all (λx=>x.1.isSome)
      && decide ((e :: es).length + ([] : List Keyword).length + (if ([] : List Keyword).isEmpty then 0 else 1) < 30)) = true:=by rfl)
    (hline : (apos.endLine == cpos.line) = true:=by rfl) (hs : starEach (e :: es) X.env = (false, eval e X.env) :: starEach es X.env:=by rfl) (hplain : (backTo cpos (starEach es X.env)).any (·.1) = false:=by rfl) :
    PE X (.Call (.Attribute o name apos) (e :: es) [] cpos) (tBM X.K T r to t):=by
  intro pins s σ H Q I h
  refine wpAny_Call_method_late hbase hfew hline rfl (thn (ho pins s σ H _ I h) λv s1 r9=>?_)
  obtain ⟨x, H1, I1, r1, ty, q1⟩:=r9
  obtain ⟨h1, h2⟩:=EG I1 r1 ty
  refine ⟨T, id, pa, slot, hty, h1, h2, ?_⟩
  have hA:=ha cpos pins s1 σ H1 _ I1 q1
  rw [hs] at hA ⊢
  refine Calls.callWith_builtin (by show (false || (backTo cpos (starEach es X.env)).any (·.1)) = false; rw [hplain] <;> rfl) (Calls.evalArgs_plain ?_)
  exact thn hA λus s2 r9=>by obtain ⟨vs, H2, I2, r2, q2⟩:=r9; exact hm pins s2 σ H2 x vs v us Q I2 r1 r2 q2
/- xs.append(e), list.index on a module's tuple .. are MtR facts of 06m -/
end
noncomputable def MtM (X : Cx) (id : String) (r : V -> List V -> Hp -> VK -> Prop) : Prop:=
  ∀ (pins : List (Addr × Obj)) (s : Shared) (σ : St) (H : Hp) (x : V) (xs : List V) (v : Value) (us : List Value) (Q : VK), Inv X pins σ H s -> Yl x v -> Yr xs us -> r x xs H Q ->
    wpAny (model X.prog X.w) X.A (call (.builtin id) (v :: us)) (EP X pins σ Q) X.xe s
theorem Yr.one : ∀ {x : V} {us : List Value}, Yr [x] us -> ∃ u, us = [u] /\ Yl x u:=fun {x us} h=>by
  cases h with
  | cons r t=>
    cases t
    exact ⟨_, rfl, r⟩
theorem Yr.two : ∀ {x y : V} {us : List Value}, Yr [x, y] us -> ∃ u v, us = [u, v] /\ Yl x u /\ Yl y v:=fun {x y us} h=>by
  cases h with
  | cons r t=>
    cases t with
    | cons q t=>
      cases t
      exact ⟨_, _, rfl, r, q⟩
theorem Yr.zero : ∀ {us : List Value}, Yr [] us -> us = []
  | _, .nil=>rfl
theorem Yr.eraseIdx : ∀ {xs : List V} {us : List Value} (i : Nat), Yr xs us -> Yr (xs.eraseIdx i) (us.eraseIdx i)
  | _, _, _, .nil=>.nil
  | _, _, 0, .cons _ t=>t
  | _, _, i + 1, .cons r t=>.cons r (Yr.eraseIdx i t)
theorem Yr.rep {xs : List V} {us : List Value} (h : Yr xs us) : ∀ k : Nat, Yr (List.replicate k xs).flatten (List.replicate k us).flatten
  | 0=>.nil
  | k + 1=>by
    rw [List.replicate_succ, List.replicate_succ, List.flatten_cons, List.flatten_cons]
    exact Yr.append h (Yr.rep h k)
theorem Kl {α : Type} : ∀ (l : List α) (i : Nat), (l.eraseIdx i).length <= l.length
  | [], _=>Nat.le_refl _
  | _ :: _, 0=>Nat.le_succ _
  | _ :: r, i + 1=>Nat.succ_le_succ (Kl r i)
theorem KC (its : List Value) : ∀ (k : Nat) (acc : List Value),
    List.foldl (λx1 x2=>x1 ++ x2) acc.toArray (List.replicate k its.toArray) = (acc ++ (List.replicate k its).flatten).toArray
  | 0, acc=>by simp
  | k + 1, acc=>by
    have e : acc.toArray ++ its.toArray = (acc ++ its).toArray:=by simp
    have e2 : (acc ++ its) ++ (List.replicate k its).flatten = acc ++ (List.replicate (k + 1) its).flatten:=by
      rw [List.replicate_succ, List.flatten_cons, List.append_assoc]
    rw [← e2, ← KC its k (acc ++ its), ← e, List.replicate_succ, List.foldl_cons]
section
variable {X : Cx} {pins : List (Addr × Obj)} {σ : St} {H : Hp} {s : Shared} {l b : Addr} {xs ys zs : List V}
theorem Inv.lset {its its' : List Value} {n : Nat} {f : Array Value -> Array Value} {t' : Nat} (I : Inv X pins σ H s) (hH : H l = some (.lst xs))
    (e : s.heap.get? l = some { cls:=.type "list", data:=.seq its.toArray n }) (hf : f its.toArray = its'.toArray) (hv : Yr ys its') (hz : ys.length <= sizeLine) :
    Inv X pins σ (upd H l (.lst ys)) { s with heap:=s.heap.update l (Obj.mapSeq f), toks:=t' }:=by
  have q:=PySem.IsL.update e f
  rw [hf] at q
  refine I.write (x:=l) (e:=l) (by rw [hH]; exact trivial) (.inl rfl) (λb' u hb hu=>(Heap.get?_update_other s.heap (Obj.mapSeq f) (Ne.symm hb)).trans hu) ⟨_, q⟩ ?_
  exact ⟨hz, its', _, hv, q⟩
theorem Inv.lnew {its : List Value} {t' : Nat} (I : Inv X pins σ H s) (hv : Yr ys its) (hz : ys.length <= sizeLine) :
    Inv X pins σ (upd H s.heap.objs.size (.lst ys)) { s with heap:=s.heap.push { cls:=.type "list", data:=.seq its.toArray }, toks:=t' }:=
  I.laid (λ_ _ q=>Heap.get?_push_of_some _ q) (Nat.le_refl _) ⟨hz, its, 0, hv, Heap.get?_push_size _ rfl⟩
theorem Inv.fresh (I : Inv X pins σ H s) : H s.heap.objs.size = none:=I.hok.fresh (Nat.le_refl _)
theorem Inv.lstM (I : Inv X pins σ H s) (hH : H l = some (.lst xs)) : xs.length <= sizeLine /\ ∃ (its : List Value) (n : Nat), Yr xs its /\ xs.length = its.length /\ s.heap.get? l = some { cls:=.type "list", data:=.seq its.toArray n }:=by
  obtain ⟨z, its, n, r, e⟩:=I.hok l _ hH
  exact ⟨z, its, n, r, r.length, e⟩
theorem GU {n : Nat} (h : n <= sizeLine) : Builtin.List.listTooLong n = false:=by
  unfold Builtin.List.listTooLong
  exact decide_eq_false (by omega)
end
section
variable {X : Cx}
noncomputable def UL : V -> List V -> Hp -> VK -> Prop:=λx vs H Q=>∃ l xs y, x = .ref l /\ vs = [y] /\ H l = some (.lst xs) /\ xs.length < sizeLine /\ Q .non (upd H l (.lst (xs ++ [y])))
theorem XU : MtM X "list.append" UL:=by
  intro pins s σ H x vs v us Q I rx rv h
  obtain ⟨l, xs, y, rfl, rfl, hH, hz, q⟩:=h
  cases rx
  obtain ⟨u, rfl, ru⟩:=rv.one
  obtain ⟨z, its, n, r, hl, e⟩:=I.lstM hH
  refine call_meets F.slot_list_append ⟨_, e, rfl⟩ F.entry_list_append (F.args_list_append_2 _ _) (PySem.list_append l its.toArray n u (by rw [List.size_toArray]; omega)) ⟨e, ?_⟩
  refine ⟨.non, _, I.lset (its':=its ++ [u]) hH e (by simp) (r.append (.cons ru .nil)) ?_, rfl, q⟩
  rw [List.length_append, List.length_singleton]
  omega
noncomputable def Cn : V -> List V -> Hp -> VK -> Prop:=λx vs H Q=>∃ l b xs zs, x = .ref l /\ vs = [.ref b] /\ H l = some (.lst xs) /\ H b = some (.lst zs) /\ xs.length + zs.length <= sizeLine /\ Q .non (upd H l (.lst (xs ++ zs)))
theorem Dc : MtM X "list.extend" Cn:=by
  intro pins s σ H x vs v us Q I rx rv h
  obtain ⟨l, b, xs, zs, rfl, rfl, hH, hB, hz, q⟩:=h
  cases rx
  obtain ⟨u, rfl, ru⟩:=rv.one
  cases ru
  obtain ⟨z, its, n, r, hl, e⟩:=I.lstM hH
  obtain ⟨z2, its2, n2, r2, hl2, e2⟩:=I.lstM hB
  have hsz : its.toArray.size + its2.toArray.size <= sizeLine:=by rw [List.size_toArray, List.size_toArray]; omega
  have hlong : ¬ (!its.toArray.isEmpty && Builtin.List.listTooLong (its.toArray.size + its2.toArray.size)) = true:=by
    rw [GU hsz, Bool.and_false]
    exact Bool.false_ne_true
  refine call_meets F.slot_list_extend ⟨_, e, rfl⟩ F.entry_list_extend (F.args_list_extend_2 _ _)
    (AutoSeq1.list_extend_list_list_0 l its.toArray n b its2.toArray n2 hlong (by rw [List.size_toArray]; omega) (by omega)) ⟨e, e2, ?_⟩
  refine ⟨.non, _, I.lset (its':=its ++ its2) hH e (by simp) (r.append r2) ?_, rfl, q⟩
  rw [List.length_append]
  omega
noncomputable def Fq : V -> List V -> Hp -> VK -> Prop:=λx vs H Q=>∃ l xs i k y, x = .ref l /\ vs = [.int i] /\ H l = some (.lst xs) /\ -(2 ^ 63) <= i /\ i < 2 ^ 63 /\ seqIndex? i xs.length = some k /\ xs[k]? = some y /\ Q y (upd H l (.lst (xs.eraseIdx k)))
theorem GX : MtM X "list.pop" Fq:=by
  intro pins s σ H x vs v us Q I rx rv h
  obtain ⟨l, xs, i, k, y, rfl, rfl, hH, h1, h2, hk, hy, q⟩:=h
  cases rx
  obtain ⟨u, rfl, ru⟩:=rv.one
  obtain ⟨t, rfl⟩:=ru
  obtain ⟨z, its, n, r, hl, e⟩:=I.lstM hH
  obtain ⟨w, hw, rw'⟩:=r.get hy
  refine call_meets F.slot_list_pop ⟨_, e, rfl⟩ F.entry_list_pop (F.args_list_pop_2 _ _)
    (MeetsSeq.list_pop_at l its.toArray n i t k w (fitsIndex_both h1 h2) (by rw [List.size_toArray, ← hl]; exact hk) (by rw [← Array.getElem?_toList]; exact hw) (by rw [List.size_toArray]; omega)) ⟨e, ?_⟩
  refine ⟨y, _, I.lset (its':=its.eraseIdx k) hH e ?_ (r.eraseIdx k) ?_, rw', q⟩
  . show its.toArray.eraseIdxIfInBounds k = (its.eraseIdx k).toArray
    rw [List.eraseIdxIfInBounds_toArray]
  . have := Kl xs k
    omega
noncomputable def EW : V -> List V -> Hp -> VK -> Prop:=λx vs H Q=>∃ l xs, x = .ref l /\ vs = [] /\ H l = some (.lst xs) /\ Q .non (upd H l (.lst []))
theorem BD : MtM X "list.clear" EW:=by
  intro pins s σ H x vs v us Q I rx rv h
  obtain ⟨l, xs, rfl, rfl, hH, q⟩:=h
  cases rx
  have hus:=rv.zero
  subst hus
  obtain ⟨z, its, n, r, hl, e⟩:=I.lstM hH
  refine call_meets F.slot_list_clear ⟨_, e, rfl⟩ F.entry_list_clear (F.args_list_clear_1 _) (AutoSeq1.list_clear_list_0 l its.toArray n (by rw [List.size_toArray]; omega)) ⟨e, ?_⟩
  exact ⟨.non, _, I.lset (its':=[]) (ys:=[]) hH e rfl .nil (Nat.zero_le _), rfl, q⟩
noncomputable def Mw : R2:=λx y H Q=>∃ l b xs zs, x = .ref l /\ y = .ref b /\ H l = some (.lst xs) /\ H b = some (.lst zs) /\ xs.length + zs.length <= sizeLine /\ ∀ p, H p = none -> Q (.ref p) (upd H p (.lst (xs ++ zs)))
theorem K1 : OpR X (binaryOp .Add) Mw:=by
  intro pins s σ H x y v u Q I rx ry h
  obtain ⟨l, b, xs, zs, rfl, rfl, hH, hB, hz, q⟩:=h
  cases rx
  cases ry
  obtain ⟨z, its, n, r, hl, e⟩:=I.lstM hH
  obtain ⟨z2, its2, n2, r2, hl2, e2⟩:=I.lstM hB
  refine PySem.P.add_list e e2 ?_ (by rw [List.size_toArray, List.size_toArray]; omega)
  have ea : its.toArray ++ its2.toArray = (its ++ its2).toArray:=by simp
  rw [ea]
  exact ⟨.ref _, _, I.lnew (t':=s.toks) (r.append r2) (by rw [List.length_append]; omega), rfl, q _ I.fresh⟩
noncomputable def MO : R2:=λx y H Q=>∃ l k xs, x = .ref l /\ y = .int k /\ H l = some (.lst xs) /\ -(2 ^ 63) <= k /\ k < 2 ^ 63 /\ xs.length * k.toNat <= sizeLine /\
  ∀ p, H p = none -> Q (.ref p) (upd H p (.lst (List.replicate k.toNat xs).flatten))
theorem E2 {α : Type} (xs : List α) (k : Nat) : (List.replicate k xs).flatten.length = k * xs.length:=by
  induction k with
  | zero=>simp
  | succ k ih=>rw [List.replicate_succ, List.flatten_cons, List.length_append, ih, Nat.succ_mul, Nat.add_comm]
theorem VF : OpR X (binaryOp .Mult) MO:=by
  intro pins s σ H x y v u Q I rx ry h
  obtain ⟨l, k, xs, rfl, rfl, hH, h1, h2, hz, q⟩:=h
  cases rx
  obtain ⟨t, rfl⟩:=ry
  obtain ⟨z, its, n, r, hl, e⟩:=I.lstM hH
  have hlen : its.toArray.size * k.toNat <= sizeLine:=by rw [List.size_toArray, ← hl]; exact hz
  have hcap : ¬ its.toArray.size * k.toNat > (2 ^ 63 - 1) / 8:=by
    have : (sizeLine : Nat) <= (2 ^ 63 - 1) / 8:=by decide
    omega
  have hfit : ¬ (!Builtin.List.listFitsIndex k) = true:=by
    rw [fitsIndex_both h1 h2]
    exact Bool.false_ne_true
  have hlong : ¬ Builtin.List.listTooLong (its.toArray.size * k.toNat) = true:=by
    rw [GU hlen]
    exact Bool.false_ne_true
  have hnew : List.foldl (λx1 x2=>x1 ++ x2) #[] (List.replicate (if its.toArray.isEmpty = true then 0 else k.toNat) its.toArray) = (List.replicate k.toNat its).flatten.toArray:=by
    have f0 : ∀ m : Nat, List.foldl (λx1 x2=>x1 ++ x2) #[] (List.replicate m its.toArray) = (List.replicate m its).flatten.toArray:=λm=>by
      have:=KC its m []
      rw [List.nil_append] at this
      exact this
    rw [f0]
    cases its with
    | nil=>simp
    | cons a r'=>rw [if_neg (by simp)]
  refine wpAny_binaryOp_repeat_ref (T:="list") (U:="int") (by decide) ⟨_, e, rfl⟩ (λs'=>typeIs_int s' k t) noFill_list_mul F.fills_int_mul F.slot_int_rmul repeat_list F.slot_int_index.lookup
    (call_meets F.slot_int_rmul (typeIs_int s k t) F.entry_int_rmul (F.args_int_rmul_2 _ _) (int___rmul___int_list k t l its.toArray n)
      ⟨e, rfl, ⟨_, e, rfl⟩, call_meets F.slot_list_mul ⟨_, e, rfl⟩ F.entry_list_mul (F.args_list_mul_2 _ _) (AutoListH.list___mul___list_int_3 l its.toArray n k t hfit hcap hlong) ⟨e, ?_⟩⟩)
  rw [hnew]
  exact ⟨.ref _, _, I.lnew (t':=s.toks) (r.rep k.toNat) (by rw [E2, Nat.mul_comm]; exact hz), rfl, q _ I.fresh⟩
end
section
variable {prog : Program} {w : World} {A : Around} {E : Value -> Shared -> Prop} {s : Shared}
end
section
variable {X : Cx}
end
end L2
namespace Att
open PySem PySem.W PySem.Calls PyProof.Rows
theorem Vh {P : Params} {h : Heap} : ∀ (ns : List Int) (vs : List Value), WellAll P h vs (ns.map WData.int) -> IntsAre vs ns:=by
  intro ns
  induction ns with
  | nil=>
    intro vs w
    rw [List.map_nil] at w
    cases w
    exact .nil
  | cons n ns ih=>
    intro vs w
    rw [List.map_cons] at w
    cases w with
    | cons a b=>
      cases a
      exact .cons _ _ (ih _ b)
theorem CZ {l : OpenLaw} {n : Nat} (hn : l.most = some n) {P : Params} {h : Heap} {args : List WData} {vals : List Value}
    (hpre : l.row.toRowW.claim.pre args = true) (hwl : WellAll P h vals args) :
    ∃ a vs ns, vals = [Value.ref a] /\ args = [WData.list (ns.map WData.int)] /\ h.get? a = some { cls:=.type "list", data:=.seq vs.toArray } /\ IntsAre vs ns /\ ns.length <= n:=by
  have hsh : WShape.hasAll [] args [.list .int] = true:=(pre_splitW hpre).1
  have hc : l.pre.holds [] { args:=args } = true:=(pre_splitW hpre).2
  obtain ⟨d, r, rfl, h1, h2⟩:=hasAllW_cons hsh
  obtain rfl:=hasAllW_nil h2
  obtain ⟨xs, rfl, h3⟩:=hasW_list h1
  obtain ⟨ns, rfl⟩:=items_int h3
  have hlen : ns.length <= n:=by
    unfold OpenLaw.pre at hc
    have h4 : (WTm.not (.lt (.lit (.int (n : Int))) (.len (.arg 0)))).holds [] { args:=[.list (ns.map .int)] } = true:=by
      have h4:=(holds_andW hc).1
      rw [hn] at h4
      exact h4
    have h5:=condW_of h4 (w_not (w_lt w_lit (w_len_list (w_arg rfl))))
    rw [List.length_map] at h5
    refine Nat.le_of_not_lt λq=>?_
    have q' : (n : Int) < ((ns.length : Nat) : Int):=by omega
    first
      | (rw [decide_eq_true q'] at h5; exact absurd h5 (by decide))
      | (simp at h5; omega)
  cases hwl with
  | cons w1 w2=>
    cases w2
    cases w1 with
    | list ho hall=>exact ⟨_, _, ns, rfl, rfl, ho, Vh ns _ hall, hlen⟩
theorem Cz (l : OpenLaw) (args : List WData) : l.row.toRowW.claim.post args (.bool true) args = true:=
  postW_of (r:=l.row.toRowW) (X:=(true == true))
    (show WShape.has [] (.bool true) .bool = true by first | rfl | decide | simp [WShape.has, WShape.arms, WShape.armsAll])
    (show (WTm.eq .res (.lit (.bool true))).value [] { args:=args, res:=some (.bool true), after:=args } = some (.bool (true == true)) from w_eq_bool (w_res rfl) w_lit) rfl
theorem attach_call {l : OpenLaw} {n : Nat} {q : Program} {loose : List Str} {XP : (Str -> Option Value) -> Heap -> Prop} {YP : World -> Heap -> Prop} {d : DefRec}
    (hn : l.most = some n) (hdf : d.params.defaults = [])
    (call : ∀ (w : World) (s₀ s₁ : Shared) (mg mb : Str -> Option Value) (fa : Addr) (o : Obj) (pm cd doc : Value) (a : Addr) (vs : List Value) (ns : List Int),
      Ground q loose [] XP w s₀ mg mb s₁.heap -> YP w s₁.heap ->
      s₁.heap.get? fa = some o -> o.data = .func (docDef d.name d.params d.body d.scope pm cd doc) -> s₁.heap.CodeRec cd d.name -> mg d.name = some (.ref fa) ->
      s₁.heap.get? a = some { cls:=.type "list", data:=.seq vs.toArray } -> IntsAre vs ns -> ns.length <= n -> s₁.gens = #[] ->
      codeAny (model l.prog w) callerA (.call (.ref fa) ⟨[.ref a], []⟩) (λr s'=>r = .ok (.ret (.bool true)) /\ OldK s₁.heap s'.heap /\ s'.os = s₁.os /\ AllBare s'.gens) s₁) :
    WalkO q loose XP YP l.row.toRowW d [] (λf vs=>PySem.call f vs):=by
  intro w s₀ s₁ mg mb G Y fa o pm cd doc dV kV ho hd hcd hD hmg hg args vals as hpre hlay hrd hwl hlo
  obtain rfl : dV = .none:=Dflts.none hD hdf
  obtain rfl : kV = .none:=Dflts.noKw hD
  obtain ⟨a, vs, ns, rfl, rfl, hobj, hints, hlen⟩:=CZ hn hpre hwl
  refine enter_call (codeAny_mono (call w s₀ s₁ mg mb fa o pm cd doc a vs ns G Y ho (fd_plain hd) hcd hmg hobj hints hlen hg) λr s' hq=>?_)
  obtain ⟨rfl, h2, h3, h4⟩:=hq
  exact ⟨.inl ⟨.bool true, .bool true, [], rfl, λ_=>rfl, .bool true, Cz l _, λ_=>⟨List.Pairwise.nil, λ_ hm=>(nomatch hm)⟩⟩, h2, h3, h4⟩
section
variable {prog : Program} {w : World} {A : Around} {E : Value -> Shared -> Prop} {s : Shared} {K : Frag}
end
end Att
namespace L2
open PySem PySem.Spec PyProof.Rows
theorem Ci : ∀ {vs : List Value} {ns : List Int}, IntsAre vs ns -> Yr (ns.map V.int) vs:=λp=>by
  induction p with
  | nil=>exact .nil
  | cons n t _ ih=>exact .cons ⟨t, rfl⟩ ih
noncomputable def Mt (H : Hp) : Prop:=∀ b, H b = none ∨ ∃ o xs, H b = some (.frz o (.lst xs))
theorem BB {P : Program} {w : World} {K : PySem.W.Frag} {mg mb : Str -> Option Value} {CX : CXT} {k : Nat} {fa a : Addr} {fd : FuncData} {x : Str} {sp : Sp} {s₁ : Shared} {vs : List Value} {ns : List Int}
    (KX : K.In s₁.heap) (hns : s₁.heap.Ns mainGlobals mg) (hb : s₁.heap.Ns builtinsNs mb) (hbb : ∀ x : Str, x ≠ "__name__" -> mb x = bootBuiltins x) (hlim : s₁.heap.NoLimit) (hg : s₁.gens = #[])
    (ha : s₁.heap.get? a = some { cls:=.type "list", data:=.seq vs.toArray }) (hi : IntsAre vs ns) (hl : ns.length <= sizeLine) (hr : Room k callerA)
    (F : ∀ base : Heap, K.In base -> base.Ns mainGlobals mg -> FnOk P w K mg base CX k fa fd [x] sp) (hbind : ∀ (s : Shared) (u : Value), BindsTo s fd ⟨[u], []⟩ [(x, u)])
    (hsp : ∀ H : Hp, Mt H -> SqL K H a (ns.map V.int) -> sp [.ref a] H (λv _=>v = .bl true) λ_ _ _=>False)
    (hCX : ∀ H e s', CX [] H s₁ (λ_ _ _=>False) e s' -> False) :
    codeAny (model P w) callerA (.call (.ref fa) ⟨[.ref a], []⟩) (λr s'=>r = .ok (.ret (.bool true)) /\ OldK s₁.heap s'.heap /\ s'.os = s₁.os /\ AllBare s'.gens) s₁:=by
  have rv:=Ci hi
  have lenV:=hi.length
  -- from an abstract heap in which nothing but the script may be tracked
  have core : ∀ H : Hp, Mt H -> SqL K H a (ns.map V.int) -> HOk P w H s₁.heap -> (∀ b, H b ≠ none -> b = a) -> (H a ≠ none -> K.lookup a = none) ->
      codeAny (model P w) callerA (.call (.ref fa) ⟨[.ref a], []⟩) (λr s'=>r = .ok (.ret (.bool true)) /\ OldK s₁.heap s'.heap /\ s'.os = s₁.os /\ AllBare s'.gens) s₁:=by
    intro H hO hS hok hA hK
    have base_of : ∀ {b : Addr} {o : Obj}, s₁.heap.get? b = some o -> H b = none -> (Ep s₁.heap H).get? b = some o:=λe n=>Bw e n
    have noA : ∀ {b : Addr} {o : Obj} {es : Array DictEntry} {ep : Nat}, s₁.heap.get? b = some o -> o.data = .dict es ep -> H b = none:=fun {b o es ep} e d=>by
      cases q : H b with
      | none=>rfl
      | some u=>
        have e' : b = a:=hA b (by rw [q]; simp)
        subst e'
        rw [ha] at e; cases e
        have d' : Data.seq vs.toArray _ = Data.dict es ep:=d
        cases d'
    have nsK : ∀ {b : Addr} {m : Str -> Option Value}, s₁.heap.Ns b m -> (Ep s₁.heap H).Ns b m:=fun {b m} ⟨o, es, ep, e, d, r⟩=>⟨o, es, ep, base_of e (noA e d), d, r⟩
    have hKb : K.In (Ep s₁.heap H):=λb o e=>base_of (KX b o e) (by
      cases q : H b with
      | none=>rfl
      | some u=>
        have e' : b = a:=hA b (by rw [q]; simp)
        subst e'
        rw [hK (by rw [q]; simp)] at e; cases e)
    have hM : Mod K mg (Ep s₁.heap H):=⟨hKb, nsK hns, ⟨mb, nsK hb, hbb⟩, let ⟨mc, h1, h2⟩:=hlim; ⟨mc, nsK h1, h2⟩⟩
    have e0 : Env0 P w K mg (Ep s₁.heap H) callerA [] s₁ H:=⟨rfl, hM, λb o e=>Hc e, Nat.le_of_eq (Cq _ _), trivial, λb hb=>absurd (show b ∈ ([] : List Addr) from hb) (by simp), hok, .of_eq hg⟩
    refine codeAny_mono ((F _ hKb (nsK hns)).run callerA [] s₁ H ⟨[.ref a], []⟩ [.ref a] [.ref a] _ _ hr e0 (hbind s₁ (.ref a)) (.cons rfl .nil) (hsp H hO hS)) λr s' h=>?_
    cases r with
    | error e=>exact (hCX H e s' h).elim
    | ok fl=>
      cases fl with
      | next=>exact False.elim h
      | brk=>exact False.elim h
      | cont=>exact False.elim h
      | ret u=>
        obtain ⟨v, H', os, bare, un, hok', r', q⟩:=h
        have q' : v = .bl true:=q
        subst q'
        obtain rfl : u = Value.bool true:=r'
        refine ⟨rfl, OldK.of_keep λb o e=>?_, os, bare⟩
        cases q : H b with
        | none=>exact un.keep b o e q (by intro z; exact absurd (show b ∈ ([] : List Addr) from z) (by simp)) (by simp)
        | some u=>
          rcases hO b with z | ⟨ob, xs, z⟩
          . rw [q] at z; cases z
          . have z2 := un.frzs b ob _ z
            obtain ⟨e1, _⟩:=hok b _ z
            obtain ⟨e2, _⟩:=hok' b _ z2
            rw [e] at e1; cases e1
            exact e2
  cases hk : K.lookup a with
  | some o=>
    -- the script is one of the module's own objects
    have e:=KX a o hk
    rw [ha] at e
    cases e
    refine core (λ_=>none) (λ_=>.inl rfl) (.inr ⟨_, vs.toArray, _, hk, rfl, rfl, rfl, by rw [List.size_toArray, lenV]; exact hl, by simpa using rv⟩) (λb u z=>by have z' : (none : Option HO) = some u:=z; cases z') (λb z=>absurd rfl z) λz=>absurd rfl z
  | none=>
    refine core (λb=>if b = a then some (.frz { cls:=.type "list", data:=.seq vs.toArray } (.lst (ns.map V.int))) else none) (λb=>?_) (.inl (.inr ⟨{ cls:=.type "list", data:=.seq vs.toArray }, if_pos rfl⟩)) (λb u z=>?_) (λb z=>?_) λ_=>hk
    . by_cases hb : b = a
      . exact .inr ⟨_, _, if_pos hb⟩
      . exact .inl (if_neg hb)
    . by_cases hb : b = a
      . have z' := (if_pos hb).symm.trans z
        cases z'
        subst hb
        exact ⟨ha, by rw [List.length_map]; exact hl, vs, _, rv, ha⟩
      . have z' := (if_neg hb).symm.trans z
        cases z'
    . by_cases hb : b = a
      . exact hb
      . exact absurd (if_neg hb) z
theorem HS {l : PySem.W.OpenLaw} {n k : Nat} {q : Program} {loose : List Str} {XP : (Str -> Option Value) -> Heap -> Prop} {YP : World -> Heap -> Prop} {d : DefRec} {K : Params -> PySem.W.Frag} {CX : World -> CXT} {sp : World -> Sp} {x : Str}
    (hn : l.most = some n) (hn2 : n <= sizeLine) (hdf : d.params.defaults = []) (hr : Room k callerA)
    (hY : ∀ (w : World) (h : Heap), YP w h -> (K w.params).In h)
    (F : ∀ (w : World) (mg : Str -> Option Value) (fa : Addr) (h : Heap), (K w.params).In h -> h.Ns mainGlobals mg -> mg d.name = some (.ref fa) ->
      ∃ fd : FuncData, (∀ (s : Shared) (u : Value), BindsTo s fd ⟨[u], []⟩ [(x, u)]) /\
        ∀ base : Heap, (K w.params).In base -> base.Ns mainGlobals mg -> FnOk l.prog w (K w.params) mg base (CX w) k fa fd [x] (sp w))
    (hsp : ∀ (w : World) (H : Hp) (a : Addr) (ns : List Int), ns.length <= n -> Mt H -> SqL (K w.params) H a (ns.map V.int) -> sp w [.ref a] H (λv _=>v = .bl true) λ_ _ _=>False)
    (hCX : ∀ (w : World) (H : Hp) (s : Shared) (e : Value) (s' : Shared), CX w [] H s (λ_ _ _=>False) e s' -> False) :
    PySem.W.WalkO q loose XP YP l.row.toRowW d [] (λf vs=>PySem.call f vs):=by
  refine Att.attach_call hn hdf λw s₀ s₁ mg mb fa o pm cd doc a vs ns G Y ho hd hcd hmg hobj hints hlen hg=>?_
  have KX:=hY w _ Y
  obtain ⟨fd, hb, hF⟩:=F w mg fa _ KX G.T.g hmg
  exact BB KX G.T.g G.T.b G.T.builtins G.T.nolimit hg hobj hints (Nat.le_trans hlen hn2) hr hF hb (λH hO hS=>hsp w H a ns hlen hO hS) λH e s'=>hCX w H s₁ e s'
noncomputable def YX (s : Stmt) : Arguments:=match s with
  | .FunctionDef _ a _ _ _ _ _ _ _ _=>a
  | _=>{ posonlyargs:=[], args:=[], vararg:=none, kwonlyargs:=[], kw_defaults:=[], kwarg:=none, defaults:=[] }
noncomputable def YJ (s : Stmt) : List Stmt:=match s with
  | .FunctionDef _ _ b _ _ _ _ _ _ _=>b
  | _=>[]
noncomputable def Xi (s : Stmt) : Scope:=match s with
  | .FunctionDef _ _ _ _ _ _ sc _ _ _=>sc
  | _=>{ kind:=.function, names:=[], isGenerator:=false, isCoroutine:=false }
noncomputable abbrev CX0 : CXT:=λ_ _ _ _ _ _=>False
noncomputable abbrev E0 : XK:=λ_ _ _=>False
theorem Mn {X : Cx} : DC CX0 X E0:=λ_ _ _ _ _ _ _ h=>h.elim
structure Fun (K : PySem.W.Frag) (x qual : Str) (st : Stmt) (f : Addr) (fd : FuncData) : Prop where
  ex : ∃ (oc : Value) (od : Option Addr) (kV doc pm : Value) (an : Option Addr) (cdv ct : Value) (osl : Array (Option Value)),
    fd = PySem.W.fnOf x qual (YX st) (YJ st) (Xi st) .none kV doc pm an cdv ct /\ K.lookup f = some ⟨oc, od, .func fd, osl⟩ /\ PySem.W.codeIn K cdv qual = true
  kp : PySem.W.keepIn K (.ref f) = true
section
variable {P : Program} {w : World} {K : PySem.W.Frag} {mg : Str -> Option Value} {base : Heap}
theorem Fun.ok {x qual : Str} {st : Stmt} {f : Addr} {fd : FuncData} {N ps : List Str} {k : Nat} {sp : Sp} (F : Fun K x qual st f fd) (S : FnScope N ps (Xi st)) (len : ∀ vs H Q E, sp vs H Q E -> vs.length = ps.length)
    (hbody : ∀ (cdv : Value) (A : Around) (outer : List Env) (s : Shared) (H : Hp) (vs : List V) (Q : VK) (E : XK), Room k (A.deeper (envOfC qual (Xi st) s.heap.objs.size f cdv)) -> sp vs H Q E ->
      ∃ t, PSs (HF CX0 P w K mg base N qual (Xi st) f cdv A outer s H E).nox (YJ st) t /\ t { nx:=λ_ H'=>Q .non H', rt:=Q } (Uy N vs) H) : FnOk P w K mg base CX0 (k + 1) f fd ps sp:=by
  obtain ⟨oc, od, kV, doc, pm, an, cdv, ct, osl, rfl, lk, hcd⟩:=F.ex
  refine L8 lk hcd S len λA outer s H vs Q E hr hsp=>?_
  obtain ⟨t, h, q⟩:=hbody cdv A outer s H vs Q E hr hsp
  exact ⟨t, h.nox, q⟩
theorem Fun.binds {x qual : Str} {st : Stmt} {f : Addr} {fd : FuncData} {ps : List Str} (F : Fun K x qual st f fd)
    (h : ∀ (kV doc pm : Value) (an : Option Addr) (cdv ct : Value) (us : List Value), us.length = ps.length -> bindArgs (PySem.W.fnOf x qual (YX st) (YJ st) (Xi st) .none kV doc pm an cdv ct) ⟨us, []⟩ = pure (ps.zip us)) : GB K fd ps []:=by
  obtain ⟨oc, od, kV, doc, pm, an, cdv, ct, osl, rfl, lk, hcd⟩:=F.ex
  exact .all (h kV doc pm an cdv ct)
theorem Qx {x qual : Str} {st : Stmt} {f : Addr} {oc : Value} {od an : Option Addr} {osl : Array (Option Value)} {kV doc pm cdv ct : Value} (l : K.lookup f = some ⟨oc, od, .func (PySem.W.fnOf x qual (YX st) (YJ st) (Xi st) .none kV doc pm an cdv ct), osl⟩)
    (c : PySem.W.codeIn K cdv qual = true) (k : PySem.W.keepIn K (.ref f) = true) : Fun K x qual st f (PySem.W.fnOf x qual (YX st) (YJ st) (Xi st) .none kV doc pm an cdv ct):=⟨⟨oc, od, kV, doc, pm, an, cdv, ct, osl, rfl, l, c⟩, k⟩
end
theorem Ym {A : Around} {k : Nat} (hr : Room k A) : A.units + 1 < cLine:=Nat.lt_of_le_of_lt (Nat.add_le_add_left (by decide : 1 <= 64) _) hr.units
section
variable {X : Cx}
theorem pv (i : Nat) {x : Str} {pos : Pos} (hN : X.N[i]? = some x:=by rfl) (hv : Vis X.env.scope x:=by first | exact Or.inl rfl | exact Or.inr (Or.inl rfl) | exact Or.inr (Or.inr rfl)) (hd : (x == ("__debug__" : Str)) = false:=by decide)
    (hcd : (x == ("__classdict__" : Str)) = false:=by decide) : PE X (.Name x pos) (Uw i):=Lq hN hv hd hcd
end
noncomputable def XC (H H' : Hp) : Prop:=∀ b o, H b = some o -> H' b = some o
theorem XC.refl (H : Hp) : XC H H:=λ_ _ h=>h
theorem XC.trans {H H1 H2 : Hp} (a : XC H H1) (b : XC H1 H2) : XC H H2:=λc o h=>b c o (a c o h)
theorem XC.seq {K : PySem.W.Frag} {H H' : Hp} {a : Addr} {xs : List V} (e : XC H H') (h : SqL K H a xs) : SqL K H' a xs:=by
  rcases h with (h | ⟨o, h⟩) | h
  . exact .inl (.inl (e _ _ h))
  . exact .inl (.inr ⟨o, e _ _ h⟩)
  . exact .inr h
section
variable {κ : Type} [DecidableEq κ]
noncomputable def FR (kvs : List (κ × V)) (k : κ) : Option V:=(kvs.find? λkv=>decide (kv.1 = k)).map (·.2)
noncomputable def V3 (kvs : List (κ × V)) (k : κ) (v : V) : List (κ × V):=
  if (kvs.any λkv=>decide (kv.1 = k)) = true then kvs.map (λkv=>if kv.1 = k then (kv.1, v) else kv) else kvs ++ [(k, v)]
theorem JV {p : κ × V} {r : List (κ × V)} {k : κ} (e : p.1 = k) : FR (p :: r) k = some p.2:=by simp [FR, List.find?_cons, e]
theorem J6 {p : κ × V} {r : List (κ × V)} {k : κ} (e : ¬ p.1 = k) : FR (p :: r) k = FR r k:=by simp [FR, List.find?_cons, e]
theorem G6 (k : κ) : ∀ kvs : List (κ × V), (kvs.any λkv=>decide (kv.1 = k)) = (FR kvs k).isSome
  | []=>rfl
  | p :: r=>by
    rw [List.any_cons]
    by_cases e : p.1 = k
    . simp only [JV e, decide_eq_true e, Bool.true_or, Option.isSome_some]
    . rw [J6 e, decide_eq_false e, Bool.false_or]; exact G6 k r
theorem VW (kvs : List (κ × V)) (k : κ) (v : V) : (V3 kvs k v).length <= kvs.length + 1:=by
  unfold V3
  split
  . rw [List.length_map]; omega
  . rw [List.length_append, List.length_cons, List.length_nil]; omega
theorem DH.isSome_eq {o : Option V} {u : Option Value} (r : DH o u) : o.isSome = u.isSome:=by
  cases o with
  | none=>cases u with
    | none=>rfl
    | some _=>exact (show False from r).elim
  | some _=>cases u with
    | none=>exact (show False from r).elim
    | some _=>rfl
theorem KV.val {kvs : List (κ × V)} {vs : List (κ × Value)} (r : KV kvs vs) (k : κ) : DH (FR kvs k) (valueAt vs k):=by
  unfold KV at r
  induction r with
  | nil=>exact True.intro
  | @cons p q ps qs h t ih=>
    obtain ⟨h1, h2⟩:=h
    by_cases e : p.1 = k
    . have e' : q.1 = k := h1.symm.trans e
      have b : valueAt (q :: qs) k = some q.2:=by simp [valueAt, List.find?_cons, e']
      rw [JV e, b]; exact h2
    . have e' : ¬ q.1 = k := λz => e (h1.trans z)
      have b : valueAt (q :: qs) k = valueAt qs k:=by simp [valueAt, List.find?_cons, e']
      rw [J6 e, b]; exact ih
theorem KV.any {kvs : List (κ × V)} {vs : List (κ × Value)} (r : KV kvs vs) (k : κ) : (kvs.any λkv=>decide (kv.1 = k)) = vs.any λkv=>decide (kv.1 = k):=by
  unfold KV at r
  induction r with
  | nil=>rfl
  | cons h t ih=>rw [List.any_cons, List.any_cons, ih, h.1]
theorem KV.repl {kvs : List (κ × V)} {vs : List (κ × Value)} (r : KV kvs vs) (k : κ) {y : V} {u : Value} (ry : Yl y u) :
    KV (kvs.map λkv=>if kv.1 = k then (kv.1, y) else kv) (vs.map λkv=>if kv.1 = k then (kv.1, u) else kv):=by
  unfold KV at r ⊢
  induction r with
  | nil=>exact .nil
  | @cons p q ps qs h t ih=>
    rw [List.map_cons, List.map_cons]
    refine .cons ?_ ih
    obtain ⟨h1, h2⟩:=h
    by_cases e : p.1 = k
    . rw [if_pos e, if_pos (h1.symm.trans e)]; exact ⟨h1, ry⟩
    . rw [if_neg e, if_neg (λz=>e (h1.trans z))]; exact ⟨h1, h2⟩
theorem KV.put {kvs : List (κ × V)} {vs : List (κ × Value)} (r : KV kvs vs) (k : κ) {y : V} {u : Value} (ry : Yl y u) : KV (V3 kvs k y) (stored vs k u):=by
  unfold V3 stored
  rw [r.any k]
  by_cases e : (vs.any λkv=>decide (kv.1 = k)) = true
  . rw [if_pos e, if_pos e]; exact r.repl k ry
  . rw [if_neg e, if_neg e]; exact Paired.snoc r ⟨rfl, ry⟩
theorem KV.length {kvs : List (κ × V)} {vs : List (κ × Value)} (r : KV kvs vs) : kvs.length = vs.length:=Paired.length r
end
theorem Bk {P : Program} {w : World} {k : Key} {u : Value} (r : Yl (kV k) u) : (Yz P w).is k u = true:=by
  cases k with
  | inl i=>obtain ⟨t, e⟩:=(show ∃ t, u = Value.int i t from r); subst e; exact Go P w i t
  | inr x=>obtain ⟨t, e⟩:=(show ∃ t, u = Value.str x t from r); subst e; exact Gw P w x t
theorem KZ {P : Program} {w : World} : ∀ {ks : List Key} {us : List Value}, Yr (ks.map kV) us -> ItemsAre (Yz P w) ks us
  | [], _, r=>by rw [List.map_nil] at r; cases r; exact .nil
  | k :: ks, _, r=>by
    rw [List.map_cons] at r
    cases r with
    | cons h t=>exact .cons (Bk h) (KZ t)
noncomputable abbrev KT (H : Hp) : List (List Key × V) -> List (List Key × Addr × Value) -> Prop:=Paired λp q=>p.1 = q.1 /\ H q.2.1 = some (.tup (p.1.map kV)) /\ Yl p.2 q.2.2
theorem KT.val {H : Hp} {kvs : List (List Key × V)} {xs : List (List Key × Addr × Value)} (r : KT H kvs xs) (k : List Key) : DH (FR kvs k) ((atKey xs k).map (·.2)):=by
  induction r with
  | nil=>exact True.intro
  | @cons p q ps qs h t ih=>
    obtain ⟨h1, _, h2⟩:=h
    by_cases e : p.1 = k
    . have e' : q.1 = k := h1.symm.trans e
      have b : atKey (q :: qs) k = some q.2:=by simp [atKey, List.find?_cons, e']
      rw [JV e, b]; exact h2
    . have e' : ¬ q.1 = k := λz => e (h1.trans z)
      have b : atKey (q :: qs) k = atKey qs k:=by simp [atKey, List.find?_cons, e']
      rw [J6 e, b]; exact ih
theorem KT.repl {H : Hp} {kvs : List (List Key × V)} {xs : List (List Key × Addr × Value)} (r : KT H kvs xs) (k : List Key) {y : V} {u : Value} (ry : Yl y u) :
    KT H (kvs.map λkv=>if kv.1 = k then (kv.1, y) else kv) (xs.map (putAt k u)):=by
  induction r with
  | nil=>exact .nil
  | @cons p q ps qs h t ih=>
    rw [List.map_cons, List.map_cons]
    refine .cons ?_ ih
    obtain ⟨h1, h2, h3⟩:=h
    unfold putAt
    by_cases e : p.1 = k
    . rw [if_pos e, if_pos (h1.symm.trans e)]; exact ⟨h1, h2, ry⟩
    . rw [if_neg e, if_neg (λz=>e (h1.trans z))]; exact ⟨h1, h2, h3⟩
theorem KT.put {H : Hp} {kvs : List (List Key × V)} {xs : List (List Key × Addr × Value)} (r : KT H kvs xs) (k : List Key) {b : Addr} {y : V} {u : Value} (hb : H b = some (.tup (k.map kV))) (ry : Yl y u) :
    KT H (V3 kvs k y) (storedH xs k b u):=by
  have e : (kvs.any λkv=>decide (kv.1 = k)) = (atKey xs k).isSome:=by
    rw [G6, (r.val k).isSome_eq, Option.isSome_map]
  unfold V3 storedH
  rw [e]
  by_cases q : (atKey xs k).isSome = true
  . rw [if_pos q, if_pos q]; exact r.repl k ry
  . rw [if_neg q, if_neg q]; exact Paired.snoc r ⟨rfl, hb, ry⟩
theorem KT.keeps {H H' : Hp} {kvs : List (List Key × V)} {xs : List (List Key × Addr × Value)} (r : KT H kvs xs) (ht : ∀ b ys, H b = some (.tup ys) -> H' b = some (.tup ys)) : KT H' kvs xs:=
  Paired.mapP r λ_ _ z=>⟨z.1, ht _ _ z.2.1, z.2.2⟩
section
variable {P : Program} {w : World} {H : Hp} {h : Heap} {a : Addr}
theorem Ls {u : HO} (ok : HOk P w H h) (e : Rd H a u) : YW P w H h a u:=e.ok ok
theorem B3 {kvs : List (Key × V)} (ok : HOk P w H h) (e : Rd H a (.dK kvs)) : kvs.length <= sizeLine /\ (a == sysModules) = false /\ ∃ vs, KV kvs vs /\ h.DictOf (Yz P w) a vs:=
  show YW P w H h a (.dK kvs) from Ls ok e
theorem Mm {kvs : List (Key × V)} (ok : HOk P w H h) (e : H a = some (.dK kvs)) : kvs.length <= sizeLine /\ (a == sysModules) = false /\ ∃ vs, KV kvs vs /\ h.DictOf (Yz P w) a vs:=B3 ok (.inl e)
theorem Fr {ks : List Key} (ok : HOk P w H h) (e : H a = some (.tup (ks.map kV))) : (tupleKind (Yz P w)).is h ks a:=by
  obtain ⟨_, its, r, o, h1, h2, n, h3⟩:=(show YW P w H h a (.tup (ks.map kV)) from ok a _ e)
  exact ⟨o, its.toArray, n, h1, h2.1, h3, by simpa using KZ r⟩
theorem Ej {kvs : List (List Key × V)} (ok : HOk P w H h) (e : Rd H a (.dT kvs)) : kvs.length <= sizeLine /\ (a == sysModules) = false /\
    ∃ xs, KT H kvs xs /\ h.DictOfH (tupleKind (Yz P w)) a xs:=by
  obtain ⟨z, y, xs, r, o, es, ep, h1, h2, h3, h4, h5⟩:=(show YW P w H h a (.dT kvs) from Ls ok e)
  refine ⟨z, y, xs, r, o, es, ep, h1, h2, h3, h4, λx hx=>?_, h5⟩
  have all : ∀ {l : List (List Key × V)} {m : List (List Key × Addr × Value)}, KT H l m -> ∀ x ∈ m, (tupleKind (Yz P w)).is h x.1 x.2.1:=by
    intro l m q
    induction q with
    | nil=>intro x hx; exact nomatch hx
    | @cons p q ps qs hq t ih=>
      intro x hx
      rcases List.mem_cons.mp hx with e | hx
      . subst e
        exact Fr ok (by rw [← hq.1]; exact hq.2.1)
      . exact ih x hx
  exact all r x hx
theorem Mh {kvs : List (List Key × V)} (ok : HOk P w H h) (e : H a = some (.dT kvs)) : kvs.length <= sizeLine /\ (a == sysModules) = false /\
    ∃ xs, KT H kvs xs /\ h.DictOfH (tupleKind (Yz P w)) a xs:=Ej ok (.inl e)
end
noncomputable def IZ (H : Hp) (a : Addr) (y : V) (r : Option V) : Prop:=
  (∃ kvs k, Rd H a (.dK kvs) /\ y = kV k /\ r = FR kvs k) ∨ ∃ kvs k b, Rd H a (.dT kvs) /\ y = .ref b /\ H b = some (.tup (k.map kV)) /\ r = FR kvs k
noncomputable def MM (H : Hp) (a : Addr) (y v : V) (H' : Hp) : Prop:=
  (∃ kvs k, H a = some (.dK kvs) /\ y = kV k /\ kvs.length < sizeLine /\ H' = upd H a (.dK (V3 kvs k v))) ∨
  ∃ kvs k b, H a = some (.dT kvs) /\ y = .ref b /\ H b = some (.tup (k.map kV)) /\ kvs.length < sizeLine /\ H' = upd H a (.dT (V3 kvs k v))
section
variable {X : Cx} {pins : List (Addr × Obj)} {σ : St} {H : Hp} {s : Shared} {a : Addr} {y v : V} {u r : Value} {o : Option V} {A : Around} {E : Value -> Shared -> Prop}
theorem Inv.big (I : Inv X pins σ H s) : sysModules < s.heap.objs.size:=by
  have h : mainGlobals < s.heap.objs.size:=(I.mod.glob.keeps I.bk).lt
  exact Nat.lt_trans (by decide) h
theorem DY {Q : Value -> Shared -> Prop} (hu : A.units + 1 < cLine) (I : Inv X pins σ H s) (g : IZ H a y (some v)) (ry : Yl y u) (h : ∀ w' s', Inv X pins σ H s' -> Yl v w' -> Q w' s') :
    wpAny (model X.prog X.w) A (getItem (.ref a) u) Q E s:=by
  rcases g with ⟨kvs, k, e, ey, l⟩ | ⟨kvs, k, b, e, ey, eb, l⟩
  . subst ey
    obtain ⟨z, hd, vs, rel, dd⟩:=B3 I.hok e
    obtain ⟨w', hw, rw'⟩:=DH.some_of (v:=v) (o:=valueAt vs k) (by rw [l]; exact rel.val k)
    exact wpAny_getItem_of (Bk ry) dd.mapOf hw (h w' _ (I.tok _) rw')
  . subst ey
    cases (show u = Value.ref b from ry)
    obtain ⟨z, hd, xs, rel, dd⟩:=Ej I.hok e
    obtain ⟨w', hw, rw'⟩:=DH.some_of (v:=v) (o:=(atKey xs k).map (·.2)) (by rw [l]; exact rel.val k)
    obtain ⟨p, hp, hp2⟩:=Option.map_eq_some_iff.mp hw
    refine wpAny_getItem_heap (tupleKind_room_in1 hu) (Fr I.hok eb) dd hp ?_
    rw [hp2]
    exact h w' _ (I.tok _) rw'
theorem H9 {Q : Value -> Shared -> Prop} (hu : A.units + 1 < cLine) (I : Inv X pins σ H s) (g : IZ H a y o) (ry : Yl y u) (h : ∀ s', Inv X pins σ H s' -> Q (.bool (!o.isSome)) s') :
    wpAny (model X.prog X.w) A (compareOp .NotIn u (.ref a)) Q E s:=by
  rcases g with ⟨kvs, k, e, ey, l⟩ | ⟨kvs, k, b, e, ey, eb, l⟩
  . subst ey
    obtain ⟨z, hd, vs, rel, dd⟩:=B3 I.hok e
    refine wpAny_notIn_of (Bk ry) hd dd.mapOf ?_
    rw [← (rel.val k).isSome_eq, ← l]
    exact h _ (I.tok _)
  . subst ey
    cases (show u = Value.ref b from ry)
    obtain ⟨z, hd, xs, rel, dd⟩:=Ej I.hok e
    refine wpAny_notIn_heap (tupleKind_room_in1 hu) (Fr I.hok eb) hd dd ?_
    have q:=(rel.val k).isSome_eq
    rw [Option.isSome_map] at q
    rw [← q, ← l]
    exact h _ (I.tok _)
theorem Bn {h' : Heap} {t' : Nat} {ob : HO} (I : Inv X pins σ H s) (mu : Mut (H a)) (hs : Heap.SameBut a s.heap h') (he : ∃ q, h'.get? a = some q) (new : YW X.prog X.w (upd H a ob) h' a ob) :
    Inv X pins σ (upd H a ob) { s with heap:=h', toks:=t' }:=
  I.write (x:=a) (e:=a) mu (.inl rfl) (λb q hb z=>(hs.2 b hb).trans z) he new
theorem IR {P : Program} {w : World} {H' : Hp} {h' : Heap} {kvs : List (Key × V)} {vs : List (Key × Value)} (z : kvs.length <= sizeLine) (hd : (a == sysModules) = false) (rel : KV kvs vs) (dd : h'.DictOf (Yz P w) a vs) :
    YW P w H' h' a (.dK kvs):=⟨z, hd, vs, rel, dd⟩
theorem Dg {H' : Hp} {Q : Unit -> Shared -> Prop} (hu : A.units + 1 < cLine) (I : Inv X pins σ H s) (g : MM H a y v H') (ry : Yl y u) (rv : Yl v r) (h : ∀ s', Inv X pins σ H' s' -> Q () s') :
    wpAny (model X.prog X.w) A (setItem (.ref a) u r) Q E s:=by
  rcases g with ⟨kvs, k, e, ey, l, eH⟩ | ⟨kvs, k, b, e, ey, eb, l, eH⟩
  . subst ey eH
    obtain ⟨z, hd, vs, rel, dd⟩:=Mm I.hok e
    have hz : vs.length <= sizeLine:=by rw [← rel.length]; exact z
    have hl : (V3 kvs k v).length <= sizeLine:=by have:=VW kvs k v; omega
    refine wpAny_setItem_pairs (hsz:=hz) (Bk ry) dd λh' dd' hs=>h _ ?_
    have he : ∃ q, h'.get? a = some q:=let ⟨q, _, _, hq, _⟩:=dd'; ⟨q, hq⟩
    exact Bn I (by rw [e]; exact True.intro) hs he (IR hl hd (rel.put k rv) dd')
  . subst ey eH
    cases (show u = Value.ref b from ry)
    obtain ⟨z, hd, xs, rel, dd⟩:=Mh I.hok e
    have hz : xs.length <= sizeLine:=by rw [← Paired.length rel]; exact z
    have hl : (V3 kvs k v).length <= sizeLine:=by have:=VW kvs k v; omega
    refine wpAny_setItem_heap (hsz:=hz) (tupleKind_room_in1 hu) (Fr I.hok eb) dd λh' dd' hs=>h _ ?_
    obtain ⟨q, es, ep, hq, h2, h3, h4, _, h5⟩:=dd'
    refine Bn I (by rw [e]; exact True.intro) hs ⟨q, hq⟩ ⟨hl, hd, _, (rel.put k eb rv).keeps λc ys ec=>?_, q, es, ep, hq, h2, h3, h4, h5⟩
    rw [XD (Cw ec e (λz=>nomatch z))]
    exact ec
end
section
variable {X : Cx} {pins : List (Addr × Obj)} {σ : St} {H : Hp} {s : Shared} {a : Addr} {kvs : List (Key × V)} {k : Key} {u : Value} {A : Around} {E : Value -> Shared -> Prop}
end
noncomputable def MD (i : Expr) : Prop:=∀ ov iv, subscripted i false ov iv = operate [ov, iv] (getItem ov iv)
theorem Hg {prog : Program} {w : World} {A : Around} {E : Value -> Shared -> Prop} {s : Shared} {env : Env} {value slice : Expr} {pos : Pos} {T id : String} {Q : Value -> Shared -> Prop}
    (hl : typeLookup (.type T) "__getitem__" = pure (some (.builtin id))) (hs : MD slice)
    (h : wpAny (model prog w) A (eval value env) (λo s₁=>wpAny (model prog w) A (eval slice env) (λi s₂=>s₂.TypeIs o T /\ wpAny (model prog w) A (getItem o i) Q E s₂) E s₁) E s) :
    wpAny (model prog w) A (eval (.Subscript value slice pos) env) Q E s:=by
  refine Subscript_ (wpAny_mono h (λo s₁ h₁=>wpAny_mono h₁ (λi s₂ h₂=>?_) λ_ _ x=>x) λ_ _ x=>x)
  obtain ⟨hT, h₂⟩:=h₂
  unfold subscriptTail
  refine wpAny_bind ?_
  rw [getitemInPython_of_ne hT.not_modules]
  refine wpAny_bind (wpAny_specialOf hT hl ?_)
  have fin : wpAny (model prog w) A (subscripted slice false o i) (λr s₃=>wpAny (model prog w) A (letTemporaryGo value o r >>= λ_=>pure r) Q E s₃) E s₂:=by
    rw [hs o i]
    exact wpAny_operating (wpAny_mono h₂ (λr s₃ h₃=>wpAny_bind (wpAny_letTemporaryGo (wpAny_pure h₃))) λ_ _ x=>x)
  first
    | exact wpAny_pure (wpAny_bind fin)
    | exact wpAny_bind (wpAny_pure (wpAny_bind fin))
    | exact wpAny_bind fin
theorem Gu {X : Cx} {pins : List (Addr × Obj)} {σ : St} {H : Hp} {s : Shared} {a : Addr} {y : V} {o : Option V} (I : Inv X pins σ H s) (g : IZ H a y o) : s.TypeIs (.ref a) "dict":=by
  rcases g with ⟨kvs, k, e, _, _⟩ | ⟨kvs, k, b, e, _, _, _⟩
  . obtain ⟨_, _, vs, _, dd⟩ := B3 I.hok e
    exact dd.typeIs
  . obtain ⟨_, _, xs, _, dd⟩ := Ej I.hok e
    exact dd.typeIs
noncomputable def IJ (td ty : TE) : TE:=λσ H Q=>td σ H λx H1=>ty σ H1 λy H2=>∃ a v, x = .ref a /\ IZ H2 a y (some v) /\ Q v H2
noncomputable def Bc (ty td : TE) : TE:=λσ H Q=>ty σ H λy H1=>td σ H1 λx H2=>∃ a o, x = .ref a /\ IZ H2 a y o /\ Q (.bl (!o.isSome)) H2
noncomputable def LM (td ty tv : TE) : TS:=λD σ H=>tv σ H λv H1=>td σ H1 λx H2=>ty σ H2 λy H3=>∃ a H4, x = .ref a /\ MM H3 a y v H4 /\ D.nx σ H4
section
variable {X : Cx} {o i e value : Expr} {pos pos' tpos : Pos} {td ty tv : TE}
theorem Gm (hu : X.A.units + 1 < cLine) (ho : PE X o td) (hi : PE X i ty) (hs : MD i) : PE X (.Subscript o i pos) (IJ td ty):=by
  intro pins s σ H Q I h
  refine Hg PySem.F.slot_dict_getitem.lookup hs (thn (ho pins s σ H _ I h) λu s1 ⟨x, H1, I1, rx, q1⟩=>thn (hi pins s1 σ H1 _ I1 q1) λiv s2 r9=>?_)
  obtain ⟨y, H2, I2, ry, a, v, ex, g, q2⟩:=r9
  subst ex
  obtain rfl : u = Value.ref a:=rx
  exact ⟨Gu I2 g, DY hu I2 g ry λw' s3 I3 rw'=>⟨v, H2, I3, rw', q2⟩⟩
theorem CA (hu : X.A.units + 1 < cLine) (hi : PE X i ty) (ho : PE X o td) : PC X .NotIn i o (Bc ty td):=by
  intro pins s σ H Q I h
  refine thn (hi pins s σ H _ I h) λiv s1 ⟨y, H1, I1, ry, q1⟩=>thn (ho pins s1 σ H1 _ I1 q1) λu s2 r9=>?_
  obtain ⟨x, H2, I2, rx, a, ov, ex, g, q2⟩:=r9
  subst ex
  obtain rfl : u = Value.ref a:=rx
  exact H9 hu I2 g ry λs3 I3=>⟨.bl (!ov.isSome), H2, I3, rfl, q2⟩
theorem HR (hu : X.A.units + 1 < cLine) (ho : PE X o td) (hi : PE X i ty) (hv : PE X value tv) (hs : swapsWith value (some (.Subscript o i pos')) pos.line X.env = pure false) :
    PS X (.Assign [.Subscript o i pos'] value pos) (LM td ty tv):=by
  intro pins s σ H D I h
  refine wpAny_Assign_Subscript (thn (hv pins s σ H _ I h) λr s1 ⟨v, H1, I1, rv, q1⟩=>thn (ho pins s1 σ H1 _ I1 q1) λu s2 ⟨x, H2, I2, rx, q2⟩=>thn (hi pins s2 σ H2 _ I2 q2) λiv s3 r9=>?_) hs
  obtain ⟨y, H3, I3, ry, a, H4, ex, g, q3⟩:=r9
  subst ex
  obtain rfl : u = Value.ref a:=rx
  exact Dg hu I3 g ry rv λs4 I4=>⟨σ, H4, I4, q3⟩
end
theorem Ei {P : Program} {w : World} {H : Hp} (h : Heap) (hb : sysModules < h.objs.size) : YW P w H (h.push { cls:=.type "dict", data:=.dict #[] }) h.objs.size (.dK []):=
  ⟨Nat.zero_le _, beq_eq_false_iff_ne.mpr (Ne.symm (Nat.ne_of_lt hb)), [], .nil, Heap.DictOf.new h⟩
noncomputable def EF : TE:=λ_ H Q=>∀ p, H p = none -> Q (.ref p) (upd H p (.dK []))
section
variable {X : Cx} {pos : Pos}
theorem BX : PE X (.Dict [] [] pos) EF:=λpins s σ H Q I h=>
  wpAny_Dict_empty ⟨.ref s.heap.objs.size, _, I.laid (a:=s.heap.objs.size) (o:=.dK []) (t':=s.toks) (λ_ _ q=>Heap.get?_push_of_some _ q) (Nat.le_refl _) (Ei s.heap I.big), rfl, h _ (I.hok.fresh (Nat.le_refl _))⟩
end
section
variable {X : Cx} {pins : List (Addr × Obj)} {σ : St} {H : Hp} {s : Shared} {a : Addr} {y d : V} {u r : Value} {o : Option V} {A : Around} {E : Value -> Shared -> Prop}
end
section
variable {X : Cx} {o e f : Expr} {apos cpos : Pos} {td ty tx : TE}
end
section
variable {X : Cx} {pins : List (Addr × Obj)} {σ : St} {H : Hp} {s : Shared} {a : Addr} {kvs : List (Key × V)} {A : Around} {E : Value -> Shared -> Prop}
end
section
variable {X : Cx} {pins : List (Addr × Obj)} {σ : St} {H : Hp} {s : Shared} {a : Addr} {y : V} {u : Value} {A : Around} {E : Value -> Shared -> Prop}
end
section
variable {X : Cx}
end
section
variable {κ : Type} [DecidableEq κ]
end
theorem Df {env : Env} : ∀ (names : List (Str × NameKind)), (∀ x ∈ names, x.2 = NameKind.free -> ∃ c, env.cells.lookup x.1 = some c) ->
    ∀ cs : List (Str × Addr), (∀ x c, cs.lookup x = some c -> env.cells.lookup x = some c) ->
    ∃ cl : List (Str × Addr), (forIn names cs (λ(x : Str × NameKind) (r : List (Str × Addr))=>(if (x.2 == NameKind.free) = true then do let a ← cellOf env x.1; pure (ForInStep.yield ((x.1, a) :: r)) else pure (ForInStep.yield r) : Sem (ForInStep (List (Str × Addr)))))) = (pure cl : Sem (List (Str × Addr))) /\
      (∀ x c, cl.lookup x = some c -> env.cells.lookup x = some c) /\ (∀ x, ((x, NameKind.free) ∈ names ∨ ∃ c, cs.lookup x = some c) -> ∃ c, cl.lookup x = some c)
  | [], _, cs, hs=>⟨cs, by rw [List.forIn_nil], hs, λx h=>h.elim (λz=>nomatch z) id⟩
  | (n, k) :: r, hf, cs, hs=>by
    have hr : ∀ x ∈ r, x.2 = NameKind.free -> ∃ c, env.cells.lookup x.1 = some c:=λx hx=>hf x (List.mem_cons_of_mem _ hx)
    by_cases hk : k = NameKind.free
    . subst hk
      obtain ⟨a, ha⟩:=hf (n, NameKind.free) List.mem_cons_self rfl
      have hs' : ∀ x c, ((n, a) :: cs).lookup x = some c -> env.cells.lookup x = some c:=λx c h=>by
        rw [List.lookup_cons] at h
        by_cases hx : x = n
        . subst hx
          simp only [beq_self_eq_true] at h
          rw [← h]; exact ha
        . have : (x == n) = false := beq_eq_false_iff_ne.mpr hx
          rw [this] at h
          exact hs x c h
      obtain ⟨cl, e, h1, h2⟩:=Df r hr ((n, a) :: cs) hs'
      refine ⟨cl, ?_, h1, λx h=>h2 x ?_⟩
      . rw [List.forIn_cons]
        have e1 : cellOf env n = pure a:=by unfold cellOf; rw [show env.cells.lookup n = some a from ha]
        simp only [beq_self_eq_true, if_true, e1]
        exact e
      . rcases h with h | ⟨c, h⟩
        . rcases List.mem_cons.mp h with h | h
          . have : x = n := congrArg Prod.fst h
            subst this
            exact .inr ⟨a, by rw [List.lookup_cons]; simp⟩
          . exact .inl h
        . by_cases hx : x = n
          . subst hx; exact .inr ⟨a, by rw [List.lookup_cons]; simp⟩
          . exact .inr ⟨c, by rw [List.lookup_cons, beq_eq_false_iff_ne.mpr hx]; exact h⟩
    . obtain ⟨cl, e, h1, h2⟩ := Df r hr cs hs
      refine ⟨cl, ?_, h1, λx h=>h2 x ?_⟩
      . rw [List.forIn_cons]
        have hb : (k == NameKind.free) = false:=by simpa using hk
        simp only [hb, Bool.false_eq_true, if_false]
        exact e
      . rcases h with h | h
        . rcases List.mem_cons.mp h with h | h
          . exact absurd (congrArg Prod.snd h).symm hk
          . exact .inl h
        . exact .inr h
theorem Dp {scope : Scope} {env : Env} (hf : ∀ x ∈ scope.names, x.2 = NameKind.free -> ∃ c, env.cells.lookup x.1 = some c) :
    ∃ cl : List (Str × Addr), closureFor scope env = pure cl /\ (∀ x c, cl.lookup x = some c -> env.cells.lookup x = some c) /\ (∀ x, (x, NameKind.free) ∈ scope.names -> ∃ c, cl.lookup x = some c):=by
  obtain ⟨cl, e, h1, h2⟩:=Df scope.names hf [] (λx c h=>by simp at h)
  refine ⟨cl, ?_, h1, λx h=>h2 x (.inl h)⟩
  unfold closureFor
  show ((forIn scope.names [] (λ(x : Str × NameKind) (r : List (Str × Addr))=>(if (x.2 == NameKind.free) = true then do let a ← cellOf env x.1; pure (ForInStep.yield ((x.1, a) :: r)) else pure (ForInStep.yield r) : Sem (ForInStep (List (Str × Addr)))))) >>= λs=>pure s) = pure cl
  rw [e]
  rfl
theorem Q2 {env : Env} : ∀ {names : List (Str × NameKind)} {x : Str} {k : NameKind}, (∀ y ∈ names, y.2 ≠ NameKind.cell) ->
    (names.map λ(n, k)=>if (k == NameKind.free && env.scope.kind == .function && env.kindOf n == some .cell) then (n, NameKind.cell) else (n, k)).lookup x = some k -> (k = .cell ∨ k = .free) -> (x, NameKind.free) ∈ names
  | [], _, _, _, h, _=>by simp at h
  | (n, kk) :: r, x, k, hc, h, hk=>by
    have ih:=@Q2 env r x k (λy hy=>hc y (List.mem_cons_of_mem _ hy))
    have hh:=hc (n, kk) List.mem_cons_self
    simp only [List.map_cons] at h
    by_cases hcond : (kk == NameKind.free && env.scope.kind == .function && env.kindOf n == some .cell) = true
    . rw [if_pos hcond, List.lookup_cons] at h
      have hfree : kk = NameKind.free:=by
        rw [Bool.and_eq_true, Bool.and_eq_true] at hcond
        simpa using hcond.1.1
      cases hx : x == n with
      | true=>
        have : x = n:=by simpa using hx
        subst this; subst hfree
        exact List.mem_cons_self
      | false=>rw [hx] at h; exact List.mem_cons_of_mem _ (ih h hk)
    . rw [if_neg hcond, List.lookup_cons] at h
      cases hx : x == n with
      | true=>
        rw [hx] at h
        have hkk : kk = k:=Option.some.inj h
        have : x = n:=by simpa using hx
        subst this; subst hkk
        rcases hk with z | z
        . exact absurd z hh
        . subst z; exact List.mem_cons_self
      | false=>rw [hx] at h; exact List.mem_cons_of_mem _ (ih h hk)
theorem JM {env : Env} : ∀ {names : List (Str × NameKind)} {x : Str}, names.lookup x = some .free ->
    let l:=(names.map λ(n, k)=>if (k == NameKind.free && env.scope.kind == .function && env.kindOf n == some .cell) then (n, NameKind.cell) else (n, k))
    l.lookup x = some .cell ∨ l.lookup x = some .free
  | [], _, h=>by simp at h
  | (n, kk) :: r, x, h=>by
    have ih:=@JM env r x
    simp only [List.map_cons]
    rw [List.lookup_cons] at h
    by_cases hcond : (kk == NameKind.free && env.scope.kind == .function && env.kindOf n == some .cell) = true
    . rw [if_pos hcond, List.lookup_cons]
      cases hx : x == n with
      | true=>exact .inl rfl
      | false=>rw [hx] at h; exact ih h
    . rw [if_neg hcond, List.lookup_cons]
      cases hx : x == n with
      | true=>rw [hx] at h; exact .inr h
      | false=>rw [hx] at h; exact ih h
noncomputable abbrev Cx.comp (X : Cx) (N : List Str) (scope : Scope) (cl : List (Str × Addr)) (C : Addr) (s : Shared) (H : Hp) (ex : List Addr) (E : Value -> Shared -> Prop) : Cx:=
  { X with N:=N, s₀:=s, H₀:=H, env:=compEnvC scope cl C X.env, outer:=X.stack, ex:=ex, fn:=λ_=>false, pn:=[], xe:=E }
noncomputable def PTs (X : Cx) (ifs : List Expr) (t : TT) : Prop:=
  ∀ (pins : List (Addr × Obj)) (s : Shared) (σ : St) (H : Hp) (Q : Bool -> Hp -> Prop), Inv X pins σ H s -> t σ H Q ->
    wpAny (model X.prog X.w) X.A (forIn ifs true λc r=>if r = true then do let ok ← isTrue c X.env (eval c X.env); pure (ForInStep.yield ok) else pure (ForInStep.yield r)) (TP X pins σ Q) X.xe s
noncomputable def Uv : TT:=λ_ H Q=>Q true H
theorem Lv {σ : St} {H : Hp} {A B : Hp -> Prop} (h : A H) : Uv σ H λc H5=>if c = true then A H5 else B H5:=by
  show if true = true then A H else B H
  rw [if_pos rfl]
  exact h
theorem Y7 {X : Cx} : PTs X [] Uv:=λ_ _ _ H _ I h=>wpAny_tests_nil ⟨H, I, h⟩
theorem VB {X : Cx} {c : Expr} {t : TT} (h : PT X c t) : PTs X [c] t:=λpins s σ H Q I hw=>wpAny_tests_one (h pins s σ H Q I hw)
noncomputable def UO (n : Nat) (g : TG) : Prop:=∀ x σ H Q, g x σ H Q -> g x σ H λσ2 H2=>Q σ2 H2 /\ σ2.length = σ.length /\ ∀ i, n <= i -> σ2[i]? = σ[i]?
theorem Y0 {n i : Nat} (h : i < n) : UO n (Zd i):=λx σ H Q q=>⟨q, by simp, λj hj=>by rw [List.getElem?_set_ne (by lia)]⟩
theorem UC {K : PySem.W.Frag} {n i j : Nat} (hi : i < n) (hj : j < n) : UO n (EV K 2 (Qr (Zd i) (Qr (Zd j) Ic))):=λx σ H Q q=>by
  obtain ⟨a, xs, e1, hq, hl, v, r, e2, w, r2, e3, e4, q⟩:=q
  exact ⟨a, xs, e1, hq, hl, v, r, e2, w, r2, e3, e4, q, by simp, λk hk=>by rw [List.getElem?_set_ne (by lia), List.getElem?_set_ne (by lia)]⟩
noncomputable def Q5 (n : Nat) (caps : List (Nat × Str)) (σ : St) : St:=List.replicate n none ++ caps.map λp=>(σ[p.1]?).join
noncomputable def E3 (g : TG) (tt : TT) (te : TE) (σ : St) (Q : VK) (J : It) (W : Nat -> Nat -> List V -> Hp -> Prop) : Prop:=
  ∀ i m ys H2, W i m ys H2 -> ys.length <= sizeLine /\
    ((J.stop i H2 /\ ∀ p, H2 p = none -> Q (.ref p) (upd H2 p (.lst ys))) ∨
    (J.go i H2 /\ ∃ N : List V -> Hp -> Prop, (∀ ys' H', N ys' H' -> ∃ m', m' < m /\ W (i + 1) m' ys' H') /\ ∀ x H3, J.yld i H2 x H3 -> g x σ H3 λσ4 H4=>tt σ4 H4 λc H5=>
      if c = true then te σ4 H5 λv H6=>N (ys ++ [v]) H6 else N ys H5))
noncomputable def EM (n : Nat) (caps : List (Nat × Str)) (g : TG) (tt : TT) (te : TE) (σ : St) (Q : VK) (J : It) (H1 : Hp) : Prop:=
  ∃ W : Nat -> Nat -> List V -> Hp -> Prop, (∃ m, W 0 m [] H1) /\ E3 g tt te (Q5 n caps σ) Q J W
noncomputable def Cm (n : Nat) (caps : List (Nat × Str)) (wi : TI) (g : TG) (tt : TT) (te : TE) : TE:=λσ H Q=>wi σ H λJ H1=>EM n caps g tt te σ Q J H1
noncomputable def KR (sc scope : Scope) (N0 tns : List Str) (caps : List (Nat × Str)) : Bool:=
  scope.kind == .function && scope.names.all (λy=>!(y.2 == .cell)) && scope.names.all (λy=>!(y.2 == .local) || scope.names.lookup y.1 == some .local) &&
  scope.names.all (λy=>!(y.2 == .free) || sc.names.lookup y.1 == some .cell) && caps.all (λp=>N0[p.1]? == some p.2 && sc.names.lookup p.2 == some .cell && scope.names.lookup p.2 == some .free)
theorem GW {α : Type} {p : α} {P : Prop} (h : p ∈ ([] : List α)) : P:=nomatch h
noncomputable def IS (M : Model) (A : Around) (elt tg : Expr) (ifs : List Expr) (acc : Value) (env : Env) (E : Value -> Shared -> Prop) (K : Shared -> Prop) (v : Value) (s : Shared) : Prop:=
  wpAny M A (assign tg env v) (λ_ s₂=>wpAny M A (forIn ifs true λc r=>if r = true then do let ok ← isTrue c env (eval c env); pure (ForInStep.yield ok) else pure (ForInStep.yield r)) (λok s₃=>
    if ok = true then wpAny M A (eval elt env) (λx s₄=>wpAny M A (call (.builtin "list.append") [acc, x]) (λ_ s₅=>K s₅) E s₄) E s₃ else K s₃) E s₂) E s
noncomputable def Mc (M : Model) (A : Around) (elt tg : Expr) (ifs : List Expr) (it acc : Value) (env : Env) (E : Value -> Shared -> Prop) (Rn K : Shared -> Prop) (s : Shared) : Prop:=
  wpAny M A (pyNext it) (λr s₁=>r = none /\ Rn s₁ ∨ ∃ v, r = some v /\ wpAny M A (letOwnedTupleGo tg it v) (λ_ s₁=>IS M A elt tg ifs acc env E K v s₁) E s₁) E s
section
variable {prog : Program} {w : World} {A : Around} {R : Result -> Shared -> Prop} {s : Shared}
theorem KI {elt target iter : Expr} {ifs : List Expr} {scope : Scope} {pos : Pos} {it acc : Value} {env : Env} {E : Value -> Shared -> Prop} (I : Nat -> Shared -> Prop) (hE : (notedBy (model prog w) A env λe s'=>R (.error e) s') = E)
    (turn : ∀ n s, I n s -> Mc (model prog w) A elt target ifs it acc env E (λs=>R (.ok .next) s) (λs=>∃ m, m < n /\ I m s) s) (n : Nat) (h : I n s) :
    codeAny (model prog w) A (.compLoop (.ListComp elt [⟨target, iter, ifs, 0⟩] scope pos) 0 it acc env) R s:=by
  subst hE
  refine codeAny_loop rfl I (λn s hI=>?_) n h
  show wpAny _ A ((compTurn (.ListComp elt [⟨target, iter, ifs, 0⟩] scope pos) 0 it acc env).onRaise (λx=>do noteFrame x env; theTreesLotGoes x)) _ _ s
  refine wpAny_noted ?_
  rw [compTurn_list]
  refine wpAny_bind (wpAny_standAt (wpAny_bind (thn (turn n s hI) λr s₁ h₁=>?_)))
  rcases h₁ with ⟨rfl, h₁⟩ | ⟨v, rfl, h₁⟩
  . exact wpAny_pure h₁
  . refine wpAny_bind (thn h₁ λ_ s₁' h₁' => wpAny_bind (thn h₁' λ_ s₂ h₂ => wpAny_bind (thn h₂ λok s₃ h₃ => ?_)))
    cases ok with
    | false=>exact wpAny_pure ⟨rfl, h₃⟩
    | true=>exact wpAny_bind (wpAny_bind (thn h₃ λx s₄ h₄=>wpAny_bind (thn h₄ λ_ s₅ h₅=>wpAny_pure (wpAny_pure ⟨rfl, h₅⟩))))
end
noncomputable def lob (its : List Value) (k : Nat) : Obj:={ cls:=.type "list", data:=.seq (List.toArray its) k }
structure CIn (Y : Cx) (tn : Nat -> Heap -> Prop) (fp : List Addr) (D : Addr) (σ : St) (i : Nat) (H : Hp) (o : Obj) (s : Shared) : Prop where
  I : Inv Y [] σ H s
  t : tn i s.heap
  f : ∀ b ∈ fp, H b = none
  l : s.heap.get? D = some o
  n : H D = none
inductive CI (Y : Cx) (tn : Nat -> Heap -> Prop) (fp : List Addr) (D : Addr) (σ : St) (W : Nat -> Nat -> List V -> Hp -> Prop) (m : Nat) (s : Shared) : Prop
  | mk (i : Nat) (H : Hp) (ys : List V) (its : List Value) (k : Nat) (c : CIn Y tn fp D σ i H (lob its k) s) (r : Yr ys its) (w : W i m ys H)
structure CAt (Y : Cx) (fp : List Addr) (D : Addr) : Prop where
  calm : Y.calm = true
  pn : Y.pn = []
  ne : D ≠ Y.env.locals
  fs : D ∉ Y.fs
  sz : Y.s₀.heap.objs.size <= D
  cl : ∀ x c, Y.env.cells.lookup x = some c -> c ≠ D
  fpn : ∀ b ∈ fp, b ≠ D
  ok : ∀ b ∈ fp, ∀ H : Hp, H b = none -> GD Y [] H b
section
variable {Y : Cx} {tn : Nat -> Heap -> Prop} {fp : List Addr} {D it : Addr} {σ : St} {tg elt iter : Expr} {ifs : List Expr} {J : It} {g : TG} {tt : TT} {te : TE} {n i : Nat} {H : Hp} {s : Shared} {o : Obj} {Kn : Shared -> Prop}
theorem CAt.pins (c : CAt Y fp D) (hn : ∀ b ∈ fp, H b = none) : ∀ b ∈ fp, GD Y [(D, o)] H b:=λb hb=>
  have z:=c.ok b hb H (hn b hb)
  ⟨z.1, z.2.1, z.2.2.1, z.2.2.2.1, z.2.2.2.2.1, λp hp e=>by
    rw [c.pn] at hp
    cases List.mem_singleton.mp hp
    exact c.fpn b hb e.symm⟩
theorem G5 (T : Turn Y.prog Y.w Y.K tg J fp it tn) {h5 : Heap} (t : tn i h5) (I : Inv Y ([(D, o)] ++ Kd fp h5) σ H s) : CIn Y tn fp D σ i H o s:=
  have p:=I.pin (D, o) (List.mem_append_right _ (.head _))
  have q : ∀ b ∈ fp, ∀ o', h5.get? b = some o' -> s.heap.get? b = some o' /\ H b = none:=λb hb o' e=>have z:=I.pin (b, o') (List.mem_append_right _ (.tail _ (Jo hb e))); ⟨z.1, z.2.1⟩
  ⟨I.pins_of (pins':=[]) λ_ h=>GW h, T.keep _ _ _ t λb hb o' e=>(q b hb o' e).1, λb hb=>(T.obj _ _ t b hb).elim λo' e=>(q b hb o' e.1).2, p.1, p.2.1⟩
theorem M3 (T : Turn Y.prog Y.w Y.K tg J fp it tn) (a : CAt Y fp D) {its : List Value} {k : Nat} {v : Value} {E : Value -> Shared -> Prop} (c : CIn Y tn fp D σ i H (lob its k) s) (hz : its.length <= sizeLine)
    (hQ : ∀ k' s', CIn Y tn fp D σ i H (lob (its ++ [v]) k') s' -> Kn s') : wpAny (model Y.prog Y.w) Y.A (call (.builtin "list.append") [.ref D, v]) (λ_ s=>Kn s) E s:=by
  refine call_meets F.slot_list_append ⟨_, c.l, rfl⟩ F.entry_list_append (F.args_list_append_2 _ _) (PySem.list_append D (List.toArray its) k v hz) ⟨c.l, ?_⟩
  have q : ∃ k', PySem.IsL (s.heap.update D (Obj.mapSeq (·.push v))) D ((List.toArray its).push v) k':=⟨_, PySem.IsL.update c.l (·.push v)⟩
  rw [List.push_toArray] at q
  obtain ⟨k', q⟩:=q
  exact hQ k' _ ⟨c.I.turned (t':=s.toks) (h':=s.heap.update D (Obj.mapSeq (·.push v))) (it:=D) (λb o hb' e=>(Heap.get?_update_other s.heap _ (Ne.symm hb')).trans e) c.n a.ne (.inr a.sz) a.cl (λp hp=>by rw [a.pn] at hp; exact GW hp),
    T.keep _ _ _ c.t λb hb o e=>(Heap.get?_update_other s.heap _ (Ne.symm (a.fpn b hb))).trans e, c.f, q, c.n⟩
theorem Ew {acc : Value} {pins : List (Addr × Obj)} {N : List V -> Hp -> Prop} {ys : List V} {x : V} {u : Value} (hg : PG Y tg g) (ht : PTs Y ifs tt) (he : PE Y elt te) (hG : UO n g) (h0 : ∀ (j : Nat) v, σ[j]? = some (some v) -> n <= j)
    (I : Inv Y pins σ H s) (r : Yl x u) (st : g x σ H λσ4 H4=>tt σ4 H4 λc H5=>if c = true then te σ4 H5 λv H6=>N (ys ++ [v]) H6 else N ys H5)
    (hF : ∀ H7 s7, Inv Y pins σ H7 s7 -> N ys H7 -> Kn s7) (hT : ∀ H8 s8 y v, Inv Y pins σ H8 s8 -> Yl y v -> N (ys ++ [y]) H8 -> wpAny (model Y.prog Y.w) Y.A (call (.builtin "list.append") [acc, v]) (λ_ s=>Kn s) Y.xe s8) :
    IS (model Y.prog Y.w) Y.A elt tg ifs acc Y.env Y.xe Kn u s:=by
  refine thn (hg _ s _ H x u _ I r (hG _ _ _ _ st)) λ_ s6 r9=>?_
  obtain ⟨σ6, H6, I6, q6, l6, k6⟩:=r9
  have wk : ∀ (j : Nat) v, σ[j]? = some (some v) -> σ6[j]? = some (some v):=λj v e=>(k6 j (h0 j v e)).trans e
  refine thn (ht _ s6 σ6 H6 _ I6 q6) λc s7 r9=>?_
  obtain ⟨H7, I7, q7⟩:=r9
  cases c with
  | false=>exact hF _ _ (I7.weak l6.symm wk) q7
  | true=>exact thn (he _ s7 σ6 H7 _ I7 q7) λv8 s8 r9=>by obtain ⟨y8, H8, I8, r8, n8⟩:=r9; exact hT _ _ _ _ (I8.weak l6.symm wk) r8 n8
theorem FI {scope : Scope} {pos : Pos} {Q : V -> Hp -> Prop} {R : Result -> Shared -> Prop} (hE : (notedBy (model Y.prog Y.w) Y.A Y.env λe s'=>R (.error e) s') = Y.xe)
    (T : Turn Y.prog Y.w Y.K tg J fp it tn) (hG : UO n g) (hg : PG Y tg g) (ht : PTs Y ifs tt) (he : PE Y elt te) (a : CAt Y fp D) (h0 : ∀ (j : Nat) v, σ[j]? = some (some v) -> n <= j)
    {W : Nat -> Nat -> List V -> Hp -> Prop} (turn : E3 g tt te σ Q J W)
    (hEnd : ∀ ys its k H3 s4, Inv Y [(D, lob its k)] σ H3 s4 -> Yr ys its -> ys.length <= sizeLine -> Q (.ref D) (upd H3 D (.lst ys)) -> R (.ok .next) s4) {m0 : Nat} (hi : CI Y tn fp D σ W m0 s) :
    codeAny (model Y.prog Y.w) Y.A (.compLoop (.ListComp elt [⟨tg, iter, ifs, 0⟩] scope pos) 0 (.ref it) (.ref D) Y.env) R s:=by
  refine KI (CI Y tn fp D σ W) hE (λm s3 c=>?_) m0 hi
  cases c with
  | mk i H3 ys its k c rv w3=>
  have I3 : Inv Y [(D, lob its k)] σ H3 s3:=c.I.pins_of λp hp=>List.mem_singleton.mp hp ▸ ⟨c.l, c.n, a.ne, a.fs, λ_ z=>by cases z⟩
  have t:=turn i m ys H3 w3
  refine t.2.elim (λq=>?_) λq=>?_
  . exact thn (T.done Y rfl rfl rfl a.calm i _ s3 _ H3 Y.xe I3 (a.pins c.f) c.t q.1) λr s4 h=>.inl ⟨h.1, hEnd ys its k H3 s4 h.2 rv t.1 (q.2 D c.n)⟩
  . refine q.2.elim λNN h => ?_
    refine thn (T.item Y rfl rfl rfl a.calm i _ s3 _ H3 Y.xe I3 (a.pins c.f) c.t q.1) λr s4 h4=>.inr (h4.elim λu h4=>⟨u, h4.1, thn h4.2 λ_ s5 h5=>h5.elim λx h5=>h5.elim λH5 h5=>?_⟩)
    exact Ew hg ht he hG h0 (h5.1.pinned (a.pins h5.2.2.2.2) (T.obj _ _ h5.2.2.2.1)) h5.2.1 (h.2 x H5 h5.2.2.1)
      (λH7 s7 I7 q7=>(h.1 _ _ q7).elim λm' z=>⟨m', z.1, .mk (i + 1) H7 ys its k (G5 T h5.2.2.2.1 I7) rv z.2⟩)
      λH8 s8 y v I8 r8 q8=>(h.1 _ _ q8).elim λm' z=>M3 T a (G5 T h5.2.2.2.1 I8) (rv.length ▸ t.1) λk' s' c'=>⟨m', z.1, .mk (i + 1) H8 (ys ++ [y]) (its ++ [v]) k' c' (rv.append (.cons r8 .nil)) z.2⟩
end
section
variable {X : Cx} {elt tg iter : Expr} {ifs : List Expr} {scope sc : Scope} {pos : Pos} {n : Nat} {tns : List Str} {caps : List (Nat × Str)} {wi : TI} {g : TG} {tt : TT} {te : TE}
structure CompEnd (X : Cx) (pins : List (Addr × Obj)) (σ : St) (H3 : Hp) (D C : Addr) (ys : List V) (s' : Shared) : Prop where
  inv : Inv X pins σ (upd H3 D (.lst ys)) s'
  fresh : H3 D = none
  fp : GD X pins (upd H3 D (.lst ys)) C
  ns : ∃ m, s'.heap.Ns C m
theorem Ex {pins : List (Addr × Obj)} {σ σ' : St} {H H3 : Hp} {s s4 : Shared} {D C : Addr} {fp : List Addr} {its : List Value} {k : Nat} {ys : List V} {Y : Cx} (I : Inv X pins σ H s) (hf : ∀ b ∈ fp, GD X pins H b) (hD : s.heap.objs.size <= D) (hDlt : D < C)
    (I4 : Inv Y [(D, lob its k)] σ' H3 s4) (hos : s4.os = s.os) (u : Un (frs X.stack) fp H H3 s.heap s4.heap) (hok : HOk X.prog X.w H3 s4.heap) (hC : Y.env.locals = C) (rv : Yr ys its) (hz : ys.length <= sizeLine) : CompEnd X pins σ H3 D C ys s4:=by
  subst hC
  have p:=I4.pin (D, lob its k) (List.mem_append_right _ (.head _))
  have hDn : H3 D = none:=p.2.1
  have up : ∀ {b : Addr} {o : HO}, H3 b = some o -> upd H3 D (.lst ys) b = some o:=λe=>(XD (Ya e hDn)).trans e
  refine ⟨I.call' (ch:=fp) hos ⟨u.keep, u.slot, λb o e nn hx=>(XD (Nat.ne_of_lt (Nat.lt_of_lt_of_le (Heap.lt_size e) hD))).trans (u.free b o e nn hx), u.there, λb xs e=>up (u.tups b xs e), λb o xs e=>up (u.frzs b o xs e), λb ps e=>(u.tbls b ps e).elim λmore z=>⟨more, up z⟩⟩ (λa o e=>?_) I4.bare λb hb=>have z:=hf b hb; ⟨z.2.2.2.1, z.2.1, z.2.2.2.2.1, z.2.2.2.2.2⟩, hDn, I.fpOk (Nat.le_trans hD (Nat.le_of_lt hDlt)) ((XD (Nat.ne_of_gt hDlt)).trans I4.free), I4.loc.elim λm z=>⟨m, z.1⟩⟩
  by_cases ha : a = D
  . subst ha
    rw [YA] at e; cases e
    exact ⟨hz, its, k, rv, p.1⟩
  . rw [XD ha] at e
    exact (hok a o e).stay (λb u _ q=>q) (λb q=>up q) λb xs q=>up q
noncomputable def M4 (X : Cx) (elt tg iter : Expr) (ifs : List Expr) (scope : Scope) (pos : Pos) (it : Value) (cl : List (Str × Addr)) (RR : Value -> Addr -> Result -> Shared -> Prop) (E : Value -> Shared -> Prop) (s : Shared) : Prop:=
  wpAny (model X.prog X.w) X.A (newList []) (λacc s₃=>wpAny (model X.prog X.w) X.A (newFunctionEnv scope X.env.globals cl [] X.env.qual none .none (some X.env)) (λcenv s₄=>
      codeAny (model X.prog X.w) X.A (.compStart (.ListComp elt [⟨tg, iter, ifs, 0⟩] scope pos) 0 it acc { cenv with scope:=relabel scope X.env }) (RR acc cenv.locals) s₄) E s₃) E s
theorem KU {σ : St} {i : Nat} {v : V} (e : (Q5 n caps σ)[i]? = some (some v)) : n <= i /\ ∃ p, caps[i - n]? = some p /\ σ[p.1]? = some (some v):=by
  unfold Q5 at e
  by_cases h : i < n
  . rw [List.getElem?_append_left (by simpa using h), List.getElem?_replicate, if_pos h] at e
    cases e
  . have hi := Nat.le_of_not_lt h
    rw [List.getElem?_append_right (by simpa using hi), List.length_replicate, List.getElem?_map] at e
    refine ⟨hi, ?_⟩
    cases hcp : caps[i - n]? with
    | none=>rw [hcp] at e; cases e
    | some p=>
      rw [hcp] at e
      exact ⟨p, rfl, Option.join_eq_some_iff.mp (Option.some.inj e)⟩
structure COk (X : Cx) (scope : Scope) (caps : List (Nat × Str)) : Prop where
  kind : scope.kind = .function
  cell : ∀ y ∈ scope.names, y.2 ≠ NameKind.cell
  loc : ∀ y ∈ scope.names, y.2 = .local -> scope.names.lookup y.1 = some .local
  free : ∀ y ∈ scope.names, y.2 = .free -> X.env.scope.names.lookup y.1 = some .cell
  caps : ∀ p ∈ caps, (X.N[p.1]? = some p.2 /\ X.env.scope.names.lookup p.2 = some .cell) /\ scope.names.lookup p.2 = some .free
theorem COk.of {N0 : List Str} (hsc : X.env.scope = sc) (hN0 : X.N = N0) (ok : KR sc scope N0 tns caps = true) : COk X scope caps:=by
  subst hsc
  subst hN0
  unfold KR at ok
  simp only [Bool.and_eq_true, List.all_eq_true, beq_iff_eq, Bool.or_eq_true, Bool.not_eq_true', beq_eq_false_iff_ne] at ok
  exact ⟨ok.1.1.1.1, ok.1.1.1.2, λy hy e=>(ok.1.1.2 y hy).resolve_left (absurd e), λy hy e=>(ok.1.2 y hy).resolve_left (absurd e), ok.2⟩
section
variable {pins : List (Addr × Obj)} {σ : St} {H : Hp} {s : Shared} {fp : List Addr} {cl : List (Str × Addr)} {C : Addr} {E : Value -> Shared -> Prop} {N : List Str} {h₁ : Heap}
theorem Hw (ok : COk X scope caps) (I : Inv X pins σ H s) (hf : ∀ b ∈ fp, GD X pins H b) (hlt : ∀ b ∈ fp, b < s.heap.objs.size)
    (hsub : ∀ x c, cl.lookup x = some c -> X.env.cells.lookup x = some c) (hall : ∀ x, (x, NameKind.free) ∈ scope.names -> ∃ c, cl.lookup x = some c) (hC : s.heap.objs.size < C) : (X.comp N scope cl C s H fp E).Ok:=
  ⟨I.ok.mod, ok.kind, I.ok.glob, I.ok.blt, Nat.le_of_lt hC, λx y c h1 h2=>I.ok.inj x y c (hsub x c h1) (hsub y c h2), λx hx=>hall x (hx.elim (λz=>Q2 ok.cell z (.inl rfl)) λz=>Q2 ok.cell z (.inr rfl)), (λx c hx=>by cases hx), I.ok.hd, I.ok.frames, .inl rfl,
    λb hb=>⟨Nat.ne_of_lt (Nat.lt_trans (hlt b hb) hC), λx c e=>(hf b hb).2.2.2.2.1 x c (hsub x c e)⟩, I.bs, Nat.le_trans I.ok.bsz I.sz, λb o e hb=>(hf b hb).2.2.2.1.elim (I.ok.noex b o e) λz=>absurd (Nat.lt_of_lt_of_le (Heap.lt_size e) (Nat.le_trans I.ok.bsz z)) (Nat.lt_irrefl _),
    λb hb hz=>(List.mem_cons.mp (I.stkSub b hz)).elim (hf b hb).2.1 (hf b hb).2.2.1, I.stack, I.stkFree⟩
theorem BF (okc : COk X scope caps) (hn : tns.length = n) (ok : (X.comp (tns ++ caps.map (·.2)) scope cl C s H fp E).Ok) (I : Inv X pins σ H s)
    (hsub : ∀ x c, cl.lookup x = some c -> X.env.cells.lookup x = some c) (hall : ∀ x, (x, NameKind.free) ∈ scope.names -> ∃ c, cl.lookup x = some c) (hC : s.heap.objs.size < C) (hns : h₁.Ns C λ_=>none) (old : ∀ b o, s.heap.get? b = some o -> h₁.get? b = some o) {tk : Nat} :
    Inv (X.comp (tns ++ caps.map (·.2)) scope cl C s H fp E) [] (Q5 n caps σ) H { s with heap:=h₁, toks:=tk }:=by
  refine ⟨ok, rfl, I.bare, Un.kept old, ⟨_, hns, λi x v e1 e2 _=>?_⟩, λx c e=>(I.cell x c (hsub x c e)).elim λv z=>z.elim λo z=>⟨v, o, old _ _ z.1, z.2⟩, I.hok.fresh (Nat.le_of_lt hC), λx c e=>I.freeC x c (hsub x c e), λp hp=>GW (α:=Addr × Obj) hp, I.hok.kept old, by simp [Q5, hn]⟩
  obtain ⟨hi, p, hp, hσ⟩:=KU e2
  have e1' : (tns ++ caps.map (·.2))[i]? = some x:=e1
  rw [List.getElem?_append_right (hn ▸ hi), hn, List.getElem?_map, hp] at e1'
  cases Option.some.inj e1'
  have p5:=okc.caps p (List.mem_of_getElem? hp)
  obtain ⟨m, hm, hl⟩:=I.loc
  obtain ⟨u, r, l⟩:=hl p.1 p.2 v p5.1.1 hσ (.inr (.inl p5.1.2))
  refine ⟨u, r, .inr ?_⟩
  rcases l with ⟨k, _⟩ | ⟨k, c, e, z⟩
  . cases p5.1.2.symm.trans k
  . obtain ⟨c', e'⟩ := hall p.2 (PySem.mem_of_lookup p5.2)
    cases e.symm.trans (hsub _ _ e')
    exact ⟨JM (env:=X.env) p5.2, c, e', z.elim λo z=>⟨o, old _ _ z.1, z.2⟩⟩
variable {J : It} {it : Addr} {tn : Nat -> Heap -> Prop} {Q : V -> Hp -> Prop} {RR : Value -> Addr -> Result -> Shared -> Prop} {W : Nat -> Nat -> List V -> Hp -> Prop} {m0 : Nat}
theorem Hv (ok : COk X scope caps) (hc : X.calm = true) (hn : tns.length = n) (hG : UO n g)
    (hb : ∀ cl C s H ex E, PG (X.comp (tns ++ caps.map (·.2)) scope cl C s H ex E) tg g /\ PTs (X.comp (tns ++ caps.map (·.2)) scope cl C s H ex E) ifs tt /\ PE (X.comp (tns ++ caps.map (·.2)) scope cl C s H ex E) elt te)
    (I : Inv X pins σ H s) (T : Turn X.prog X.w X.K tg J fp it tn) (t0 : tn 0 s.heap) (hf : ∀ b ∈ fp, GD X pins H b)
    (hsub : ∀ x c, cl.lookup x = some c -> X.env.cells.lookup x = some c) (hall : ∀ x, (x, NameKind.free) ∈ scope.names -> ∃ c, cl.lookup x = some c)
    (w0 : W 0 m0 [] H) (turn : E3 g tt te (Q5 n caps σ) Q J W)
    (hRR : ∀ D C ys H3 s', CompEnd X pins σ H3 D C ys s' -> Q (.ref D) (upd H3 D (.lst ys)) -> RR (.ref D) C (.ok .next) s')
    (hC : s.heap.objs.size < C) (hns : h₁.Ns C λ_=>none) (old : ∀ b o, s.heap.get? b = some o -> h₁.get? b = some o) (hacc : h₁.get? s.heap.objs.size = some (lob [] 0)) {tk : Nat} :
    codeAny (model X.prog X.w) X.A (.compStart (.ListComp elt [⟨tg, iter, ifs, 0⟩] scope pos) 0 (.ref it) (.ref s.heap.objs.size) (compEnvC scope cl C X.env)) (RR (.ref s.heap.objs.size) C) { s with heap:=h₁, toks:=tk }:=by
  have hlt : ∀ b ∈ fp, b < s.heap.objs.size:=λb hb=>(T.obj _ _ t0 b hb).elim λo e=>Heap.lt_size e.1
  have okY : ∀ E, (X.comp (tns ++ caps.map (·.2)) scope cl C s H fp E).Ok:=λE=>Hw ok I hf hlt hsub hall hC
  have t1 : tn 0 h₁:=T.keep _ _ _ t0 λb _ o e=>old b o e
  have loop : ∀ tk, codeAny (model X.prog X.w) X.A (.compLoop (.ListComp elt [⟨tg, iter, ifs, 0⟩] scope pos) 0 (.ref it) (.ref s.heap.objs.size) (compEnvC scope cl C X.env)) (RR (.ref s.heap.objs.size) C) { s with heap:=h₁, toks:=tk }:=λtk=>
    have z:=hb cl C s H fp (notedBy (model X.prog X.w) X.A (compEnvC scope cl C X.env) λe s'=>RR (.ref s.heap.objs.size) C (.error e) s')
    FI (Y:=X.comp (tns ++ caps.map (·.2)) scope cl C s H fp _) rfl T hG z.1 z.2.1 z.2.2
      ⟨hc, rfl, Nat.ne_of_lt hC, λhz=>(I.stack.mem hz).2.elim λo ho=>absurd (Heap.lt_size ho.1) (Nat.lt_irrefl _), Nat.le_refl _, λx c e=>(I.cell x c (hsub x c e)).elim λv z=>Nat.ne_of_lt z.lt, λb hb=>Nat.ne_of_lt (hlt b hb),
        λb hb H' h'=>⟨h', Nat.ne_of_lt (Nat.lt_trans (hlt b hb) hC), (okY λ_ _=>True).exfs b hb, .inl hb, λx c e=>(hf b hb).2.2.2.2.1 x c (hsub x c e), λp hp=>GW (α:=Addr × Obj) hp⟩⟩
      (λj v e=>(KU e).1) turn (λys its k H3 s4 I4 rv hz q=>hRR _ C ys H3 s4 (Ex I hf (Nat.le_refl _) hC I4 I4.os I4.base I4.hok rfl rv hz) q)
      (.mk 0 H [] [] 0 ⟨BF ok hn (okY _) I hsub hall hC hns old, t1, λb hb=>(hf b hb).1, hacc, I.hok.fresh (Nat.le_refl _)⟩ .nil w0)
  exact codeAny_compStart_list (loop _) (T.self _ 0 _ _ _ t1 (loop _))
theorem Uj (ok : COk X scope caps) (hc : X.calm = true) (hn : tns.length = n) (hG : UO n g)
    (hb : ∀ cl C s H ex E, PG (X.comp (tns ++ caps.map (·.2)) scope cl C s H ex E) tg g /\ PTs (X.comp (tns ++ caps.map (·.2)) scope cl C s H ex E) ifs tt /\ PE (X.comp (tns ++ caps.map (·.2)) scope cl C s H ex E) elt te)
    {itv : Value} (h : PIE X pins σ tg (λJ H1=>EM n caps g tt te σ Q J H1) itv s)
    (hsub : ∀ x c, cl.lookup x = some c -> X.env.cells.lookup x = some c) (hall : ∀ x, (x, NameKind.free) ∈ scope.names -> ∃ c, cl.lookup x = some c)
    (hRR : ∀ D C ys H3 s', CompEnd X pins σ H3 D C ys s' -> Q (.ref D) (upd H3 D (.lst ys)) -> RR (.ref D) C (.ok .next) s') :
    M4 X elt tg iter ifs scope pos itv cl RR E s:=by
  obtain ⟨it, fp, tn, J, H', rfl, I, T, t0, hf, W, ⟨m0, w0⟩, turn⟩:=h
  refine wpAny_newObj_type (wpAny_newFunctionEnv ok.cell (by intro y hy; simp at hy) (λh₁ hns₁ hsb₁=>?_) ok.kind)
  have hs : ∀ o, (s.heap.push o).objs.size = s.heap.objs.size + 1:=λo=>Heap.size_push ..
  exact Hv ok hc hn hG hb I T t0 hf hsub hall w0 turn hRR (Nat.lt_of_lt_of_eq (Nat.lt_succ_self _) (hs _).symm) hns₁
    (λb o e=>hsb₁.extBut b o (Nat.ne_of_lt (Nat.lt_trans (Heap.lt_size e) (Nat.lt_of_lt_of_eq (Nat.lt_succ_self _) (hs _).symm))) (Heap.get?_push_of_some _ (Heap.get?_push_of_some _ e)))
    (hsb₁.extBut _ _ (Nat.ne_of_lt (Nat.lt_of_lt_of_eq (Nat.lt_succ_self _) (hs _).symm)) (Heap.get?_push_of_some _ (Heap.get?_push_size _ rfl)))
end
theorem HP (sc : Scope) (N0 : List Str) (tns : List Str) (caps : List (Nat × Str)) (hc : X.calm = true) (hi : PI X tg iter wi) (hG : UO tns.length g)
    (hb : ∀ cl C s H ex E, PG (X.comp (tns ++ caps.map (·.2)) scope cl C s H ex E) tg g /\ PTs (X.comp (tns ++ caps.map (·.2)) scope cl C s H ex E) ifs tt /\ PE (X.comp (tns ++ caps.map (·.2)) scope cl C s H ex E) elt te)
    (hsc : X.env.scope = sc:=by rfl) (hN0 : X.N = N0:=by rfl) (ok : KR sc scope N0 tns caps = true:=by decide +kernel)
    (hs : ∀ x, foldedSetIterable iter X.env x = pure x:=by intro _; rfl) :
    PE X (.ListComp elt [⟨tg, iter, ifs, 0⟩] scope pos) (Cm tns.length caps wi g tt te):=by
  intro pins s σ H Q I h
  have okc:=COk.of hsc hN0 ok
  obtain ⟨cl, ecl, hsub, hall⟩:=Dp (scope:=scope) (env:=X.env) λx hx hfr=>I.ok.has x.1 (.inl (okc.free x hx hfr))
  rw [eval_ListComp]
  exact wpAny_comprehension_free (use:=none) rfl hs ecl okc.kind okc.loc (thn (hi pins s σ H _ I h) λxv s₁ h₁=>thn h₁ λitv s₂ h₂=>
    Uj (RR:=λacc C=>compPost (model X.prog X.w) X.A X.xe none (EP X pins σ Q) acc C) okc hc rfl hG hb h₂ hsub hall λD C ys H3 s' ce q=>ce.ns.elim λmm hns=>
      ⟨mm, hns, λh' hs'=>⟨.ref D, _, ce.inv.turned (t':=s'.toks) (λb o hb' e=>(hs'.extBut b o hb' e)) ce.fp.1 ce.fp.2.1 ce.fp.2.2.2.1 ce.fp.2.2.2.2.1 ce.fp.2.2.2.2.2, rfl, q⟩⟩)
theorem Jm {x : Str} {px spos : Pos} (j : Nat) (sc : Scope) (N0 : List Str) (tns : List Str) (caps : List (Nat × Str)) (hc : X.calm = true) (hN : X.N.Nodup) (hj : X.N[j]? = some x) (hx : X.env.scope.names.lookup x = some .local) (hi : PI X tg iter wi) (hG : UO tns.length g)
    (hb : ∀ cl C s H ex E, PG (X.comp (tns ++ caps.map (·.2)) scope cl C s H ex E) tg g /\ PTs (X.comp (tns ++ caps.map (·.2)) scope cl C s H ex E) ifs tt /\ PE (X.comp (tns ++ caps.map (·.2)) scope cl C s H ex E) elt te)
    (hsc : X.env.scope = sc:=by rfl) (hN0 : X.N = N0:=by rfl) (ok : KR sc scope N0 tns caps = true:=by decide +kernel)
    (hsw : swapsWith (.ListComp elt [⟨tg, iter, ifs, 0⟩] scope pos) (some (.Name x px)) spos.line X.env = pure true:=by rfl)
    (hs : ∀ x, foldedSetIterable iter X.env x = pure x:=by intro _; rfl) :
    PS X (.Assign [.Name x px] (.ListComp elt [⟨tg, iter, ifs, 0⟩] scope pos) spos) (Bq (Cm tns.length caps wi g tt te) (Zd j)):=by
  intro pins s σ H D I h
  have okc:=COk.of hsc hN0 ok
  obtain ⟨cl, ecl, hsub, hall⟩:=Dp (scope:=scope) (env:=X.env) λx hx hfr=>I.ok.has x.1 (.inl (okc.free x hx hfr))
  rw [exec_Assign_Name_used _ _ _ _ hsw]
  refine wpAny_bind (wpAny_standAt (wpAny_bind ?_))
  show wpAny _ _ (do let _ ← comprehension (.ListComp elt [⟨tg, iter, ifs, 0⟩] scope pos) scope X.env _ (newList []) false (eval iter X.env) (some (assign (.Name x px) X.env))) _ _ s
  refine wpAny_bind (thn (wpAny_comprehension_free (use:=some (assign (.Name x px) X.env)) (Q:=λ_ s'=>SP X pins D .next s') rfl hs ecl okc.kind okc.loc
    (thn (hi pins s σ H _ I h) λxv s₁ h₁=>thn h₁ λitv s₂ h₂=>?_)) λ_ s' hq=>wpAny_pure (wpAny_pure hq))
  refine Uj (Q:=λv H1=>Zd j v σ H1 D.nx) (RR:=λacc C=>compPost (model X.prog X.w) X.A X.xe (some (assign (.Name x px) X.env)) (λ_ s'=>SP X pins D .next s') acc C) okc hc rfl hG hb h₂ hsub hall ?_
  intro DD C ys H3 s' ce q
  obtain ⟨mm, hns⟩:=ce.ns
  obtain ⟨c0, c1, c2, c3, c4, c5⟩:=ce.fp
  show wpAny _ _ (assign (.Name x px) X.env (.ref DD)) _ _ _
  refine wpAny_assign_Name (Kg ce.inv hN hj (.inl hx) (v:=.ref DD) rfl (λs2 I2 chg=>?_) (.inr hx))
  obtain ⟨c, hsb, hcc⟩:=chg
  have hCc : C ≠ c:=by
    rcases hcc with z | z
    . rw [z]; exact c1
    . exact λe=>c4 x c z e.symm
  refine ⟨mm, ?_, λh' hs'=>?_⟩
  . obtain ⟨o, es, ep, ho, r⟩ := hns
    exact ⟨o, es, ep, (hsb.2 C hCc).trans ho, r⟩
  . exact ⟨_, _, I2.turned (t':=s2.toks) (λb o hb' e=>(hs'.extBut b o hb' e)) c0 c1 c3 c4 c5, q⟩
end
section
variable {K : PySem.W.Frag} {a : Addr} {xs : List V} {n : Nat} {caps : List (Nat × Str)} {g : TG} {tt : TT} {te : TE} {σ : St} {H : Hp} {Q : V -> Hp -> Prop}
end
section
variable {X : Cx} {pos : Pos}
noncomputable def Dr (K : PySem.W.Frag) : List V -> Hp -> VK -> Prop:=λxs H Q=>∃ p ys, xs = [.ref p] /\ (SqL K H p ys ∨ SqT K H p ys) /\ ∀ l, H l = none -> Q (.ref l) (upd H l (.lst ys))
noncomputable def Fi (K : PySem.W.Frag) : List V -> Hp -> VK -> Prop:=λxs H Q=>∃ p ys, xs = [.ref p] /\ (SqL K H p ys ∨ SqT K H p ys) /\ Q (.int ys.length) H
theorem Qb (K : PySem.W.Frag) (h : X.K = K) : Jr X (.type "list") (Dr K):=by subst h; exact Km
theorem Xn (K : PySem.W.Frag) (h : X.K = K) : Jr X (.builtin "len") (Fi K):=by subst h; exact U7
theorem Xk (K : PySem.W.Frag) (h : X.K = K) : IxR X (ED K):=by subst h; exact Ho
theorem YM (K : PySem.W.Frag) (h : X.K = K) : IxR X (EU K):=by subst h; exact Lg
theorem Ux (K : PySem.W.Frag) (h : X.K = K) : SlR X (LZ K):=by subst h; exact E7
theorem US (K : PySem.W.Frag) (h : X.K = K) {es : List Expr} {k : Nat} {t : TGs} {n : Nat} (hc : X.calm = true) (hh : PGs X es t)
    (hn : (assignEach es X.env).length = n:=by rfl) (hst : (assignEach es X.env).findIdx? (·.1) = none:=by rfl) : PG X (.Tuple es k pos) (EV K n t):=by subst h; exact Z4 hc hh hn hst
end
structure Fn (P : Program) (w : World) (K : PySem.W.Frag) (mg : Str -> Option Value) (base : Heap) (k : Nat) (x : Str) (ps : List Str) (sp : Sp) : Prop where
  ex : ∃ f fd, FnOk P w K mg base CX0 k f fd ps sp /\ GB K fd ps [] /\ PySem.W.keepIn K (.ref f) = true /\ mg x = some (.ref f)
section
variable {X : Cx} {k j : Nat} {x : Str} {ps : List Str} {sp : Sp} {e : Expr} {es : List Expr} {t : TA} {p pos : Pos}
theorem XX (G : Fn X.prog X.w X.K X.mg X.base k x ps sp) (hr : Room j X.A) (hj : k <= j) (ha : PA X (e :: es) t) (hg : Gl X x:=by rfl) (hdb : (x == ("__debug__" : Str)) = false:=by decide)
    (he : starEach (e :: es) X.env = (false, eval e X.env) :: starEach es X.env:=by rfl) (hpl : (backTo pos (starEach es X.env)).any (·.1) = false:=by rfl) :
    PE X (.Call (.Name x p) (e :: es) [] pos) (GJ sp [] E0 t):=by
  obtain ⟨f, fd, F, b, kp, m⟩:=G.ex
  exact E8 F (hr.mono hj) hg m kp b .nil Mn ha hdb he hpl
end
noncomputable def Def (K : PySem.W.Frag) (mg : Str -> Option Value) (x : Str) (st : Stmt) (ps : List Str) : Prop:=∃ f fd, Fun K x x st f fd /\ GB K fd ps [] /\ mg x = some (.ref f)
theorem Yp {P : Program} {w : World} {K : PySem.W.Frag} {mg : Str -> Option Value} {base : Heap} {x : Str} {st : Stmt} {N ps : List Str} {k : Nat} {sp : Sp} (D : Def K mg x st ps) (S : FnScope N ps (Xi st)) (len : ∀ vs H Q E, sp vs H Q E -> vs.length = ps.length)
    (hbody : ∀ (f : Addr) (cdv : Value) (A : Around) (outer : List Env) (s : Shared) (H : Hp) (vs : List V) (Q : VK) (E : XK), Room k (A.deeper (envOfC x (Xi st) s.heap.objs.size f cdv)) -> sp vs H Q E ->
      ∃ t, PSs (HF CX0 P w K mg base N x (Xi st) f cdv A outer s H E).nox (YJ st) t /\ t { nx:=λ_ H'=>Q .non H', rt:=Q } (Uy N vs) H) : Fn P w K mg base (k + 1) x ps sp:=by
  obtain ⟨f, fd, F, b, m⟩:=D
  exact ⟨f, fd, F.ok S len (hbody f), b, F.kp, m⟩
theorem Md {a d c : Nat} (h : d <= 8) (hu : a + 8 < c) : a + d < c:=by omega
theorem XJ {H : Hp} {p : Addr} (h : H p = none) (o : HO) : XC H (upd H p o):=λb u q=>by rw [XD (Ya q h)]; exact q
theorem XC.seqT {K : PySem.W.Frag} {H H' : Hp} {a : Addr} {xs : List V} (e : XC H H') (h : SqT K H a xs) : SqT K H' a xs:=by
  rcases h with (h | ⟨o, h⟩) | h
  . exact .inl (.inl (e _ _ h))
  . exact .inl (.inr ⟨o, e _ _ h⟩)
  . exact .inr h
theorem hu8 {A : Around} {k : Nat} (hr : Room k A) : A.units + 8 < cLine:=Nat.lt_of_le_of_lt (Nat.add_le_add_left (by decide : 8 <= 64) _) hr.units
noncomputable abbrev Enc (α : Type):=PySem.W.Frag -> Hp -> V -> α -> Prop
noncomputable def Xa : Enc Int:=λ_ _ v i=>v = .int i
noncomputable def rL {α : Type} (r : Enc α) : Enc (List α):=λK H v as=>∃ a xs, v = .ref a /\ SqL K H a xs /\ Paired (r K H) xs as
noncomputable def rT2 {α β : Type} (r : Enc α) (q : Enc β) : Enc (α × β):=λK H v p=>∃ a x y, v = .ref a /\ SqT K H a [x, y] /\ r K H x p.1 /\ q K H y p.2
theorem Paired.getL {α β : Type} {F : α -> β -> Prop} : ∀ {l : List α} {m : List β} {i : Nat} {a : α}, Paired F l m -> l[i]? = some a -> ∃ b, m[i]? = some b /\ F a b
  | _, _, _, _, .nil, e=>by simp at e
  | _, _, 0, _, .cons r _, e=>by simp at e; subst e; exact ⟨_, rfl, r⟩
  | _, _, i + 1, a, .cons _ t, e=>by
    obtain ⟨b, h1, h2⟩:=Paired.getL (i:=i) (a:=a) t (by simpa using e)
    exact ⟨b, by simpa using h1, h2⟩
theorem Paired.getR {α β : Type} {F : α -> β -> Prop} : ∀ {l : List α} {m : List β} {i : Nat} {b : β}, Paired F l m -> m[i]? = some b -> ∃ a, l[i]? = some a /\ F a b
  | _, _, _, _, .nil, e=>by simp at e
  | _, _, 0, _, .cons r _, e=>by simp at e; subst e; exact ⟨_, rfl, r⟩
  | _, _, i + 1, b, .cons _ t, e=>by
    obtain ⟨a, h1, h2⟩:=Paired.getR (i:=i) (b:=b) t (by simpa using e)
    exact ⟨a, by simpa using h1, h2⟩
theorem Paired.len {α β : Type} {F : α -> β -> Prop} {l : List α} {m : List β} (h : Paired F l m) : l.length = m.length:=Paired.length h
theorem Paired.app {α β : Type} {F : α -> β -> Prop} : ∀ {l l' : List α} {m m' : List β}, Paired F l m -> Paired F l' m' -> Paired F (l ++ l') (m ++ m'):=λp h=>by
  induction p with
  | nil=>exact h
  | cons r _ ih=>exact .cons r ih
theorem GG (ns : List Int) : ∀ {K : PySem.W.Frag} {H : Hp}, Paired (Xa K H) (ns.map V.int) ns:=by
  intro K H
  induction ns with
  | nil=>exact .nil
  | cons n r ih=>exact .cons rfl ih
theorem VR : ∀ {xs : List V} {ns : List Int} {K : PySem.W.Frag} {H : Hp}, Paired (Xa K H) xs ns -> xs = ns.map V.int
  | _, _, _, _, .nil=>rfl
  | _, _, _, _, .cons r t=>by
    have r' : _ = V.int _:=r
    rw [r', VR t]; rfl
structure EqOk {α : Type} [DecidableEq α] (r : Enc α) (d : Nat) : Prop where
  uniq : ∀ {X : Cx} {pins : List (Addr × Obj)} {σ : St} {H : Hp} {s : Shared} {x : V} {a b : α}, Inv X pins σ H s -> r X.K H x a -> r X.K H x b -> a = b
  eq : ∀ {X : Cx} {pins : List (Addr × Obj)} {σ : St} {H : Hp} {s : Shared} {x y : V} {v u : Value} {a b : α} {A : Around}, Inv X pins σ H s -> Yl x v -> Yl y u -> r X.K H x a -> r X.K H y b -> A.units + d < cLine -> SeqAt.EqAt A s v u (decide (a = b))
  rc : ∀ {X : Cx} {pins : List (Addr × Obj)} {σ : St} {H : Hp} {s : Shared} {x y : V} {v u : Value} {a b : α} {A : Around}, Inv X pins σ H s -> Yl x v -> Yl y u -> r X.K H x a -> r X.K H y b -> A.units + d < cLine -> SeqAt.RcAt A s v u (decide (a = b))
  ne : ∀ {X : Cx} {pins : List (Addr × Obj)} {σ : St} {H : Hp} {s : Shared} {x y : V} {v u : Value} {a b : α} {A : Around}, Inv X pins σ H s -> Yl x v -> Yl y u -> r X.K H x a -> r X.K H y b -> A.units + d < cLine -> SeqAt.RcNeAt A s v u (!decide (a = b))
  keep : ∀ {K : PySem.W.Frag} {H H' : Hp} {x : V} {a : α}, XC H H' -> r K H x a -> r K H' x a
theorem VI (A : Around) : A.in1.units = A.units + 1:=rfl
theorem Et {a b : Int} : (a == b) = decide (a = b):=by rw [Bool.eq_iff_iff]; simp
theorem eq_int : EqOk Xa 0 where
  uniq:=λ_ h1 h2=>by
    have h1' : _ = V.int _:=h1
    have h2' : _ = V.int _:=h2
    rw [h1'] at h2'; injection h2'
  eq:=fun {X pins σ H s x y v u a b A} I rx ry h1 h2 _=>by
    have h1' : x = V.int a:=h1
    have h2' : y = V.int b:=h2
    subst h1' h2'
    obtain ⟨t, rfl⟩:=rx
    obtain ⟨t', rfl⟩:=ry
    rw [← Et]; exact SeqAt.EqAt.int_int a t b t'
  rc:=fun {X pins σ H s x y v u a b A} I rx ry h1 h2 _=>by
    have h1' : x = V.int a:=h1
    have h2' : y = V.int b:=h2
    subst h1' h2'
    obtain ⟨t, rfl⟩:=rx
    obtain ⟨t', rfl⟩:=ry
    rw [← Et]; exact SeqAt.RcAt.int_int a t b t'
  ne:=fun {X pins σ H s x y v u a b A} I rx ry h1 h2 _=>by
    have h1' : x = V.int a:=h1
    have h2' : y = V.int b:=h2
    subst h1' h2'
    obtain ⟨t, rfl⟩:=rx
    obtain ⟨t', rfl⟩:=ry
    rw [← Et]; exact SeqAt.RcNeAt.int_int a t b t'
  keep:=λ_ h=>h
theorem DA {α : Type} [DecidableEq α] {as bs : List α} (h : as.length = bs.length) : (List.range as.length).all (λj=>decide (as[j]? = bs[j]?)) = decide (as = bs):=by
  rw [Bool.eq_iff_iff]
  simp only [List.all_eq_true, List.mem_range, decide_eq_true_eq]
  constructor
  . intro hh
    apply List.ext_getElem?
    intro i
    by_cases hi : i < as.length
    . exact hh i hi
    . rw [List.getElem?_eq_none (by omega), List.getElem?_eq_none (by omega)]
  . rintro rfl; intros; rfl
theorem Paired.uniq {α β : Type} {F : α -> β -> Prop} (hu : ∀ a b c, F a b -> F a c -> b = c) : ∀ {l : List α} {m m' : List β}, Paired F l m -> Paired F l m' -> m = m':=fun {l m m'} p=>by
  induction p generalizing m' with
  | nil=>intro q; cases q; rfl
  | cons r _ ih=>intro q; cases q with | cons r' t'=>rw [hu _ _ _ r r', ih t']
theorem Paired.imp2 {α β : Type} {F G : α -> β -> Prop} (h : ∀ a b, F a b -> G a b) : ∀ {l : List α} {m : List β}, Paired F l m -> Paired G l m:=λp=>by
  induction p with
  | nil=>exact .nil
  | cons r _ ih=>exact .cons (h _ _ r) ih
section
variable {α : Type} [DecidableEq α] {r : Enc α} {d : Nat}
theorem V8 (E : EqOk r d) {X : Cx} {pins : List (Addr × Obj)} {σ : St} {H : Hp} {s : Shared} {A : Around} (I : Inv X pins σ H s) (hu : A.units + (d + 1) < cLine) {xs ys : List V} {as bs : List α} {its its2 : List Value}
    (r1 : Yr xs its) (r2 : Yr ys its2) (p1 : Paired (r X.K H) xs as) (p2 : Paired (r X.K H) ys bs) :
    ∀ j (h1 : j < its.toArray.size) (h2 : j < its2.toArray.size), SeqAt.EqAt A.in1 s its.toArray[j] its2.toArray[j] (decide (as[j]? = bs[j]?)):=by
  intro j h1 h2
  have h1' : j < its.length:=by simpa using h1
  have h2' : j < its2.length:=by simpa using h2
  obtain ⟨x, ex, rx⟩:=Paired.getR (i:=j) (b:=its[j]) r1 (by simp [h1'])
  obtain ⟨y, ey, ry⟩:=Paired.getR (i:=j) (b:=its2[j]) r2 (by simp [h2'])
  obtain ⟨a, ea, ra⟩:=Paired.getL p1 ex
  obtain ⟨b, eb, rb⟩:=Paired.getL p2 ey
  have:=E.eq (A:=A.in1) I rx ry ra rb (by rw [VI]; omega)
  rw [ea, eb]
  simpa using this
theorem Ht (E : EqOk r d) : EqOk (rL r) (d + 1):=by
  have un : ∀ {X : Cx} {pins : List (Addr × Obj)} {σ : St} {H : Hp} {s : Shared} {x : V} {a b : List α}, Inv X pins σ H s -> rL r X.K H x a -> rL r X.K H x b -> a = b:=by
    intro X pins σ H s x as bs I h1 h2
    obtain ⟨a, xs, rfl, q1, p1⟩:=h1
    obtain ⟨b, ys, e, q2, p2⟩:=h2
    cases e
    cases I.list_inj q1 q2
    exact Paired.uniq (F:=r X.K H) (λ_ _ _ z z'=>E.uniq I z z') p1 p2
  have rc : ∀ {X : Cx} {pins : List (Addr × Obj)} {σ : St} {H : Hp} {s : Shared} {x y : V} {v u : Value} {a b : List α} {A : Around}, Inv X pins σ H s -> Yl x v -> Yl y u -> rL r X.K H x a -> rL r X.K H y b -> A.units + (d + 1) < cLine -> SeqAt.RcAt A s v u (decide (a = b)):=by
    intro X pins σ H s x y v u as bs A I rx ry h1 h2 hu
    obtain ⟨a, xs, rfl, q1, p1⟩:=h1
    obtain ⟨b, ys, rfl, q2, p2⟩:=h2
    cases rx; cases ry
    obtain ⟨its, r1, l1, _⟩:=I.list q1
    obtain ⟨its2, r2, l2, _⟩:=I.list q2
    have n1:=r1.length
    have n2:=r2.length
    have m1:=Paired.len p1
    have m2:=Paired.len p2
    by_cases hl : as.length = bs.length
    . have := SeqAt.RcAt.lists (A := A) (e := λj => decide (as[j]? = bs[j]?)) l1.isList l2.isList (by simp only [List.size_toArray]; omega) (by omega) (V8 E I hu r1 r2 p1 p2)
      rw [show its.toArray.size = as.length by simp only [List.size_toArray]; omega, DA hl] at this
      exact this
    . rw [decide_eq_false (λe => hl (congrArg List.length e))]
      exact SeqAt.RcAt.lists_lengths l1.isList l2.isList (by simp only [List.size_toArray, bne_iff_ne]; omega) (by omega)
  refine ⟨un, ?_, rc, ?_, ?_⟩
  . intro X pins σ H s x y v u as bs A I rx ry h1 h2 hu
    obtain ⟨a, xs, rfl, q1, p1⟩:=id h1
    obtain ⟨b, ys, rfl, q2, p2⟩:=id h2
    have R:=rc (A:=A) I rx ry h1 h2 hu
    cases rx; cases ry
    by_cases e : a = b
    . subst e
      rw [decide_eq_true (un I h1 h2)]
      exact SeqAt.EqAt.same _
    . exact SeqAt.EqAt.of_refs e R
  . intro X pins σ H s x y v u as bs A I rx ry h1 h2 hu
    obtain ⟨a, xs, rfl, q1, p1⟩:=h1
    obtain ⟨b, ys, rfl, q2, p2⟩:=h2
    cases rx; cases ry
    obtain ⟨its, r1, l1, _⟩:=I.list q1
    obtain ⟨its2, r2, l2, _⟩:=I.list q2
    have n1:=r1.length
    have n2:=r2.length
    have m1:=Paired.len p1
    have m2:=Paired.len p2
    by_cases hl : as.length = bs.length
    . have := SeqAt.RcNeAt.lists (A := A) (e := λj => decide (as[j]? = bs[j]?)) l1.isList l2.isList (by simp only [List.size_toArray]; omega) (by omega) (V8 E I hu r1 r2 p1 p2)
      rw [show its.toArray.size = as.length by simp only [List.size_toArray]; omega, DA hl] at this
      exact this
    . rw [decide_eq_false (λe => hl (congrArg List.length e))]
      exact SeqAt.RcNeAt.lists_lengths l1.isList l2.isList (by simp only [List.size_toArray, bne_iff_ne]; omega) (by omega)
  . intro K H H' x as e h
    obtain ⟨a, xs, rfl, q1, p1⟩:=h
    exact ⟨a, xs, rfl, e.seq q1, Paired.imp2 (λ_ _ z=>E.keep e z) p1⟩
end
section
variable {α β : Type} [DecidableEq α] [DecidableEq β] {r : Enc α} {q : Enc β} {d : Nat}
theorem GZ {a1 a2 : α} {b1 b2 : β} : (decide (a1 = a2) && decide (b1 = b2)) = decide ((a1, b1) = (a2, b2)):=by
  rw [Bool.eq_iff_iff]; simp
theorem Hj (E : EqOk r d) (F : EqOk q d) : EqOk (rT2 r q) (d + 1):=by
  have un : ∀ {X : Cx} {pins : List (Addr × Obj)} {σ : St} {H : Hp} {s : Shared} {x : V} {a b : α × β}, Inv X pins σ H s -> rT2 r q X.K H x a -> rT2 r q X.K H x b -> a = b:=by
    rintro X pins σ H s x ⟨a1, a2⟩ ⟨b1, b2⟩ I h1 h2
    obtain ⟨a, x1, x2, rfl, q1, p1, p2⟩:=h1
    obtain ⟨b, y1, y2, e, q2, p3, p4⟩:=h2
    cases e
    cases I.tuple_inj q1 q2
    rw [show a1 = b1 from E.uniq I p1 p3, show a2 = b2 from F.uniq I p2 p4]
  have its : ∀ {X : Cx} {pins : List (Addr × Obj)} {σ : St} {H : Hp} {s : Shared} {x1 x2 y1 y2 : V} {u1 u2 w1 w2 : Value} {a b : α × β} {A : Around}, Inv X pins σ H s -> Yl x1 u1 -> Yl x2 u2 -> Yl y1 w1 -> Yl y2 w2 ->
      r X.K H x1 a.1 -> q X.K H x2 a.2 -> r X.K H y1 b.1 -> q X.K H y2 b.2 -> A.units + (d + 1) < cLine ->
      ∀ j (h1 : j < [u1, u2].toArray.size) (h2 : j < [w1, w2].toArray.size), SeqAt.EqAt A.in1 s [u1, u2].toArray[j] [w1, w2].toArray[j] ((λj=>if j = 0 then decide (a.1 = b.1) else decide (a.2 = b.2)) j):=by
    intro X pins σ H s x1 x2 y1 y2 u1 u2 w1 w2 a b A I e1 e2 e3 e4 p1 p2 p3 p4 hu j h1 h2
    have hj : j = 0 ∨ j = 1:=by
      have h1' : j < 2:=h1
      omega
    rcases hj with rfl | rfl
    . exact E.eq (A:=A.in1) I e1 e3 p1 p3 (by rw [VI]; omega)
    . exact F.eq (A:=A.in1) I e2 e4 p2 p4 (by rw [VI]; omega)
  have rc : ∀ {X : Cx} {pins : List (Addr × Obj)} {σ : St} {H : Hp} {s : Shared} {x y : V} {v u : Value} {a b : α × β} {A : Around}, Inv X pins σ H s -> Yl x v -> Yl y u -> rT2 r q X.K H x a -> rT2 r q X.K H y b -> A.units + (d + 1) < cLine -> SeqAt.RcAt A s v u (decide (a = b)):=by
    rintro X pins σ H s x y v u ⟨a1, a2⟩ ⟨b1, b2⟩ A I rx ry h1 h2 hu
    obtain ⟨a, x1, x2, rfl, q1, p1, p2⟩:=h1
    obtain ⟨b, y1, y2, rfl, q2, p3, p4⟩:=h2
    cases rx; cases ry
    obtain ⟨i1, r1, l1, _⟩:=I.tuple q1
    obtain ⟨i2, r2, l2, _⟩:=I.tuple q2
    obtain ⟨u1, u2, rfl, e1, e2⟩:=Yr.two r1
    obtain ⟨w1, w2, rfl, e3, e4⟩:=Yr.two r2
    have:=SeqAt.RcAt.tuples (A:=A) l1 l2 (by omega) (its (a:=(a1, a2)) (b:=(b1, b2)) I e1 e2 e3 e4 p1 p2 p3 p4 hu)
    rw [← GZ]
    simpa [List.range_succ] using this
  refine ⟨un, ?_, rc, ?_, ?_⟩
  . intro X pins σ H s x y v u as bs A I rx ry h1 h2 hu
    obtain ⟨a, x1, x2, rfl, q1, p1, p2⟩:=id h1
    obtain ⟨b, y1, y2, rfl, q2, p3, p4⟩:=id h2
    have R:=rc (A:=A) I rx ry h1 h2 hu
    cases rx; cases ry
    by_cases e : a = b
    . subst e
      rw [decide_eq_true (un I h1 h2)]
      exact SeqAt.EqAt.same _
    . exact SeqAt.EqAt.of_refs e R
  . rintro X pins σ H s x y v u ⟨a1, a2⟩ ⟨b1, b2⟩ A I rx ry h1 h2 hu
    obtain ⟨a, x1, x2, rfl, q1, p1, p2⟩:=h1
    obtain ⟨b, y1, y2, rfl, q2, p3, p4⟩:=h2
    cases rx; cases ry
    obtain ⟨i1, r1, l1, _⟩:=I.tuple q1
    obtain ⟨i2, r2, l2, _⟩:=I.tuple q2
    obtain ⟨u1, u2, rfl, e1, e2⟩:=Yr.two r1
    obtain ⟨w1, w2, rfl, e3, e4⟩:=Yr.two r2
    have:=SeqAt.RcNeAt.tuples (A:=A) l1 l2 (by omega) (its (a:=(a1, a2)) (b:=(b1, b2)) I e1 e2 e3 e4 p1 p2 p3 p4 hu)
    rw [← GZ]
    simpa [List.range_succ] using this
  . intro K H H' x as e h
    obtain ⟨a, x1, x2, rfl, q1, p1, p2⟩:=h
    exact ⟨a, x1, x2, rfl, e.seqT q1, E.keep e p1, F.keep e p2⟩
end
section
variable {X : Cx} {α : Type} [DecidableEq α] {r : Enc α} {d : Nat}
noncomputable def Mz (K : PySem.W.Frag) (r : Enc α) : R2:=λx y H Q=>∃ a b, r K H x a /\ r K H y b /\ Q (.bl (!decide (a = b))) H
theorem Lj (E : EqOk r d) (hu : X.A.units + d < cLine) : OpR X (compareOp .NotEq) (Mz X.K r):=by
  intro pins s σ H x y v u Q I rx ry h
  obtain ⟨a, b, h1, h2, q⟩:=h
  exact E.ne (A:=X.A) I rx ry h1 h2 hu _ _ _ _ ⟨.bl _, H, I, rfl, q⟩
theorem Zk : Jr X (.builtin "isinstance") (λxs H Q=>∃ x n t b, xs = [x, .ty n] /\ TyOf X.K H x t /\ PySem.W.kitOne X.K t (.type n) = some b /\ Q (.bl b) H):=by
  intro pins s σ H xs us Q I r h
  obtain ⟨x, n, t, b, rfl, ty, e, q⟩:=h
  obtain ⟨u, v, rfl, ru, rv⟩:=Yr.two r
  cases (show v = Value.type n from rv)
  exact Dh I ru ty e λtk=>⟨.bl b, H, I.tok tk, rfl, q⟩
theorem Uu : OpR X (binaryOp .FloorDiv) (rI (λ_ j=>0 < j /\ j.natAbs.log2 < 9000) λi j=>.int (i / j)):=opI λi j _ _ _ _ _ hc q=>by
  refine floordiv_int (by omega) ?_ (.inl (PyProof.noPylong_of_log2 hc.2))
  rw [Int.fdiv_eq_ediv_of_nonneg i (by omega)]
  exact q
end
end L2
namespace PySem
open Sem (wp)
section
variable {prog : Program} {w : World} {A : Around} {E : Value -> Shared -> Prop} {s : Shared}
end
end PySem
namespace L2
open PySem PySem.Spec PyProof.Rows
theorem Gq {α β : Type} {F : α -> β -> Prop} : ∀ {l : List α} {m : List β} {i : Nat} {b : β}, Paired F l m -> m[i]? = some b -> ∃ a, l[i]? = some a /\ F a b
  | _, _, _, _, .nil, e=>by simp at e
  | _, _, 0, _, .cons r _, e=>by simp at e; subst e; exact ⟨_, rfl, r⟩
  | _, _, i + 1, b, .cons _ t, e=>by
    obtain ⟨a, h1, h2⟩:=Gq (i:=i) (b:=b) t (by simpa using e)
    exact ⟨a, by simpa using h1, h2⟩
section
variable {X : Cx} {e : Expr} {te : TE}
noncomputable def MP (K : PySem.W.Frag) : List V -> Hp -> VK -> Prop:=λxs H Q=>∃ (a : Addr) (ns : List Int), xs = [.ref a] /\ SqL K H a (ns.map V.int) /\ Q (.int ns.sum) H
theorem Ky (hc : X.calm = true) : Jr X (.builtin "sum") (MP X.K):=by
  intro pins s σ H xs us Q I r h
  obtain ⟨a, ns, rfl, hq, q⟩:=h
  obtain ⟨u, rfl, ru⟩:=GM r
  cases ru
  obtain ⟨its, rv, pl, hz⟩:=I.list hq
  have hi : IntsAre its ns:=F0 rv
  have hlen:=hi.length
  have hlt : a < s.heap.objs.size:=by obtain ⟨o, n, ho, _⟩:=pl; exact Heap.lt_size ho
  refine call_sum_walkG ?_
  refine wpAny_pyIter_list pl.isList ?_
  have W:=Walks.list (prog:=X.prog) (w:=X.w) (A:=X.A.in1) (I.ok.hd hc) s.heap.objs.size a (Nat.ne_of_lt hlt) its.toArray
  refine ⟨s.heap.objs.size, _, _, _, _, _, λi=>ns.getD i 0, rfl, W, ⟨⟨_, Heap.get?_push_size _ rfl, rfl, rfl⟩, pl.isList.at λo e=>Heap.get?_push_of_some _ e⟩, λb hb=>?_, λi v hv=>?_, λh' tk t' hk=>?_⟩
  . rcases List.mem_cons.mp hb with e | hb
    . rw [e, Heap.size_push]; exact Nat.lt_succ_self _
    . rw [List.mem_singleton.mp hb, Heap.size_push]; exact Nat.lt_succ_of_lt hlt
  . have hv' : its[i]? = some v := by simpa using hv
    have hil : i < its.length:=(List.getElem?_eq_some_iff.mp hv').1
    obtain ⟨x, ex, rx⟩:=Gq rv hv'
    rw [List.getElem?_map] at ex
    cases e : ns[i]? with
    | none=>rw [e] at ex; cases ex
    | some z=>
      rw [e] at ex
      have ex' : V.int z = x:=Option.some.inj ex
      subst ex'
      obtain ⟨t, rfl⟩:=rx
      exact ⟨t, by simp [List.getD, e]⟩
  . have I2 : Inv X pins σ H { s with heap:=h', toks:=tk }:=I.kept (t':=tk) λb o e=>hk b o (λhm=>by
      rw [List.mem_singleton.mp hm] at e
      exact absurd (Heap.lt_size e) (Nat.lt_irrefl _)) (Heap.get?_push_of_some _ e)
    refine ⟨.int ns.sum, H, I2, ⟨t', ?_⟩, q⟩
    rw [List.size_toArray, hlen, preSum_getD, List.take_length]
end
section
variable {X : Cx} {pins : List (Addr × Obj)} {σ : St} {H : Hp} {s : Shared} {h' : Heap}
theorem Inv.turnLay {t' : Nat} {ch : List Addr} {T : Addr} {u : HO} (I : Inv X pins σ H s) (k : ∀ b o, b ∉ ch -> s.heap.get? b = some o -> h'.get? b = some o) (hf : ∀ b ∈ ch, GD X pins H b)
    (hp : s.heap.objs.size <= T) (new : YW X.prog X.w (upd H T u) h' T u) : Inv X pins σ (upd H T u) { s with heap:=h', toks:=t' }:=by
  have hn : H T = none:=I.hok.fresh hp
  have nit : ∀ b o, H b = some o -> b ∉ ch:=λb o e z=>by rw [(hf b z).1] at e; cases e
  refine I.step (g':=s.gens) (d':=s.drawn) (ch:=ch) (λb hb=>?_) (λb o _ _ hc e _=>k b o hc e) (λb o _ _ hc e _=>⟨o.slots, k b o hc e⟩)
    (λb o _ e n=>by rw [XD (Nat.ne_of_lt (Nat.lt_of_lt_of_le (Heap.lt_size e) hp))]; exact n)
    (λb o hc e=>⟨o, k b o hc e⟩) (λb xs e=>by rw [XD (Ya e hn)]; exact e) (λb o xs e=>by rw [XD (Ya e hn)]; exact e) (λb ps e=>⟨#[], by rw [XD (Ya e hn), e]; simp⟩) (λm hm=>?_) (λb v e=>?_) I.bare
  . obtain ⟨f0, f1, f2, f3, f4, f5⟩ := hf b hb
    exact ⟨f3, f1, f4, f5⟩
  . obtain ⟨o, es, ep, ho, r⟩ := hm
    exact ⟨o, es, ep, k _ o (λz=>(hf _ z).2.1 rfl) ho, r⟩
  . by_cases hb : b = T
    . subst hb; rw [YA] at e; cases e; exact new
    . rw [XD hb] at e
      refine (I.hok b v e).stay (λc o hc q=>k c o ?_ q) (λc q=>by rw [XD (Ya q hn)]; exact q) λc xs q=>by rw [XD (Ya q hn)]; exact q
      rcases hc with z | z
      . rw [z]; exact nit b v e
      . exact nit c _ z
end
noncomputable def Ite (K : PySem.W.Frag) (a : Addr) : It:=
  ⟨λi H=>∃ xs x, SqL K H a xs /\ xs[i]? = some x, λi H y H'=>∃ p x, y = .ref p /\ H p = none /\ H' = upd H p (.tup [.int (i : Int), x]) /\ ∀ xs, SqL K H a xs -> xs[i]? = some x, λi H=>∃ xs, SqL K H a xs /\ xs.length <= i⟩
theorem Cp {P : Program} {w : World} {K : PySem.W.Frag} {elts : List Expr} {k : Nat} {pos : Pos} (a e it : Addr) (h1 : e ≠ it) (h2 : a ≠ e) (h3 : a ≠ it) :
    Turn P w K (.Tuple elts k pos) (Ite K a) [e, it] e (λi h=>(∃ old, IsEnum h e it (i : Int) old) /\ h.IsListIter it a i) where
  mem:=by simp
  obj:=λi h st b hb=>by
    obtain ⟨⟨old, eo⟩, o, io, c, d⟩:=st
    rcases List.mem_cons.mp hb with z | z
    . subst z
      exact ⟨_, eo, λv z=>by cases z⟩
    . have z := List.mem_singleton.mp z
      subst z
      exact ⟨o, io, λv z=>by rw [d] at z; cases z⟩
  keep:=λi h h' st k=>⟨let ⟨old, eo⟩:=st.1; ⟨old, k e (by simp) _ eo⟩, st.2.at λo q=>k it (by simp) o q⟩
  item:=by
    intro X hP hw hK hc i pins s σ H E I hf st hg
    subst hP hw hK
    obtain ⟨xs, x, hq, hx⟩:=hg
    obtain ⟨its, rv, p, hz⟩:=I.list hq
    obtain ⟨u, hu, ru⟩:=rv.get hx
    obtain ⟨⟨old, eo⟩, io⟩:=id st
    have hu' : its.toArray[i]? = some u:=by simpa using hu
    have W:=WalksT.enumerate (prog:=X.prog) (w:=X.w) (A:=X.A) (I.ok.hd hc) e it a h1 h2 h3 its.toArray
    refine wpAny_pyNext_enum_item eo io p.isList hu' h1 λh' eo' io' tup sz kk=>?_
    have hT : ∀ b o, s.heap.get? b = some o -> s.heap.objs.size ≠ b:=λb o q z=>absurd (Heap.lt_size q) (by rw [← z]; exact Nat.lt_irrefl _)
    have hTe:=hT e _ eo
    have hTi : s.heap.objs.size ≠ it:=by obtain ⟨o, q, _⟩:=io; exact hT it o q
    have ha' : h'.IsList a its.toArray:=p.isList.at λo q=>kk a o h2 h3 q
    refine ⟨_, rfl, W.go elts k pos i s.heap.objs.size _ _ _ ⟨⟨_, eo'⟩, io', ha', hTe, hTi⟩ λh'' st' kk'=>?_⟩
    obtain ⟨st2, io2, _⟩:=st'
    have tup2:=kk' _ _ (by simp [hTe, hTi]) tup
    have k2 : ∀ b o, b ∉ [e, it] -> s.heap.get? b = some o -> h''.get? b = some o:=λb o q1 q=>kk' b o q1 (kk b o (λz=>q1 (by simp [z])) (λz=>q1 (by simp [z])) q)
    refine ⟨.ref s.heap.objs.size, upd H s.heap.objs.size (.tup [.int (i : Int), x]), I.turnLay (h':=h'') (t':=s.toks + 1) k2 hf (Nat.le_refl _) ⟨by show 2 <= sizeLine; decide, [.int (i : Int) s.toks, u], .cons ⟨_, rfl⟩ (.cons ru .nil), ⟨_, tup2, ⟨rfl, rfl⟩, _, rfl⟩⟩, rfl,
      ⟨_, x, rfl, I.hok.fresh (Nat.le_refl _), rfl, λys hy=>by rw [I.list_inj hy hq]; exact hx⟩, ⟨by simpa using st2, io2⟩, λb hb=>?_⟩
    rcases List.mem_cons.mp hb with z | z
    . rw [z, XD hTe.symm]; exact (hf e (by simp)).1
    . rw [List.mem_singleton.mp z, XD hTi.symm]; exact (hf it (by simp)).1
  done:=by
    intro X hP hw hK hc i pins s σ H E I hf st hg
    subst hP hw hK
    obtain ⟨xs, hq, hx⟩:=hg
    obtain ⟨its, rv, p, hz⟩:=I.list hq
    obtain ⟨⟨old, eo⟩, io⟩:=id st
    obtain ⟨f0, f1, f2, f3, f4, f5⟩:=hf it (by simp)
    have hl:=rv.length
    exact wpAny_pyNext_enum_end (I.ok.hd hc) eo io p.isList (by simp; omega) λh' eb=>⟨rfl, I.turned (t':=s.toks) (λb o hb q=>eb b o hb q) f0 f1 f3 f4 f5⟩
  self:=by
    intro A i s Q E st h
    obtain ⟨⟨old, eo⟩, io⟩:=st
    exact wpAny_pyIter_enum eo h
section
variable {X : Cx} {elts : List Expr} {k : Nat} {pos0 : Pos}
noncomputable def LU (K : PySem.W.Frag) (tl : TE) : TI:=λσ H R=>tl σ H λx H1=>∃ a, x = .ref a /\ (∃ xs, SqL K H1 a xs) /\ R (Ite K a) H1
theorem Cr {l : Expr} {tl : TE} {p pos : Pos} (hg : Gl X "enumerate") (hm : X.mg "enumerate" = none) (hl : PE X l tl) (hs : starEach [l] X.env = [(false, eval l X.env)]:=by rfl) :
    PI X (.Tuple elts k pos0) (.Call (.Name "enumerate" p) [l] [] pos) (LU X.K tl):=by
  intro pins s σ H R I h
  refine wpAny_Call_Name_kw (Vy I hg hm boot_enumerate ?_)
  refine PyProof.Rows.callWith_type1 ?_ hs rfl
  rw [hs]
  show wpAny _ _ (spliced ((false, eval l X.env) :: backTo pos [])) _ _ s
  refine Calls.spliced_cons (thn (hl pins s σ H _ I h) λv s1 ⟨x, H1, I1, r1, a, ex, ⟨xs, hq⟩, q⟩=>?_)
  subst ex
  cases r1
  obtain ⟨its, rv, pl, hz⟩:=I1.list hq
  refine Calls.spliced_nil ?_
  have hlt : a < s1.heap.objs.size:=by obtain ⟨o, n, ho, _⟩:=pl; exact Heap.lt_size ho
  refine call_enumerate_list pl.isList λh' en io sz kk=>?_
  refine wpAny_pyIter_enum en ?_
  refine ⟨_, [s1.heap.objs.size + 1, s1.heap.objs.size], _, _, H1, rfl, I1.kept (t':=s1.toks) kk, Cp a _ _ (Nat.ne_of_gt (Nat.lt_succ_self _)) (Nat.ne_of_lt (Nat.lt_succ_of_lt hlt)) (Nat.ne_of_lt hlt), ⟨⟨_, en⟩, io⟩, λb hb=>?_, q⟩
  have hb' : s1.heap.objs.size <= b:=by
    rcases List.mem_cons.mp hb with z | z
    . rw [z]; exact Nat.le_succ _
    . rw [List.mem_singleton.mp z]; exact Nat.le_refl _
  exact I1.fpOk hb' (I1.hok.fresh hb')
end
noncomputable def Do (K : PySem.W.Frag) : V -> List V -> Hp -> VK -> Prop:=λx vs H Q=>∃ l xs y, ∃ j : Nat, x = .ref l /\ vs = [y] /\ SqL K H l xs /\ JU y = true /\ xs.all JU = true /\ (∃ z, xs[j]? = some z /\ eqV z y = true) /\ (∀ (m : Nat) z, m < j -> xs[m]? = some z -> eqV z y = false) /\ Q (.int (j : Int)) H
section
variable {X : Cx}
theorem Ef : MtR X "list.index" (Do X.K):=by
  intro pins s σ H x vs v us Q I rx rv h
  obtain ⟨l, xs, y, j, rfl, rfl, hq, fy, fs, ⟨z, hz, ez⟩, hm, q⟩:=h
  cases rx
  obtain ⟨u, rfl, ry⟩:=Yr.one rv
  obtain ⟨its, r, pl, hle⟩:=I.list hq
  have hl:=r.length
  have hjl:=(List.getElem?_eq_some_iff.mp hz).1
  have ge : ∀ (m : Nat) (w : V), xs[m]? = some w -> ∀ hm : m < its.toArray.size, eqU y its.toArray[m] = eqV w y:=λm w hw hm=>by
    obtain ⟨u', hu', ru'⟩:=r.get hw
    have e : its.toArray[m] = u':=by
      have:=(List.getElem?_eq_some_iff.mp hu').2
      simpa using this
    rw [e]
    exact Dj ru' (List.all_eq_true.mp fs w (List.mem_of_getElem? hw))
  obtain ⟨o, n, ho, hc, hd, hs⟩:=id pl
  obtain ⟨cls, dict, data, slots⟩:=o
  cases hc; cases hd; cases hs
  refine call_meets F.slot_list_index ⟨_, ho, rfl⟩ F.entry_list_index (F.args_list_index_2 _ _) (SeqAt.list_indexAt l its.toArray n none slots u (eqU y) j (by rw [List.size_toArray]; omega) ?_ ?_ ?_) ⟨ho, λw hw=>J5 ry fy r fs w (by simpa using hw), ?_⟩
  . have : sizeLine < 2 ^ 63 - 1 := by decide
    omega
  . rw [ge j z hz]; exact ez
  . intro m hm' hlt
    rw [ge m xs[m] (List.getElem?_eq_getElem (by omega))]
    exact hm m _ hlt (List.getElem?_eq_getElem (by omega))
  . exact ⟨.int (j : Int), H, I.tok _, ⟨_, rfl⟩, q⟩
end
section
variable {α : Type} [DecidableEq α] {r : Enc α} {d : Nat}
end
section
variable {X : Cx} {o e f : Expr} {td ty tx : TE} {apos cpos : Pos}
end
section
variable {X : Cx} {elt tg iter : Expr} {ifs : List Expr} {scope sc : Scope} {pos : Pos} {n : Nat} {tns : List Str} {caps : List (Nat × Str)} {wi : TI} {g : TG} {tt : TT} {te : TE}
end
variable {X : Cx}
theorem Vn {l : List Expr} {p : Pos} {es : List Expr} {env : Env} : starEach (.List l p :: es) env = (false, eval (.List l p) env) :: starEach es env:=rfl
theorem U6 {X : Cx} (K : PySem.W.Frag) (h : X.K = K) : MtR X "list.index" (Do K):=by subst h; exact Ef
variable {X : Cx} {o e : Expr} {es : List Expr} {to : TE} {t : TA} {name : Str} {apos cpos : Pos} {T id : String} {r : V -> List V -> Hp -> VK -> Prop}
theorem LA (K : PySem.W.Frag) (hK : X.K = K) (pa : PlainAttrs T) (slot : Slot T name id) (hty : typeOf (.builtin id) = pure (.type "method_descriptor")) (hm : MtR X id r) (ho : PE X o to) (ha : PA X (e :: es) t)
    (hbase : attributeBase o name X.env (eval o X.env) = eval o X.env:=by rfl)
    (hfew : ((backTo cpos (starEach (e :: es) X.env)).all (λx=>!x.1) && (backToKw cpos (keywordEach [] X.env)).all (λx=>x.1.isSome)
      && decide ((e :: es).length + ([] : List Keyword).length + (if ([] : List Keyword).isEmpty then 0 else 1) < 30)) = true:=by rfl)
    (hline : (apos.endLine == cpos.line) = true:=by rfl) (hs : starEach (e :: es) X.env = (false, eval e X.env) :: starEach es X.env:=by rfl) (hplain : (backTo cpos (starEach es X.env)).any (·.1) = false:=by rfl) :
    PE X (.Call (.Attribute o name apos) (e :: es) [] cpos) (tBM K T r to t):=by
  subst hK
  exact ZJ pa slot hty hm ho ha hbase hfew hline hs hplain
end L2
namespace PySem
open PySem.Spec
namespace SeqAt
open MeetsSeq
end SeqAt
end PySem
namespace L2
open PySem PySem.Spec PyProof.Rows
section
variable {X : Cx}
end
noncomputable def MI (K : PySem.W.Frag) : List V -> Hp -> VK -> Prop:=λxs H Q=>∃ (a : Addr) (bs : List Bool), xs = [.ref a] /\ SqL K H a (bs.map V.bl) /\ Q (.bl (bs.all id)) H
section
variable {X : Cx}
theorem LF : ∀ (bs : List Bool), ((List.range bs.length).all λi=>(bs[i]?).getD true) = bs.all id:=λbs=>by
  rw [Bool.eq_iff_iff, List.all_eq_true, List.all_eq_true]
  constructor
  . intro h b hb
    obtain ⟨i, hi, rfl⟩:=List.getElem_of_mem hb
    have:=h i (List.mem_range.mpr hi)
    simpa [List.getElem?_eq_getElem hi] using this
  . intro h i hi
    have hi':=List.mem_range.mp hi
    simpa [List.getElem?_eq_getElem hi'] using h _ (List.getElem_mem hi')
theorem DB (hc : X.calm = true) : Jr X (.builtin "all") (MI X.K):=by
  intro pins s σ H xs us Q I r h
  obtain ⟨a, bs, rfl, hq, q⟩:=h
  obtain ⟨u, rfl, ru⟩:=GM r
  cases ru
  obtain ⟨its, rv, pl, hz⟩:=I.list hq
  have hlen : bs.length = its.length:=by have:=rv.length; rwa [List.length_map] at this
  have hlt : a < s.heap.objs.size:=by obtain ⟨o, n, ho, _⟩:=pl; exact Heap.lt_size ho
  refine call_all_walk (wpAny_pyIter_list pl.isList ?_)
  refine ⟨s.heap.objs.size, [s.heap.objs.size, a], [s.heap.objs.size], its.toArray.size, _, _, λi=>(bs[i]?).getD true, rfl, Walks.list (A:=X.A.in1) (I.ok.hd hc) _ a (Nat.ne_of_lt hlt) its.toArray,
    ⟨⟨_, Heap.get?_push_size _ rfl, rfl, rfl⟩, pl.isList.at λo e=>Heap.get?_push_of_some _ e⟩, λi v s' Q' E' hP hQ=>?_, λh' tk hk=>?_⟩
  . have hv' : its[i]? = some v := by simpa using hP
    obtain ⟨x, ex, rx⟩:=Gq rv hv'
    rw [List.getElem?_map] at ex
    cases e : bs[i]? with
    | none=>rw [e] at ex; cases ex
    | some z=>
      rw [e] at ex
      have ex' : V.bl z = x:=Option.some.inj ex
      subst ex'
      cases rx
      simp only [e, Option.getD_some] at hQ
      exact wpAny_truthy_bool hQ
  . have e : ((List.range its.toArray.size).all λi=>(bs[i]?).getD true) = bs.all id:=by
      rw [List.size_toArray, ← hlen]; exact LF bs
    rw [e]
    have I2 : Inv X pins σ H { s with heap:=h', toks:=tk }:=I.kept (t':=tk) λb o e=>hk b o (λhm=>by
      rw [List.mem_singleton.mp hm] at e
      exact absurd (Heap.lt_size e) (Nat.lt_irrefl _)) (Heap.get?_push_of_some _ e)
    exact ⟨.bl (bs.all id), H, I2, rfl, q⟩
end
section
variable {X : Cx} {α : Type} [DecidableEq α] {r : Enc α} {d : Nat}
end
section
variable {X : Cx}
end
section
variable {X : Cx}
variable {T : String} {name : Str} {id : String} {r : V -> List V -> Hp -> VK -> Prop} {o e : Expr} {es : List Expr} {to : TE} {t : TA} {apos cpos : Pos}
theorem ER {K : PySem.W.Frag} (hK : X.K = K) (pa : PlainAttrs T) (slot : Slot T name id) (hty : typeOf (.builtin id) = pure (.type "method_descriptor")) (hm : MtR X id r) (ho : PE X o to) (ha : PA X (e :: es) t)
    (hbase : attributeBase o name X.env (eval o X.env) = eval o X.env:=by rfl)
    (hfew : ((backTo cpos (starEach (e :: es) X.env)).all (λx=>!x.1) && (backToKw cpos (keywordEach [] X.env)).all (λx=>x.1.isSome)
      && decide ((e :: es).length + ([] : List Keyword).length + (if ([] : List Keyword).isEmpty then 0 else 1) < 30)) = true:=by rfl)
    (hline : (apos.endLine == cpos.line) = true:=by rfl) (hs : starEach (e :: es) X.env = (false, eval e X.env) :: starEach es X.env:=by rfl) (hplain : (backTo cpos (starEach es X.env)).any (·.1) = false:=by rfl) :
    PE X (.Call (.Attribute o name apos) (e :: es) [] cpos) (tBM K T r to t):=LA K hK pa slot hty hm ho ha hbase hfew hline hs hplain
end
section
variable {X : Cx} {elt tg iter : Expr} {ifs : List Expr} {scope : Scope} {pos : Pos} {wi : TI} {g : TG} {tt : TT} {te : TE}
theorem YK {sc : Scope} {N0 : List Str} {tns : List Str} {caps : List (Nat × Str)} (hc : X.calm = true) (hi : PI X tg iter wi) (hG : UO tns.length g)
    (hb : ∀ cl C s H ex E, PG (X.comp (tns ++ caps.map (·.2)) scope cl C s H ex E) tg g /\ PTs (X.comp (tns ++ caps.map (·.2)) scope cl C s H ex E) ifs tt /\ PE (X.comp (tns ++ caps.map (·.2)) scope cl C s H ex E) elt te)
    (hsc : X.env.scope = sc:=by rfl) (hN0 : X.N = N0:=by rfl) (ok : KR sc scope N0 tns caps = true:=by decide +kernel)
    (hs : ∀ x, foldedSetIterable iter X.env x = pure x:=by intro _; rfl) :
    PE X (.ListComp elt [⟨tg, iter, ifs, 0⟩] scope pos) (Cm tns.length caps wi g tt te):=HP sc N0 tns caps hc hi hG hb hsc hN0 ok hs
end
section
variable {X : Cx} {tg l : Expr} {tl : TE} {p pos : Pos} {K : PySem.W.Frag}
theorem XI (h : X.K = K) (hl : PE X l tl) : PI X tg l (DW K tl):=by subst h; exact Ip hl
end
section
variable {X : Cx}
end
inductive Pay where
  | non | int (i : Int) | tag (t : Str) (xs : List Int)
  deriving DecidableEq
structure Exc where
  cls : Str
  pay : Pay
inductive Rs (α : Type) where
  | bad | err (x : Exc) | ok (a : α)
noncomputable def Rs.bind {α β : Type} : Rs α -> (α -> Rs β) -> Rs β
  | .bad, _=>.bad
  | .err x, _=>.err x
  | .ok a, f=>f a
theorem Rs.ok_bind {α β : Type} (a : α) (f : α -> Rs β) : (Rs.ok a).bind f = f a:=rfl
noncomputable def chk {α : Type} (c : Prop) [Decidable c] (m : Rs α) : Rs α:=if c then m else .bad
theorem XB {α : Type} {c : Prop} [Decidable c] {m : Rs α} (h : c) : chk c m = m:=if_pos h
noncomputable abbrev XG:=Addr × HO
noncomputable def IE : HO -> Bool
  | .lst _=>true
  | .dK _=>true
  | .dT _=>true
  | _=>false
noncomputable def fl (OO : List (List XG)) : List Addr:=OO.flatten.map (·.1)
open Classical in
noncomputable def hid (H : Hp) (OO : List (List XG)) : Hp:=λb=>if b ∈ fl OO then none else H b
structure W (OO : List (List XG)) (H : Hp) : Prop where
  tr : ∀ c ∈ OO.flatten, H c.1 = some c.2
  nd : (fl OO).Nodup
  mu : ∀ c ∈ OO.flatten, IE c.2 = true
theorem X4 {H : Hp} {OO} {b : Addr} {o : HO} (h : hid H OO b = some o) : H b = some o /\ b ∉ fl OO:=by
  unfold hid at h
  split at h
  . cases h
  . exact ⟨h, by assumption⟩
theorem Zv {H : Hp} {OO} {b : Addr} {o : HO} (h : H b = some o) (n : b ∉ fl OO) : hid H OO b = some o:=by
  unfold hid; rw [if_neg n]; exact h
theorem Xw {H : Hp} {OO} : XC (hid H OO) H:=λb o h=>(X4 h).1
theorem Xj {H H' : Hp} {OO} (s : XC H H') : XC (hid H OO) (hid H' OO):=λb o h=>Zv (s _ _ (X4 h).1) (X4 h).2
theorem QV {H H' : Hp} {OO OO'} (s : XC H H') (h : ∀ b, b ∈ fl OO' -> b ∈ fl OO) : XC (hid H OO) (hid H' OO'):=λb o q=>Zv (s _ _ (X4 q).1) λz=>(X4 q).2 (h b z)
theorem X7 {C : List XG} {OO} : fl (C :: OO) = C.map (·.1) ++ fl OO:=by simp [fl]
theorem DN {OO} : fl ([] :: OO) = fl OO:=by simp [fl]
theorem ZI {H : Hp} {OO} : hid H ([] :: OO) = hid H OO:=by unfold hid; rw [DN]
theorem W.keep {OO} {H H' : Hp} (w : W OO H) (s : XC H H') : W OO H':=⟨λc hc=>s _ _ (w.tr c hc), w.nd, w.mu⟩
theorem W.of {OO OO' : List (List XG)} {H : Hp} (w : W OO H) (h : OO'.flatten.Perm OO.flatten) : W OO' H:=
  ⟨λc hc=>w.tr c (h.mem_iff.mp hc), (h.map _).nodup_iff.mpr w.nd, λc hc=>w.mu c (h.mem_iff.mp hc)⟩
theorem W.sub {OO OO' : List (List XG)} {H : Hp} (w : W OO H) (h : OO'.flatten.Sublist OO.flatten) : W OO' H:=
  ⟨λc hc=>w.tr c (h.mem hc), (h.map _).nodup w.nd, λc hc=>w.mu c (h.mem hc)⟩
theorem W.tail {C OO} {H : Hp} (w : W (C :: OO) H) : W OO H:=w.sub (by simp)
theorem W.nil {OO} {H : Hp} (w : W OO H) : W ([] :: OO) H:=w.of (by simp)
theorem W.cell {C OO} {H : Hp} (w : W (C :: OO) H) : ∀ c ∈ C, H c.1 = some c.2:=λc hc=>w.tr c (by simp [hc])
theorem JN {OO : List (List XG)} {c : XG} (h : c ∈ OO.flatten) : c.1 ∈ fl OO:=List.mem_map.mpr ⟨c, h, rfl⟩
theorem F9 {OO : List (List XG)} {b : Addr} (h : b ∈ fl OO) : ∃ o, (b, o) ∈ OO.flatten:=by
  obtain ⟨⟨a, o⟩, hc, rfl⟩:=List.mem_map.mp h
  exact ⟨o, hc⟩
theorem W.fresh {OO} {H : Hp} (w : W OO H) {p : Addr} (h : H p = none) : p ∉ fl OO:=λz=>by
  obtain ⟨o, ho⟩:=F9 z
  have:=w.tr _ ho
  rw [h] at this; cases this
theorem W.new {OO} {H : Hp} (w : W OO H) {p : Addr} (h : H p = none) {o : HO} (m : IE o = true) : W ([(p, o)] :: OO) (upd H p o):=by
  have hf:=w.fresh h
  refine ⟨λc hc=>?_, ?_, λc hc=>?_⟩
  . simp only [List.flatten_cons, List.cons_append, List.nil_append, List.mem_cons] at hc
    rcases hc with rfl | hc
    . exact YA
    . rw [XD (λe=>hf (by rw [← e]; exact JN hc))]; exact w.tr c hc
  . rw [X7]; simpa using ⟨hf, w.nd⟩
  . simp only [List.flatten_cons, List.cons_append, List.nil_append, List.mem_cons] at hc
    rcases hc with rfl | hc
    . exact m
    . exact w.mu c hc
theorem QX {OO} {H : Hp} {p : Addr} (h : H p = none) {o : HO} : XC (hid H OO) (hid (upd H p o) ([(p, o)] :: OO)):=λb u q=>by
  obtain ⟨q1, q2⟩:=X4 q
  have hb : b ≠ p:=Ya q1 h
  refine Zv (by rw [XD hb]; exact q1) ?_
  rw [X7]; simpa using ⟨hb, q2⟩
theorem ZO {OO} {H : Hp} (w : W OO H) {p : Addr} (h : H p = none) {o : HO} : hid (upd H p o) OO p = some o:=Zv YA (w.fresh h)
class MonoE {α : Type} (r : Enc α) : Prop where
  mono : ∀ {K : PySem.W.Frag} {H H' : Hp} {v : V} {a : α}, XC H H' -> r K H v a -> r K H' v a
noncomputable def MC : HO -> Bool
  | .tup _=>true
  | .frz _ _=>true
  | _=>false
noncomputable def Fz (H H' : Hp) : Prop:=∀ b o, H b = some o -> MC o = true -> H' b = some o
theorem XC.i {H H' : Hp} (s : XC H H') : Fz H H':=λb o h _=>s b o h
theorem W.i {OO} {H : Hp} (w : W OO H) : Fz H (hid H OO):=λb o h i=>Zv h λz=>by
  obtain ⟨u, hu⟩:=F9 z
  have h1:=w.tr _ hu
  have h2:=w.mu _ hu
  rw [h] at h1
  have e : o = u:=Option.some.inj h1
  subst e
  revert i h2; cases o <;> simp [MC, IE]
class FlatE {α : Type} (r : Enc α) : Prop where
  flat : ∀ {K : PySem.W.Frag} {H H' : Hp} {v : V} {a : α}, Fz H H' -> r K H v a -> r K H' v a
instance {α : Type} {r : Enc α} [f : FlatE r] : MonoE r:=⟨λs h=>f.flat s.i h⟩
noncomputable def XS : Enc Bool:=λ_ _ v b=>v = .bl b
noncomputable def rV {α : Type} (r : Enc α) : Enc (List α):=λK H v as=>∃ a xs, v = .ref a /\ H a = some (.lst xs) /\ Paired (r K H) xs as
noncomputable def rP2 {α β : Type} (r : Enc α) (q : Enc β) : Enc (α × β):=λK H v p=>∃ a x y, v = .ref a /\ H a = some (.tup [x, y]) /\ r K H x p.1 /\ q K H y p.2
noncomputable def rP3 {α β γ : Type} (r : Enc α) (q : Enc β) (t : Enc γ) : Enc (α × β × γ):=λK H v p=>∃ a x y z, v = .ref a /\ H a = some (.tup [x, y, z]) /\ r K H x p.1 /\ q K H y p.2.1 /\ t K H z p.2.2
instance {α : Type} {r : Enc α} [m : MonoE r] : MonoE (rV r):=⟨λs r9=>by obtain ⟨a, xs, e, q, p⟩:=r9; exact ⟨a, xs, e, s _ _ q, Paired.imp2 (λ_ _ z=>m.mono s z) p⟩⟩
instance {α β : Type} {r : Enc α} {q : Enc β} [m : MonoE r] [n : MonoE q] : MonoE (rP2 r q):=⟨λs r9=>by obtain ⟨a, x, y, e, h, p1, p2⟩:=r9; exact ⟨a, x, y, e, s _ _ h, m.mono s p1, n.mono s p2⟩⟩
instance {α β : Type} {r : Enc α} {q : Enc β} [m : FlatE r] [n : FlatE q] : FlatE (rP2 r q):=⟨λs r9=>by obtain ⟨a, x, y, e, h, p1, p2⟩:=r9; exact ⟨a, x, y, e, s _ _ h rfl, m.flat s p1, n.flat s p2⟩⟩
instance {α β γ : Type} {r : Enc α} {q : Enc β} {t : Enc γ} [m : MonoE r] [n : MonoE q] [k : MonoE t] : MonoE (rP3 r q t):=⟨λs r9=>by obtain ⟨a, x, y, z, e, h, p1, p2, p3⟩:=r9; exact ⟨a, x, y, z, e, s _ _ h, m.mono s p1, n.mono s p2, k.mono s p3⟩⟩
instance {α β γ : Type} {r : Enc α} {q : Enc β} {t : Enc γ} [m : FlatE r] [n : FlatE q] [k : FlatE t] : FlatE (rP3 r q t):=⟨λs r9=>by obtain ⟨a, x, y, z, e, h, p1, p2, p3⟩:=r9; exact ⟨a, x, y, z, e, s _ _ h rfl, m.flat s p1, n.flat s p2, k.flat s p3⟩⟩
instance : FlatE Xa:=⟨λ_ h=>h⟩
instance : FlatE XS:=⟨λ_ h=>h⟩
instance {α : Type} {r : Enc α} [m : MonoE r] : MonoE (rL r):=⟨λs r9=>by obtain ⟨a, xs, e, q, p⟩:=r9; exact ⟨a, xs, e, s.seq q, Paired.imp2 (λ_ _ z=>m.mono s z) p⟩⟩
noncomputable abbrev OE (α : Type):=PySem.W.Frag -> Hp -> V -> α -> List XG -> Prop
inductive P3 {α β γ : Type} (F : α -> β -> γ -> Prop) : List α -> List β -> List γ -> Prop where
  | nil : P3 F [] [] []
  | cons {a b c l m n} : F a b c -> P3 F l m n -> P3 F (a :: l) (b :: m) (c :: n)
noncomputable def oF {α : Type} (r : Enc α) : OE α:=λK h v a C=>C = [] /\ r K h v a
noncomputable def oL {α : Type} (o : OE α) : OE (List α):=λK h v as C=>∃ p xs Cs, v = .ref p /\ P3 (o K h) xs as Cs /\ C = (p, .lst xs) :: Cs.flatten
noncomputable def oT2 {α β : Type} (o : OE α) (q : OE β) : OE (α × β):=λK h v a C=>∃ p x y C1 C2, v = .ref p /\ h p = some (.tup [x, y]) /\ o K h x a.1 C1 /\ q K h y a.2 C2 /\ C = C1 ++ C2
section
variable {α β γ δ : Type}
theorem P3.imp {F G : α -> β -> γ -> Prop} (h : ∀ a b c, F a b c -> G a b c) : ∀ {l m n}, P3 F l m n -> P3 G l m n:=λp=>by
  induction p with
  | nil=>exact .nil
  | cons r _ ih=>exact .cons (h _ _ _ r) ih
theorem P3.app {F : α -> β -> γ -> Prop} : ∀ {l m n l' m' n'}, P3 F l m n -> P3 F l' m' n' -> P3 F (l ++ l') (m ++ m') (n ++ n'):=λp h=>by
  induction p with
  | nil=>exact h
  | cons r _ ih=>exact .cons r ih
theorem P3.snoc {F : α -> β -> γ -> Prop} {l m n a b c} (h : P3 F l m n) (r : F a b c) : P3 F (l ++ [a]) (m ++ [b]) (n ++ [c]):=h.app (.cons r .nil)
theorem P3.len {F : α -> β -> γ -> Prop} : ∀ {l m n}, P3 F l m n -> l.length = m.length /\ n.length = m.length:=λp=>by
  induction p with
  | nil=>exact ⟨rfl, rfl⟩
  | cons _ _ ih=>exact ⟨congrArg Nat.succ ih.1, congrArg Nat.succ ih.2⟩
theorem P3.pair {F : α -> β -> γ -> Prop} {G : α -> β -> Prop} : ∀ {l m n}, P3 F l m n -> (∀ a b c, c ∈ n -> F a b c -> G a b) -> Paired G l m:=λp h=>by
  induction p with
  | nil=>exact .nil
  | cons r _ ih=>exact .cons (h _ _ _ List.mem_cons_self r) (ih λa b c hc=>h a b c (List.mem_cons_of_mem _ hc))
theorem P3.get {F : α -> β -> γ -> Prop} : ∀ {l m n} {i : Nat} {b : β}, P3 F l m n -> m[i]? = some b -> ∃ a c, l[i]? = some a /\ n[i]? = some c /\ F a b c
  | _, _, _, _, _, .nil, e=>by simp at e
  | _, _, _, 0, _, .cons r _, e=>by simp at e; subst e; exact ⟨_, _, rfl, rfl, r⟩
  | _, _, _, i + 1, b, .cons _ t, e=>by
    obtain ⟨a, c, h1, h2, h3⟩:=P3.get (i:=i) (b:=b) t (by simpa using e)
    exact ⟨a, c, by simpa using h1, by simpa using h2, h3⟩
theorem P3.set {F : α -> β -> γ -> Prop} {a : α} {b : β} {c : γ} (r : F a b c) : ∀ {l m n} (i : Nat), P3 F l m n -> P3 F (l.set i a) (m.set i b) (n.set i c)
  | _, _, _, _, .nil=>.nil
  | _, _, _, 0, .cons _ t=>.cons r t
  | _, _, _, i + 1, .cons q t=>.cons q (P3.set r i t)
theorem P3.flat {F : α -> β -> Prop} : ∀ {l : List α} {m : List β} {n : List (List XG)}, P3 (λa b c=>c = [] /\ F a b) l m n -> Paired F l m /\ n.flatten = []:=λp=>by
  induction p with
  | nil=>exact ⟨.nil, rfl⟩
  | cons r _ ih=>exact ⟨.cons r.2 ih.1, by rw [List.flatten_cons, r.1, ih.2]; rfl⟩
theorem P3.of {F : α -> β -> Prop} : ∀ {l : List α} {m : List β}, Paired F l m -> P3 (λa b (c : List XG)=>c = [] /\ F a b) l m (List.replicate m.length [])
  | _, _, .nil=>.nil
  | _, _, .cons r t=>.cons ⟨rfl, r⟩ (P3.of t)
theorem YT : ∀ n : Nat, (List.replicate n ([] : List XG)).flatten = []
  | 0=>rfl
  | n + 1=>by simp [List.replicate_succ, YT n]
end
class MonoO {α : Type} (o : OE α) : Prop where
  mono : ∀ {K : PySem.W.Frag} {H H' : Hp} {v : V} {a : α} {C : List XG}, XC H H' -> o K H v a C -> o K H' v a C
class FlatO {α : Type} (o : OE α) : Prop where
  flat : ∀ {K : PySem.W.Frag} {H H' : Hp} {v : V} {a : α} {C : List XG}, Fz H H' -> o K H v a C -> o K H' v a C
class FrzC {α : Type} (o : OE α) (r : outParam (Enc α)) : Prop where
  frz : ∀ {K : PySem.W.Frag} {H H' : Hp} {v : V} {a : α} {C : List XG}, o K H v a C -> XC H H' -> (∀ c ∈ C, H' c.1 = some c.2) -> r K H' v a
instance {α : Type} {r : Enc α} [m : MonoE r] : MonoO (oF r):=⟨λs h=>⟨h.1, m.mono s h.2⟩⟩
instance {α : Type} {r : Enc α} [m : FlatE r] : FlatO (oF r):=⟨λs h=>⟨h.1, m.flat s h.2⟩⟩
instance {α : Type} {r : Enc α} [m : MonoE r] : FrzC (oF r) r:=⟨λh s _=>m.mono s h.2⟩
instance {α : Type} {o : OE α} [m : MonoO o] : MonoO (oL o):=⟨λs r9=>by obtain ⟨p, xs, Cs, e, q, c⟩:=r9; exact ⟨p, xs, Cs, e, q.imp λ_ _ _ z=>m.mono s z, c⟩⟩
instance {α : Type} {o : OE α} [m : FlatO o] : FlatO (oL o):=⟨λs r9=>by obtain ⟨p, xs, Cs, e, q, c⟩:=r9; exact ⟨p, xs, Cs, e, q.imp λ_ _ _ z=>m.flat s z, c⟩⟩
instance {α : Type} {o : OE α} {r : Enc α} [m : FrzC o r] : FrzC (oL o) (rV r):=⟨λ⟨p, xs, Cs, e, q, c⟩ s hc=>by
  subst c
  exact ⟨p, xs, e, hc _ List.mem_cons_self, q.pair λa b c hm z=>m.frz z s λx hx=>hc x (List.mem_cons_of_mem _ (List.mem_flatten.mpr ⟨c, hm, hx⟩))⟩⟩
instance {α β : Type} {o : OE α} {q : OE β} [m : MonoO o] [n : MonoO q] : MonoO (oT2 o q):=⟨λs r9=>by obtain ⟨p, x, y, C1, C2, e, h, h1, h2, c⟩:=r9; exact ⟨p, x, y, C1, C2, e, s _ _ h, m.mono s h1, n.mono s h2, c⟩⟩
instance {α β : Type} {o : OE α} {q : OE β} [m : FlatO o] [n : FlatO q] : FlatO (oT2 o q):=⟨λs r9=>by obtain ⟨p, x, y, C1, C2, e, h, h1, h2, c⟩:=r9; exact ⟨p, x, y, C1, C2, e, s _ _ h rfl, m.flat s h1, n.flat s h2, c⟩⟩
instance {α β : Type} {o : OE α} {q : OE β} {r : Enc α} {t : Enc β} [m : FrzC o r] [n : FrzC q t] : FrzC (oT2 o q) (rP2 r t):=⟨λ⟨p, x, y, C1, C2, e, h, h1, h2, c⟩ s hc=>by
  subst c
  exact ⟨p, x, y, e, s _ _ h, m.frz h1 s λc hm=>hc c (by simp [hm]), n.frz h2 s λc hm=>hc c (by simp [hm])⟩⟩
structure SC where
  p : Hp -> Prop
  mono : ∀ h h', XC h h' -> p h -> p h'
noncomputable def SC.nil : SC:=⟨λ_=>True, λ_ _ _ _=>True.intro⟩
noncomputable def SC.and (S T : SC) : SC:=⟨λh=>S.p h /\ T.p h, λ_ _ s q=>⟨S.mono _ _ s q.1, T.mono _ _ s q.2⟩⟩
noncomputable def SC.one {α : Type} (K : PySem.W.Frag) (r : Enc α) [m : MonoE r] (v : V) (a : α) : SC:=⟨λh=>r K h v a, λ_ _ s q=>m.mono s q⟩
noncomputable def SC.oneO {α : Type} (K : PySem.W.Frag) (o : OE α) [m : MonoO o] (v : V) (a : α) (C : List XG) : SC:=⟨λh=>o K h v a C, λ_ _ s q=>m.mono s q⟩
noncomputable abbrev SC.add {α : Type} (S : SC) (K : PySem.W.Frag) (r : Enc α) [m : MonoE r] (v : V) (a : α) : SC:=S.and (SC.one K r v a)
noncomputable abbrev SC.addO {α : Type} (S : SC) (K : PySem.W.Frag) (o : OE α) [m : MonoO o] (v : V) (a : α) (C : List XG) : SC:=S.and (SC.oneO K o v a C)
theorem SC.i {S T : SC} {h : Hp} (q : S.p h) (p : T.p h) : (S.and T).p h:=⟨q, p⟩
theorem SC.t {h : Hp} : SC.nil.p h:=True.intro
theorem SC.p.l {S T : SC} {h : Hp} (q : (S.and T).p h) : S.p h:=q.1
theorem SC.p.r {S T : SC} {h : Hp} (q : (S.and T).p h) : T.p h:=q.2
noncomputable def PZ {β : Type} (Er : Exc -> Hp -> Prop) (F : β -> Hp -> Prop) (H : Hp) (m : Rs β) : Prop:=
  match m with
  | .bad=>False
  | .err x=>∀ H', XC H H' -> Er x H'
  | .ok b=>F b H
section
variable (K : PySem.W.Frag) (Er : Exc -> Hp -> Prop) (S : SC) (OO OO' : List (List XG)) (σ : St)
noncomputable def FB {α : Type} (r : Enc α) (Q : VK) (a : α) (H : Hp) : Prop:=∀ v H', XC H H' -> r K H' v a -> Q v H'
noncomputable def FO {α : Type} (o : OE α) (Q : VK) (a : α) (H : Hp) : Prop:=∀ v C H', XC H H' -> W (C :: OO') H' -> XC (hid H OO) (hid H' (C :: OO')) -> o K (hid H' (C :: OO')) v a C -> Q v H'
noncomputable def FT (Q : Bool -> Hp -> Prop) (b : Bool) (H : Hp) : Prop:=∀ H', XC H H' -> Q b H'
noncomputable def EvB {α : Type} (te : TE) (r : Enc α) (m : Rs α) : Prop:=∀ H Q, W OO H -> S.p (hid H OO) -> PZ Er (FB K r Q) H m -> te σ H Q
noncomputable def Ev {α : Type} (te : TE) (o : OE α) (m : Rs α) : Prop:=∀ H Q, W OO H -> S.p (hid H OO) -> PZ Er (FO K OO OO' o Q) H m -> te σ H Q
noncomputable def EvT (tt : TT) (m : Rs Bool) : Prop:=∀ H Q, W OO H -> S.p (hid H OO) -> PZ Er (FT Q) H m -> tt σ H Q
end
section
variable {K : PySem.W.Frag} {Er : Exc -> Hp -> Prop} {S : SC} {OO OO' OO2 : List (List XG)} {σ : St} {α β γ : Type}
theorem FB.tr {r : Enc α} {Q : VK} : ∀ a H H', XC H H' -> FB K r Q a H -> FB K r Q a H':=λa H H' s h v H2 s2 q=>h v H2 (s.trans s2) q
theorem FO.tr {o : OE α} {Q : VK} : ∀ a H H', XC H H' -> FO K OO OO' o Q a H -> FO K OO OO' o Q a H':=λa H H' s h v C H2 s2 w m q=>h v C H2 (s.trans s2) w ((Xj s).trans m) q
theorem FT.tr {Q : Bool -> Hp -> Prop} : ∀ b H H', XC H H' -> FT Q b H -> FT Q b H':=λa H H' s h H2 s2=>h H2 (s.trans s2)
theorem EvB.run {te : TE} {r : Enc α} {m : Rs α} (he : EvB K Er S OO σ te r m) {H : Hp} {Q : VK} (w : W OO H) (s : S.p (hid H OO)) {f : α -> Rs β} {F : β -> Hp -> Prop} (hF : ∀ b H H', XC H H' -> F b H -> F b H') (P : PZ Er F H (m.bind f))
    (hk : ∀ a v H', XC H H' -> W OO H' -> S.p (hid H' OO) -> r K H' v a -> PZ Er F H' (f a) -> Q v H') : te σ H Q:=by
  refine he H Q w s ?_
  cases m with
  | bad=>exact P
  | err x=>exact P
  | ok a=>
    intro v H' s' hr
    refine hk a v H' s' (w.keep s') (S.mono _ _ (Xj s') s) hr ?_
    have P' : PZ Er F H (f a):=P
    revert P'
    cases f a with
    | bad=>exact λz=>z
    | err x=>exact λz H2 s2=>z H2 (s'.trans s2)
    | ok b=>exact λz=>hF b H H' s' z
theorem EvT.run {tt : TT} {m : Rs Bool} (he : EvT Er S OO σ tt m) {H : Hp} {Q : Bool -> Hp -> Prop} (w : W OO H) (s : S.p (hid H OO)) {f : Bool -> Rs β} {F : β -> Hp -> Prop} (hF : ∀ b H H', XC H H' -> F b H -> F b H') (P : PZ Er F H (m.bind f))
    (hk : ∀ b H', XC H H' -> W OO H' -> S.p (hid H' OO) -> PZ Er F H' (f b) -> Q b H') : tt σ H Q:=by
  refine he H Q w s ?_
  cases m with
  | bad=>exact P
  | err x=>exact P
  | ok a=>
    intro H' s'
    refine hk a H' s' (w.keep s') (S.mono _ _ (Xj s') s) ?_
    have P' : PZ Er F H (f a):=P
    revert P'
    cases f a with
    | bad=>exact λz=>z
    | err x=>exact λz H2 s2=>z H2 (s'.trans s2)
    | ok b=>exact λz=>hF b H H' s' z
theorem Ev.toB {te : TE} {o : OE α} {r : Enc α} [z : FrzC o r] {m : Rs α} (he : Ev K Er S OO OO σ te o m) : EvB K Er S OO σ te r m:=λH Q w s P=>by
  refine he H Q w s ?_
  cases m with
  | bad=>exact P
  | err x=>exact P
  | ok a=>exact λv C H' s' w' m' ho=>P v H' s' (z.frz ho Xw w'.cell)
theorem Ev.frz {te : TE} {o : OE α} {r : Enc α} [z : FrzC o r] {m : Rs α} (he : Ev K Er S OO OO' σ te o m) : Ev K Er S OO OO' σ te (oF r) m:=λH Q w s P=>by
  refine he H Q w s ?_
  cases m with
  | bad=>exact P
  | err x=>exact P
  | ok a=>
    intro v C H' s' w' m' ho
    have hs : XC (hid H' (C :: OO')) (hid H' ([] :: OO')):=QV (XC.refl _) λb hb=>by rw [DN] at hb; rw [X7]; simp [hb]
    refine P v [] H' s' w'.tail.nil (m'.trans hs) ⟨rfl, z.frz ho hs λc hc=>Zv (w'.cell c hc) ?_⟩
    rw [DN]
    have:=w'.nd
    rw [X7] at this
    intro hb
    exact (List.nodup_append.mp this).2.2 c.1 (List.mem_map.mpr ⟨c, hc, rfl⟩) c.1 hb rfl
theorem Xc {r : Enc α} [z : MonoE r] {v : V} {a : α} (i : Nat) (hσ : σ[i]? = some (some v)) (h : ∀ x, S.p x -> r K x v a) : EvB K Er S OO σ (Uw i) r (.ok a):=λH Q w s P=>
  ⟨v, hσ, P v H (XC.refl _) (z.mono Xw (h _ s))⟩
theorem Yc {o : OE α} {r : Enc α} [z : FrzC o r] {v : V} {a : α} {C : List XG} (i k : Nat) (hσ : σ[i]? = some (some v)) (hk : OO[k]? = some C) (h : ∀ x, S.p x -> o K x v a C) : EvB K Er S OO σ (Uw i) r (.ok a):=λH Q w s P=>
  ⟨v, hσ, P v H (XC.refl _) (z.frz (h _ s) Xw λc hc=>w.tr c (List.mem_flatten.mpr ⟨C, List.mem_of_getElem? hk, hc⟩))⟩
theorem X6 : ∀ {OO : List (List XG)} {k : Nat} {C : List XG}, OO[k]? = some C -> (C :: OO.set k []).flatten.Perm OO.flatten
  | [], _, _, h=>by simp at h
  | D :: OO, 0, C, h=>by simp at h; subst h; simp
  | D :: OO, k + 1, C, h=>by
    have:=X6 (OO:=OO) (k:=k) (C:=C) (by simpa using h)
    simp only [List.set_cons_succ, List.flatten_cons] at this ⊢
    refine List.Perm.trans ?_ (this.append_left D)
    rw [← List.append_assoc, ← List.append_assoc]
    exact List.perm_append_comm.append_right _
theorem Q1 {OO OO' : List (List XG)} (h : OO'.flatten.Perm OO.flatten) (b : Addr) : b ∈ fl OO' ↔ b ∈ fl OO:=(h.map (·.1)).mem_iff
theorem X5 {H : Hp} {OO OO' : List (List XG)} (h : OO'.flatten.Perm OO.flatten) : hid H OO' = hid H OO:=by
  funext b; unfold hid
  by_cases hb : b ∈ fl OO
  . rw [if_pos hb, if_pos ((Q1 h b).mpr hb)]
  . rw [if_neg hb, if_neg λz=>hb ((Q1 h b).mp z)]
theorem Yk {o : OE α} {v : V} {a : α} {C : List XG} (i k : Nat) (hσ : σ[i]? = some (some v)) (hk : OO[k]? = some C) (h : ∀ x, S.p x -> o K x v a C) : Ev K Er S OO (OO.set k []) σ (Uw i) o (.ok a):=λH Q w s P=>by
  have hp:=X6 hk
  exact ⟨v, hσ, P v C H (XC.refl _) (w.of hp) (by rw [X5 hp]; exact XC.refl _) (by rw [X5 hp]; exact h _ s)⟩
theorem Xe (n : Int) : EvB K Er S OO σ (tC (.int n)) Xa (.ok n):=λH Q w s P=>P _ H (XC.refl _) rfl
theorem Yo (b : Bool) : EvB K Er S OO σ (tC (.bl b)) XS (.ok b):=λH Q w s P=>P _ H (XC.refl _) rfl
theorem Vc {ta tb : TE} {g : Int -> Int -> V} {r : Enc β} {f : Int -> Int -> β} {ma mb : Rs Int} (hg : ∀ K H i j, r K H (g i j) (f i j)) (ha : EvB K Er S OO σ ta Xa ma) (hb : EvB K Er S OO σ tb Xa mb) :
    EvB K Er S OO σ (tOp (rI0 g) ta tb) r (ma.bind λa=>mb.bind λb=>.ok (f a b)):=λH Q w s P=>
  ha.run w s FB.tr P λa x H1 s1 w1 q1 r1 P1=>hb.run w1 q1 FB.tr P1 λb y H2 s2 w2 q2 r2 P2=>⟨a, b, r1, r2, P2 _ H2 (XC.refl _) (hg K H2 a b)⟩
theorem UT {ta tb : TE} {Cc : Int -> Int -> Prop} {g : Int -> Int -> V} {r : Enc β} {f : Int -> Int -> Rs β} {ma mb : Rs Int} (hg : ∀ K H i j c, f i j = .ok c -> Cc i j /\ r K H (g i j) c) (he : ∀ i j x, f i j ≠ .err x)
    (ha : EvB K Er S OO σ ta Xa ma) (hb : EvB K Er S OO σ tb Xa mb) :
    EvB K Er S OO σ (tOp (rI Cc g) ta tb) r (ma.bind λa=>mb.bind λb=>f a b):=λH Q w s P=>
  ha.run w s FB.tr P λa x H1 s1 w1 q1 r1 P1=>hb.run w1 q1 FB.tr P1 λb y H2 s2 w2 q2 r2 P2=>by
    cases e : f a b with
    | bad=>rw [e] at P2; exact P2.elim
    | err x=>exact absurd e (he a b x)
    | ok c=>
      rw [e] at P2
      obtain ⟨h1, h2⟩:=hg K H2 a b c e
      exact ⟨a, b, r1, r2, h1, P2 _ H2 (XC.refl _) h2⟩
noncomputable def Z5 (a b : Int) : Rs Int:=chk ((-(2 ^ 64) < a /\ a < 2 ^ 64) ∨ (-(2 ^ 64) < b /\ b < 2 ^ 64)) (.ok (a * b))
noncomputable def Z0 (a b : Int) : Rs Int:=chk (0 < b) (.ok (a % b))
noncomputable def IF (a b : Int) : Rs Int:=chk (0 < b /\ b.natAbs.log2 < 9000) (.ok (a / b))
noncomputable def IB (a b : Int) : Rs Int:=chk (0 <= b /\ b <= 1000000 /\ a.natAbs < 2 ^ 64) (.ok (a ^ b.toNat))
theorem Zm {c : Prop} [Decidable c] {m : Rs α} {a : α} (h : chk c m = .ok a) : c /\ m = .ok a:=by
  unfold chk at h; split at h
  . exact ⟨by assumption, h⟩
  . cases h
theorem Qo {c : Prop} [Decidable c] {a : α} {x : Exc} : chk c (Rs.ok a) ≠ .err x:=by
  unfold chk; split <;> exact λz=>nomatch z
theorem X0 {ta tb : TE} {ma mb : Rs Int} (ha : EvB K Er S OO σ ta Xa ma) (hb : EvB K Er S OO σ tb Xa mb) : EvB K Er S OO σ (tOp (rI Lf λi j=>.int (i * j)) ta tb) Xa (ma.bind λa=>mb.bind λb=>Z5 a b):=
  UT (λK H i j c h=>by obtain ⟨h1, h2⟩:=Zm h; cases h2; exact ⟨h1, rfl⟩) (λi j x=>Qo) ha hb
theorem XR {ta tb : TE} {ma mb : Rs Int} (ha : EvB K Er S OO σ ta Xa ma) (hb : EvB K Er S OO σ tb Xa mb) : EvB K Er S OO σ (tOp (rI (λ_ j=>0 < j) λi j=>.int (i % j)) ta tb) Xa (ma.bind λa=>mb.bind λb=>Z0 a b):=
  UT (λK H i j c h=>by obtain ⟨h1, h2⟩:=Zm h; cases h2; exact ⟨h1, rfl⟩) (λi j x=>Qo) ha hb
theorem Ge {ta tb : TE} {ma mb : Rs Int} (ha : EvB K Er S OO σ ta Xa ma) (hb : EvB K Er S OO σ tb Xa mb) : EvB K Er S OO σ (tOp (rI (λ_ j=>0 < j /\ j.natAbs.log2 < 9000) λi j=>.int (i / j)) ta tb) Xa (ma.bind λa=>mb.bind λb=>IF a b):=
  UT (λK H i j c h=>by obtain ⟨h1, h2⟩:=Zm h; cases h2; exact ⟨h1, rfl⟩) (λi j x=>Qo) ha hb
theorem U0 {ta tb : TE} {ma mb : Rs Int} (ha : EvB K Er S OO σ ta Xa ma) (hb : EvB K Er S OO σ tb Xa mb) : EvB K Er S OO σ (tOp (rI MS λi j=>.int (i ^ j.toNat)) ta tb) Xa (ma.bind λa=>mb.bind λb=>IB a b):=
  UT (λK H i j c h=>by obtain ⟨h1, h2⟩:=Zm h; cases h2; exact ⟨h1, rfl⟩) (λi j x=>Qo) ha hb
theorem XM {ta tb : TE} {ma mb : Rs Int} (ha : EvB K Er S OO σ ta Xa ma) (hb : EvB K Er S OO σ tb Xa mb) : EvB K Er S OO σ (tOp (rI0 λi j=>.int (i + j)) ta tb) Xa (ma.bind λa=>mb.bind λb=>.ok (a + b)):=Vc (λ_ _ _ _=>rfl) ha hb
theorem Qi {ta tb : TE} {ma mb : Rs Int} (ha : EvB K Er S OO σ ta Xa ma) (hb : EvB K Er S OO σ tb Xa mb) : EvB K Er S OO σ (tOp (rI0 λi j=>.int (i - j)) ta tb) Xa (ma.bind λa=>mb.bind λb=>.ok (a - b)):=Vc (λ_ _ _ _=>rfl) ha hb
theorem Qv {ta tb : TE} {ma mb : Rs Int} (ha : EvB K Er S OO σ ta Xa ma) (hb : EvB K Er S OO σ tb Xa mb) : EvB K Er S OO σ (tOp (rI0 λi j=>.bl (decide (i < j))) ta tb) XS (ma.bind λa=>mb.bind λb=>.ok (decide (a < b))):=Vc (λ_ _ _ _=>rfl) ha hb
theorem Dn {ta tb : TE} {ma mb : Rs Int} (ha : EvB K Er S OO σ ta Xa ma) (hb : EvB K Er S OO σ tb Xa mb) : EvB K Er S OO σ (tOp (rI0 λi j=>.bl (decide (i <= j))) ta tb) XS (ma.bind λa=>mb.bind λb=>.ok (decide (a <= b))):=Vc (λ_ _ _ _=>rfl) ha hb
theorem Ur {ta tb : TE} {ma mb : Rs Int} (ha : EvB K Er S OO σ ta Xa ma) (hb : EvB K Er S OO σ tb Xa mb) : EvB K Er S OO σ (tOp (rI0 λi j=>.bl (decide (j < i))) ta tb) XS (ma.bind λa=>mb.bind λb=>.ok (decide (b < a))):=Vc (λ_ _ _ _=>rfl) ha hb
theorem ZR {ta : TE} {ma : Rs Int} (ha : EvB K Er S OO σ ta Xa ma) : EvB K Er S OO σ (tUn (rU λi=>.int (-i)) ta) Xa (ma.bind λa=>.ok (-a)):=λH Q w s P=>
  ha.run w s FB.tr P λa x H1 s1 w1 q1 r1 P1=>⟨a, r1, P1 _ H1 (XC.refl _) rfl⟩
class Scal {α : Type} [DecidableEq α] (r : Enc α) : Prop where
  to : ∀ {K : PySem.W.Frag} {H H' : Hp} {x y : V} {a b : α}, r K H x a -> r K H' y b -> L9 x y = true /\ decide (x = y) = decide (a = b)
instance : Scal Xa:=⟨fun {K H H' x y a b} h1 h2=>by cases (show x = .int a from h1); cases (show y = .int b from h2); exact ⟨rfl, by simp⟩⟩
instance : Scal XS:=⟨fun {K H H' x y a b} h1 h2=>by cases (show x = .bl a from h1); cases (show y = .bl b from h2); exact ⟨rfl, by simp⟩⟩
theorem QO [DecidableEq α] {r : Enc α} [z : Scal r] [MonoE r] {ta tb : TE} {ma mb : Rs α} (ha : EvB K Er S OO σ ta r ma) (hb : EvB K Er S OO σ tb r mb) : EvB K Er S OO σ (tOp rEq ta tb) XS (ma.bind λa=>mb.bind λb=>.ok (decide (a = b))):=λH Q w s P=>
  ha.run w s FB.tr P λa x H1 s1 w1 q1 r1 P1=>hb.run w1 q1 FB.tr P1 λb y H2 s2 w2 q2 r2 P2=>by
    obtain ⟨h1, h2⟩:=z.to r1 r2
    exact ⟨h1, P2 _ H2 (XC.refl _) (by rw [h2]; rfl)⟩
theorem JL [DecidableEq α] {r : Enc α} [z : Scal r] [MonoE r] {ta tb : TE} {ma mb : Rs α} (ha : EvB K Er S OO σ ta r ma) (hb : EvB K Er S OO σ tb r mb) : EvB K Er S OO σ (tOp rNe ta tb) XS (ma.bind λa=>mb.bind λb=>.ok (!decide (a = b))):=λH Q w s P=>
  ha.run w s FB.tr P λa x H1 s1 w1 q1 r1 P1=>hb.run w1 q1 FB.tr P1 λb y H2 s2 w2 q2 r2 P2=>by
    obtain ⟨h1, h2⟩:=z.to r1 r2
    exact ⟨h1, P2 _ H2 (XC.refl _) (by rw [h2]; rfl)⟩
theorem Hk [DecidableEq α] {r : Enc α} [z : MonoE r] {ta tb : TE} {ma mb : Rs α} (ha : EvB K Er S OO σ ta r ma) (hb : EvB K Er S OO σ tb r mb) : EvB K Er S OO σ (tOp (Mz K r) ta tb) XS (ma.bind λa=>mb.bind λb=>.ok (!decide (a = b))):=λH Q w s P=>
  ha.run w s FB.tr P λa x H1 s1 w1 q1 r1 P1=>hb.run w1 q1 FB.tr P1 λb y H2 s2 w2 q2 r2 P2=>⟨a, b, z.mono s2 r1, r2, P2 _ H2 (XC.refl _) rfl⟩
theorem QA {te : TE} {m : Rs Bool} (h : EvB K Er S OO σ te XS m) : EvT Er S OO σ (tB te) m:=λH Q w s P=>h H _ w s (by
  cases m with
  | bad=>exact P
  | err x=>exact P
  | ok a=>exact λv H' s' r=>⟨a, r, P H' s'⟩)
theorem Xs {te : TE} {m : Rs Bool} (h : EvB K Er S OO σ te XS m) : EvT Er S OO σ (Hh te) m:=QA h
theorem YR {t : TT} {m : Rs Bool} (h : EvT Er S OO σ t m) : EvT Er S OO σ (ML t) (m.bind λb=>.ok (!b)):=λH Q w s P=>h.run w s FT.tr P λb H1 s1 w1 q1 P1=>P1 H1 (XC.refl _)
noncomputable def HB (a b : Rs Bool) : Rs Bool:=a.bind λx=>if x = true then b else .ok false
noncomputable def orR (a b : Rs Bool) : Rs Bool:=a.bind λx=>if x = true then .ok true else b
theorem Ca {t u : TT} {m n : Rs Bool} (h : EvT Er S OO σ t m) (k : EvT Er S OO σ u n) : EvT Er S OO σ (MR t u) (HB m n):=λH Q w s P=>h.run w s FT.tr P λb H1 s1 w1 q1 P1=>by
  cases b with
  | true=>rw [if_pos rfl] at P1 ⊢; exact k H1 Q w1 q1 P1
  | false=>exact P1 H1 (XC.refl _)
theorem Ue {t u : TT} {m n : Rs Bool} (h : EvT Er S OO σ t m) (k : EvT Er S OO σ u n) : EvT Er S OO σ (tOr t u) (orR m n):=λH Q w s P=>h.run w s FT.tr P λb H1 s1 w1 q1 P1=>by
  cases b with
  | true=>exact P1 H1 (XC.refl _)
  | false=>exact k H1 Q w1 q1 P1
theorem BO {t : TE} {m : Rs Bool} (h : EvB K Er S OO σ t XS m) : EvB K Er S OO σ (La t) XS (m.bind λb=>.ok (!b)):=λH Q w s P=>h.run w s FB.tr P λb x H1 s1 w1 q1 r1 P1=>⟨b, r1, P1 _ H1 (XC.refl _) rfl⟩
theorem Ed {t u : TE} {m n : Rs Bool} (h : EvB K Er S OO σ t XS m) (k : EvB K Er S OO σ u XS n) : EvB K Er S OO σ (LD t u) XS (HB m n):=λH Q w s P=>h.run w s FB.tr P λb x H1 s1 w1 q1 r1 P1=>⟨b, r1, by
  cases b with
  | true=>rw [if_pos rfl] at P1 ⊢; exact k H1 Q w1 q1 P1
  | false=>exact P1 _ H1 (XC.refl _) rfl⟩
theorem Ha {t u : TE} {m n : Rs Bool} (h : EvB K Er S OO σ t XS m) (k : EvB K Er S OO σ u XS n) : EvB K Er S OO σ (MB t u) XS (orR m n):=λH Q w s P=>h.run w s FB.tr P λb x H1 s1 w1 q1 r1 P1=>⟨b, r1, by
  cases b with
  | true=>exact P1 _ H1 (XC.refl _) rfl
  | false=>exact k H1 Q w1 q1 P1⟩
theorem Mp {c : TT} {ta tb : TE} {o : OE α} {mc : Rs Bool} {ma mb : Rs α} (hc : EvT Er S OO σ c mc) (ha : Ev K Er S OO OO' σ ta o ma) (hb : Ev K Er S OO OO' σ tb o mb) : Ev K Er S OO OO' σ (tIf c ta tb) o (mc.bind λb=>if b = true then ma else mb):=λH Q w s P=>
  hc.run w s FO.tr P λb H1 s1 w1 q1 P1=>by
    cases b with
    | true=>rw [if_pos rfl] at P1 ⊢; exact ha H1 Q w1 q1 P1
    | false=>exact hb H1 Q w1 q1 P1
end
section
variable (K : PySem.W.Frag) (Er : Exc -> Hp -> Prop) (S : SC) (OO : List (List XG)) (σ : St)
noncomputable def FS {α : Type} (r : Enc α) (Q : VK) (a : α) (H : Hp) : Prop:=∀ v H', XC H H' -> r K (hid H' OO) v a -> Q v H'
noncomputable def EvS {α : Type} (te : TE) (r : Enc α) (m : Rs α) : Prop:=∀ H Q, W OO H -> S.p (hid H OO) -> PZ Er (FS K OO r Q) H m -> te σ H Q
noncomputable def rE {α : Type} (r : Enc α) (H : Hp) (v : V) (as : List α) : Prop:=∃ p xs, v = .ref p /\ H p = some (.lst xs) /\ Paired (r K (hid H OO)) xs as
noncomputable def FL {α : Type} (r : Enc α) (Q : VK) (as : List α) (H : Hp) : Prop:=∀ v H', XC H H' -> rE K OO r H' v as -> Q v H'
noncomputable def EvL {α : Type} (te : TE) (r : Enc α) (m : Rs (List α)) : Prop:=∀ H Q, W OO H -> S.p (hid H OO) -> PZ Er (FL K OO r Q) H m -> te σ H Q
end
section
variable {K : PySem.W.Frag} {Er : Exc -> Hp -> Prop} {S : SC} {OO OO' OO2 : List (List XG)} {σ : St} {α β γ : Type}
theorem FS.tr {r : Enc α} {Q : VK} : ∀ a H H', XC H H' -> FS K OO r Q a H -> FS K OO r Q a H':=λa H H' s h v H2 s2 q=>h v H2 (s.trans s2) q
theorem PZ.run {F : β -> Hp -> Prop} {f : α -> Rs β} {H H' : Hp} {a : α} {m : Rs α} (hm : m = .ok a) (hF : ∀ b H H', XC H H' -> F b H -> F b H') (s : XC H H') (P : PZ Er F H (m.bind f)) : PZ Er F H' (f a):=by
  subst hm
  have P' : PZ Er F H (f a):=P
  revert P'
  cases f a with
  | bad=>exact λz=>z
  | err x=>exact λz H2 s2=>z H2 (s.trans s2)
  | ok b=>exact λz=>hF b H H' s z
theorem EvS.run {te : TE} {r : Enc α} {m : Rs α} (he : EvS K Er S OO σ te r m) {H : Hp} {Q : VK} (w : W OO H) (s : S.p (hid H OO)) {f : α -> Rs β} {F : β -> Hp -> Prop} (hF : ∀ b H H', XC H H' -> F b H -> F b H') (P : PZ Er F H (m.bind f))
    (hk : ∀ a v H', XC H H' -> W OO H' -> S.p (hid H' OO) -> r K (hid H' OO) v a -> PZ Er F H' (f a) -> Q v H') : te σ H Q:=by
  refine he H Q w s ?_
  cases e : m with
  | bad=>rw [e] at P; exact P
  | err x=>rw [e] at P; exact P
  | ok a=>exact λv H' s' hr=>hk a v H' s' (w.keep s') (S.mono _ _ (Xj s') s) hr (PZ.run e hF s' P)
theorem EvL.run {te : TE} {r : Enc α} {m : Rs (List α)} (he : EvL K Er S OO σ te r m) {H : Hp} {Q : VK} (w : W OO H) (s : S.p (hid H OO)) {f : List α -> Rs β} {F : β -> Hp -> Prop} (hF : ∀ b H H', XC H H' -> F b H -> F b H') (P : PZ Er F H (m.bind f))
    (hk : ∀ a v H', XC H H' -> W OO H' -> S.p (hid H' OO) -> rE K OO r H' v a -> PZ Er F H' (f a) -> Q v H') : te σ H Q:=by
  refine he H Q w s ?_
  cases e : m with
  | bad=>rw [e] at P; exact P
  | err x=>rw [e] at P; exact P
  | ok a=>exact λv H' s' hr=>hk a v H' s' (w.keep s') (S.mono _ _ (Xj s') s) hr (PZ.run e hF s' P)
theorem PZ.imp {F G : β -> Hp -> Prop} {H : Hp} {m : Rs β} (P : PZ Er F H m) (h : ∀ b, m = .ok b -> F b H -> G b H) : PZ Er G H m:=by
  cases m with
  | bad=>exact P
  | err x=>exact P
  | ok b=>exact h b rfl P
theorem EvS.ev {te : TE} {r : Enc α} {m : Rs α} (he : EvS K Er S OO σ te r m) : Ev K Er S OO OO σ te (oF r) m:=λH Q w s P=>he H Q w s (P.imp λb _ h v H' s' q=>
  h v [] H' s' (w.keep s').nil (by rw [ZI]; exact Xj s') ⟨rfl, by rw [ZI]; exact q⟩)
theorem EvB.sh {te : TE} {r : Enc α} [z : FlatE r] {m : Rs α} (he : EvB K Er S OO σ te r m) : EvS K Er S OO σ te r m:=λH Q w s P=>he H Q w s (P.imp λb _ h v H' s' q=>h v H' s' (z.flat (w.keep s').i q))
theorem Ev.sh {te : TE} {o : OE α} {r : Enc α} [z : FrzC o r] {m : Rs α} (he : Ev K Er S OO OO σ te o m) : EvS K Er S OO σ te r m:=λH Q w s P=>he.frz H Q w s (P.imp λb _ h v C H' s' w' m' q=>by
  obtain ⟨rfl, q⟩:=q
  rw [ZI] at q
  exact h v H' s' q)
theorem Xl {r : Enc α} {v : V} {a : α} (i : Nat) (hσ : σ[i]? = some (some v)) (h : ∀ x, S.p x -> r K x v a) : EvS K Er S OO σ (Uw i) r (.ok a):=λH Q w s P=>⟨v, hσ, P v H (XC.refl _) (h _ s)⟩
theorem EvS.ls {te : TE} {r : Enc α} {m : Rs (List α)} (he : EvS K Er S OO σ te (rV r) m) : EvL K Er S OO σ te r m:=λH Q w s P=>he H Q w s (P.imp λb _ h v H' s' r9=>by obtain ⟨p, xs, e, q, pr⟩:=r9; exact h v H' s' ⟨p, xs, e, Xw _ _ q, pr⟩)
theorem EvB.ls {te : TE} {r : Enc α} [z : FlatE r] {m : Rs (List α)} (he : EvB K Er S OO σ te (rV r) m) : EvL K Er S OO σ te r m:=λH Q w s P=>he H Q w s (P.imp λb _ h v H' s' r9=>by obtain ⟨p, xs, e, q, pr⟩:=r9; exact h v H' s' ⟨p, xs, e, q, Paired.imp2 (λ_ _ z'=>z.flat (w.keep s').i z') pr⟩)
theorem Ev.ls {te : TE} {r : Enc α} [z : MonoE r] {m : Rs (List α)} (he : Ev K Er S OO OO σ te (oL (oF r)) m) : EvL K Er S OO σ te r m:=he.sh.ls
noncomputable def atR (as : List α) (i : Int) : Rs α:=match atI as i with
  | some a=>.ok a
  | none=>.bad
theorem GY {as : List α} {i : Int} {a : α} (h : atR as i = .ok a) : atI as i = some a:=by
  unfold atR at h; split at h
  . cases h; assumption
  . cases h
theorem Kr {as : List α} {i : Int} {x : Exc} : atR as i ≠ .err x:=by unfold atR; split <;> exact λz=>nomatch z
theorem JA {F : V -> α -> Prop} {xs : List V} {as : List α} {i : Int} {a : α} (p : Paired F xs as) (h : atI as i = some a) : ∃ x, atI xs i = some x /\ F x a:=by
  unfold atI at h ⊢
  rw [Paired.len p]
  cases e : ixN as.length i with
  | none=>rw [e] at h; cases h
  | some j=>
    rw [e] at h
    obtain ⟨x, h1, h2⟩:=Paired.getR p h
    exact ⟨x, h1, h2⟩
theorem PZ.okOf {F : β -> Hp -> Prop} {H : Hp} {m : Rs β} (he : ∀ x, m ≠ .err x) (P : PZ Er F H m) : ∃ b, m = .ok b /\ F b H:=by
  cases m with
  | bad=>exact P.elim
  | err x=>exact absurd rfl (he x)
  | ok b=>exact ⟨b, rfl, P⟩
theorem Xu {ta tb : TE} {r : Enc α} [z : MonoE r] {ma : Rs (List α)} {mb : Rs Int} (ha : EvB K Er S OO σ ta (rV r) ma) (hb : EvB K Er S OO σ tb Xa mb) : EvB K Er S OO σ (tOp (ED K) ta tb) r (ma.bind λas=>mb.bind λi=>atR as i):=λH Q w s P=>
  ha.run w s FB.tr P λa x H1 s1 w1 q1 ⟨p, xs, e, q, pr⟩ P1=>hb.run w1 q1 FB.tr P1 λb y H2 s2 w2 q2 r2 P2=>by
    obtain ⟨c, hc, P3⟩:=P2.okOf λx=>Kr
    obtain ⟨u, h1, h2⟩:=JA pr (GY hc)
    exact ⟨p, xs, b, u, e, r2, SqL.of (s2 _ _ q), h1, P3 u H2 (XC.refl _) (z.mono s2 h2)⟩
theorem IT {ta tb : TE} {r : Enc α} [z : MonoE r] {ma : Rs (List α)} {mb : Rs Int} (ha : EvL K Er S OO σ ta r ma) (hb : EvB K Er S OO σ tb Xa mb) : EvS K Er S OO σ (tOp (ED K) ta tb) r (ma.bind λas=>mb.bind λi=>atR as i):=λH Q w s P=>
  ha.run w s FS.tr P λa x H1 s1 w1 q1 ⟨p, xs, e, q, pr⟩ P1=>hb.run w1 q1 FS.tr P1 λb y H2 s2 w2 q2 r2 P2=>by
    obtain ⟨c, hc, P3⟩:=P2.okOf λx=>Kr
    obtain ⟨u, h1, h2⟩:=JA pr (GY hc)
    exact ⟨p, xs, b, u, e, r2, SqL.of (s2 _ _ q), h1, P3 u H2 (XC.refl _) (z.mono (Xj s2) h2)⟩
theorem Du {ta : TE} {r : Enc α} {q : Enc β} {m : Rs (α × β)} (ha : EvB K Er S OO σ ta (rP2 r q) m) : EvB K Er S OO σ (tOp (EU K) ta (tC (.int 0))) r (m.bind λp=>.ok p.1):=λH Q w s P=>
  ha.run w s FB.tr P λa x H1 s1 w1 q1 r9 P1=>by obtain ⟨p, x, y, e, q, h1, h2⟩:=r9; exact ⟨p, _, 0, x, e, rfl, SqT.of q, rfl, P1 _ H1 (XC.refl _) h1⟩
theorem Ve {ta : TE} {r : Enc α} {q : Enc β} {m : Rs (α × β)} (ha : EvB K Er S OO σ ta (rP2 r q) m) : EvB K Er S OO σ (tOp (EU K) ta (tC (.int 1))) q (m.bind λp=>.ok p.2):=λH Q w s P=>
  ha.run w s FB.tr P λa x H1 s1 w1 q1 r9 P1=>by obtain ⟨p, x, y, e, q, h1, h2⟩:=r9; exact ⟨p, _, 1, y, e, rfl, SqT.of q, rfl, P1 _ H1 (XC.refl _) h2⟩
theorem JH {ta : TE} {r : Enc α} {q : Enc β} {m : Rs (α × β)} (ha : EvS K Er S OO σ ta (rP2 r q) m) : EvS K Er S OO σ (tOp (EU K) ta (tC (.int 0))) r (m.bind λp=>.ok p.1):=λH Q w s P=>
  ha.run w s FS.tr P λa x H1 s1 w1 q1 r9 P1=>by obtain ⟨p, x, y, e, q, h1, h2⟩:=r9; exact ⟨p, _, 0, x, e, rfl, SqT.of (Xw _ _ q), rfl, P1 _ H1 (XC.refl _) h1⟩
theorem Cu {ta : TE} {r : Enc α} {q : Enc β} {m : Rs (α × β)} (ha : EvS K Er S OO σ ta (rP2 r q) m) : EvS K Er S OO σ (tOp (EU K) ta (tC (.int 1))) q (m.bind λp=>.ok p.2):=λH Q w s P=>
  ha.run w s FS.tr P λa x H1 s1 w1 q1 r9 P1=>by obtain ⟨p, x, y, e, q, h1, h2⟩:=r9; exact ⟨p, _, 1, y, e, rfl, SqT.of (Xw _ _ q), rfl, P1 _ H1 (XC.refl _) h2⟩
theorem X2 {ta : TE} {r : Enc α} {m : Rs (List α)} (ha : EvB K Er S OO σ ta (rV r) m) : EvB K Er S OO σ (tCB (Fi K) (XQ ta Qs)) Xa (m.bind λas=>.ok (as.length : Int)):=λH Q w s P=>
  ha.run w s FB.tr P λa x H1 s1 w1 q1 r9 P1=>by obtain ⟨p, xs, e, q, pr⟩:=r9; exact ⟨p, xs, by rw [e], .inl (SqL.of q), P1 _ H1 (XC.refl _) (by rw [Paired.len pr]; rfl)⟩
theorem ID {r : Enc α} [z : MonoE r] {xs : List V} {as : List α} {H : Hp} {Q : VK} (w : W OO H) (pr : Paired (r K (hid H OO)) xs as) (P : FO K OO OO (oL (oF r)) Q as H) : ∀ p, H p = none -> Q (.ref p) (upd H p (.lst xs)):=λp hp=>by
  have hn:=QX (OO:=OO) hp (o:=.lst xs)
  refine P (.ref p) [(p, .lst xs)] _ (XJ hp _) (w.new hp rfl) hn ?_
  refine ⟨p, xs, List.replicate as.length [], rfl, (P3.of (Paired.imp2 (λ_ _ h=>z.mono hn h) pr)).imp λ_ _ _ h=>h, by rw [YT]⟩
theorem Paired.take' {F : α -> β -> Prop} : ∀ {l : List α} {m : List β} (n : Nat), Paired F l m -> Paired F (l.take n) (m.take n)
  | _, _, 0, _=>.nil
  | _, _, _ + 1, .nil=>.nil
  | _, _, n + 1, .cons r t=>.cons r (Paired.take' n t)
theorem Paired.drop' {F : α -> β -> Prop} : ∀ {l : List α} {m : List β} (n : Nat), Paired F l m -> Paired F (l.drop n) (m.drop n)
  | _, _, 0, h=>h
  | _, _, _ + 1, .nil=>.nil
  | _, _, n + 1, .cons _ t=>Paired.drop' n t
theorem Paired.rep' {F : α -> β -> Prop} {l : List α} {m : List β} (h : Paired F l m) : ∀ n : Nat, Paired F (List.replicate n l).flatten (List.replicate n m).flatten
  | 0=>.nil
  | n + 1=>by simp only [List.replicate_succ, List.flatten_cons]; exact Paired.app h (Paired.rep' h n)
noncomputable def FD (as : List α) (lo hi : Option Int) : List α:=(as.drop (HT.sIx as.length 0 lo)).take (HT.sIx as.length as.length hi - HT.sIx as.length 0 lo)
theorem Ua {F : V -> α -> Prop} {xs : List V} {as : List α} (p : Paired F xs as) (lo hi : Option Int) : Paired F (IC xs lo hi) (FD as lo hi):=by
  unfold IC FD; rw [Paired.len p]; exact Paired.take' _ (Paired.drop' _ p)
noncomputable def FP (Q : Option Int -> Hp -> Prop) (a : Option Int) (H : Hp) : Prop:=∀ H', XC H H' -> Q a H'
noncomputable def EvP (Er : Exc -> Hp -> Prop) (S : SC) (OO : List (List XG)) (σ : St) (t : TO) (m : Rs (Option Int)) : Prop:=∀ H Q, W OO H -> S.p (hid H OO) -> PZ Er (FP Q) H m -> t σ H Q
theorem EvP.run {t : TO} {m : Rs (Option Int)} (he : EvP Er S OO σ t m) {H : Hp} {Q : Option Int -> Hp -> Prop} (w : W OO H) (s : S.p (hid H OO)) {f : Option Int -> Rs β} {F : β -> Hp -> Prop} (hF : ∀ b H H', XC H H' -> F b H -> F b H') (P : PZ Er F H (m.bind f))
    (hk : ∀ a H', XC H H' -> W OO H' -> S.p (hid H' OO) -> PZ Er F H' (f a) -> Q a H') : t σ H Q:=by
  refine he H Q w s ?_
  cases e : m with
  | bad=>rw [e] at P; exact P
  | err x=>rw [e] at P; exact P
  | ok a=>exact λH' s'=>hk a H' s' (w.keep s') (S.mono _ _ (Xj s') s) (PZ.run e hF s' P)
theorem UJ : EvP Er S OO σ CT (.ok none):=λH Q w s P=>P H (XC.refl _)
theorem UG {te : TE} {m : Rs Int} (h : EvB K Er S OO σ te Xa m) : EvP Er S OO σ (Le te) (m.bind λi=>.ok (some i)):=λH Q w s P=>
  h.run w s (λ_ _ _ s h H2 s2=>h H2 (s.trans s2)) P λa v H1 s1 w1 q1 r1 P1=>⟨a, r1, P1 H1 (XC.refl _)⟩
theorem GS {te : TE} {tl th : TO} {r : Enc α} [z : MonoE r] {m : Rs (List α)} {ml mh : Rs (Option Int)} (he : EvL K Er S OO σ te r m) (hl : EvP Er S OO σ tl ml) (hh : EvP Er S OO σ th mh) :
    Ev K Er S OO OO σ (tSl (LZ K) te tl th) (oL (oF r)) (m.bind λas=>ml.bind λlo=>mh.bind λhi=>.ok (FD as lo hi)):=λH Q w s P=>
  he.run w s FO.tr P λas x H1 s1 w1 q1 ⟨p, xs, e, q, pr⟩ P1=>hl.run w1 q1 FO.tr P1 λlo H2 s2 w2 q2 P2=>hh.run w2 q2 FO.tr P2 λhi H3 s3 w3 q3 P3'=>
    ⟨p, xs, e, SqL.of (s3 _ _ (s2 _ _ q)), ID w3 (Ua (Paired.imp2 (λ_ _ h=>z.mono ((Xj s2).trans (Xj s3)) h) pr) lo hi) P3'⟩
theorem En {ta : TE} {r : Enc α} {m : Rs (List α)} (ha : EvB K Er S OO σ ta (rL r) m) : EvB K Er S OO σ (tCB (Fi K) (XQ ta Qs)) Xa (m.bind λas=>.ok (as.length : Int)):=λH Q w s P=>
  ha.run w s FB.tr P λa x H1 s1 w1 q1 r9 P1=>by obtain ⟨p, xs, e, q, pr⟩:=r9; exact ⟨p, xs, by rw [e], .inl q, P1 _ H1 (XC.refl _) (by rw [Paired.len pr]; rfl)⟩
theorem HL {ta tb : TE} {ma : Rs (List Int)} {mb : Rs Int} (ha : EvB K Er S OO σ ta (rL Xa) ma) (hb : EvB K Er S OO σ tb Xa mb) : EvB K Er S OO σ (tOp (ED K) ta tb) Xa (ma.bind λas=>mb.bind λi=>atR as i):=λH Q w s P=>
  ha.run w s FB.tr P λa x H1 s1 w1 q1 ⟨p, xs, e, q, pr⟩ P1=>hb.run w1 q1 FB.tr P1 λb y H2 s2 w2 q2 r2 P2=>by
    obtain ⟨c, hc, P3⟩:=P2.okOf λx=>Kr
    obtain ⟨u, h1, h2⟩:=JA pr (GY hc)
    exact ⟨p, xs, b, u, e, r2, s2.seq q, h1, P3 u H2 (XC.refl _) h2⟩
theorem Cj {te : TE} {tl th : TO} {m : Rs (List Int)} {ml mh : Rs (Option Int)} (he : EvB K Er S OO σ te (rL Xa) m) (hl : EvP Er S OO σ tl ml) (hh : EvP Er S OO σ th mh) :
    Ev K Er S OO OO σ (tSl (LZ K) te tl th) (oL (oF Xa)) (m.bind λas=>ml.bind λlo=>mh.bind λhi=>.ok (FD as lo hi)):=λH Q w s P=>
  he.run w s FO.tr P λas x H1 s1 w1 q1 ⟨p, xs, e, q, pr⟩ P1=>hl.run w1 q1 FO.tr P1 λlo H2 s2 w2 q2 P2=>hh.run w2 q2 FO.tr P2 λhi H3 s3 w3 q3 P3'=>
    ⟨p, xs, e, s3.seq (s2.seq q), ID w3 (Ua (Paired.imp2 (λ_ _ h=>h) pr) lo hi) P3'⟩
noncomputable def G2 (as bs : List α) : Rs (List α):=chk (as.length + bs.length <= sizeLine) (.ok (as ++ bs))
theorem Fm {ta tb : TE} {r : Enc α} [z : MonoE r] {ma mb : Rs (List α)} (ha : EvL K Er S OO σ ta r ma) (hb : EvL K Er S OO σ tb r mb) : Ev K Er S OO OO σ (tOp Mw ta tb) (oL (oF r)) (ma.bind λas=>mb.bind λbs=>G2 as bs):=λH Q w s P=>
  ha.run w s FO.tr P λas x H1 s1 w1 q1 ⟨p, xs, e, q, pr⟩ P1=>hb.run w1 q1 FO.tr P1 λbs y H2 s2 w2 q2 ⟨p', ys, e', q', pr'⟩ P2=>by
    obtain ⟨c, hc, P3⟩:=P2.okOf λx=>Qo
    obtain ⟨h1, h2⟩:=Zm hc
    cases h2
    exact ⟨p, p', xs, ys, e, e', s2 _ _ q, q', by rw [Paired.len pr, Paired.len pr']; exact h1, ID w2 (Paired.app (Paired.imp2 (λ_ _ h=>z.mono (Xj s2) h) pr) pr') P3⟩
noncomputable def KF (as : List α) (n : Int) : Rs (List α):=chk (-(2 ^ 63) <= n /\ n < 2 ^ 63 /\ as.length * n.toNat <= sizeLine) (.ok (List.replicate n.toNat as).flatten)
theorem VD {ta tb : TE} {r : Enc α} [z : MonoE r] {ma : Rs (List α)} {mb : Rs Int} (ha : EvL K Er S OO σ ta r ma) (hb : EvB K Er S OO σ tb Xa mb) : Ev K Er S OO OO σ (tOp MO ta tb) (oL (oF r)) (ma.bind λas=>mb.bind λn=>KF as n):=λH Q w s P=>
  ha.run w s FO.tr P λas x H1 s1 w1 q1 ⟨p, xs, e, q, pr⟩ P1=>hb.run w1 q1 FO.tr P1 λn y H2 s2 w2 q2 r2 P2=>by
    obtain ⟨c, hc, P3⟩:=P2.okOf λx=>Qo
    obtain ⟨⟨h0, h1, h3⟩, h2⟩:=Zm hc
    cases h2
    exact ⟨p, n, xs, e, r2, s2 _ _ q, h0, h1, by rw [Paired.len pr]; exact h3, ID w2 (Paired.rep' (Paired.imp2 (λ_ _ h=>z.mono (Xj s2) h) pr) _) P3⟩
theorem Gb {ta : TE} {r : Enc α} [z : MonoE r] {ma : Rs (List α)} (ha : EvL K Er S OO σ ta r ma) : Ev K Er S OO OO σ (tCB (Dr K) (XQ ta Qs)) (oL (oF r)) (ma.bind λas=>.ok as):=λH Q w s P=>
  ha.run w s FO.tr P λas x H1 s1 w1 q1 r9 P1=>by obtain ⟨p, xs, e, q, pr⟩:=r9; exact ⟨p, xs, by rw [e], .inl (SqL.of q), ID w1 pr P1⟩
noncomputable def Qw (lo hi : Int) : List Int:=(List.range (hi - lo).toNat).map λ(i : Nat)=>lo + (i : Int)
theorem Qu {o : OE α} : Ev K Er S OO OO σ (L5 Qs) (oL o) (.ok []):=λH Q w s P=>⟨Nat.zero_le _, λp hp=>P (.ref p) [(p, .lst [])] _ (XJ hp _) (w.new hp rfl) (QX hp) ⟨p, [], [], rfl, .nil, rfl⟩⟩
noncomputable def FA {α : Type} (K : PySem.W.Frag) (OO : List (List XG)) (r : Enc α) (Q : List V -> Hp -> Prop) (as : List α) (H : Hp) : Prop:=∀ vs H', XC H H' -> Paired (r K (hid H' OO)) vs as -> Q vs H'
noncomputable def EvA {α : Type} (K : PySem.W.Frag) (Er : Exc -> Hp -> Prop) (S : SC) (OO : List (List XG)) (σ : St) (t : TA) (r : Enc α) (m : Rs (List α)) : Prop:=∀ H Q, W OO H -> S.p (hid H OO) -> PZ Er (FA K OO r Q) H m -> t σ H Q
theorem Y8 {r : Enc α} : EvA K Er S OO σ Qs r (.ok []):=λH Q w s P=>P [] H (XC.refl _) .nil
theorem Xq {te : TE} {t : TA} {r : Enc α} [z : MonoE r] {m : Rs α} {n : Rs (List α)} (he : EvS K Er S OO σ te r m) (ht : EvA K Er S OO σ t r n) : EvA K Er S OO σ (XQ te t) r (m.bind λa=>n.bind λas=>.ok (a :: as)):=λH Q w s P=>
  he.run w s (λb H H' s h vs H2 s2 p=>h vs H2 (s.trans s2) p) P λa x H1 s1 w1 q1 r1 P1=>by
    refine ht H1 _ w1 q1 ?_
    cases e : n with
    | bad=>rw [e] at P1; exact P1
    | err x=>rw [e] at P1; exact P1
    | ok as=>rw [e] at P1; exact λvs H2 s2 p=>P1 (x :: vs) H2 s2 (.cons (z.mono (Xj s2) r1) p)
theorem ZF {t : TA} {r : Enc α} [z : MonoE r] {m : Rs (List α)} (h : EvA K Er S OO σ t r m) : Ev K Er S OO OO σ (L5 t) (oL (oF r)) (m.bind λas=>chk (as.length <= sizeLine) (.ok as)):=λH Q w s P=>by
  refine h H _ w s ?_
  cases e : m with
  | bad=>rw [e] at P; exact P
  | err x=>rw [e] at P; exact P
  | ok as=>
    rw [e] at P
    intro vs H1 s1 p
    obtain ⟨c, hc, P3⟩:=PZ.okOf (λx=>Qo) (show PZ Er _ H (chk (as.length <= sizeLine) (.ok as)) from P)
    obtain ⟨h1, h2⟩:=Zm hc
    cases h2
    exact ⟨by rw [Paired.len p]; exact h1, ID (w.keep s1) p (FO.tr _ _ _ s1 P3)⟩
theorem QE {ta tb : TE} {r : Enc α} {q : Enc β} [z : MonoE r] [y : MonoE q] {ma : Rs α} {mb : Rs β} (ha : EvS K Er S OO σ ta r ma) (hb : EvS K Er S OO σ tb q mb) : EvS K Er S OO σ (Iy (XQ ta (XQ tb Qs))) (rP2 r q) (ma.bind λa=>mb.bind λb=>.ok (a, b)):=λH Q w s P=>
  ha.run w s FS.tr P λa x H1 s1 w1 q1 r1 P1=>hb.run w1 q1 FS.tr P1 λb y' H2 s2 w2 q2 r2 P2=>
    ⟨by show 2 <= sizeLine; decide, λp hp=>P2 _ _ (XJ hp _) ⟨p, x, y', rfl, ZO w2 hp, z.mono ((Xj s2).trans (Xj (XJ hp _))) r1, y.mono (Xj (XJ hp _)) r2⟩⟩
theorem G7 {ta tb tc : TE} {r : Enc α} {q : Enc β} {t : Enc γ} [z : MonoE r] [y : MonoE q] [x : MonoE t] {ma : Rs α} {mb : Rs β} {mc : Rs γ} (ha : EvS K Er S OO σ ta r ma) (hb : EvS K Er S OO σ tb q mb) (hc : EvS K Er S OO σ tc t mc) :
    EvS K Er S OO σ (Iy (XQ ta (XQ tb (XQ tc Qs)))) (rP3 r q t) (ma.bind λa=>mb.bind λb=>mc.bind λc=>.ok (a, b, c)):=λH Q w s P=>
  ha.run w s FS.tr P λa x' H1 s1 w1 q1 r1 P1=>hb.run w1 q1 FS.tr P1 λb y' H2 s2 w2 q2 r2 P2=>hc.run w2 q2 FS.tr P2 λc z' H3 s3 w3 q3 r3 P3=>
    ⟨by show 3 <= sizeLine; decide, λp hp=>P3 _ _ (XJ hp _) ⟨p, x', y', z', rfl, ZO w3 hp, z.mono (((Xj s2).trans (Xj s3)).trans (Xj (XJ hp _))) r1, y.mono ((Xj s3).trans (Xj (XJ hp _))) r2, x.mono (Xj (XJ hp _)) r3⟩⟩
end
section
variable {K : PySem.W.Frag} {Er : Exc -> Hp -> Prop} {S : SC} {OO OO' OO2 : List (List XG)} {σ : St} {α β γ ρ ι : Type} {α1 α2 α3 α4 α5 α6 : Type}
noncomputable def noE (m : Rs α) : Rs α:=match m with
  | .ok a=>.ok a
  | _=>.bad
theorem Kk {m : Rs α} {a : α} (h : noE m = .ok a) : m = .ok a:=by
  cases m with
  | ok b=>exact h
  | bad=>cases h
  | err x=>cases h
theorem V7 {m : Rs α} {x : Exc} : noE m ≠ .err x:=by cases m <;> exact λz=>nomatch z
noncomputable def FF (K : PySem.W.Frag) (o : OE α) (Q : VK) (a : α) (H : Hp) : Prop:=∀ v C H', W [C] H' -> XC H (hid H' [C]) -> o K (hid H' [C]) v a C -> Q v H'
noncomputable def sp1 (r1 : Enc α1) (o : OE ρ) (f : α1 -> Rs ρ) (K : PySem.W.Frag) : Sp:=λvs H Q _=>∃ v1 a1 b, vs = [v1] /\ r1 K H v1 a1 /\ f a1 = .ok b /\ FF K o Q b H
noncomputable def sp2 (r1 : Enc α1) (r2 : Enc α2) (o : OE ρ) (f : α1 -> α2 -> Rs ρ) (K : PySem.W.Frag) : Sp:=λvs H Q _=>∃ v1 v2 a1 a2 b, vs = [v1, v2] /\ r1 K H v1 a1 /\ r2 K H v2 a2 /\ f a1 a2 = .ok b /\ FF K o Q b H
noncomputable def sp3 (r1 : Enc α1) (r2 : Enc α2) (r3 : Enc α3) (o : OE ρ) (f : α1 -> α2 -> α3 -> Rs ρ) (K : PySem.W.Frag) : Sp:=λvs H Q _=>∃ v1 v2 v3 a1 a2 a3 b, vs = [v1, v2, v3] /\ r1 K H v1 a1 /\ r2 K H v2 a2 /\ r3 K H v3 a3 /\ f a1 a2 a3 = .ok b /\ FF K o Q b H
noncomputable def sp4 (r1 : Enc α1) (r2 : Enc α2) (r3 : Enc α3) (r4 : Enc α4) (o : OE ρ) (f : α1 -> α2 -> α3 -> α4 -> Rs ρ) (K : PySem.W.Frag) : Sp:=λvs H Q _=>∃ v1 v2 v3 v4 a1 a2 a3 a4 b, vs = [v1, v2, v3, v4] /\ r1 K H v1 a1 /\ r2 K H v2 a2 /\ r3 K H v3 a3 /\ r4 K H v4 a4 /\ f a1 a2 a3 a4 = .ok b /\ FF K o Q b H
noncomputable def sp5 (r1 : Enc α1) (r2 : Enc α2) (r3 : Enc α3) (r4 : Enc α4) (r5 : Enc α5) (o : OE ρ) (f : α1 -> α2 -> α3 -> α4 -> α5 -> Rs ρ) (K : PySem.W.Frag) : Sp:=λvs H Q _=>∃ v1 v2 v3 v4 v5 a1 a2 a3 a4 a5 b, vs = [v1, v2, v3, v4, v5] /\ r1 K H v1 a1 /\ r2 K H v2 a2 /\ r3 K H v3 a3 /\ r4 K H v4 a4 /\ r5 K H v5 a5 /\ f a1 a2 a3 a4 a5 = .ok b /\ FF K o Q b H
theorem Mj {C : List XG} {H H' : Hp} (w : W OO H) (w' : W [C] H') (m' : XC H (hid H' [C])) : W (C :: OO) H' /\ XC (hid H OO) (hid H' (C :: OO)) /\ Fz (hid H' [C]) (hid H' (C :: OO)):=by
  have s : XC H H':=m'.trans Xw
  have f1 : fl [C] = C.map (·.1):=by simp [fl]
  have hd : ∀ b, b ∈ fl OO -> b ∉ C.map (·.1):=λb hb hc=>by
    obtain ⟨u, hu⟩:=F9 hb
    exact (X4 (m' _ _ (w.tr _ hu))).2 (by rw [f1]; exact hc)
  have w2 : W (C :: OO) H':=by
    refine ⟨λc hc=>?_, ?_, λc hc=>?_⟩
    . rw [List.flatten_cons, List.mem_append] at hc
      rcases hc with hc | hc
      . exact w'.tr c (by simp [hc])
      . exact s _ _ (w.tr c hc)
    . rw [X7]
      refine List.nodup_append.mpr ⟨by rw [← f1]; exact w'.nd, w.nd, λa ha b hb e=>?_⟩
      subst e; exact hd a hb ha
    . rw [List.flatten_cons, List.mem_append] at hc
      rcases hc with hc | hc
      . exact w'.mu c (by simp [hc])
      . exact w.mu c hc
  refine ⟨w2, λb u q=>?_, λb u q i=>?_⟩
  . obtain ⟨q1, q2⟩ := X4 q
    obtain ⟨q3, q4⟩:=X4 (m' _ _ q1)
    refine Zv q3 ?_
    rw [X7, List.mem_append]
    exact λz=>z.elim (λz=>q4 (by rw [f1]; exact z)) q2
  . exact w2.i b u (X4 q).1 i
theorem Vi {o : OE α} [z : FlatO o] {Q : VK} {b : α} {H : Hp} (w : W OO H) (P : FO K OO OO o Q b H) : FF K o Q b H:=λv C H' w' m' ho=>by
  obtain ⟨w2, h2, h3⟩:=Mj w w' m'
  exact P v C H' (m'.trans Xw) w2 h2 (z.flat h3 ho)
theorem X3 {ta : TE} {r1 : Enc α1} {o : OE ρ} [FlatO o] {f : α1 -> Rs ρ} {ma : Rs α1} (ha : EvB K Er S OO σ ta r1 ma) : Ev K Er S OO OO σ (GJ (sp1 r1 o f K) [] E0 (XQ ta Qs)) o (ma.bind λa=>noE (f a)):=λH Q w s P=>
  ha.run w s FO.tr P λa x H1 s1 w1 q1 r1 P1=>by
    obtain ⟨b, hb, P2⟩:=P1.okOf λx=>V7
    exact ⟨x, a, b, rfl, r1, Kk hb, Vi w1 P2⟩
theorem Yn {ta tb : TE} {r1 : Enc α1} {r2 : Enc α2} [z1 : MonoE r1] {o : OE ρ} [FlatO o] {f : α1 -> α2 -> Rs ρ} {ma : Rs α1} {mb : Rs α2} (ha : EvB K Er S OO σ ta r1 ma) (hb : EvB K Er S OO σ tb r2 mb) :
    Ev K Er S OO OO σ (GJ (sp2 r1 r2 o f K) [] E0 (XQ ta (XQ tb Qs))) o (ma.bind λa=>mb.bind λb=>noE (f a b)):=λH Q w s P=>
  ha.run w s FO.tr P λa x H1 s1 w1 q1 r1 P1=>hb.run w1 q1 FO.tr P1 λb y H2 s2 w2 q2 r2 P2=>by
    obtain ⟨c, hc, P3⟩:=P2.okOf λx=>V7
    exact ⟨x, y, a, b, c, rfl, z1.mono s2 r1, r2, Kk hc, Vi w2 P3⟩
theorem YL {ta tb tc : TE} {r1 : Enc α1} {r2 : Enc α2} {r3 : Enc α3} [z1 : MonoE r1] [z2 : MonoE r2] {o : OE ρ} [FlatO o] {f : α1 -> α2 -> α3 -> Rs ρ} {ma : Rs α1} {mb : Rs α2} {mc : Rs α3} (ha : EvB K Er S OO σ ta r1 ma) (hb : EvB K Er S OO σ tb r2 mb) (hc : EvB K Er S OO σ tc r3 mc) :
    Ev K Er S OO OO σ (GJ (sp3 r1 r2 r3 o f K) [] E0 (XQ ta (XQ tb (XQ tc Qs)))) o (ma.bind λa=>mb.bind λb=>mc.bind λc=>noE (f a b c)):=λH Q w s P=>
  ha.run w s FO.tr P λa x H1 s1 w1 q1 r1 P1=>hb.run w1 q1 FO.tr P1 λb y H2 s2 w2 q2 r2 P2=>hc.run w2 q2 FO.tr P2 λc z H3 s3 w3 q3 r3 P3=>by
    obtain ⟨d, hd, P4⟩:=P3.okOf λx=>V7
    exact ⟨x, y, z, a, b, c, d, rfl, z1.mono (s2.trans s3) r1, z2.mono s3 r2, r3, Kk hd, Vi w3 P4⟩
theorem J1 {ta tb tc td : TE} {r1 : Enc α1} {r2 : Enc α2} {r3 : Enc α3} {r4 : Enc α4} [z1 : MonoE r1] [z2 : MonoE r2] [z3 : MonoE r3] {o : OE ρ} [FlatO o] {f : α1 -> α2 -> α3 -> α4 -> Rs ρ} {ma : Rs α1} {mb : Rs α2} {mc : Rs α3} {md : Rs α4} (ha : EvB K Er S OO σ ta r1 ma) (hb : EvB K Er S OO σ tb r2 mb) (hc : EvB K Er S OO σ tc r3 mc) (hd : EvB K Er S OO σ td r4 md) :
    Ev K Er S OO OO σ (GJ (sp4 r1 r2 r3 r4 o f K) [] E0 (XQ ta (XQ tb (XQ tc (XQ td Qs))))) o (ma.bind λa=>mb.bind λb=>mc.bind λc=>md.bind λd=>noE (f a b c d)):=λH Q w s P=>
  ha.run w s FO.tr P λa x H1 s1 w1 q1 r1 P1=>hb.run w1 q1 FO.tr P1 λb y H2 s2 w2 q2 r2 P2=>hc.run w2 q2 FO.tr P2 λc z H3 s3 w3 q3 r3 P3=>hd.run w3 q3 FO.tr P3 λd u H4 s4 w4 q4 r4 P4=>by
    obtain ⟨e, he, P5⟩:=P4.okOf λx=>V7
    exact ⟨x, y, z, u, a, b, c, d, e, rfl, z1.mono (s2.trans (s3.trans s4)) r1, z2.mono (s3.trans s4) r2, z3.mono s4 r3, r4, Kk he, Vi w4 P5⟩
theorem BN {ta tb tc td te : TE} {r1 : Enc α1} {r2 : Enc α2} {r3 : Enc α3} {r4 : Enc α4} {r5 : Enc α5} [z1 : MonoE r1] [z2 : MonoE r2] [z3 : MonoE r3] [z4 : MonoE r4] {o : OE ρ} [FlatO o] {f : α1 -> α2 -> α3 -> α4 -> α5 -> Rs ρ} {ma : Rs α1} {mb : Rs α2} {mc : Rs α3} {md : Rs α4} {me : Rs α5} (ha : EvB K Er S OO σ ta r1 ma) (hb : EvB K Er S OO σ tb r2 mb) (hc : EvB K Er S OO σ tc r3 mc) (hd : EvB K Er S OO σ td r4 md) (he : EvB K Er S OO σ te r5 me) :
    Ev K Er S OO OO σ (GJ (sp5 r1 r2 r3 r4 r5 o f K) [] E0 (XQ ta (XQ tb (XQ tc (XQ td (XQ te Qs)))))) o (ma.bind λa=>mb.bind λb=>mc.bind λc=>md.bind λd=>me.bind λe=>noE (f a b c d e)):=λH Q w s P=>
  ha.run w s FO.tr P λa x H1 s1 w1 q1 r1 P1=>hb.run w1 q1 FO.tr P1 λb y H2 s2 w2 q2 r2 P2=>hc.run w2 q2 FO.tr P2 λc z H3 s3 w3 q3 r3 P3=>hd.run w3 q3 FO.tr P3 λd u H4 s4 w4 q4 r4 P4=>he.run w4 q4 FO.tr P4 λe t H5 s5 w5 q5 r5 P5=>by
    obtain ⟨g, hg, P6⟩:=P5.okOf λx=>V7
    exact ⟨x, y, z, u, t, a, b, c, d, e, g, rfl, z1.mono (s2.trans (s3.trans (s4.trans s5))) r1, z2.mono (s3.trans (s4.trans s5)) r2, z3.mono (s4.trans s5) r3, z4.mono s5 r4, r5, Kk hg, Vi w5 P6⟩
structure Jn (γ ι : Type) where
  oo : ι -> List (List XG)
  ss : ι -> St
  sc : γ -> ι -> SC
inductive Ctl (ρ γ : Type) where
  | ret (r : ρ) | nx (g : γ)
noncomputable def FTd (K : PySem.W.Frag) (o : OE ρ) (D : Ends) (r : ρ) (h : Hp) : Prop:=∀ v C OO' H', W (C :: OO') H' -> XC h (hid H' (C :: OO')) -> o K (hid H' (C :: OO')) v r C -> D.rt v H'
noncomputable def FNd (J : Jn γ ι) (D : Ends) (g : γ) (h : Hp) : Prop:=∀ x H', W (J.oo x) H' -> XC h (hid H' (J.oo x)) -> (J.sc g x).p (hid H' (J.oo x)) -> D.nx (J.ss x) H'
noncomputable def FCd (K : PySem.W.Frag) (o : OE ρ) (J : Jn γ ι) (D : Ends) (c : Ctl ρ γ) (h : Hp) : Prop:=match c with
  | .ret r=>FTd K o D r h
  | .nx g=>FNd J D g h
class FdOk (Fd : Ends -> β -> Hp -> Prop) : Prop where
  tr : ∀ D b h h', XC h h' -> Fd D b h -> Fd D b h'
instance {o : OE ρ} : FdOk (FTd K o):=⟨λD b h h' s q v C O H' w m x=>q v C O H' w (s.trans m) x⟩
instance {J : Jn γ ι} : FdOk (FNd J):=⟨λD b h h' s q x H' w m y=>q x H' w (s.trans m) y⟩
instance {o : OE ρ} {J : Jn γ ι} : FdOk (FCd K o J):=⟨λD b h h' s q=>by
  cases b with
  | ret r=>exact λv C O H' w m x=>q v C O H' w (s.trans m) x
  | nx g=>exact λx H' w m y=>q x H' w (s.trans m) y⟩
theorem PZ.tr {F : β -> Hp -> Prop} (hF : ∀ b H H', XC H H' -> F b H -> F b H') {H H' : Hp} {m : Rs β} (s : XC H H') (P : PZ Er F H m) : PZ Er F H' m:=by
  cases m with
  | bad=>exact P
  | err x=>exact λH2 s2=>P H2 (s.trans s2)
  | ok b=>exact hF b H H' s P
noncomputable def Sv (Er : Exc -> Hp -> Prop) (S : SC) (OO : List (List XG)) (σ : St) (t : TS) (Fd : Ends -> β -> Hp -> Prop) (m : Rs β) : Prop:=∀ H D, W OO H -> S.p (hid H OO) -> PZ Er (Fd D) (hid H OO) m -> t D σ H
variable {Fd : Ends -> β -> Hp -> Prop} [fd : FdOk Fd] {u : TS}
theorem Ev.st {te : TE} {o : OE α} {m : Rs α} (he : Ev K Er S OO OO' σ te o m) {H : Hp} {D : Ends} {Q : VK} (w : W OO H) (s : S.p (hid H OO)) {f : α -> Rs β} (P : PZ Er (Fd D) (hid H OO) (m.bind f))
    (hk : ∀ a v C H', W (C :: OO') H' -> S.p (hid H' (C :: OO')) -> o K (hid H' (C :: OO')) v a C -> PZ Er (Fd D) (hid H' (C :: OO')) (f a) -> Q v H') : te σ H Q:=by
  refine he H Q w s ?_
  cases m with
  | bad=>exact P
  | err x=>exact λH' s'=>P H' (Xw.trans s')
  | ok a=>exact λv C H' s' w' m' ho=>hk a v C H' w' (S.mono _ _ m' s) ho (PZ.tr (fd.tr D) m' P)
theorem EvB.st {te : TE} {r : Enc α} {m : Rs α} (he : EvB K Er S OO σ te r m) {H : Hp} {D : Ends} {Q : VK} (w : W OO H) (s : S.p (hid H OO)) {f : α -> Rs β} (P : PZ Er (Fd D) (hid H OO) (m.bind f))
    (hk : ∀ a v H', XC H H' -> W OO H' -> S.p (hid H' OO) -> r K H' v a -> PZ Er (Fd D) (hid H' OO) (f a) -> Q v H') : te σ H Q:=by
  refine he H Q w s ?_
  cases m with
  | bad=>exact P
  | err x=>exact λH' s'=>P H' (Xw.trans s')
  | ok a=>exact λv H' s' hr=>hk a v H' s' (w.keep s') (S.mono _ _ (Xj s') s) hr (PZ.tr (fd.tr D) (Xj s') P)
theorem EvS.st {te : TE} {r : Enc α} {m : Rs α} (he : EvS K Er S OO σ te r m) {H : Hp} {D : Ends} {Q : VK} (w : W OO H) (s : S.p (hid H OO)) {f : α -> Rs β} (P : PZ Er (Fd D) (hid H OO) (m.bind f))
    (hk : ∀ a v H', XC H H' -> W OO H' -> S.p (hid H' OO) -> r K (hid H' OO) v a -> PZ Er (Fd D) (hid H' OO) (f a) -> Q v H') : te σ H Q:=by
  refine he H Q w s ?_
  cases m with
  | bad=>exact P
  | err x=>exact λH' s'=>P H' (Xw.trans s')
  | ok a=>exact λv H' s' hr=>hk a v H' s' (w.keep s') (S.mono _ _ (Xj s') s) hr (PZ.tr (fd.tr D) (Xj s') P)
theorem EvT.st {tt : TT} {m : Rs Bool} (he : EvT Er S OO σ tt m) {H : Hp} {D : Ends} {Q : Bool -> Hp -> Prop} (w : W OO H) (s : S.p (hid H OO)) {f : Bool -> Rs β} (P : PZ Er (Fd D) (hid H OO) (m.bind f))
    (hk : ∀ b H', W OO H' -> S.p (hid H' OO) -> PZ Er (Fd D) (hid H' OO) (f b) -> Q b H') : tt σ H Q:=by
  refine he H Q w s ?_
  cases m with
  | bad=>exact P
  | err x=>exact λH' s'=>P H' (Xw.trans s')
  | ok a=>exact λH' s'=>hk a H' (w.keep s') (S.mono _ _ (Xj s') s) (PZ.tr (fd.tr D) (Xj s') P)
theorem set_set {OO : List (List XG)} {k : Nat} {C : List XG} : (OO.set k C).set k [] = OO.set k []:=by simp
theorem L0 {C : List XG} {H : Hp} {k : Nat} (w : W (C :: OO) H) (hk : k < OO.length) : W (OO.set k C) H /\ XC (hid H (C :: OO)) (hid H (OO.set k C)):=by
  have h1:=X6 (OO:=OO) (k:=k) (C:=OO[k]) (by simp [hk])
  have h2:=X6 (OO:=OO.set k C) (k:=k) (C:=C) (by simp [hk])
  rw [set_set] at h2
  have h3 : (OO.set k C).flatten.Perm (C ++ (OO.set k []).flatten):=by simpa using h2.symm
  have h4 : (C :: OO).flatten.Perm (C ++ (OO[k] ++ (OO.set k []).flatten)):=by
    rw [List.flatten_cons]; exact (by simpa using h1.symm : OO.flatten.Perm (OO[k] ++ (OO.set k []).flatten)).append_left C
  have h5 : (C ++ (OO.set k []).flatten).Sublist (C ++ (OO[k] ++ (OO.set k []).flatten)):=List.Sublist.append (List.Sublist.refl _) (List.sublist_append_right _ _)
  have w1 : W [C ++ (OO[k] ++ (OO.set k []).flatten)] H:=w.of (by simpa using h4.symm)
  have w2 : W [C ++ (OO.set k []).flatten] H:=w1.sub (by simpa using h5)
  refine ⟨w2.of (by simpa using h3), QV (XC.refl _) λb hb=>?_⟩
  obtain ⟨o, ho⟩:=F9 hb
  exact JN (h4.mem_iff.mpr (h5.mem (h3.mem_iff.mp ho)))
theorem XN {te : TE} {o : OE α} [MonoO o] {m : Rs α} {f : α -> Rs β} (i k : Nat) (he : Ev K Er S OO OO' σ te o m) (hk : k < OO'.length) (hr : ∀ a v C, Sv Er (S.addO K o v a C) (OO'.set k C) (σ.set i (some v)) u Fd (f a)) : Sv Er S OO σ (QF (Bq te (Zd i)) u) Fd (m.bind f):=λH D w s P=>
  he.st w s P λa v C H' w' s' ho P'=>by
    obtain ⟨w2, h2⟩:=L0 w' hk
    exact hr a v C H' D w2 ⟨S.mono _ _ h2 s', MonoO.mono h2 ho⟩ (PZ.tr (fd.tr D) h2 P')
theorem Xv {te : TE} {r : Enc α} [MonoE r] {m : Rs α} {f : α -> Rs β} (i : Nat) (he : EvS K Er S OO σ te r m) (hr : ∀ a v, Sv Er (S.add K r v a) OO (σ.set i (some v)) u Fd (f a)) : Sv Er S OO σ (QF (Bq te (Zd i)) u) Fd (m.bind f):=λH D w s P=>
  he.st w s P λa v H' s1 w' s' ho P'=>hr a v H' D w' ⟨s', ho⟩ P'
theorem Xy {te : TE} {o : OE ρ} {m : Rs ρ} (he : Ev K Er S OO OO' σ te o m) : Sv Er S OO σ (QF (MH te) u) (FTd K o) m:=λH D w s P=>
  he H _ w s (by
    cases m with
    | bad=>exact P
    | err x=>exact λH' s'=>P H' (Xw.trans s')
    | ok a=>exact λv C H' s' w' m' ho=>P v C OO' H' w' m' ho)
theorem Q8 {J : Jn γ ι} {t : TS} {o : OE ρ} {m : Rs γ} (h : Sv Er S OO σ t (FNd J) m) : Sv Er S OO σ t (FCd K o J) (m.bind λr=>.ok (.nx r)):=λH D w s P=>h H D w s (by
  cases m with
  | bad=>exact P
  | err x=>exact P
  | ok a=>exact P)
theorem Xx {J : Jn γ ι} (x : ι) (g : γ) (h1 : OO = J.oo x) (h2 : σ = J.ss x) (h3 : ∀ h, S.p h -> (J.sc g x).p h) : Sv Er S OO σ GK (FNd J) (.ok g):=λH D w s P=>by
  subst h1 h2
  exact P x H w (XC.refl _) (h3 _ s)
theorem LO {t : TS} : Sv Er S OO σ t Fd .bad:=λH D w s P=>P.elim
theorem Qn {o : OE ρ} {c : TT} {t1 : TS} {mc : Rs Bool} {m1 m2 : Rs ρ} (hc : EvT Er S OO σ c mc) (h1 : Sv Er S OO σ t1 (FTd K o) m1) (h2 : Sv Er S OO σ u (FTd K o) m2) : Sv Er S OO σ (QF (LJ c t1 GK) u) (FTd K o) (mc.bind λb=>if b = true then m1 else m2):=λH D w s P=>
  hc.st (Fd:=FTd K o) w s P λb H' w' s' P'=>by
    cases b with
    | true=>rw [if_pos rfl] at P' ⊢; exact h1 H' _ w' s' P'
    | false=>exact h2 H' D w' s' P'
theorem ZU {o : OE ρ} {J : Jn γ ι} {c : TT} {t1 : TS} {mc : Rs Bool} {m1 : Rs ρ} {m2 : Rs (Ctl ρ γ)} (hc : EvT Er S OO σ c mc) (h1 : Sv Er S OO σ t1 (FTd K o) m1) (h2 : Sv Er S OO σ u (FCd K o J) m2) : Sv Er S OO σ (QF (LJ c t1 GK) u) (FCd K o J) (mc.bind λb=>if b = true then m1.bind (λr=>.ok (.ret r)) else m2):=λH D w s P=>
  hc.st (Fd:=FCd K o J) w s P λb H' w' s' P'=>by
    cases b with
    | true=>
      rw [if_pos rfl] at P' ⊢
      refine h1 H' _ w' s' ?_
      cases m1 with
      | bad=>exact P'
      | err x=>exact P'
      | ok a=>exact P'
    | false=>exact h2 H' D w' s' P'
theorem ZQ {c : TT} {t1 t2 : TS} {mc : Rs Bool} {m1 m2 : Rs β} (hc : EvT Er S OO σ c mc) (h1 : Sv Er S OO σ t1 Fd m1) (h2 : Sv Er S OO σ t2 Fd m2) : Sv Er S OO σ (LJ c t1 t2) Fd (mc.bind λb=>if b = true then m1 else m2):=λH D w s P=>
  hc.st w s P λb H' w' s' P'=>by
    cases b with
    | true=>rw [if_pos rfl] at P' ⊢; exact h1 H' _ w' s' P'
    | false=>exact h2 H' D w' s' P'
theorem Zf {J : Jn γ ι} {t : TS} {m : Rs γ} {f : γ -> Rs β} (hb : Sv Er S OO σ t (FNd J) m) (hr : ∀ g x, Sv Er (J.sc g x) (J.oo x) (J.ss x) u Fd (f g)) : Sv Er S OO σ (QF t u) Fd (m.bind f):=λH D w s P=>
  hb H _ w s (by
    cases m with
    | bad=>exact P
    | err x=>exact P
    | ok g=>exact λx H' w' m' q=>hr g x H' D w' q (PZ.tr (fd.tr D) m' P))
noncomputable def Qt (f : γ -> Rs ρ) : Ctl ρ γ -> Rs ρ
  | .ret r=>.ok r
  | .nx g=>f g
noncomputable def JR {δ : Type} (f : γ -> Rs (Ctl ρ δ)) : Ctl ρ γ -> Rs (Ctl ρ δ)
  | .ret r=>.ok (.ret r)
  | .nx g=>f g
theorem MV {C D C' : List XG} {H : Hp} {k : Nat} {p : Addr} {o : HO} (w : W (D :: OO) H) (hk : OO[k]? = some C) (hp : p ∈ C.map (·.1)) (hC : (C'.map (·.1)).Perm ((C ++ D).map (·.1))) (ht : ∀ c ∈ C', upd H p o c.1 = some c.2) (hm : ∀ c ∈ C', IE c.2 = true) :
    W (OO.set k C') (upd H p o) /\ hid (upd H p o) (OO.set k C') = hid H (D :: OO):=by
  have hlt : k < OO.length:=by
    rcases Nat.lt_or_ge k OO.length with h | h
    . exact h
    . rw [List.getElem?_eq_none h] at hk; cases hk
  have h1:=X6 hk
  have h2:=X6 (OO:=OO.set k C') (k:=k) (C:=C') (by simp [hlt])
  rw [set_set] at h2
  have h3 : (OO.set k C').flatten.Perm (C' ++ (OO.set k []).flatten):=by simpa using h2.symm
  have h4 : (D :: OO).flatten.Perm (D ++ (C ++ (OO.set k []).flatten)):=by
    rw [List.flatten_cons]; exact (by simpa using h1.symm : OO.flatten.Perm (C ++ (OO.set k []).flatten)).append_left D
  have hfl : (fl (OO.set k C')).Perm (fl (D :: OO)):=by
    unfold fl
    refine (h3.map _).trans (List.Perm.trans ?_ (h4.map _).symm)
    simp only [List.map_append]
    refine (hC.append_right _).trans ?_
    simp only [List.map_append]
    rw [← List.append_assoc]
    exact List.perm_append_comm.append_right _
  have nd:=w.nd
  refine ⟨⟨λc hc=>?_, hfl.nodup_iff.mpr nd, λc hc=>?_⟩, ?_⟩
  . rcases List.mem_append.mp (h3.mem_iff.mp hc) with hc | hc
    . exact ht c hc
    . have hne : c.1 ≠ p:=λe=>by
        have nd2 : ((D ++ (C ++ (OO.set k []).flatten)).map (·.1)).Nodup:=(h4.map _).nodup_iff.mp nd
        simp only [List.map_append] at nd2
        have nd3:=(List.nodup_append.mp nd2).2.1
        exact (List.nodup_append.mp nd3).2.2 p hp c.1 (List.mem_map.mpr ⟨c, hc, rfl⟩) e.symm
      rw [XD hne]
      exact w.tr c (h4.mem_iff.mpr (by simp [hc]))
  . rcases List.mem_append.mp (h3.mem_iff.mp hc) with hc | hc
    . exact hm c hc
    . exact w.mu c (h4.mem_iff.mpr (by simp [hc]))
  . funext b
    unfold hid
    by_cases hb : b ∈ fl (D :: OO)
    . rw [if_pos hb, if_pos (hfl.mem_iff.mpr hb)]
    . rw [if_neg hb, if_neg λz => hb (hfl.mem_iff.mp z)]
      refine XD λe=>hb ?_
      rw [e]
      obtain ⟨c, hc, rfl⟩:=List.mem_map.mp hp
      exact JN (h4.mem_iff.mpr (by simp [hc]))
theorem Z3 {Cs : List (List XG)} {D : List XG} : (Cs ++ [D]).flatten = Cs.flatten ++ D:=by simp
theorem Zr {ta : TE} {o : OE α} [MonoO o] {m : Rs α} {f : List α -> Rs β} {v : V} {as : List α} {C : List XG} (i k : Nat) (hσ : σ[i]? = some (some v)) (hk : OO[k]? = some C) (hk' : OO'[k]? = some C) (h : ∀ x, S.p x -> oL o K x v as C) (he : Ev K Er S OO OO' σ ta o m)
    (hr : ∀ a C', Sv Er (S.addO K (oL o) v (as ++ [a]) C') (OO'.set k C') σ u Fd (f (as ++ [a]))) : Sv Er S OO σ (QF (Ga (tBM K "list" UL (Uw i) (XQ ta Qs))) u) Fd (m.bind λa=>chk (as.length < sizeLine) (f (as ++ [a]))):=λH D w s P=>by
  obtain ⟨p, xs, Cs, e, q, c⟩:=h _ s
  subst c
  have hH : H p = some (.lst xs):=w.tr (p, .lst xs) (List.mem_flatten.mpr ⟨_, List.mem_of_getElem? hk, List.mem_cons_self⟩)
  refine ⟨v, hσ, by rw [e]; exact .inl ⟨rfl, _, SqL.of hH⟩, he.st w s P λa y D' H' w' s' ho P'=>?_⟩
  obtain ⟨p', xs', Cs', e2, q2, c2⟩:=h _ s'
  rw [e] at e2; cases e2
  have c3 : (p, HO.lst xs) = (p, HO.lst xs') /\ Cs.flatten = Cs'.flatten:=by
    injection c2 with h1 h2
    exact ⟨h1, h2⟩
  obtain ⟨c3, c4⟩:=c3
  cases c3
  have hH' : H' p = some (.lst xs):=w'.tr (p, .lst xs) (by rw [List.flatten_cons]; exact List.mem_append_right _ (List.mem_flatten.mpr ⟨_, List.mem_of_getElem? hk', List.mem_cons_self⟩))
  cases hlt : decide (as.length < sizeLine) with
  | false=>rw [chk, if_neg (by simpa using hlt)] at P'; exact P'.elim
  | true=>
    have hlt' : as.length < sizeLine:=by simpa using hlt
    rw [XB hlt'] at P'
    have wnd:=w'.nd
    have hcell : ∀ c ∈ (p, HO.lst (xs ++ [y])) :: (Cs' ++ [D']).flatten, upd H' p (.lst (xs ++ [y])) c.1 = some c.2:=λc hc=>by
      rcases List.mem_cons.mp hc with rfl | hc
      . exact YA
      . have hp1 := X6 hk'
        have w3 : W [D' ++ (((p, HO.lst xs) :: Cs.flatten) ++ (OO'.set k []).flatten)] H':=w'.of (by
          simp only [List.flatten_cons, List.flatten_nil, List.append_nil]
          exact (by simpa using hp1 : (((p, HO.lst xs) :: Cs.flatten) ++ (OO'.set k []).flatten).Perm OO'.flatten).append_left D')
        have hin : c ∈ D' ++ (((p, HO.lst xs) :: Cs.flatten) ++ (OO'.set k []).flatten):=by
          rw [Z3, List.mem_append] at hc
          rcases hc with hc | hc
          . rw [← c4] at hc; simp [hc]
          . simp [hc]
        have hne : c.1 ≠ p:=λee=>by
          have nd3:=w3.nd
          rw [Z3, List.mem_append, ← c4] at hc
          simp only [fl, List.flatten_cons, List.flatten_nil, List.append_nil, List.map_append, List.cons_append, List.map_cons] at nd3
          rw [List.nodup_append] at nd3
          obtain ⟨_, n2, n3⟩:=nd3
          rcases hc with hc | hc
          . exact (List.nodup_cons.mp n2).1 (List.mem_append_left _ (List.mem_map.mpr ⟨c, hc, ee⟩))
          . exact n3 c.1 (List.mem_map.mpr ⟨c, hc, rfl⟩) p List.mem_cons_self ee
        rw [XD hne]
        exact w3.tr c (by simpa using hin)
    obtain ⟨w4, h4⟩:=MV (C':=(p, .lst (xs ++ [y])) :: (Cs' ++ [D']).flatten) w' hk' List.mem_cons_self (by simp [Z3, c4]) hcell (λc hc=>by
      rcases List.mem_cons.mp hc with rfl | hc
      . rfl
      . rw [Z3, List.mem_append, ← c4] at hc
        rcases hc with hc | hc
        . exact w'.mu c (by rw [List.flatten_cons]; exact List.mem_append_right _ (List.mem_flatten.mpr ⟨_, List.mem_of_getElem? hk', List.mem_cons_of_mem _ hc⟩))
        . exact w'.mu c (by rw [List.flatten_cons]; exact List.mem_append_left _ hc))
    refine ⟨p, xs, y, e, rfl, hH', by rw [(P3.len q).1]; exact hlt', ?_⟩
    refine hr a _ _ D w4 ?_ (by rw [h4]; exact P')
    rw [h4]
    exact ⟨s', ⟨p, xs ++ [y], Cs' ++ [D'], e, q2.snoc ho, rfl⟩⟩
end
section
variable {K : PySem.W.Frag} {Er : Exc -> Hp -> Prop} {S : SC} {OO OO' OO2 : List (List XG)} {σ : St} {α β γ ρ ι δ ε : Type}
variable {Fd : Ends -> β -> Hp -> Prop} [fd : FdOk Fd] {u : TS}
noncomputable def forN : List α -> γ -> (γ -> α -> Rs γ) -> Rs γ
  | [], g, _=>.ok g
  | a :: as, g, f=>(f g a).bind λg'=>forN as g' f
noncomputable def V5 : List α -> γ -> (γ -> α -> Rs (Ctl ρ γ)) -> Rs (Ctl ρ γ)
  | [], g, _=>.ok (.nx g)
  | a :: as, g, f=>(f g a).bind λc=>match c with
    | .ret r=>.ok (.ret r)
    | .nx g'=>V5 as g' f
theorem XY {m : Rs α} {f : α -> Rs β} {g : β -> Rs γ} : (m.bind f).bind g = m.bind λa=>(f a).bind g:=by cases m <;> rfl
structure Tgt (K : PySem.W.Frag) (OO : List (List XG)) (g : TG) (r : Enc α) (κ : Type) where
  set : κ -> St -> St
  sc : α -> κ -> SC -> SC
  ok : ∀ {H : Hp} {v : V} {a : α} {σ : St} {S : SC} {Q : St -> Hp -> Prop}, r K (hid H OO) v a -> S.p (hid H OO) -> (∀ x, (sc a x S).p (hid H OO) -> Q (set x σ) H) -> g v σ H Q
noncomputable def tg1 {r : Enc α} [MonoE r] (i : Nat) : Tgt K OO (Zd i) r V where
  set:=λv σ=>σ.set i (some v)
  sc:=λa v S=>S.add K r v a
  ok:=fun {H v a σ S Q} hr hs hq=>hq v ⟨hs, hr⟩
noncomputable def tg2 {r : Enc α} {q : Enc β} [MonoE r] [MonoE q] (i j : Nat) : Tgt K OO (EV K 2 (Qr (Zd i) (Qr (Zd j) Ic))) (rP2 r q) (V × V) where
  set:=λv σ=>(σ.set i (some v.1)).set j (some v.2)
  sc:=λa v S=>(S.add K r v.1 a.1).add K q v.2 a.2
  ok:=fun {H v a σ S Q} r9 hs hq=>by obtain ⟨p, x, y, e, h, h1, h2⟩:=r9; exact ⟨p, _, e, SqT.of (Xw _ _ h), rfl, x, [y], rfl, y, [], rfl, rfl, hq (x, y) ⟨⟨hs, h1⟩, h2⟩⟩
noncomputable def tg3 {r : Enc α} {q : Enc β} {t : Enc γ} [MonoE r] [MonoE q] [MonoE t] (i j k : Nat) : Tgt K OO (EV K 3 (Qr (Zd i) (Qr (Zd j) (Qr (Zd k) Ic)))) (rP3 r q t) (V × V × V) where
  set:=λv σ=>((σ.set i (some v.1)).set j (some v.2.1)).set k (some v.2.2)
  sc:=λa v S=>((S.add K r v.1 a.1).add K q v.2.1 a.2.1).add K t v.2.2 a.2.2
  ok:=fun {H v a σ S Q} r9 hs hq=>by obtain ⟨p, x, y, z, e, h, h1, h2, h3⟩:=r9; exact ⟨p, _, e, SqT.of (Xw _ _ h), rfl, x, [y, z], rfl, y, [z], rfl, z, [], rfl, rfl, hq (x, y, z) ⟨⟨⟨hs, h1⟩, h2⟩, h3⟩⟩
structure Walk (K : PySem.W.Frag) (Er : Exc -> Hp -> Prop) (S : SC) (OO : List (List XG)) (σ : St) (wi : TI) (r : Enc α) (m : Rs (List α)) : Prop where
  ok : ∀ {H : Hp} {R : It -> Hp -> Prop}, W OO H -> S.p (hid H OO) -> PZ Er (λas H=>∀ J H', XC H H' ->
      (∀ (i : Nat) a, as[i]? = some a -> ∀ OO2 H2, W OO2 H2 -> XC (hid H' OO) (hid H2 OO2) -> J.go i H2 /\ ∀ x H3, J.yld i H2 x H3 -> XC H2 H3 /\ r K (hid H3 OO2) x a) ->
      (∀ OO2 H2, W OO2 H2 -> XC (hid H' OO) (hid H2 OO2) -> J.stop as.length H2) -> R J H') H m -> wi σ H R
theorem XF {te : TE} {r : Enc α} [z : MonoE r] {m : Rs (List α)} (he : EvS K Er S OO σ te (rV r) m) : Walk K Er S OO σ (DW K te) r m:=⟨fun {H R} w s P=>by
  refine he H _ w s (P.imp λas _ h v H' s' ⟨p, xs, e, hp, pr⟩=>⟨p, e, ⟨xs, SqL.of (Xw _ _ hp)⟩, h _ H' s' ?_ ?_⟩)
  . intro i a ha OO2 H2 w2 m2
    obtain ⟨x, hx, rx⟩:=Paired.getR pr ha
    have hq : SqL K H2 p xs:=SqL.of (Xw _ _ (m2 _ _ hp))
    refine ⟨⟨xs, x, hq, hx⟩, λy H3 r9=>?_⟩
    obtain ⟨e3, hy⟩:=r9
    subst e3
    refine ⟨XC.refl _, ?_⟩
    have:=hy xs hq
    rw [hx] at this
    cases this
    exact z.mono m2 rx
  . intro OO2 H2 w2 m2
    exact ⟨xs, SqL.of (Xw _ _ (m2 _ _ hp)), by rw [Paired.len pr]; exact Nat.le_refl _⟩⟩
noncomputable def Jx (as : List α) : List (Int × α):=(List.range as.length).map (λ(i : Nat)=>(i : Int)) |>.zip as
theorem Vt {as : List α} {i : Nat} {p : Int × α} (h : (Jx as)[i]? = some p) : p.1 = (i : Int) /\ as[i]? = some p.2:=by
  unfold Jx at h
  rw [List.getElem?_zip_eq_some] at h
  obtain ⟨h1, h2⟩:=h
  rw [List.getElem?_map] at h1
  have hlt : i < as.length:=by
    rcases Nat.lt_or_ge i as.length with q | q
    . exact q
    . rw [List.getElem?_eq_none q] at h2; cases h2
  rw [List.getElem?_range hlt] at h1
  exact ⟨(Option.some.inj h1).symm, h2⟩
theorem DM {as : List α} : (Jx as).length = as.length:=by simp [Jx]
theorem K0 {te : TE} {r : Enc α} [z : MonoE r] {m : Rs (List α)} (he : EvS K Er S OO σ te (rV r) m) : Walk K Er S OO σ (LU K te) (rP2 Xa r) (m.bind λas=>.ok (Jx as)):=⟨fun {H R} w s P=>by
  refine he H _ w s ?_
  cases em : m with
  | bad=>rw [em] at P; exact P
  | err x=>rw [em] at P; exact P
  | ok as=>
    rw [em] at P
    intro v H' s' ⟨p, xs, e, hp, pr⟩
    refine ⟨p, e, ⟨xs, SqL.of (Xw _ _ hp)⟩, P _ H' s' ?_ ?_⟩
    . intro i a ha OO2 H2 w2 m2
      obtain ⟨ha1, ha2⟩:=Vt ha
      obtain ⟨x, hx, rx⟩:=Paired.getR pr ha2
      have hq : SqL K H2 p xs:=SqL.of (Xw _ _ (m2 _ _ hp))
      refine ⟨⟨xs, x, hq, hx⟩, λy H3 h3=>?_⟩
      obtain ⟨b, x', rfl, hb, rfl, hy⟩:=h3
      have:=hy xs hq
      rw [hx] at this
      cases this
      refine ⟨XJ hb _, ⟨b, .int i, x, rfl, ZO w2 hb, by show V.int _ = V.int _; rw [ha1], z.mono (m2.trans (Xj (XJ hb _))) rx⟩⟩
    . intro OO2 H2 w2 m2
      exact ⟨xs, SqL.of (Xw _ _ (m2 _ _ hp)), by rw [DM, Paired.len pr]; exact Nat.le_refl _⟩⟩
theorem Uq {lo hi : Int} {i : Nat} {a : Int} (h : (Qw lo hi)[i]? = some a) : a = lo + i /\ i < (hi - lo).toNat:=by
  unfold Qw at h
  rw [List.getElem?_map] at h
  rcases Nat.lt_or_ge i (hi - lo).toNat with q | q
  . rw [List.getElem?_range q] at h; exact ⟨(Option.some.inj h).symm, q⟩
  . rw [List.getElem?_eq_none (by simpa using q)] at h; cases h
theorem Ul {lo hi : Int} : (Qw lo hi).length = (hi - lo).toNat:=by simp [Qw]
noncomputable def JX (lo hi : Int) : Rs (List Int):=chk (-(2 ^ 62) <= lo /\ lo < 2 ^ 62 /\ -(2 ^ 62) <= hi /\ hi < 2 ^ 62) (.ok (Qw lo hi))
theorem XL {te : TE} {m : Rs Int} (he : EvB K Er S OO σ te Xa m) : Walk K Er S OO σ (Lr (XQ te Qs)) Xa (m.bind λn=>JX 0 n):=⟨fun {H R} w s P=>
  he.run w s (λas H H' s' h J H2 s2=>h J H2 (s'.trans s2)) P λn v H1 s1 w1 q1 r1 P1=>by
    obtain ⟨c, hc, P2⟩:=P1.okOf λx=>Qo
    obtain ⟨⟨_, _, h1, h2⟩, h3⟩:=Zm hc
    cases h3
    refine ⟨n, by rw [show v = .int n from r1], h1, h2, P2 _ H1 (XC.refl _) (λi a ha OO2 H2 w2 m2=>?_) λOO2 H2 w2 m2=>?_⟩
    . obtain ⟨e1, e2⟩ := Uq ha
      rw [Int.sub_zero] at e2
      refine ⟨e2, λx H3 r9=>?_⟩
      obtain ⟨e3, e4⟩:=r9
      subst e3
      exact ⟨XC.refl _, by rw [e4, e1]; rfl⟩
    . show n.toNat <= _
      rw [Ul, Int.sub_zero]; exact Nat.le_refl _⟩
theorem Gs {ta tb : TE} {ma mb : Rs Int} (ha : EvB K Er S OO σ ta Xa ma) (hb : EvB K Er S OO σ tb Xa mb) : Walk K Er S OO σ (Ln (XQ ta (XQ tb Qs))) Xa (ma.bind λlo=>mb.bind λn=>JX lo n):=⟨fun {H R} w s P=>
  ha.run w s (λas H H' s' h J H2 s2=>h J H2 (s'.trans s2)) P λlo v H1 s1 w1 q1 r1 P1=>hb.run w1 q1 (λas H H' s' h J H2 s2=>h J H2 (s'.trans s2)) P1 λn v2 H2 s2 w2 q2 r2 P2'=>by
    obtain ⟨c, hc, P2⟩:=P2'.okOf λx=>Qo
    obtain ⟨h1, h3⟩:=Zm hc
    cases h3
    refine ⟨lo, n, by rw [show v = .int lo from r1, show v2 = .int n from r2], h1, P2 _ H2 (XC.refl _) (λi a ha OO2 H3 w3 m3=>?_) λOO2 H3 w3 m3=>?_⟩
    . obtain ⟨e1, e2⟩ := Uq ha
      refine ⟨e2, λx H4 r9=>?_⟩
      obtain ⟨e3, e4⟩:=r9
      subst e3
      exact ⟨XC.refl _, by rw [e4, e1]; rfl⟩
    . show (n - lo).toNat <= _
      rw [Ul]; exact Nat.le_refl _⟩
theorem YV {wi : TI} {g : TG} {tb : TS} {r : Enc α} {κ : Type} {m : Rs (List α)} {body : γ -> α -> Rs γ} {f : γ -> Rs β} (J : Jn γ ι) (T : ∀ OO, Tgt K OO g r κ) (x0 : ι) (g0 : γ) (he : Walk K Er S OO σ wi r m) (h1 : OO = J.oo x0) (h2 : σ = J.ss x0) (h3 : ∀ h, S.p h -> (J.sc g0 x0).p h)
    (hb : ∀ g x a v, Sv Er ((T (J.oo x)).sc a v (J.sc g x)) (J.oo x) ((T (J.oo x)).set v (J.ss x)) tb (FNd J) (body g a))
    (hr : ∀ g x, Sv Er (J.sc g x) (J.oo x) (J.ss x) u Fd (f g)) : Sv Er S OO σ (QF (Iz wi g tb) u) Fd (m.bind λas=>(forN as g0 body).bind f):=λH D w s P=>by
  refine he.ok w s ?_
  cases em : m with
  | bad=>rw [em] at P; exact P
  | err x=>rw [em] at P; exact λH' s'=>P H' (Xw.trans s')
  | ok as=>
    rw [em] at P
    have P : PZ Er (Fd D) (hid H OO) ((forN as g0 body).bind f):=P
    intro It H' s' hgo hstop
    refine ⟨λi mm σ' H2=>mm = as.length - i /\ i <= as.length /\ ∃ x gg, σ' = J.ss x /\ W (J.oo x) H2 /\ XC (hid H' OO) (hid H2 (J.oo x)) /\ (J.sc gg x).p (hid H2 (J.oo x)) /\ PZ Er (Fd D) (hid H2 (J.oo x)) ((forN (as.drop i) gg body).bind f), ⟨as.length, rfl, Nat.zero_le _, x0, g0, h2, ?_, ?_, ?_, ?_⟩, ?_⟩
    . rw [← h1]; exact w.keep s'
    . rw [← h1]; exact XC.refl _
    . rw [← h1]; exact h3 _ (S.mono _ _ (Xj s') s)
    . rw [← h1, List.drop_zero]; exact PZ.tr (fd.tr D) (Xj s') P
    . rintro i mm σ' H2 ⟨rfl, hi, x, gg, rfl, w2, m2, sc2, P2⟩
      by_cases hlt : i < as.length
      . right
        have ha : as[i]? = some as[i]:=by simp [hlt]
        obtain ⟨h4, h5⟩:=hgo i _ ha (J.oo x) H2 w2 m2
        refine ⟨h4, λσ3 H3=>∃ x gg, σ3 = J.ss x /\ W (J.oo x) H3 /\ XC (hid H' OO) (hid H3 (J.oo x)) /\ (J.sc gg x).p (hid H3 (J.oo x)) /\ PZ Er (Fd D) (hid H3 (J.oo x)) ((forN (as.drop (i + 1)) gg body).bind f), λσ3 H3 q=>⟨as.length - (i + 1), Nat.sub_lt_sub_left hlt (Nat.lt_succ_self i), rfl, hlt, q⟩, λy H3 hy=>?_⟩
        obtain ⟨s3, r3⟩:=h5 y H3 hy
        have w3:=w2.keep s3
        have m3:=Xj (OO:=J.oo x) s3
        refine (T (J.oo x)).ok r3 ((J.sc gg x).mono _ _ m3 sc2) λv hv=>hb gg x as[i] v H3 _ w3 hv ?_
        rw [List.drop_eq_getElem_cons hlt] at P2
        have P3 : PZ Er (Fd D) (hid H2 (J.oo x)) ((body gg as[i]).bind λg'=>(forN (as.drop (i + 1)) g' body).bind f):=by rw [← XY]; exact P2
        cases eb : body gg as[i] with
        | bad=>rw [eb] at P3; exact P3
        | err x=>rw [eb] at P3; exact λH4 s4=>P3 H4 (m3.trans s4)
        | ok g'=>
          rw [eb] at P3
          exact λx' H4 w4 m4 sc4=>⟨x', g', rfl, w4, m2.trans (m3.trans m4), sc4, PZ.tr (fd.tr D) (m3.trans m4) P3⟩
      . left
        have e : i = as.length:=Nat.le_antisymm hi (Nat.not_lt.mp hlt)
        subst e
        refine ⟨hstop (J.oo x) H2 w2 m2, hr gg x H2 D w2 sc2 ?_⟩
        rw [List.drop_length] at P2
        exact P2
theorem JD {o : OE ρ} {wi : TI} {g : TG} {tb : TS} {r : Enc α} {κ : Type} {m : Rs (List α)} {body : γ -> α -> Rs (Ctl ρ γ)} {f : γ -> Rs ρ} (J : Jn γ ι) (T : ∀ OO, Tgt K OO g r κ) (x0 : ι) (g0 : γ) (he : Walk K Er S OO σ wi r m) (h1 : OO = J.oo x0) (h2 : σ = J.ss x0) (h3 : ∀ h, S.p h -> (J.sc g0 x0).p h)
    (hb : ∀ g x a v, Sv Er ((T (J.oo x)).sc a v (J.sc g x)) (J.oo x) ((T (J.oo x)).set v (J.ss x)) tb (FCd K o J) (body g a))
    (hr : ∀ g x, Sv Er (J.sc g x) (J.oo x) (J.ss x) u (FTd K o) (f g)) : Sv Er S OO σ (QF (Iz wi g tb) u) (FTd K o) (m.bind λas=>(V5 as g0 body).bind (Qt f)):=λH D w s P=>by
  refine he.ok w s ?_
  cases em : m with
  | bad=>rw [em] at P; exact P
  | err x=>rw [em] at P; exact λH' s'=>P H' (Xw.trans s')
  | ok as=>
    rw [em] at P
    have P : PZ Er (FTd K o D) (hid H OO) ((V5 as g0 body).bind (Qt f)):=P
    intro It H' s' hgo hstop
    refine ⟨λi mm σ' H2=>mm = as.length - i /\ i <= as.length /\ ∃ x gg, σ' = J.ss x /\ W (J.oo x) H2 /\ XC (hid H' OO) (hid H2 (J.oo x)) /\ (J.sc gg x).p (hid H2 (J.oo x)) /\ PZ Er (FTd K o D) (hid H2 (J.oo x)) ((V5 (as.drop i) gg body).bind (Qt f)), ⟨as.length, rfl, Nat.zero_le _, x0, g0, h2, ?_, ?_, ?_, ?_⟩, ?_⟩
    . rw [← h1]; exact w.keep s'
    . rw [← h1]; exact XC.refl _
    . rw [← h1]; exact h3 _ (S.mono _ _ (Xj s') s)
    . rw [← h1, List.drop_zero]; exact PZ.tr (FdOk.tr D) (Xj s') P
    . rintro i mm σ' H2 ⟨rfl, hi, x, gg, rfl, w2, m2, sc2, P2⟩
      by_cases hlt : i < as.length
      . right
        have ha : as[i]? = some as[i]:=by simp [hlt]
        obtain ⟨h4, h5⟩:=hgo i _ ha (J.oo x) H2 w2 m2
        refine ⟨h4, λσ3 H3=>∃ x gg, σ3 = J.ss x /\ W (J.oo x) H3 /\ XC (hid H' OO) (hid H3 (J.oo x)) /\ (J.sc gg x).p (hid H3 (J.oo x)) /\ PZ Er (FTd K o D) (hid H3 (J.oo x)) ((V5 (as.drop (i + 1)) gg body).bind (Qt f)), λσ3 H3 q=>⟨as.length - (i + 1), Nat.sub_lt_sub_left hlt (Nat.lt_succ_self i), rfl, hlt, q⟩, λy H3 hy=>?_⟩
        obtain ⟨s3, r3⟩:=h5 y H3 hy
        have w3:=w2.keep s3
        have m3:=Xj (OO:=J.oo x) s3
        refine (T (J.oo x)).ok r3 ((J.sc gg x).mono _ _ m3 sc2) λv hv=>hb gg x as[i] v H3 _ w3 hv ?_
        rw [List.drop_eq_getElem_cons hlt] at P2
        have P3 : PZ Er (FTd K o D) (hid H2 (J.oo x)) ((body gg as[i]).bind λc=>(match c with
          | .ret r=>Rs.ok (Ctl.ret r)
          | .nx g'=>V5 (as.drop (i + 1)) g' body).bind (Qt f)):=by rw [← XY]; exact P2
        cases eb : body gg as[i] with
        | bad=>rw [eb] at P3; exact P3
        | err x=>rw [eb] at P3; exact λH4 s4=>P3 H4 (m3.trans s4)
        | ok c=>
          rw [eb] at P3
          cases c with
          | ret r=>exact FdOk.tr (Fd:=FTd K o) D r _ _ m3 P3
          | nx g'=>exact λx' H4 w4 m4 sc4=>⟨x', g', rfl, w4, m2.trans (m3.trans m4), sc4, PZ.tr (FdOk.tr D) (m3.trans m4) P3⟩
      . left
        have e : i = as.length:=Nat.le_antisymm hi (Nat.not_lt.mp hlt)
        subst e
        refine ⟨hstop (J.oo x) H2 w2 m2, hr gg x H2 D w2 sc2 ?_⟩
        rw [List.drop_length] at P2
        exact P2
theorem GV {κ2 : Type} {o : OE ρ} {J2 : Jn δ κ2} {wi : TI} {g : TG} {tb : TS} {r : Enc α} {κ : Type} {m : Rs (List α)} {body : γ -> α -> Rs (Ctl ρ γ)} {f : γ -> Rs (Ctl ρ δ)} (J : Jn γ ι) (T : ∀ OO, Tgt K OO g r κ) (x0 : ι) (g0 : γ) (he : Walk K Er S OO σ wi r m) (h1 : OO = J.oo x0) (h2 : σ = J.ss x0) (h3 : ∀ h, S.p h -> (J.sc g0 x0).p h)
    (hb : ∀ g x a v, Sv Er ((T (J.oo x)).sc a v (J.sc g x)) (J.oo x) ((T (J.oo x)).set v (J.ss x)) tb (FCd K o J) (body g a))
    (hr : ∀ g x, Sv Er (J.sc g x) (J.oo x) (J.ss x) u (FCd K o J2) (f g)) : Sv Er S OO σ (QF (Iz wi g tb) u) (FCd K o J2) (m.bind λas=>(V5 as g0 body).bind (JR f)):=λH D w s P=>by
  refine he.ok w s ?_
  cases em : m with
  | bad=>rw [em] at P; exact P
  | err x=>rw [em] at P; exact λH' s'=>P H' (Xw.trans s')
  | ok as=>
    rw [em] at P
    have P : PZ Er (FCd K o J2 D) (hid H OO) ((V5 as g0 body).bind (JR f)):=P
    intro It H' s' hgo hstop
    refine ⟨λi mm σ' H2=>mm = as.length - i /\ i <= as.length /\ ∃ x gg, σ' = J.ss x /\ W (J.oo x) H2 /\ XC (hid H' OO) (hid H2 (J.oo x)) /\ (J.sc gg x).p (hid H2 (J.oo x)) /\ PZ Er (FCd K o J2 D) (hid H2 (J.oo x)) ((V5 (as.drop i) gg body).bind (JR f)), ⟨as.length, rfl, Nat.zero_le _, x0, g0, h2, ?_, ?_, ?_, ?_⟩, ?_⟩
    . rw [← h1]; exact w.keep s'
    . rw [← h1]; exact XC.refl _
    . rw [← h1]; exact h3 _ (S.mono _ _ (Xj s') s)
    . rw [← h1, List.drop_zero]; exact PZ.tr (FdOk.tr D) (Xj s') P
    . rintro i mm σ' H2 ⟨rfl, hi, x, gg, rfl, w2, m2, sc2, P2⟩
      by_cases hlt : i < as.length
      . right
        have ha : as[i]? = some as[i]:=by simp [hlt]
        obtain ⟨h4, h5⟩:=hgo i _ ha (J.oo x) H2 w2 m2
        refine ⟨h4, λσ3 H3=>∃ x gg, σ3 = J.ss x /\ W (J.oo x) H3 /\ XC (hid H' OO) (hid H3 (J.oo x)) /\ (J.sc gg x).p (hid H3 (J.oo x)) /\ PZ Er (FCd K o J2 D) (hid H3 (J.oo x)) ((V5 (as.drop (i + 1)) gg body).bind (JR f)), λσ3 H3 q=>⟨as.length - (i + 1), Nat.sub_lt_sub_left hlt (Nat.lt_succ_self i), rfl, hlt, q⟩, λy H3 hy=>?_⟩
        obtain ⟨s3, r3⟩:=h5 y H3 hy
        have w3:=w2.keep s3
        have m3:=Xj (OO:=J.oo x) s3
        refine (T (J.oo x)).ok r3 ((J.sc gg x).mono _ _ m3 sc2) λv hv=>hb gg x as[i] v H3 _ w3 hv ?_
        rw [List.drop_eq_getElem_cons hlt] at P2
        have P3 : PZ Er (FCd K o J2 D) (hid H2 (J.oo x)) ((body gg as[i]).bind λc=>(match c with
          | .ret r=>Rs.ok (Ctl.ret r)
          | .nx g'=>V5 (as.drop (i + 1)) g' body).bind (JR f)):=by rw [← XY]; exact P2
        cases eb : body gg as[i] with
        | bad=>rw [eb] at P3; exact P3
        | err x=>rw [eb] at P3; exact λH4 s4=>P3 H4 (m3.trans s4)
        | ok c=>
          rw [eb] at P3
          cases c with
          | ret r=>exact FdOk.tr (Fd:=FTd K o) D r _ _ m3 P3
          | nx g'=>exact λx' H4 w4 m4 sc4=>⟨x', g', rfl, w4, m2.trans (m3.trans m4), sc4, PZ.tr (FdOk.tr D) (m3.trans m4) P3⟩
      . left
        have e : i = as.length:=Nat.le_antisymm hi (Nat.not_lt.mp hlt)
        subst e
        refine ⟨hstop (J.oo x) H2 w2 m2, hr gg x H2 D w2 sc2 ?_⟩
        rw [List.drop_length] at P2
        exact P2
noncomputable def Qp : Nat -> γ -> (γ -> Rs Bool) -> (γ -> Rs γ) -> Rs γ
  | 0, _, _, _=>.bad
  | n + 1, g, c, f=>(c g).bind λb=>if b = true then (f g).bind λg'=>Qp n g' c f else .ok g
theorem U3 {c : TT} {tb : TS} {mc : γ -> Rs Bool} {body : γ -> Rs γ} {f : γ -> Rs β} (J : Jn γ ι) (n : Nat) (x0 : ι) (g0 : γ) (h1 : OO = J.oo x0) (h2 : σ = J.ss x0) (h3 : ∀ h, S.p h -> (J.sc g0 x0).p h)
    (hc : ∀ g x, EvT Er (J.sc g x) (J.oo x) (J.ss x) c (mc g)) (hb : ∀ g x, Sv Er (J.sc g x) (J.oo x) (J.ss x) tb (FNd J) (body g))
    (hr : ∀ g x, Sv Er (J.sc g x) (J.oo x) (J.ss x) u Fd (f g)) : Sv Er S OO σ (QF (Ba c tb) u) Fd ((Qp n g0 mc body).bind f):=λH D w s P=>by
  refine ⟨λmm σ' H2=>∃ x gg, σ' = J.ss x /\ W (J.oo x) H2 /\ (J.sc gg x).p (hid H2 (J.oo x)) /\ PZ Er (Fd D) (hid H2 (J.oo x)) ((Qp mm gg mc body).bind f), ⟨n, x0, g0, h2, by rw [← h1]; exact w, by rw [← h1]; exact h3 _ s, by rw [← h1]; exact P⟩, ?_⟩
  rintro mm σ' H2 ⟨x, gg, rfl, w2, sc2, P2⟩
  cases mm with
  | zero=>exact P2.elim
  | succ mm=>
    have P3 : PZ Er (Fd D) (hid H2 (J.oo x)) ((mc gg).bind λb=>(if b = true then (body gg).bind λg'=>Qp mm g' mc body else .ok gg).bind f):=by rw [← XY]; exact P2
    refine (hc gg x).st w2 sc2 P3 λb H3 w3 sc3 P4=>?_
    cases b with
    | false=>exact hr gg x H3 D w3 sc3 P4
    | true=>
      rw [if_pos rfl] at P4 ⊢
      refine ⟨λσ3 H4=>∃ x gg, σ3 = J.ss x /\ W (J.oo x) H4 /\ (J.sc gg x).p (hid H4 (J.oo x)) /\ PZ Er (Fd D) (hid H4 (J.oo x)) ((Qp mm gg mc body).bind f), λσ3 H4 q=>⟨mm, Nat.lt_succ_self _, q⟩, hb gg x H3 _ w3 sc3 ?_⟩
      rw [XY] at P4
      cases eb : body gg with
      | bad=>rw [eb] at P4; exact P4
      | err x=>rw [eb] at P4; exact P4
      | ok g'=>
        rw [eb] at P4
        exact λx' H5 w5 m5 sc5=>⟨x', g', rfl, w5, sc5, PZ.tr (fd.tr D) m5 P4⟩
noncomputable def F3 (as : List α) (f : α -> Rs β) : Rs (List β):=match as with
  | []=>.ok []
  | a :: as=>(f a).bind λb=>(F3 as f).bind λbs=>.ok (b :: bs)
noncomputable def J9 (as : List α) (f : α -> Rs β) : Rs (List β):=chk (as.length <= sizeLine) (F3 as f)
noncomputable def G1 (as : List α) (c : α -> Rs Bool) (f : α -> Rs β) : Rs (List β):=match as with
  | []=>.ok []
  | a :: as=>(c a).bind λb=>if b = true then (f a).bind λb=>(G1 as c f).bind λbs=>.ok (b :: bs) else G1 as c f
noncomputable def Bp (as : List α) (c : α -> Rs Bool) (f : α -> Rs β) : Rs (List β):=chk (as.length <= sizeLine) (G1 as c f)
theorem PZ.chk {F : β -> Hp -> Prop} {H : Hp} {c : Prop} [Decidable c] {m : Rs β} (P : PZ Er F H (chk c m)) : c /\ PZ Er F H m:=by
  unfold L2.chk at P; split at P
  . exact ⟨by assumption, P⟩
  . exact P.elim
theorem IG {o : OE α} [z : MonoO o] {xs : List V} {as : List α} {Cs : List (List XG)} {H H0 : Hp} {Q : VK} (w : W (Cs.flatten :: OO) H) (m0 : XC (hid H0 OO) (hid H (Cs.flatten :: OO))) (s0 : XC H0 H) (pr : P3 (o K (hid H (Cs.flatten :: OO))) xs as Cs) (P : FO K OO OO (oL o) Q as H0) : ∀ p, H p = none -> Q (.ref p) (upd H p (.lst xs)):=λp hp=>by
  have hn:=QX (OO:=Cs.flatten :: OO) hp (o:=.lst xs)
  have wn:=w.new hp (o:=.lst xs) rfl
  have pe : (((p, HO.lst xs) :: Cs.flatten) :: OO).flatten.Perm ([(p, HO.lst xs)] :: Cs.flatten :: OO).flatten:=by simp
  refine P (.ref p) ((p, .lst xs) :: Cs.flatten) _ (s0.trans (XJ hp _)) (wn.of pe) ?_ ?_
  . rw [X5 pe]; exact m0.trans hn
  . rw [X5 pe]
    exact ⟨p, xs, Cs, rfl, pr.imp λ_ _ _ h=>z.mono hn h, rfl⟩
theorem Y9 {o : OE β} [z : MonoO o] {wi : TI} {g : TG} {te : TE} {r : Enc α} {κ : Type} {m : Rs (List α)} {f : α -> Rs β} {n : Nat} {caps : List (Nat × Str)} (T : ∀ OO, Tgt K OO g r κ) (he : Walk K Er S OO σ wi r m)
    (hb : ∀ C a v, Ev K Er ((T (C :: OO)).sc a v S) (C :: OO) (C :: OO) ((T (C :: OO)).set v (Q5 n caps σ)) te o (f a)) : Ev K Er S OO OO σ (Cm n caps wi g Uv te) (oL o) (m.bind λas=>J9 as f):=λH Q w s P=>by
  refine he.ok w s ?_
  cases em : m with
  | bad=>rw [em] at P; exact P
  | err x=>rw [em] at P; exact P
  | ok as=>
    rw [em] at P
    obtain ⟨hsz, P⟩:=PZ.chk (show PZ Er _ H (chk (as.length <= sizeLine) (F3 as f)) from P)
    intro It H' s' hgo hstop
    -- what is left: the rest of the items, then all
    refine ⟨λi mm ys H2=>mm = as.length - i /\ i <= as.length /\ ∃ bs Cs, XC H H2 /\ W (Cs.flatten :: OO) H2 /\ XC (hid H' OO) (hid H2 (Cs.flatten :: OO)) /\ P3 (o K (hid H2 (Cs.flatten :: OO))) ys bs Cs /\ bs.length = i /\ PZ Er (FO K OO OO (oL o) Q) H ((F3 (as.drop i) f).bind λrest=>.ok (bs ++ rest)),
      ⟨as.length, rfl, Nat.zero_le _, [], [], s', (w.keep s').nil, by show XC _ (hid H' ([] :: OO)); rw [ZI]; exact XC.refl _, .nil, rfl, ?_⟩, ?_⟩
    . rw [List.drop_zero]
      revert P
      cases F3 as f <;> exact λz=>z
    . rintro i mm ys H2 ⟨rfl, hi, bs, Cs, s2, w2, m2, pr, hlen, P2⟩
      refine ⟨by rw [pr.len.1, hlen]; omega, ?_⟩
      by_cases hlt : i < as.length
      . right
        have ha : as[i]? = some as[i]:=by simp [hlt]
        obtain ⟨h4, h5⟩:=hgo i _ ha (Cs.flatten :: OO) H2 w2 m2
        refine ⟨h4, λys' H3=>∃ bs Cs, XC H H3 /\ W (Cs.flatten :: OO) H3 /\ XC (hid H' OO) (hid H3 (Cs.flatten :: OO)) /\ P3 (o K (hid H3 (Cs.flatten :: OO))) ys' bs Cs /\ bs.length = i + 1 /\ PZ Er (FO K OO OO (oL o) Q) H ((F3 (as.drop (i + 1)) f).bind λrest=>.ok (bs ++ rest)), λys' H3 q=>⟨as.length - (i + 1), Nat.sub_lt_sub_left hlt (Nat.lt_succ_self i), rfl, hlt, q⟩, λy H3 hy=>?_⟩
        obtain ⟨s3, r3⟩:=h5 y H3 hy
        have w3:=w2.keep s3
        have m3:=Xj (OO:=Cs.flatten :: OO) s3
        have sS : S.p (hid H3 (Cs.flatten :: OO)):=S.mono _ _ ((Xj s').trans (m2.trans m3)) s
        refine (T (Cs.flatten :: OO)).ok r3 sS λv hv=>?_
        show Uv _ _ _
        refine Lv ?_
        rw [List.drop_eq_getElem_cons hlt] at P2
        have P3' : PZ Er (FO K OO OO (oL o) Q) H ((f as[i]).bind λb=>(F3 (as.drop (i + 1)) f).bind λrest=>.ok (bs ++ b :: rest)):=by
          have : ((f as[i]).bind λb=>(F3 (as.drop (i + 1)) f).bind λrest=>Rs.ok (bs ++ b :: rest)) = (F3 (as[i] :: as.drop (i + 1)) f).bind λrest=>.ok (bs ++ rest):=by
            show _ = ((f as[i]).bind λb=>(F3 (as.drop (i + 1)) f).bind λbs=>Rs.ok (b :: bs)).bind _
            rw [XY]; congr 1; funext b; rw [XY]; rfl
          rw [this]; exact P2
        refine hb Cs.flatten as[i] v H3 _ w3 hv ?_
        cases eb : f as[i] with
        | bad=>rw [eb] at P3'; exact P3'
        | err x=>rw [eb] at P3'; exact λH4 s4=>P3' H4 (s2.trans (s3.trans s4))
        | ok b=>
          rw [eb] at P3'
          intro v' C' H4 s4 w4 m4 ho
          have pe : ((Cs ++ [C']).flatten :: OO).flatten.Perm (C' :: Cs.flatten :: OO).flatten:=by
            simp only [Z3, List.flatten_cons]
            rw [List.append_assoc, ← List.append_assoc, ← List.append_assoc]
            exact List.perm_append_comm.append_right _
          refine ⟨bs ++ [b], Cs ++ [C'], s2.trans (s3.trans s4), w4.of pe, ?_, ?_, by simp [hlen], ?_⟩
          . rw [X5 pe]; exact m2.trans (m3.trans m4)
          . rw [X5 pe]; exact P3.snoc (pr.imp λ_ _ _ h=>z.mono (m3.trans m4) h) ho
          . have P4 : PZ Er (FO K OO OO (oL o) Q) H ((F3 (as.drop (i + 1)) f).bind λrest => .ok (bs ++ b :: rest)) := P3'
            simpa using P4
      . left
        have e : i = as.length:=Nat.le_antisymm hi (Nat.not_lt.mp hlt)
        subst e
        refine ⟨hstop (Cs.flatten :: OO) H2 w2 m2, ?_⟩
        rw [List.drop_length] at P2
        have P3' : FO K OO OO (oL o) Q (bs ++ []) H:=P2
        rw [List.append_nil] at P3'
        exact IG (H0:=H) w2 ((Xj s').trans m2) s2 pr P3'
theorem Jg {o : OE β} [z : MonoO o] {wi : TI} {g : TG} {tt : TT} {te : TE} {r : Enc α} {κ : Type} {m : Rs (List α)} {c : α -> Rs Bool} {f : α -> Rs β} {n : Nat} {caps : List (Nat × Str)} (T : ∀ OO, Tgt K OO g r κ) (he : Walk K Er S OO σ wi r m)
    (hc : ∀ C a v, EvT Er ((T (C :: OO)).sc a v S) (C :: OO) ((T (C :: OO)).set v (Q5 n caps σ)) tt (c a))
    (hb : ∀ C a v, Ev K Er ((T (C :: OO)).sc a v S) (C :: OO) (C :: OO) ((T (C :: OO)).set v (Q5 n caps σ)) te o (f a)) : Ev K Er S OO OO σ (Cm n caps wi g tt te) (oL o) (m.bind λas=>Bp as c f):=λH Q w s P=>by
  refine he.ok w s ?_
  cases em : m with
  | bad=>rw [em] at P; exact P
  | err x=>rw [em] at P; exact P
  | ok as=>
    rw [em] at P
    obtain ⟨hsz, P⟩:=PZ.chk (show PZ Er _ H (chk (as.length <= sizeLine) (G1 as c f)) from P)
    intro It H' s' hgo hstop
    refine ⟨λi mm ys H2=>mm = as.length - i /\ i <= as.length /\ ∃ bs Cs, XC H H2 /\ W (Cs.flatten :: OO) H2 /\ XC (hid H' OO) (hid H2 (Cs.flatten :: OO)) /\ P3 (o K (hid H2 (Cs.flatten :: OO))) ys bs Cs /\ bs.length <= i /\ PZ Er (FO K OO OO (oL o) Q) H ((G1 (as.drop i) c f).bind λrest=>.ok (bs ++ rest)),
      ⟨as.length, rfl, Nat.zero_le _, [], [], s', (w.keep s').nil, by show XC _ (hid H' ([] :: OO)); rw [ZI]; exact XC.refl _, .nil, Nat.zero_le _, ?_⟩, ?_⟩
    . rw [List.drop_zero]
      revert P
      cases G1 as c f <;> exact λz=>z
    . rintro i mm ys H2 ⟨rfl, hi, bs, Cs, s2, w2, m2, pr, hlen, P2⟩
      refine ⟨by rw [pr.len.1]; omega, ?_⟩
      by_cases hlt : i < as.length
      . right
        have ha : as[i]? = some as[i]:=by simp [hlt]
        obtain ⟨h4, h5⟩:=hgo i _ ha (Cs.flatten :: OO) H2 w2 m2
        refine ⟨h4, λys' H3=>∃ bs Cs, XC H H3 /\ W (Cs.flatten :: OO) H3 /\ XC (hid H' OO) (hid H3 (Cs.flatten :: OO)) /\ P3 (o K (hid H3 (Cs.flatten :: OO))) ys' bs Cs /\ bs.length <= i + 1 /\ PZ Er (FO K OO OO (oL o) Q) H ((G1 (as.drop (i + 1)) c f).bind λrest=>.ok (bs ++ rest)), λys' H3 q=>⟨as.length - (i + 1), Nat.sub_lt_sub_left hlt (Nat.lt_succ_self i), rfl, hlt, q⟩, λy H3 hy=>?_⟩
        obtain ⟨s3, r3⟩:=h5 y H3 hy
        have w3:=w2.keep s3
        have m3:=Xj (OO:=Cs.flatten :: OO) s3
        have sS : S.p (hid H3 (Cs.flatten :: OO)):=S.mono _ _ ((Xj s').trans (m2.trans m3)) s
        refine (T (Cs.flatten :: OO)).ok r3 sS λv hv=>?_
        rw [List.drop_eq_getElem_cons hlt] at P2
        have P3' : PZ Er (FO K OO OO (oL o) Q) H ((c as[i]).bind λb=>(if b = true then (f as[i]).bind λb=>(G1 (as.drop (i + 1)) c f).bind λbs=>.ok (b :: bs) else G1 (as.drop (i + 1)) c f).bind λrest=>.ok (bs ++ rest)):=by
          rw [← XY]; exact P2
        refine hc Cs.flatten as[i] v H3 _ w3 hv ?_
        cases ec : c as[i] with
        | bad=>rw [ec] at P3'; exact P3'
        | err x=>rw [ec] at P3'; exact λH4 s4=>P3' H4 (s2.trans (s3.trans s4))
        | ok b=>
          rw [ec] at P3'
          intro H4 s4
          have w4:=w3.keep s4
          have m4:=Xj (OO:=Cs.flatten :: OO) s4
          cases b with
          | false=>exact ⟨bs, Cs, s2.trans (s3.trans s4), w4, m2.trans (m3.trans m4), pr.imp λ_ _ _ h=>z.mono (m3.trans m4) h, Nat.le_succ_of_le hlen, P3'⟩
          | true=>
            rw [if_pos rfl]
            have P4 : PZ Er (FO K OO OO (oL o) Q) H ((f as[i]).bind λb=>(G1 (as.drop (i + 1)) c f).bind λrest=>.ok (bs ++ b :: rest)):=by
              have : ((f as[i]).bind λb=>(G1 (as.drop (i + 1)) c f).bind λrest=>Rs.ok (bs ++ b :: rest)) = ((f as[i]).bind λb=>(G1 (as.drop (i + 1)) c f).bind λbs=>Rs.ok (b :: bs)).bind λrest=>.ok (bs ++ rest):=by
                rw [XY]; congr 1; funext b; rw [XY]; rfl
              rw [this]; exact P3'
            refine hb Cs.flatten as[i] v H4 _ w4 (((T (Cs.flatten :: OO)).sc as[i] v S).mono _ _ m4 hv) ?_
            cases eb : f as[i] with
            | bad=>rw [eb] at P4; exact P4
            | err x=>rw [eb] at P4; exact λH5 s5=>P4 H5 (s2.trans (s3.trans (s4.trans s5)))
            | ok b=>
              rw [eb] at P4
              intro v' C' H5 s5 w5 m5 ho
              have pe : ((Cs ++ [C']).flatten :: OO).flatten.Perm (C' :: Cs.flatten :: OO).flatten:=by
                simp only [Z3, List.flatten_cons]
                rw [List.append_assoc, ← List.append_assoc, ← List.append_assoc]
                exact List.perm_append_comm.append_right _
              refine ⟨bs ++ [b], Cs ++ [C'], s2.trans (s3.trans (s4.trans s5)), w5.of pe, ?_, ?_, by simpa using hlen, ?_⟩
              . rw [X5 pe]; exact m2.trans (m3.trans (m4.trans m5))
              . rw [X5 pe]; exact P3.snoc (pr.imp λ_ _ _ h=>z.mono (m3.trans (m4.trans m5)) h) ho
              . have P5 : PZ Er (FO K OO OO (oL o) Q) H ((G1 (as.drop (i + 1)) c f).bind λrest => .ok (bs ++ b :: rest)) := P4
                simpa using P5
      . left
        have e : i = as.length:=Nat.le_antisymm hi (Nat.not_lt.mp hlt)
        subst e
        refine ⟨hstop (Cs.flatten :: OO) H2 w2 m2, ?_⟩
        rw [List.drop_length] at P2
        have P3' : FO K OO OO (oL o) Q (bs ++ []) H:=P2
        rw [List.append_nil] at P3'
        exact IG (H0:=H) w2 ((Xj s').trans m2) s2 pr P3'
noncomputable def QD (as : List α) (i : Int) (a : α) : Rs (List α):=match ixN as.length i with
  | some j=>.ok (as.set j a)
  | none=>.bad
end
section
variable {K : PySem.W.Frag} {Er : Exc -> Hp -> Prop} {S : SC} {OO OO' OO2 : List (List XG)} {σ : St} {α β γ ρ ι δ ε : Type}
variable {Fd : Ends -> β -> Hp -> Prop} [fd : FdOk Fd] {u : TS}
theorem He {C D C' : List XG} {H : Hp} {k : Nat} {p : Addr} {o : HO} (w : W (D :: OO) H) (hk : OO[k]? = some C) (hp : p ∈ C.map (·.1)) (hp' : p ∈ C'.map (·.1)) (hnd : (C'.map (·.1)).Nodup) (hin : ∀ b ∈ C'.map (·.1), b ∈ (C ++ D).map (·.1)) (ht : ∀ c ∈ C', upd H p o c.1 = some c.2) (hm : ∀ c ∈ C', IE c.2 = true) :
    W (OO.set k C') (upd H p o) /\ XC (hid H (D :: OO)) (hid (upd H p o) (OO.set k C')):=by
  have hlt : k < OO.length:=by
    rcases Nat.lt_or_ge k OO.length with h | h
    . exact h
    . rw [List.getElem?_eq_none h] at hk; cases hk
  have h1:=X6 hk
  have h2:=X6 (OO:=OO.set k C') (k:=k) (C:=C') (by simp [hlt])
  rw [set_set] at h2
  have h3 : (OO.set k C').flatten.Perm (C' ++ (OO.set k []).flatten):=by simpa using h2.symm
  have h4 : (D :: OO).flatten.Perm ((C ++ D) ++ (OO.set k []).flatten):=by
    rw [List.flatten_cons]
    refine ((by simpa using h1.symm : OO.flatten.Perm (C ++ (OO.set k []).flatten)).append_left D).trans ?_
    rw [← List.append_assoc]
    exact List.perm_append_comm.append_right _
  have nd2 : (((C ++ D) ++ (OO.set k []).flatten).map (·.1)).Nodup:=(h4.map _).nodup_iff.mp w.nd
  rw [List.map_append] at nd2
  obtain ⟨n1, n2, n3⟩:=List.nodup_append.mp nd2
  refine ⟨⟨λc hc=>?_, ?_, λc hc=>?_⟩, λb v q=>?_⟩
  . rcases List.mem_append.mp (h3.mem_iff.mp hc) with hc | hc
    . exact ht c hc
    . have hne : c.1 ≠ p := λe => n3 p (hin p hp') c.1 (List.mem_map.mpr ⟨c, hc, rfl⟩) e.symm
      rw [XD hne]
      exact w.tr c (h4.mem_iff.mpr (by simp [hc]))
  . refine ((h3.map _).nodup_iff).mpr ?_
    rw [List.map_append]
    exact List.nodup_append.mpr ⟨hnd, n2, λa ha b hb=>n3 a (hin a ha) b hb⟩
  . rcases List.mem_append.mp (h3.mem_iff.mp hc) with hc | hc
    . exact hm c hc
    . exact w.mu c (h4.mem_iff.mpr (by simp [hc]))
  . obtain ⟨q1, q2⟩ := X4 q
    have hbp : b ≠ p:=λe=>q2 (by
      rw [e]
      obtain ⟨c, hc, rfl⟩:=List.mem_map.mp hp
      exact JN (h4.mem_iff.mpr (by simp [hc])))
    refine Zv (by rw [XD hbp]; exact q1) λz=>q2 ?_
    obtain ⟨o', ho'⟩:=F9 z
    rcases List.mem_append.mp (h3.mem_iff.mp ho') with hc | hc
    . obtain ⟨c, hc2, e⟩ := List.mem_map.mp (hin b (List.mem_map.mpr ⟨_, hc, rfl⟩))
      rw [← e]
      exact JN (h4.mem_iff.mpr (List.mem_append_left _ hc2))
    . exact JN (c:=(b, o')) (h4.mem_iff.mpr (by simp [hc]))
theorem LL {D : List XG} {Cs Cs' : List (List XG)} {H : Hp} {k : Nat} {p : Addr} {xs xs' : List V} (w : W (D :: OO) H) (hk : OO[k]? = some ((p, .lst xs) :: Cs.flatten)) (hin : ∀ c ∈ Cs'.flatten, c ∈ Cs.flatten ++ D) (hnd : (Cs'.flatten.map (·.1)).Nodup) :
    W (OO.set k ((p, .lst xs') :: Cs'.flatten)) (upd H p (.lst xs')) /\ XC (hid H (D :: OO)) (hid (upd H p (.lst xs')) (OO.set k ((p, .lst xs') :: Cs'.flatten))):=by
  have h1:=X6 hk
  have w3 : W [((p, HO.lst xs) :: (Cs.flatten ++ D)) ++ (OO.set k []).flatten] H:=w.of (by
    simp only [List.flatten_cons, List.flatten_nil, List.append_nil]
    refine List.Perm.trans ?_ ((by simpa using h1 : (((p, HO.lst xs) :: Cs.flatten) ++ (OO.set k []).flatten).Perm OO.flatten).append_left D)
    rw [← List.append_assoc]
    refine List.Perm.append_right _ ?_
    exact (List.perm_append_comm (l₁:=(p, HO.lst xs) :: Cs.flatten) (l₂:=D)))
  have nd:=w3.nd
  simp only [fl, List.flatten_cons, List.flatten_nil, List.append_nil, List.map_append, List.cons_append, List.map_cons] at nd
  have hne : ∀ c ∈ Cs'.flatten, c.1 ≠ p:=λc hc e=>by
    refine (List.nodup_cons.mp nd).1 ?_
    rw [← e]
    refine List.mem_append_left _ ?_
    rw [← List.map_append]
    exact List.mem_map.mpr ⟨c, hin c hc, rfl⟩
  refine He w hk List.mem_cons_self List.mem_cons_self ?_ ?_ ?_ ?_
  . rw [List.map_cons, List.nodup_cons]
    refine ⟨λz=>?_, hnd⟩
    obtain ⟨c, hc, e⟩:=List.mem_map.mp z
    exact hne c hc e
  . intro b hb
    rcases List.mem_cons.mp hb with rfl | hb
    . exact List.mem_cons_self
    . obtain ⟨c, hc, rfl⟩ := List.mem_map.mp hb
      rw [List.cons_append, List.map_cons]
      exact List.mem_cons_of_mem _ (List.mem_map.mpr ⟨c, hin c hc, rfl⟩)
  . intro c hc
    rcases List.mem_cons.mp hc with rfl | hc
    . exact YA
    . rw [XD (hne c hc)]
      exact w3.tr c (by
        rw [List.flatten_cons, List.flatten_nil, List.append_nil]
        exact List.mem_append_left _ (List.mem_cons_of_mem _ (hin c hc)))
  . intro c hc
    rcases List.mem_cons.mp hc with rfl | hc
    . rfl
    . exact w3.mu c (by
        rw [List.flatten_cons, List.flatten_nil, List.append_nil]
        exact List.mem_append_left _ (List.mem_cons_of_mem _ (hin c hc)))
theorem Gz {o : OE α} {h : Hp} {p : Addr} {xs : List V} {as : List α} {R : List XG} (q : oL o K h (.ref p) as ((p, .lst xs) :: R)) : ∃ Cs, P3 (o K h) xs as Cs /\ R = Cs.flatten:=by
  obtain ⟨p', xs', Cs, e, q, c⟩:=q
  injection c with c1 c2
  injection c1 with c3 c4
  injection c4 with c5
  subst c5
  exact ⟨Cs, q, c2⟩
theorem HG {as : List α} {i : Int} {a : α} {bs : List α} (h : QD as i a = .ok bs) : ∃ j, ixN as.length i = some j /\ bs = as.set j a:=by
  unfold QD at h; split at h
  . cases h; exact ⟨_, by assumption, rfl⟩
  . cases h
theorem Hu {as : List α} {i : Int} {a : α} {x : Exc} : QD as i a ≠ .err x:=by unfold QD; split <;> exact λz=>nomatch z
theorem ZY {l r m : List XG} (h : (l ++ r).Perm m) (n : (m.map (·.1)).Nodup) : (l.map (·.1)).Nodup:=by
  have : ((l ++ r).map (·.1)).Nodup:=(h.map _).nodup_iff.mpr n
  rw [List.map_append] at this
  exact (List.nodup_append.mp this).1
theorem UI {Cs : List (List XG)} {j : Nat} {D : List XG} (hj : j < Cs.length) : ((Cs.set j D).flatten ++ Cs[j]).Perm (Cs.flatten ++ D):=by
  have h1:=X6 (OO:=Cs) (k:=j) (C:=Cs[j]) (by simp [hj])
  have h2:=X6 (OO:=Cs.set j D) (k:=j) (C:=D) (by simp [hj])
  rw [set_set] at h2
  have h3 : (Cs.set j D).flatten.Perm (D ++ (Cs.set j []).flatten):=by simpa using h2.symm
  have h4 : Cs.flatten.Perm (Cs[j] ++ (Cs.set j []).flatten):=by simpa using h1.symm
  refine (h3.append_right _).trans (List.Perm.trans ?_ (h4.append_right _).symm)
  refine List.perm_append_comm.trans ((List.perm_append_comm.append_left _).trans ?_)
  rw [List.append_assoc]
theorem Z8 {D : List XG} {Cs : List (List XG)} {H : Hp} {k : Nat} {p : Addr} {xs : List V} (w : W (D :: OO) H) (hk : OO[k]? = some ((p, .lst xs) :: Cs.flatten)) : ((Cs.flatten ++ D).map (·.1)).Nodup:=by
  have h1:=X6 hk
  have w3 : W [((p, HO.lst xs) :: (Cs.flatten ++ D)) ++ (OO.set k []).flatten] H:=w.of (by
    simp only [List.flatten_cons, List.flatten_nil, List.append_nil]
    refine List.Perm.trans ?_ ((by simpa using h1 : (((p, HO.lst xs) :: Cs.flatten) ++ (OO.set k []).flatten).Perm OO.flatten).append_left D)
    rw [← List.append_assoc]
    refine List.Perm.append_right _ ?_
    exact (List.perm_append_comm (l₁:=(p, HO.lst xs) :: Cs.flatten) (l₂:=D)))
  have nd:=w3.nd
  simp only [fl, List.flatten_cons, List.flatten_nil, List.append_nil, List.cons_append, List.map_cons] at nd
  have n2:=(List.nodup_cons.mp nd).2
  rw [List.map_append] at n2
  exact (List.nodup_append.mp n2).1
theorem Qj {ta ti : TE} {o : OE α} [MonoO o] {m : Rs α} {mi : Rs Int} {f : List α -> Rs β} {v : V} {as : List α} {C : List XG} (i k : Nat) (hσ : σ[i]? = some (some v)) (hk' : OO'[k]? = some C) (h : ∀ x, S.p x -> oL o K x v as C) (he : Ev K Er S OO OO' σ ta o m)
    (hi : ∀ D, EvB K Er S (D :: OO') σ ti Xa mi)
    (hr : ∀ bs C', Sv Er (S.addO K (oL o) v bs C') (OO'.set k C') σ u Fd (f bs)) : Sv Er S OO σ (QF (Bq ta (MN (Uw i) ti Hr)) u) Fd (m.bind λa=>mi.bind λj=>(QD as j a).bind f):=λH D w s P=>
  he.st w s P λa y D' H' w' s' ho P'=>⟨v, hσ, (hi D').st w' s' P' λj z H2 s2 w2 q2 r2 P2=>by
    obtain ⟨p, xs, Cs, e, q, c⟩:=h _ q2
    subst c
    have hH : H2 p = some (.lst xs):=w2.tr (p, .lst xs) (by rw [List.flatten_cons]; exact List.mem_append_right _ (List.mem_flatten.mpr ⟨_, List.mem_of_getElem? hk', List.mem_cons_self⟩))
    cases es : QD as j a with
    | bad=>rw [es] at P2; exact P2.elim
    | err x=>exact absurd es Hu
    | ok bs=>
      rw [es] at P2
      obtain ⟨jj, h1, rfl⟩:=HG es
      have hjl : jj < as.length:=by
        unfold ixN at h1
        split at h1
        . split at h1
          . cases h1; omega
          . cases h1
        . split at h1
          . cases h1; omega
          . cases h1
      have hjC : jj < Cs.length:=by rw [q.len.2]; exact hjl
      have hp:=UI (Cs:=Cs) (j:=jj) (D:=D') hjC
      obtain ⟨w3, m3⟩:=LL (xs':=xs.set jj y) (Cs':=Cs.set jj D') w2 hk' (λc hc=>hp.mem_iff.mp (List.mem_append_left _ hc)) (ZY hp (Z8 w2 hk'))
      refine ⟨p, xs, j, jj, e, r2, hH, by rw [q.len.1]; exact h1, hr _ _ _ D w3 ⟨S.mono _ _ m3 q2, ⟨p, _, _, e, P3.imp (λ_ _ _ z=>MonoO.mono m3 z) (P3.set (MonoO.mono (Xj s2) ho) jj q), rfl⟩⟩ (PZ.tr (fd.tr D) m3 P2)⟩⟩
theorem LS {ta : TE} {o : OE α} [MonoO o] {m : Rs (List α)} {f : List α -> Rs β} {v : V} {as : List α} {C : List XG} (i k : Nat) (hσ : σ[i]? = some (some v)) (hk : OO[k]? = some C) (hk' : OO'[k]? = some C) (h : ∀ x, S.p x -> oL o K x v as C) (he : Ev K Er S OO OO' σ ta (oL o) m)
    (hr : ∀ bs C', Sv Er (S.addO K (oL o) v (as ++ bs) C') (OO'.set k C') σ u Fd (f (as ++ bs))) : Sv Er S OO σ (QF (Ga (tBM K "list" Cn (Uw i) (XQ ta Qs))) u) Fd (m.bind λbs=>chk (as.length + bs.length <= sizeLine) (f (as ++ bs))):=λH D w s P=>by
  obtain ⟨p, xs, Cs, e, q, c⟩:=h _ s
  subst c
  have hH : H p = some (.lst xs):=w.tr (p, .lst xs) (List.mem_flatten.mpr ⟨_, List.mem_of_getElem? hk, List.mem_cons_self⟩)
  refine ⟨v, hσ, by rw [e]; exact .inl ⟨rfl, _, SqL.of hH⟩, he.st w s P λbs y D' H' w' s' ho P'=>?_⟩
  obtain ⟨hsz, P'⟩:=PZ.chk P'
  subst e
  obtain ⟨Cs2, q2, c2⟩:=Gz (h _ s')
  obtain ⟨p', zs, Ds, e3, q3, c3⟩:=ho
  subst c3
  have hH' : H' p = some (.lst xs):=w'.tr (p, .lst xs) (by rw [List.flatten_cons]; exact List.mem_append_right _ (List.mem_flatten.mpr ⟨_, List.mem_of_getElem? hk', List.mem_cons_self⟩))
  have hH2 : H' p' = some (.lst zs):=w'.tr (p', .lst zs) (by rw [List.flatten_cons]; exact List.mem_append_left _ List.mem_cons_self)
  have cn:=Z8 w' hk'
  obtain ⟨w3, m3⟩:=LL (xs':=xs ++ zs) (Cs':=Cs2 ++ Ds) w' hk' (λc hc=>by
      rw [List.flatten_append, List.mem_append] at hc
      rcases hc with hc | hc
      . rw [c2]; exact List.mem_append_left _ hc
      . exact List.mem_append_right _ (List.mem_cons_of_mem _ hc)) (by
      rw [List.flatten_append, ← c2]
      refine List.Nodup.sublist (List.Sublist.map _ ?_) cn
      exact List.Sublist.append (List.Sublist.refl _) (List.sublist_cons_self _ _))
  refine ⟨p, p', xs, zs, rfl, by rw [e3], hH', hH2, by rw [q2.len.1, q3.len.1]; exact hsz, ?_⟩
  exact hr bs _ _ D w3 ⟨S.mono _ _ m3 s', ⟨p, _, _, rfl, P3.imp (λ_ _ _ z=>MonoO.mono m3 z) (q2.app q3), rfl⟩⟩ (PZ.tr (fd.tr D) m3 P')
noncomputable def Cd (as : List α) (i : Int) : Rs (α × List α):=chk (-(2 ^ 63) <= i /\ i < 2 ^ 63) (match seqIndex? i as.length with
  | none=>.bad
  | some k=>match as[k]? with
    | none=>.bad
    | some a=>.ok (a, as.eraseIdx k))
theorem Iu {as : List α} {i : Int} {p : α × List α} (h : Cd as i = .ok p) : (-(2 ^ 63) <= i /\ i < 2 ^ 63) /\ ∃ k, seqIndex? i as.length = some k /\ as[k]? = some p.1 /\ p.2 = as.eraseIdx k:=by
  obtain ⟨h1, h2⟩:=Zm h
  refine ⟨h1, ?_⟩
  split at h2
  . cases h2
  . split at h2
    . cases h2
    . cases h2; exact ⟨_, by assumption, by assumption, rfl⟩
theorem HX {as : List α} {i : Int} {x : Exc} : Cd as i ≠ .err x:=by
  unfold Cd chk; split
  . split
    . exact λz=>nomatch z
    . split <;> exact λz=>nomatch z
  . exact λz=>nomatch z
theorem Paired.erase' {F : α -> γ -> Prop} : ∀ {l : List α} {m : List γ} (n : Nat), Paired F l m -> Paired F (l.eraseIdx n) (m.eraseIdx n)
  | _, _, _, .nil=>.nil
  | _, _, 0, .cons _ t=>t
  | _, _, n + 1, .cons r t=>.cons r (Paired.erase' n t)
theorem CP {te ti : TE} {r : Enc α} [MonoE r] {mi : Rs Int} {f : α × List α -> Rs β} {v : V} {as : List α} {C : List XG} {D : Ends} {H : Hp} {Q : VK} (i k : Nat) (hσ : σ[i]? = some (some v)) (hk : OO[k]? = some C) (h : ∀ x, S.p x -> oL (oF r) K x v as C) (hi : EvB K Er S OO σ ti Xa mi)
    (w : W OO H) (s : S.p (hid H OO)) (P : PZ Er (Fd D) (hid H OO) (mi.bind λj=>(Cd as j).bind f))
    (hr : ∀ a bs y C' H', W (OO.set k C') H' -> ((S.add K r y a).addO K (oL (oF r)) v bs C').p (hid H' (OO.set k C')) -> PZ Er (Fd D) (hid H' (OO.set k C')) (f (a, bs)) -> Q y H') : tBM K "list" Fq (Uw i) (XQ ti Qs) σ H Q:=by
  obtain ⟨p, xs, Cs, e, q, c⟩:=h _ s
  subst c
  have hH : H p = some (.lst xs):=w.tr (p, .lst xs) (List.mem_flatten.mpr ⟨_, List.mem_of_getElem? hk, List.mem_cons_self⟩)
  refine ⟨v, hσ, by rw [e]; exact .inl ⟨rfl, _, SqL.of hH⟩, hi.st w s P λj z H' s1 w' s' ho P'=>?_⟩
  subst e
  obtain ⟨Cs2, q2, c2⟩:=Gz (h _ s')
  obtain ⟨pr, hfl⟩:=P3.flat q2
  cases es : Cd as j with
  | bad=>rw [es] at P'; exact P'.elim
  | err x=>exact absurd es HX
  | ok pp=>
    rw [es] at P'
    obtain ⟨a, bs⟩:=pp
    obtain ⟨h1, kk, h2, h3, h4⟩:=Iu es
    obtain ⟨y, hy, ry⟩:=Paired.getR pr h3
    have w0 : W ([] :: OO) H':=w'.nil
    have hk0 : OO[k]? = some ((p, .lst xs) :: ([] : List (List XG)).flatten):=by rw [hk, c2, hfl]; rfl
    obtain ⟨w3, m3⟩:=LL (D:=[]) (Cs:=[]) (xs':=xs.eraseIdx kk) (Cs':=List.replicate bs.length []) w0 hk0 (λc hc=>by rw [YT] at hc; cases hc) (by rw [YT]; exact List.nodup_nil)
    rw [ZI] at m3
    refine ⟨p, xs, j, kk, y, rfl, by rw [show z = .int j from ho], s1 _ _ hH, h1.1, h1.2, by rw [Paired.len pr]; exact h2, hy, ?_⟩
    have pr2 : Paired (r K (hid H' OO)) (xs.eraseIdx kk) bs:=by rw [show bs = as.eraseIdx kk from h4]; exact Paired.erase' kk pr
    exact hr a bs y _ _ w3 ⟨⟨S.mono _ _ m3 s', MonoE.mono m3 ry⟩, ⟨p, _, _, rfl, (P3.of (Paired.imp2 (λ_ _ z=>MonoE.mono m3 z) pr2)).imp λ_ _ _ z=>z, rfl⟩⟩ (PZ.tr (fd.tr D) m3 P')
theorem Li {ti : TE} {r : Enc α} [MonoE r] {mi : Rs Int} {f : α × List α -> Rs β} {v : V} {as : List α} {C : List XG} (x i k : Nat) (hσ : σ[i]? = some (some v)) (hk : OO[k]? = some C) (h : ∀ x, S.p x -> oL (oF r) K x v as C) (hi : EvB K Er S OO σ ti Xa mi)
    (hr : ∀ a bs y C', Sv Er ((S.add K r y a).addO K (oL (oF r)) v bs C') (OO.set k C') (σ.set x (some y)) u Fd (f (a, bs))) : Sv Er S OO σ (QF (Bq (tBM K "list" Fq (Uw i) (XQ ti Qs)) (Zd x)) u) Fd (mi.bind λj=>(Cd as j).bind f):=λH D w s P=>
  CP (te:=ti) i k hσ hk h hi w s P λa bs y C' H' w' s' P'=>hr a bs y C' H' D w' s' P'
theorem BC {ti : TE} {r : Enc α} [MonoE r] {mi : Rs Int} {f : List α -> List α -> Rs β} {v v2 : V} {as zs : List α} {C C2 : List XG} (i k i2 k2 : Nat) (hne : k2 ≠ k) (hσ : σ[i]? = some (some v)) (hk : OO[k]? = some C) (h : ∀ x, S.p x -> oL (oF r) K x v as C)
    (hσ2 : σ[i2]? = some (some v2)) (hk2 : OO[k2]? = some C2) (h2 : ∀ x, S.p x -> oL (oF r) K x v2 zs C2) (hi : EvB K Er S OO σ ti Xa mi)
    (hr : ∀ a bs C' C2', Sv Er ((S.addO K (oL (oF r)) v bs C').addO K (oL (oF r)) v2 (zs ++ [a]) C2') ((OO.set k C').set k2 C2') σ u Fd (f bs (zs ++ [a]))) :
    Sv Er S OO σ (QF (Ga (tBM K "list" UL (Uw i2) (XQ (tBM K "list" Fq (Uw i) (XQ ti Qs)) Qs))) u) Fd (mi.bind λj=>(Cd as j).bind λp=>chk (zs.length < sizeLine) (f p.2 (zs ++ [p.1]))):=λH D w s P=>by
  obtain ⟨p2, xs2, Cs2, e2, q2, c2⟩:=h2 _ s
  subst c2
  have hH2 : H p2 = some (.lst xs2):=w.tr (p2, .lst xs2) (List.mem_flatten.mpr ⟨_, List.mem_of_getElem? hk2, List.mem_cons_self⟩)
  refine ⟨v2, hσ2, by rw [e2]; exact .inl ⟨rfl, _, SqL.of hH2⟩, CP (te:=ti) i k hσ hk h hi w s P λa bs y C' H' w' s' P'=>?_⟩
  obtain ⟨hsz, P'⟩:=PZ.chk P'
  subst e2
  obtain ⟨Cs3, q3, c3⟩:=Gz (h2 _ s'.1.1)
  obtain ⟨pr, hfl⟩:=P3.flat q3
  have hkk : (OO.set k C')[k2]? = some ((p2, HO.lst xs2) :: ([] : List (List XG)).flatten):=by
    rw [List.getElem?_set_ne (λe=>hne e.symm), hk2, c3, hfl]; rfl
  have hH3 : H' p2 = some (.lst xs2):=w'.tr (p2, .lst xs2) (List.mem_flatten.mpr ⟨_, List.mem_of_getElem? hkk, List.mem_cons_self⟩)
  obtain ⟨w3, m3⟩:=LL (D:=[]) (Cs:=[]) (xs':=xs2 ++ [y]) (Cs':=List.replicate (zs ++ [a]).length []) w'.nil hkk (λc hc=>by rw [YT] at hc; cases hc) (by rw [YT]; exact List.nodup_nil)
  rw [ZI] at m3
  refine ⟨p2, xs2, y, rfl, rfl, hH3, by rw [Paired.len pr]; exact hsz, ?_⟩
  refine hr a bs C' _ _ D w3 ⟨⟨S.mono _ _ m3 s'.1.1, (SC.oneO K (oL (oF r)) v bs C').mono _ _ m3 s'.2⟩, ⟨p2, _, _, rfl, (P3.of (Paired.app (Paired.imp2 (λ_ _ z=>MonoE.mono m3 z) pr) (.cons (MonoE.mono m3 (show r K _ y a from s'.1.2)) .nil))).imp λ_ _ _ z=>z, rfl⟩⟩ (PZ.tr (fd.tr D) m3 P')
theorem EA {ta tb : TE} {r : Enc α} {q : Enc γ} [z : MonoE r] [MonoE q] {ma : Rs α} {mb : Rs γ} {f : α -> γ -> Rs β} (i j : Nat) (ha : EvS K Er S OO σ ta r ma) (hb : EvS K Er S OO σ tb q mb)
    (hr : ∀ a b v w, Sv Er ((S.add K r v a).add K q w b) OO ((σ.set i (some v)).set j (some w)) u Fd (f a b)) : Sv Er S OO σ (QF (MQ i j (XQ ta (XQ tb Qs))) u) Fd (ma.bind λa=>mb.bind λb=>f a b):=λH D w s P=>
  ha.st w s P λa x H1 s1 w1 q1 r1 P1=>hb.st w1 q1 P1 λb y H2 s2 w2 q2 r2 P2=>⟨x, y, rfl, hr a b x y H2 D w2 ⟨⟨q2, z.mono (Xj s2) r1⟩, r2⟩ P2⟩
theorem Fe {te : TE} {r : Enc α} {q : Enc γ} [MonoE r] [MonoE q] {m : Rs (α × γ)} {f : α × γ -> Rs β} (i j : Nat) (he : EvS K Er S OO σ te (rP2 r q) m)
    (hr : ∀ a v w, Sv Er ((S.add K r v a.1).add K q w a.2) OO ((σ.set i (some v)).set j (some w)) u Fd (f a)) : Sv Er S OO σ (QF (Bq te (EV K 2 (Qr (Zd i) (Qr (Zd j) Ic)))) u) Fd (m.bind f):=λH D w s P=>
  he.st w s P λa v H1 s1 w1 q1 r9 P1=>by obtain ⟨p, x, y, e, h, h1, h2⟩:=r9; exact ⟨p, _, e, SqT.of (Xw _ _ h), rfl, x, [y], rfl, y, [], rfl, rfl, hr a x y H1 D w1 ⟨⟨q1, h1⟩, h2⟩ P1⟩
theorem Bd {te : TE} {g : Int -> Int -> Int} {m : Rs Int} {f : Int -> Rs β} {v : V} {a : Int} (i : Nat) (hσ : σ[i]? = some (some v)) (h : ∀ x, S.p x -> Xa K x v a) (he : EvB K Er S OO σ te Xa m)
    (hr : ∀ b v, Sv Er (S.add K Xa v b) OO (σ.set i (some v)) u Fd (f b)) : Sv Er S OO σ (QF (LY i te (ipI g)) u) Fd (m.bind λb=>f (g a b)):=λH D w s P=>
  ⟨v, hσ, he.st w s P λb y H1 s1 w1 q1 r1 P1=>⟨a, b, h _ s, r1, hr _ _ H1 D w1 ⟨q1, rfl⟩ P1⟩⟩
theorem UH {ta tb : TE} {ma mb : Rs Int} (ha : EvB K Er S OO σ ta Xa ma) (hb : EvB K Er S OO σ tb Xa mb) : EvB K Er S OO σ (tCB (λxs H Q=>∃ i j : Int, xs = [.int i, .int j] /\ Q (.int (if j > i then j else i)) H) (XQ ta (XQ tb Qs))) Xa (ma.bind λa=>mb.bind λb=>.ok (max a b)):=λH Q w s P=>
  ha.run w s FB.tr P λa x H1 s1 w1 q1 r1 P1=>hb.run w1 q1 FB.tr P1 λb y H2 s2 w2 q2 r2 P2=>⟨a, b, by rw [show x = .int a from r1, show y = .int b from r2], P2 _ H2 (XC.refl _) (by show V.int _ = V.int _; congr 1; omega)⟩
theorem Iv {ta tb : TE} {ma mb : Rs Int} (ha : EvB K Er S OO σ ta Xa ma) (hb : EvB K Er S OO σ tb Xa mb) : EvB K Er S OO σ (tCB (λxs H Q=>∃ i j : Int, xs = [.int i, .int j] /\ Q (.int (if j < i then j else i)) H) (XQ ta (XQ tb Qs))) Xa (ma.bind λa=>mb.bind λb=>.ok (min a b)):=λH Q w s P=>
  ha.run w s FB.tr P λa x H1 s1 w1 q1 r1 P1=>hb.run w1 q1 FB.tr P1 λb y H2 s2 w2 q2 r2 P2=>⟨a, b, by rw [show x = .int a from r1, show y = .int b from r2], P2 _ H2 (XC.refl _) (by show V.int _ = V.int _; congr 1; omega)⟩
theorem CJ {ta : TE} {ma : Rs (List Int)} (ha : EvB K Er S OO σ ta (rV Xa) ma) : EvB K Er S OO σ (tCB (MP K) (XQ ta Qs)) Xa (ma.bind λa=>.ok a.sum):=λH Q w s P=>
  ha.run w s FB.tr P λa x H1 s1 w1 q1 r9 P1=>by obtain ⟨p, xs, e, q, pr⟩:=r9; exact ⟨p, a, by rw [e], by rw [← VR pr]; exact SqL.of q, P1 _ H1 (XC.refl _) rfl⟩
theorem JI : ∀ {xs : List V} {bs : List Bool} {H : Hp}, Paired (XS K H) xs bs -> xs = bs.map V.bl
  | _, _, _, .nil=>rfl
  | _, _, _, .cons r t=>by rw [show _ = V.bl _ from r, JI t]; rfl
theorem HJ {ta : TE} {ma : Rs (List Bool)} (ha : EvB K Er S OO σ ta (rV XS) ma) : EvB K Er S OO σ (tCB (MI K) (XQ ta Qs)) XS (ma.bind λa=>.ok (a.all id)):=λH Q w s P=>
  ha.run w s FB.tr P λa x H1 s1 w1 q1 r9 P1=>by obtain ⟨p, xs, e, q, pr⟩:=r9; exact ⟨p, a, by rw [e], by rw [← JI pr]; exact SqL.of q, P1 _ H1 (XC.refl _) rfl⟩
class TyE {α : Type} (r : Enc α) (n : outParam String) : Prop where
  ty : ∀ {K : PySem.W.Frag} {H : Hp} {v : V} {a : α}, r K H v a -> TyOf K H v (.type n)
instance : TyE Xa "int":=⟨fun {K H v a} h=>by cases (show v = .int a from h); exact .int a⟩
instance : TyE XS "bool":=⟨fun {K H v a} h=>by cases (show v = .bl a from h); exact .bl a⟩
instance {r : Enc α} : TyE (rV r) "list":=⟨λr9=>by obtain ⟨p, xs, e, q, _⟩:=r9; exact by subst e; exact .lst q⟩
instance {r : Enc α} {q : Enc γ} {t : Enc δ} : TyE (rP3 r q t) "tuple":=⟨λr9=>by obtain ⟨p, x, y, z, e, q, _⟩:=r9; exact by subst e; exact .tup q⟩
theorem ZC {te : TE} {r : Enc α} {n : String} [z : TyE r n] {m : Rs α} (t : String) (b : Bool) (hk : PySem.W.kitOne K (.type n) (.type t) = some b) (he : EvB K Er S OO σ te r m) :
    EvB K Er S OO σ (tCB (λxs H Q=>∃ x n t b, xs = [x, .ty n] /\ TyOf K H x t /\ PySem.W.kitOne K t (.type n) = some b /\ Q (.bl b) H) (XQ te (XQ (tC (.ty t)) Qs))) XS (m.bind λ_=>.ok b):=λH Q w s P=>
  he.run w s FB.tr P λa x H1 s1 w1 q1 r1 P1=>⟨x, t, .type n, b, rfl, z.ty r1, hk, P1 _ H1 (XC.refl _) rfl⟩
end
section
variable {K : PySem.W.Frag} {Er : Exc -> Hp -> Prop} {S : SC} {OO OO' OO1 OO2 : List (List XG)} {σ : St} {α β γ ρ ι δ ε : Type}
variable {Fd : Ends -> β -> Hp -> Prop} [fd : FdOk Fd] {u : TS}
theorem Lb (n : Nat) (H : Hp) : W (List.replicate n []) H:=⟨λc hc=>(by rw [YT] at hc; cases hc), (by unfold fl; rw [YT]; exact List.nodup_nil), λc hc=>(by rw [YT] at hc; cases hc)⟩
theorem BW (n : Nat) (H : Hp) : hid H (List.replicate n []) = H:=by funext b; unfold hid fl; rw [YT]; simp
theorem LB {o : OE ρ} [z : MonoO o] {Q : VK} {b : ρ} {H : Hp} (q : FF K o Q b H) : ∀ v C OO' H', W (C :: OO') H' -> XC H (hid H' (C :: OO')) -> o K (hid H' (C :: OO')) v b C -> Q v H':=λv C OO' H' w m ho=>by
  have hs : XC (hid H' (C :: OO')) (hid H' [C]):=QV (XC.refl _) λb hb=>by
    rw [X7]
    refine List.mem_append_left _ ?_
    simpa [fl] using hb
  exact q v C H' (w.sub (by simp)) (m.trans hs) (z.mono hs ho)
theorem Yq {o : OE ρ} [MonoO o] {t : TS} {m : Rs ρ} {Q : VK} {b : ρ} {H : Hp} {D : Ends} (n : Nat) (h : Sv (λ_ _=>False) S (List.replicate n []) σ t (FTd K o) m) (hs : S.p H) (hm : m = .ok b) (q : FF K o Q b H) (hD : D.rt = Q) : t D σ H:=by
  refine h H D (Lb n H) (by rw [BW]; exact hs) ?_
  subst hm
  rw [BW]
  intro v C OO' H' w mm ho
  rw [hD]
  exact LB q v C OO' H' w mm ho
noncomputable def oU : OE Unit:=λ_ _ v _ C=>v = .non /\ C = []
instance : MonoO oU:=⟨λ_ h=>h⟩
instance : FlatO oU:=⟨λ_ h=>h⟩
noncomputable def rU0 : Enc Unit:=λ_ _ v _=>v = .non
instance : FlatE rU0:=⟨λ_ h=>h⟩
instance : FrzC oU rU0:=⟨λh _ _=>h.1⟩
theorem Ma {J : Jn Unit ι} {t : TS} {m : Rs Unit} {Q : VK} {b : Unit} {H : Hp} {D : Ends} (n : Nat) (h : Sv (λ_ _=>False) S (List.replicate n []) σ t (FNd J) m) (hs : S.p H) (hm : m = .ok b) (q : FF K oU Q b H) (hD : ∀ σ H, D.nx σ H = Q .non H) : t D σ H:=by
  refine h H D (Lb n H) (by rw [BW]; exact hs) ?_
  subst hm
  rw [BW]
  intro x H' w mm ho
  rw [hD]
  have hs : XC (hid H' (J.oo x)) (hid H' [[]]):=QV (XC.refl _) λb hb=>by simp [fl] at hb
  exact q .non [] H' ⟨λc hc=>by simp at hc, by simp [fl], λc hc=>by simp at hc⟩ (mm.trans hs) ⟨rfl, rfl⟩
theorem CV {t : TS} {m : Rs β} (k : Nat) (hr : Sv Er S (OO.set k []) σ t Fd m) : Sv Er S OO σ t Fd m:=λH D w s P=>by
  cases hk : OO[k]? with
  | none=>
    rw [List.set_eq_of_length_le (List.getElem?_eq_none_iff.mp hk)] at hr
    exact hr H D w s P
  | some C=>
    have hp:=X6 hk
    have w1 : W (C :: OO.set k []) H:=w.of hp
    have hs : XC (hid H OO) (hid H (OO.set k [])):=by
      rw [← X5 hp]
      exact QV (XC.refl _) λb hb=>by rw [X7]; simp [hb]
    exact hr H D w1.tail (S.mono _ _ hs s) (PZ.tr (fd.tr D) hs P)
theorem Hy {te : TE} {r : Enc α} {m : Rs α} {f : Rs β} (he : EvB K Er S OO σ te r m) (hr : Sv Er S OO σ u Fd f) : Sv Er S OO σ (QF (Ga te) u) Fd (m.bind λ_=>f):=λH D w s P=>
  he.st w s P λa v H' s1 w' s' ho P'=>hr H' D w' s' P'
noncomputable def FAO {α : Type} (K : PySem.W.Frag) (OO OO' : List (List XG)) (o : OE α) (Q : List V -> Hp -> Prop) (as : List α) (H : Hp) : Prop:=∀ vs Cs H', XC H H' -> W (Cs.flatten :: OO') H' -> XC (hid H OO) (hid H' (Cs.flatten :: OO')) -> P3 (o K (hid H' (Cs.flatten :: OO'))) vs as Cs -> Q vs H'
noncomputable def L7 {α : Type} (K : PySem.W.Frag) (Er : Exc -> Hp -> Prop) (S : SC) (OO OO' : List (List XG)) (σ : St) (t : TA) (o : OE α) (m : Rs (List α)) : Prop:=∀ H Q, W OO H -> S.p (hid H OO) -> PZ Er (FAO K OO OO' o Q) H m -> t σ H Q
theorem Ez {o : OE α} : L7 K Er S OO OO σ Qs o (.ok []):=λH Q w s P=>P [] [] H (XC.refl _) w.nil (by show XC _ (hid H ([] :: OO)); rw [ZI]; exact XC.refl _) .nil
theorem DI {te : TE} {t : TA} {o : OE α} [z : MonoO o] {m : Rs α} {n : Rs (List α)} (he : Ev K Er S OO OO1 σ te o m) (ht : ∀ C, L7 K Er S (C :: OO1) (C :: OO2) σ t o n) : L7 K Er S OO OO2 σ (XQ te t) o (m.bind λa=>n.bind λas=>.ok (a :: as)):=λH Q w s P=>by
  refine he H _ w s ?_
  cases em : m with
  | bad=>rw [em] at P; exact P
  | err x=>rw [em] at P; exact P
  | ok a=>
    rw [em] at P
    intro v C H1 s1 w1 m1 ho
    refine ht C H1 _ w1 (S.mono _ _ m1 s) ?_
    have P1 : PZ Er (FAO K OO OO2 o Q) H (n.bind λas=>.ok (a :: as)):=P
    cases en : n with
    | bad=>rw [en] at P1; exact P1
    | err x=>rw [en] at P1; exact λH2 s2=>P1 H2 (s1.trans s2)
    | ok as=>
      rw [en] at P1
      have P1 : FAO K OO OO2 o Q (a :: as) H:=P1
      intro vs Cs H2 s2 w2 m2 pr
      have pe : ((C :: Cs).flatten :: OO2).flatten.Perm (Cs.flatten :: C :: OO2).flatten:=by
        simp only [List.flatten_cons]
        rw [← List.append_assoc]
        exact List.perm_append_comm.append_right _
      refine P1 (v :: vs) (C :: Cs) H2 (s1.trans s2) (w2.of pe) ?_ ?_
      . rw [X5 pe]; exact m1.trans m2
      . rw [X5 pe]; exact .cons (z.mono m2 ho) pr
class InE {α : Type} [DecidableEq α] (r : Enc α) : Prop where
  fl : ∀ {K : PySem.W.Frag} {H : Hp} {x : V} {a : α}, r K H x a -> JU x = true
  eq : ∀ {K : PySem.W.Frag} {H H' : Hp} {x y : V} {a b : α}, r K H x a -> r K H' y b -> eqV x y = decide (a = b)
instance : InE Xa:=⟨fun {K H x a} h=>by cases (show x = .int a from h); rfl, fun {K H H' x y a b} h h'=>by
  cases (show x = .int a from h); cases (show y = .int b from h'); show (a == b) = _; rw [Et]⟩
theorem Vk [DecidableEq α] {r : Enc α} [z : InE r] {H H' : Hp} {x : V} {a : α} (hx : r K H x a) : ∀ {xs : List V} {as : List α}, Paired (r K H') xs as -> xs.all JU = true /\ inV x xs = decide (a ∈ as)
  | _, _, .nil=>⟨rfl, by simp [inV]⟩
  | _, _, .cons h t=>by
    obtain ⟨h1, h2⟩:=Vk hx t
    refine ⟨by rw [List.all_cons, h1, z.fl h]; rfl, ?_⟩
    unfold inV at h2 ⊢
    rw [List.any_cons, h2, z.eq h hx, Bool.eq_iff_iff, Bool.or_eq_true, decide_eq_true_eq, decide_eq_true_eq, decide_eq_true_eq, List.mem_cons]
    exact or_congr ⟨Eq.symm, Eq.symm⟩ Iff.rfl
theorem ET [DecidableEq α] {ta tb : TE} {r : Enc α} [z : InE r] {ma : Rs α} {mb : Rs (List α)} (ha : EvB K Er S OO σ ta r ma) (hb : EvB K Er S OO σ tb (rV r) mb) : EvB K Er S OO σ (tOp (rIn K false) ta tb) XS (ma.bind λa=>mb.bind λas=>.ok (decide (a ∈ as))):=λH Q w s P=>
  ha.run w s FB.tr P λa x H1 s1 w1 q1 r1 P1=>hb.run w1 q1 FB.tr P1 λb y H2 s2 w2 q2 ⟨p, xs, e, q, pr⟩ P2=>by
    obtain ⟨h1, h2⟩:=Vk r1 pr
    exact ⟨p, xs, e, .inl (SqL.of q), z.fl r1, h1, P2 _ H2 (XC.refl _) (by rw [h2]; rfl)⟩
noncomputable def Ek [DecidableEq α] (as : List α) (a : α) : Rs Int:=match as.findIdx? (λb=>decide (b = a)) with
  | some j=>.ok (j : Int)
  | none=>.bad
theorem FH [DecidableEq α] {r : Enc α} [z : InE r] {H H' : Hp} {x : V} {a : α} (hx : r K H x a) {xs : List V} {as : List α} (p : Paired (r K H') xs as) {j : Nat} (hj : as.findIdx? (λb=>decide (b = a)) = some j) :
    (∃ y, xs[j]? = some y /\ eqV y x = true) /\ ∀ (m : Nat) y, m < j -> xs[m]? = some y -> eqV y x = false:=by
  rw [List.findIdx?_eq_some_iff_getElem] at hj
  obtain ⟨h1, h2, h3⟩:=hj
  constructor
  . obtain ⟨y, hy, ry⟩ := Paired.getR p (i := j) (b := as[j]) (by simp [h1])
    exact ⟨y, hy, by rw [z.eq ry hx]; exact h2⟩
  . intro m y hm hy
    obtain ⟨b, hb, rb⟩:=Paired.getL p hy
    have hml : m < as.length:=by omega
    have e : b = as[m]:=by rw [List.getElem?_eq_getElem hml] at hb; exact (Option.some.inj hb).symm
    rw [z.eq rb hx, e]
    have:=h3 m hm
    simpa using this
theorem E4 [DecidableEq α] {as : List α} {a : α} {x : Exc} : Ek as a ≠ .err x:=by unfold Ek; split <;> exact λz=>nomatch z
theorem HA [DecidableEq α] {as : List α} {a : α} {n : Int} (h : Ek as a = .ok n) : ∃ j : Nat, as.findIdx? (λb=>decide (b = a)) = some j /\ n = j:=by
  unfold Ek at h; split at h
  . cases h; exact ⟨_, by assumption, rfl⟩
  . cases h
theorem Kb [DecidableEq α] {ta tb : TE} {r : Enc α} [z : InE r] [y : MonoE r] {ma : Rs (List α)} {mb : Rs α} (ha : EvB K Er S OO σ ta (rV r) ma) (hb : EvB K Er S OO σ tb r mb) : EvB K Er S OO σ (tBM K "list" (Do K) ta (XQ tb Qs)) Xa (ma.bind λas=>mb.bind λa=>Ek as a):=λH Q w s P=>
  ha.run w s FB.tr P λas x H1 s1 w1 q1 ⟨p, xs, e, q, pr⟩ P1=>⟨by rw [e]; exact .inl ⟨rfl, _, SqL.of q⟩, hb.run w1 q1 FB.tr P1 λb v H2 s2 w2 q2 r2 P2=>by
    obtain ⟨c, hc, P3⟩:=P2.okOf λx=>E4
    obtain ⟨j, hj, rfl⟩:=HA hc
    have pr2:=Paired.imp2 (G:=r K H2) (λ_ _ h=>y.mono s2 h) pr
    obtain ⟨h1, h2⟩:=FH r2 pr2 hj
    exact ⟨p, xs, v, j, e, rfl, SqL.of (s2 _ _ q), z.fl r2, (Vk r2 pr2).1, h1, h2, P3 _ H2 (XC.refl _) rfl⟩⟩
theorem Ku {ta tb tc : TE} {p q : Int -> Int -> Bool} {ma mb mc : Rs Int} (ha : EvB K Er S OO σ ta Xa ma) (hb : EvB K Er S OO σ tb Xa mb) (hc : EvB K Er S OO σ tc Xa mc) :
    EvB K Er S OO σ (EC (rI0 λi j=>.bl (p i j)) (rI0 λi j=>.bl (q i j)) ta tb tc) XS (ma.bind λa=>mb.bind λb=>if p a b = true then mc.bind λc=>.ok (q b c) else .ok false):=λH Q w s P=>
  ha.run w s FB.tr P λa x H1 s1 w1 q1 r1 P1=>hb.run w1 q1 FB.tr P1 λb y H2 s2 w2 q2 r2 P2=>⟨a, b, r1, r2, p a b, rfl, by
    cases h : p a b with
    | false=>rw [h] at P2; exact P2 _ H2 (XC.refl _) rfl
    | true=>
      rw [h, if_pos rfl] at P2
      rw [if_pos rfl]
      exact hc.run w2 q2 FB.tr P2 λc z H3 s3 w3 q3 r3 P3=>⟨b, c, r2, r3, P3 _ H3 (XC.refl _) rfl⟩⟩
theorem DF {α : Type} [DecidableEq α] {r r' : Enc α} {d : Nat} (E : EqOk r d) (h : ∀ {K : PySem.W.Frag} {H : Hp} {v : V} {a : α}, r' K H v a -> r K H v a) (m : MonoE r') : EqOk r' d where
  uniq:=λI h1 h2=>E.uniq I (h h1) (h h2)
  eq:=λI rx ry h1 h2 hu=>E.eq I rx ry (h h1) (h h2) hu
  rc:=λI rx ry h1 h2 hu=>E.rc I rx ry (h h1) (h h2) hu
  ne:=λI rx ry h1 h2 hu=>E.ne I rx ry (h h1) (h h2) hu
  keep:=λs q=>m.mono s q
theorem Mq {α : Type} [DecidableEq α] {r : Enc α} {d : Nat} [m : MonoE r] (E : EqOk r d) : EqOk (rV r) (d + 1):=DF (Ht E) (λr9=>by obtain ⟨a, xs, e, q, p⟩:=r9; exact ⟨a, xs, e, SqL.of q, p⟩) inferInstance
theorem IY {α β : Type} [DecidableEq α] [DecidableEq β] {r : Enc α} {q : Enc β} {d : Nat} [m : MonoE r] [n : MonoE q] (E : EqOk r d) (F : EqOk q d) : EqOk (rP2 r q) (d + 1):=DF (Hj E F) (λr9=>by obtain ⟨a, x, y, e, q, p⟩:=r9; exact ⟨a, x, y, e, SqT.of q, p⟩) inferInstance
end
section
variable {K : PySem.W.Frag} {Er : Exc -> Hp -> Prop} {S : SC} {OO OO' OO1 OO2 : List (List XG)} {σ : St} {α β γ ρ ι δ ε : Type}
variable {Fd : Ends -> β -> Hp -> Prop} [fd : FdOk Fd] {u : TS}
theorem QC {ta tb : TE} {o : OE α} {q : OE β} [z : MonoO o] [y : MonoO q] {ma : Rs α} {mb : Rs β} (ha : Ev K Er S OO OO1 σ ta o ma) (hb : ∀ C, Ev K Er S (C :: OO1) (C :: OO2) σ tb q mb) : Ev K Er S OO OO2 σ (Iy (XQ ta (XQ tb Qs))) (oT2 o q) (ma.bind λa=>mb.bind λb=>.ok (a, b)):=λH Q w s P=>by
  refine ha H _ w s ?_
  cases em : ma with
  | bad=>rw [em] at P; exact P
  | err x=>rw [em] at P; exact P
  | ok a=>
    rw [em] at P
    intro v C H1 s1 w1 m1 ho
    refine hb C H1 _ w1 (S.mono _ _ m1 s) ?_
    have P1 : PZ Er (FO K OO OO2 (oT2 o q) Q) H (mb.bind λb=>.ok (a, b)):=P
    cases en : mb with
    | bad=>rw [en] at P1; exact P1
    | err x=>rw [en] at P1; exact λH2 s2=>P1 H2 (s1.trans s2)
    | ok b=>
      rw [en] at P1
      have P1 : FO K OO OO2 (oT2 o q) Q (a, b) H:=P1
      intro v2 C2 H2 s2 w2 m2 ho2
      refine ⟨by show 2 <= sizeLine; decide, λp hp=>?_⟩
      have pe : ((C ++ C2) :: OO2).flatten.Perm (C2 :: C :: OO2).flatten:=by
        simp only [List.flatten_cons]
        rw [← List.append_assoc]
        exact List.perm_append_comm.append_right _
      have s3 : XC H2 (upd H2 p (.tup [v, v2])):=XJ hp _
      have w3:=(w2.keep s3).of pe
      have m3 : XC (hid H2 (C2 :: C :: OO2)) (hid (upd H2 p (.tup [v, v2])) ((C ++ C2) :: OO2)):=by rw [X5 pe]; exact Xj s3
      refine P1 (.ref p) (C ++ C2) _ (s1.trans (s2.trans s3)) w3 (m1.trans (m2.trans m3)) ⟨p, v, v2, C, C2, rfl, ?_, z.mono (m2.trans m3) ho, y.mono m3 ho2, rfl⟩
      rw [X5 pe]
      exact ZO w2 hp
theorem EJ {c : TT} {t1 : TS} {mc : Rs Bool} {m2 : Rs β} (hc : EvT Er S OO σ c mc) (h2 : Sv Er S OO σ u Fd m2) : Sv Er S OO σ (QF (LJ c t1 GK) u) Fd (mc.bind λb=>if b = true then .bad else m2):=λH D w s P=>
  hc.st w s P λb H' w' s' P'=>by
    cases b with
    | true=>rw [if_pos rfl] at P'; exact P'.elim
    | false=>exact h2 H' D w' s' P'
theorem Kq : ∀ {l : List XG} {a b : XG}, (l.map (·.1)).Nodup -> a ∈ l -> b ∈ l -> a.1 = b.1 -> a = b
  | [], _, _, _, h, _, _=>by cases h
  | c :: l, a, b, n, ha, hb, e=>by
    rw [List.map_cons, List.nodup_cons] at n
    cases ha with
    | head=>cases hb with
      | head=>rfl
      | tail _ hb=>exact absurd (List.mem_map.mpr ⟨b, hb, e.symm⟩) n.1
    | tail _ ha=>cases hb with
      | head=>exact absurd (List.mem_map.mpr ⟨a, ha, e⟩) n.1
      | tail _ hb=>exact Kq n.2 ha hb e
theorem J7 {Cs : List (List XG)} {k : Nat} {C : List XG} (h : Cs[k]? = some C) : ∀ c ∈ C, c ∈ Cs.flatten:=λc hc=>List.mem_flatten.mpr ⟨C, List.mem_of_getElem? h, hc⟩
theorem EN {as : List α} {i : Int} {a : α} (h : atR as i = .ok a) : ∃ k, ixN as.length i = some k /\ as[k]? = some a:=by
  have:=GY h
  unfold atI at this
  cases e : ixN as.length i with
  | none=>rw [e] at this; cases this
  | some k=>rw [e] at this; exact ⟨k, rfl, this⟩
theorem CG {r : Enc α} [z : MonoE r] {v : V} {as : List (List α)} {row row' : List α} {H : Hp} {p q : Addr} {xs ys ys' : List V} {Cs : List (List XG)} {k kk : Nat} (w : W OO H) (hk : OO[k]? = some ((p, .lst xs) :: Cs.flatten)) (hP : P3 (oL (oF r) K (hid H OO)) xs as Cs) (hrow : as[kk]? = some row)
    (hx : xs[kk]? = some (.ref q)) (hq : H q = some (.lst ys)) (hcs : Cs[kk]? = some [(q, .lst ys)]) (pr : Paired (r K (hid H OO)) ys' row') :
    ∃ C', W (OO.set k C') (upd H q (.lst ys')) /\ XC (hid H OO) (hid (upd H q (.lst ys')) (OO.set k C')) /\ oL (oL (oF r)) K (hid (upd H q (.lst ys')) (OO.set k C')) (.ref p) (as.set kk row') C':=by
  have hkl : kk < Cs.length:=by
    rcases Nat.lt_or_ge kk Cs.length with h | h
    . exact h
    . rw [List.getElem?_eq_none h] at hcs; cases hcs
  have hin : ∀ c ∈ (p, HO.lst xs) :: Cs.flatten, c ∈ OO.flatten:=λc hc=>List.mem_flatten.mpr ⟨_, List.mem_of_getElem? hk, hc⟩
  have w0 : W ([] :: OO) H:=w.nil
  have cn0:=Z8 w0 hk
  rw [List.append_nil] at cn0
  have e0 : Cs[kk] = [(q, .lst ys)]:=by
    rw [List.getElem?_eq_getElem hkl] at hcs; exact Option.some.inj hcs
  have hp:=UI (Cs:=Cs) (j:=kk) (D:=[(q, HO.lst ys')]) hkl
  rw [e0] at hp
  have hpm : ((Cs.set kk [(q, HO.lst ys')]).flatten.map (·.1)).Perm (Cs.flatten.map (·.1)):=by
    have:=hp.map (·.1)
    simp only [List.map_append, List.map_cons, List.map_nil] at this
    exact (List.perm_append_right_iff _).mp this
  have hpne : p ∉ Cs.flatten.map (·.1):=by
    have h1:=X6 hk
    have:=(w.of (OO':=((p, HO.lst xs) :: Cs.flatten) :: OO.set k []) h1).nd
    rw [X7, List.map_cons, List.cons_append, List.nodup_cons] at this
    exact λz=>this.1 (List.mem_append_left _ z)
  have hqC : q ∈ Cs.flatten.map (·.1):=List.mem_map.mpr ⟨(q, .lst ys), J7 hcs _ (by simp), rfl⟩
  have hpq : p ≠ q:=λe=>hpne (e ▸ hqC)
  have hcells : ∀ c ∈ (p, HO.lst xs) :: (Cs.set kk [(q, HO.lst ys')]).flatten, upd H q (.lst ys') c.1 = some c.2 /\ IE c.2 = true:=λc hc=>by
    rcases List.mem_cons.mp hc with rfl | hc
    . rw [XD hpq]; exact ⟨w.tr _ (hin _ List.mem_cons_self), rfl⟩
    . obtain ⟨D, hD, hcD⟩ := List.mem_flatten.mp hc
      rcases List.mem_or_eq_of_mem_set hD with hD | hD
      . by_cases hcq : c.1 = q
        . -- a cell at q in another place: then it is this one
          have hc2 : c ∈ (Cs.set kk [(q, HO.lst ys')]).flatten:=hc
          have n1 : ((Cs.set kk [(q, HO.lst ys')]).flatten.map (·.1)).Nodup:=hpm.nodup_iff.mpr cn0
          have hm : (q, HO.lst ys') ∈ (Cs.set kk [(q, HO.lst ys')]).flatten:=List.mem_flatten.mpr ⟨[(q, .lst ys')], List.mem_set (by simpa using hkl) _, by simp⟩
          have e1 : c = (q, HO.lst ys'):=by
            have:=Kq n1 hc2 hm hcq
            exact this
          rw [e1]; exact ⟨YA, rfl⟩
        . rw [XD hcq]
          have : c ∈ OO.flatten:=hin c (List.mem_cons_of_mem _ (List.mem_flatten.mpr ⟨D, hD, hcD⟩))
          exact ⟨w.tr c this, w.mu c this⟩
      . rw [hD] at hcD
        have e1 : c = (q, HO.lst ys'):=by simpa using hcD
        rw [e1]; exact ⟨YA, rfl⟩
  have hq' : q ∈ (Cs.set kk [(q, HO.lst ys')]).flatten.map (·.1):=hpm.mem_iff.mpr hqC
  obtain ⟨w2, m2⟩:=He (C':=(p, .lst xs) :: (Cs.set kk [(q, HO.lst ys')]).flatten) (p:=q) (o:=.lst ys') w0 hk (List.mem_cons_of_mem _ hqC) (List.mem_cons_of_mem _ hq') (by
      rw [List.map_cons, List.nodup_cons]
      exact ⟨λz=>hpne (hpm.mem_iff.mp z), hpm.nodup_iff.mpr cn0⟩) (λb hb=>by
      rw [List.append_nil]
      rcases List.mem_cons.mp hb with rfl | hb
      . exact List.mem_cons_self
      . exact List.mem_cons_of_mem _ (hpm.mem_iff.mp hb)) (λc hc=>(hcells c hc).1) λc hc=>(hcells c hc).2
  rw [ZI] at m2
  have e3 : xs.set kk (.ref q) = xs:=by
    apply List.ext_getElem?
    intro n
    by_cases hn : n = kk
    . subst hn
      rw [hx, List.getElem?_set_self (by
        rcases Nat.lt_or_ge n xs.length with h | h
        . exact h
        . rw [List.getElem?_eq_none h] at hx; cases hx)]
    . rw [List.getElem?_set_ne (λe=>hn e.symm)]
  refine ⟨_, w2, m2, ⟨p, xs, Cs.set kk [(q, HO.lst ys')], rfl, ?_, rfl⟩⟩
  have:=P3.set (F:=oL (oF r) K (hid (upd H q (.lst ys')) (OO.set k ((p, .lst xs) :: (Cs.set kk [(q, HO.lst ys')]).flatten)))) (a:=V.ref q) (b:=row') (c:=[(q, HO.lst ys')])
    ⟨q, ys', List.replicate row'.length [], rfl, (P3.of (Paired.imp2 (λ_ _ h=>z.mono m2 h) pr)).imp λ_ _ _ h=>h, by rw [YT]⟩ kk (P3.imp (λ_ _ _ h=>MonoO.mono m2 h) hP)
  rw [e3] at this
  exact this
theorem DZ {r : Enc α} {h : Hp} {as : List (List α)} {xs : List V} {Cs : List (List XG)} {kk : Nat} {row : List α} (q : P3 (oL (oF r) K h) xs as Cs) (hrow : as[kk]? = some row) : ∃ q0 ys, xs[kk]? = some (.ref q0) /\ Cs[kk]? = some [(q0, .lst ys)] /\ Paired (r K h) ys row:=by
  obtain ⟨x, c, h1, h2, p, ys, Ds, e, h3, h4⟩:=q.get hrow
  obtain ⟨h5, h6⟩:=P3.flat h3
  rw [h6] at h4
  exact ⟨p, ys, by rw [h1, e], by rw [h2, h4], h5⟩
theorem BI {ta ti : TE} {r : Enc α} [z : MonoE r] {m : Rs α} {mi : Rs Int} {f : List (List α) -> Rs β} {v : V} {as : List (List α)} {C : List XG} (i k : Nat) (hσ : σ[i]? = some (some v)) (hk : OO[k]? = some C) (h : ∀ x, S.p x -> oL (oL (oF r)) K x v as C) (he : EvS K Er S OO σ ta r m)
    (hi : EvB K Er S OO σ ti Xa mi)
    (hr : ∀ bs C', Sv Er (S.addO K (oL (oL (oF r))) v bs C') (OO.set k C') σ u Fd (f bs)) :
    Sv Er S OO σ (QF (Ga (tBM K "list" UL (tOp (ED K) (Uw i) ti) (XQ ta Qs))) u) Fd (mi.bind λx=>(atR as x).bind λrow=>m.bind λa=>chk (row.length < sizeLine) ((QD as x (row ++ [a])).bind f)):=λH D w s P=>
  ⟨v, hσ, hi.st w s P λx vx H2 s2 w2 q2 r2 P2=>by
    cases ea : atR as x with
    | bad=>rw [ea] at P2; exact P2.elim
    | err ex=>exact absurd ea Kr
    | ok row=>
      rw [ea] at P2
      obtain ⟨kk, hkk, hrow⟩:=EN ea
      obtain ⟨p, xs, Cs, e, q, c⟩:=h _ q2
      subst c e
      obtain ⟨q0, ys, g1, g2, g3⟩:=DZ q hrow
      have hin : ∀ c ∈ (p, HO.lst xs) :: Cs.flatten, c ∈ OO.flatten:=λc hc=>List.mem_flatten.mpr ⟨_, List.mem_of_getElem? hk, hc⟩
      have hH : H2 p = some (.lst xs):=w2.tr (p, .lst xs) (hin _ List.mem_cons_self)
      have hq0 : H2 q0 = some (.lst ys):=w2.tr (q0, .lst ys) (hin _ (List.mem_cons_of_mem _ (J7 g2 _ (by simp))))
      refine ⟨p, xs, x, .ref q0, rfl, r2, SqL.of hH, by unfold atI; rw [q.len.1, hkk]; exact g1, .inl ⟨rfl, _, SqL.of hq0⟩, he.st w2 q2 (f:=λa=>chk (row.length < sizeLine) ((QD as x (row ++ [a])).bind f)) P2 λa va H3 s3 w3 q3 r3 P3'=>?_⟩
      obtain ⟨hsz, P3'⟩:=PZ.chk P3'
      have P4 : PZ Er (Fd D) (hid H3 OO) (f (as.set kk (row ++ [a]))):=by
        have e5 : QD as x (row ++ [a]) = .ok (as.set kk (row ++ [a])):=by unfold QD; rw [hkk]
        rw [e5] at P3'
        exact P3'
      have m3:=Xj (OO:=OO) s3
      obtain ⟨C', w4, m4, o4⟩:=CG (ys':=ys ++ [va]) (row':=row ++ [a]) (v:=.ref p) w3 hk (P3.imp (λ_ _ _ h=>MonoO.mono m3 h) q) hrow g1 (s3 _ _ hq0) g2 (Paired.app (Paired.imp2 (λ_ _ h=>z.mono m3 h) g3) (.cons r3 .nil))
      exact ⟨q0, ys, va, rfl, rfl, s3 _ _ hq0, by rw [Paired.len g3]; exact hsz, hr _ C' _ D w4 ⟨S.mono _ _ m4 q3, o4⟩ (PZ.tr (fd.tr D) m4 P4)⟩⟩
theorem Mg {H H' : Hp} {C D : List XG} {k : Nat} (w : W OO H) (hk : OO[k]? = some C) (s : XC H H') (w' : W (D :: OO.set k []) H') (m : XC (hid H (OO.set k [])) (hid H' (D :: OO.set k []))) :
    W (D :: OO) H' /\ XC (hid H OO) (hid H' (D :: OO)) /\ Fz (hid H' (D :: OO.set k [])) (hid H' (D :: OO)):=by
  have hp:=X6 hk
  have wk : W (C :: OO.set k []) H:=w.of hp
  have hC : ∀ c ∈ C, hid H (OO.set k []) c.1 = some c.2:=λc hc=>Zv (wk.cell c hc) (by
    have:=wk.nd
    rw [X7] at this
    exact λhb=>(List.nodup_append.mp this).2.2 c.1 (List.mem_map.mpr ⟨c, hc, rfl⟩) c.1 hb rfl)
  have hC' : ∀ c ∈ C, H' c.1 = some c.2 /\ c.1 ∉ fl (D :: OO.set k []):=λc hc=>X4 (m _ _ (hC c hc))
  have w2 : W (C :: D :: OO.set k []) H':=by
    refine ⟨λc hc=>?_, ?_, λc hc=>?_⟩
    . rw [List.flatten_cons, List.mem_append] at hc
      exact hc.elim (λhc=>(hC' c hc).1) λhc=>w'.tr c hc
    . rw [X7]
      refine List.nodup_append.mpr ⟨?_, w'.nd, λa ha b hb e=>?_⟩
      . have := wk.nd
        rw [X7] at this
        exact (List.nodup_append.mp this).1
      . obtain ⟨c, hc, rfl⟩ := List.mem_map.mp ha
        subst e
        exact (hC' c hc).2 hb
    . rw [List.flatten_cons, List.mem_append] at hc
      exact hc.elim (λhc=>wk.mu c (by simp [hc])) λhc=>w'.mu c hc
  have pe : (D :: OO).flatten.Perm (C :: D :: OO.set k []).flatten:=by
    simp only [List.flatten_cons]
    refine List.Perm.trans (List.Perm.append_left D (by simpa using hp.symm : OO.flatten.Perm (C ++ (OO.set k []).flatten))) ?_
    rw [← List.append_assoc, ← List.append_assoc]
    exact List.perm_append_comm.append_right _
  have w3:=w2.of pe
  refine ⟨w3, λb u q=>?_, λb u q i=>w3.i b u (X4 q).1 i⟩
  obtain ⟨q1, q2⟩:=X4 q
  have q3 : hid H (OO.set k []) b = some u:=Zv q1 λz=>q2 ((Q1 hp b).mp (by rw [X7]; simp [z]))
  obtain ⟨q4, q5⟩:=X4 (m _ _ q3)
  refine Zv q4 λz=>?_
  have z2:=(Q1 pe b).mp z
  rw [X7, List.mem_append] at z2
  rcases z2 with z2 | z2
  . exact q2 ((Q1 hp b).mp (by rw [X7]; exact List.mem_append_left _ z2))
  . exact q5 z2
theorem Ml {r1 : Enc γ} {o1 : OE γ} [z : FrzC o1 r1] [MonoE r1] {H : Hp} {v : V} {a : γ} {C : List XG} {k : Nat} (w : W OO H) (hk : OO[k]? = some C) (s : S.p (hid H OO)) (h : ∀ x, S.p x -> o1 K x v a C) :
    W (OO.set k []) H /\ (S.add K r1 v a).p (hid H (OO.set k [])):=by
  have hp:=X6 hk
  have wk : W (C :: OO.set k []) H:=w.of hp
  have hs : XC (hid H OO) (hid H (OO.set k [])):=by
    rw [← X5 hp]
    exact QV (XC.refl _) λb hb=>by rw [X7]; simp [hb]
  refine ⟨wk.tail, S.mono _ _ hs s, z.frz (h _ s) hs λc hc=>Zv (wk.cell c hc) ?_⟩
  have:=wk.nd
  rw [X7] at this
  exact λhb=>(List.nodup_append.mp this).2.2 c.1 (List.mem_map.mpr ⟨c, hc, rfl⟩) c.1 hb rfl
theorem VT {te : TE} {o : OE α} [y : FlatO o] {r1 : Enc γ} {o1 : OE γ} [FrzC o1 r1] [MonoE r1] {m : Rs α} {v : V} {a : γ} {C : List XG} (k : Nat) (hk : OO[k]? = some C) (h : ∀ x, S.p x -> o1 K x v a C) (he : Ev K Er (S.add K r1 v a) (OO.set k []) (OO.set k []) σ te o m) : Ev K Er S OO OO σ te o m:=λH Q w s P=>by
  obtain ⟨w1, s1⟩:=Ml (r1:=r1) w hk s h
  refine he H Q w1 s1 (P.imp λb _ hb v' D H' s' w' m' ho=>?_)
  obtain ⟨w3, m3, i3⟩:=Mg w hk s' w' m'
  exact hb v' D H' s' w3 m3 (y.flat i3 ho)
theorem Je (K : PySem.W.Frag) (T : String) : PySem.W.kitOne K (.type T) (.type T) = some true:=by
  unfold PySem.W.kitOne
  rw [if_pos (beq_self_eq_true _)]
theorem Kt (K : PySem.W.Frag) : PySem.W.kitOne K (.type "int") (.type "bool") = some false:=by
  first
    | rfl
    | decide +kernel
    | (unfold PySem.W.kitOne PySem.W.kitCls; rfl)
end
section
variable {K : PySem.W.Frag} {Er : Exc -> Hp -> Prop} {S : SC} {OO OO' OO1 OO2 : List (List XG)} {σ : St} {α β γ ρ ι δ ε : Type}
variable {Fd : Ends -> β -> Hp -> Prop} [fd : FdOk Fd] {u : TS}
noncomputable def MW : Option α -> Rs α
  | some a=>.ok a
  | none=>.bad
end
section
variable {K : PySem.W.Frag} {Er : Exc -> Hp -> Prop} {S : SC} {OO OO' OO1 OO2 : List (List XG)} {σ : St} {α β γ ρ ι δ ε : Type}
variable {α1 α2 α3 α4 α5 : Type}
noncomputable def rP5 (r1 : Enc α1) (r2 : Enc α2) (r3 : Enc α3) (r4 : Enc α4) (r5 : Enc α5) : Enc (α1 × α2 × α3 × α4 × α5):=λK H v p=>∃ a x1 x2 x3 x4 x5, v = .ref a /\ H a = some (.tup [x1, x2, x3, x4, x5]) /\ r1 K H x1 p.1 /\ r2 K H x2 p.2.1 /\ r3 K H x3 p.2.2.1 /\ r4 K H x4 p.2.2.2.1 /\ r5 K H x5 p.2.2.2.2
instance {r1 : Enc α1} {r2 : Enc α2} {r3 : Enc α3} {r4 : Enc α4} {r5 : Enc α5} [m1 : MonoE r1] [m2 : MonoE r2] [m3 : MonoE r3] [m4 : MonoE r4] [m5 : MonoE r5] : MonoE (rP5 r1 r2 r3 r4 r5):=⟨λs r9=>by obtain ⟨a, x1, x2, x3, x4, x5, e, h, p1, p2, p3, p4, p5⟩:=r9; exact ⟨a, x1, x2, x3, x4, x5, e, s _ _ h, m1.mono s p1, m2.mono s p2, m3.mono s p3, m4.mono s p4, m5.mono s p5⟩⟩
instance {r1 : Enc α1} {r2 : Enc α2} {r3 : Enc α3} {r4 : Enc α4} {r5 : Enc α5} [m1 : FlatE r1] [m2 : FlatE r2] [m3 : FlatE r3] [m4 : FlatE r4] [m5 : FlatE r5] : FlatE (rP5 r1 r2 r3 r4 r5):=⟨λs r9=>by obtain ⟨a, x1, x2, x3, x4, x5, e, h, p1, p2, p3, p4, p5⟩:=r9; exact ⟨a, x1, x2, x3, x4, x5, e, s _ _ h rfl, m1.flat s p1, m2.flat s p2, m3.flat s p3, m4.flat s p4, m5.flat s p5⟩⟩
theorem GR {t1 : TE} {t2 : TE} {t3 : TE} {t4 : TE} {t5 : TE} {r1 : Enc α1} {r2 : Enc α2} {r3 : Enc α3} {r4 : Enc α4} {r5 : Enc α5} [z1 : MonoE r1] [z2 : MonoE r2] [z3 : MonoE r3] [z4 : MonoE r4] [z5 : MonoE r5] {m1 : Rs α1} {m2 : Rs α2} {m3 : Rs α3} {m4 : Rs α4} {m5 : Rs α5} (h1 : EvS K Er S OO σ t1 r1 m1) (h2 : EvS K Er S OO σ t2 r2 m2) (h3 : EvS K Er S OO σ t3 r3 m3) (h4 : EvS K Er S OO σ t4 r4 m4) (h5 : EvS K Er S OO σ t5 r5 m5) : EvS K Er S OO σ (Iy (XQ t1 (XQ t2 (XQ t3 (XQ t4 (XQ t5 Qs)))))) (rP5 r1 r2 r3 r4 r5) (m1.bind λa1=>m2.bind λa2=>m3.bind λa3=>m4.bind λa4=>m5.bind λa5=>.ok (a1, a2, a3, a4, a5)):=λH Q w s P=>
  h1.run w s FS.tr P λa1 y1 H1 s1 w1 u1 q1 P1=>h2.run w1 u1 FS.tr P1 λa2 y2 H2 s2 w2 u2 q2 P2=>h3.run w2 u2 FS.tr P2 λa3 y3 H3 s3 w3 u3 q3 P3=>h4.run w3 u3 FS.tr P3 λa4 y4 H4 s4 w4 u4 q4 P4=>h5.run w4 u4 FS.tr P4 λa5 y5 H5 s5 w5 u5 q5 P5=>⟨by show 5 <= sizeLine; decide, λp hp=>P5 _ _ (XJ hp _) ⟨p, y1, y2, y3, y4, y5, rfl, ZO w5 hp, z1.mono ((Xj s2).trans ((Xj s3).trans ((Xj s4).trans ((Xj s5).trans (Xj (XJ hp _)))))) q1, z2.mono ((Xj s3).trans ((Xj s4).trans ((Xj s5).trans (Xj (XJ hp _))))) q2, z3.mono ((Xj s4).trans ((Xj s5).trans (Xj (XJ hp _)))) q3, z4.mono ((Xj s5).trans (Xj (XJ hp _))) q4, z5.mono (Xj (XJ hp _)) q5⟩⟩
noncomputable def tg5 {r1 : Enc α1} {r2 : Enc α2} {r3 : Enc α3} {r4 : Enc α4} {r5 : Enc α5} [MonoE r1] [MonoE r2] [MonoE r3] [MonoE r4] [MonoE r5] (i1 i2 i3 i4 i5 : Nat) : Tgt K OO (EV K 5 (Qr (Zd i1) (Qr (Zd i2) (Qr (Zd i3) (Qr (Zd i4) (Qr (Zd i5) Ic)))))) (rP5 r1 r2 r3 r4 r5) (V × V × V × V × V) where
  set:=λv σ=>(((((σ.set i1 (some v.1)).set i2 (some v.2.1)).set i3 (some v.2.2.1)).set i4 (some v.2.2.2.1)).set i5 (some v.2.2.2.2))
  sc:=λa v S=>(((((S.add K r1 v.1 a.1).add K r2 v.2.1 a.2.1).add K r3 v.2.2.1 a.2.2.1).add K r4 v.2.2.2.1 a.2.2.2.1).add K r5 v.2.2.2.2 a.2.2.2.2)
  ok:=fun {H v a σ S Q} r9 hs hq=>by obtain ⟨p, x1, x2, x3, x4, x5, e, h, h1, h2, h3, h4, h5⟩:=r9; exact ⟨p, _, e, SqT.of (Xw _ _ h), rfl, x1, [x2, x3, x4, x5], rfl, x2, [x3, x4, x5], rfl, x3, [x4, x5], rfl, x4, [x5], rfl, x5, [], rfl, rfl, hq (x1, x2, x3, x4, x5) ⟨⟨⟨⟨⟨hs, h1⟩, h2⟩, h3⟩, h4⟩, h5⟩⟩
theorem Ij {ta : TE} {r1 : Enc α1} {r2 : Enc α2} {r3 : Enc α3} {m : Rs (α1 × α2 × α3)} (ha : EvS K Er S OO σ ta (rP3 r1 r2 r3) m) : EvS K Er S OO σ (tOp (EU K) ta (tC (.int 0))) r1 (m.bind λp=>.ok p.1):=λH Q w s P=>
  ha.run w s FS.tr P λa x H1 s1 w1 q1 r9 P1=>by obtain ⟨p, x1, x2, x3, e, q, h1, h2, h3⟩:=r9; exact ⟨p, _, 0, x1, e, rfl, SqT.of (Xw _ _ q), rfl, P1 _ H1 (XC.refl _) h1⟩
theorem Ik {ta : TE} {r1 : Enc α1} {r2 : Enc α2} {r3 : Enc α3} {m : Rs (α1 × α2 × α3)} (ha : EvB K Er S OO σ ta (rP3 r1 r2 r3) m) : EvB K Er S OO σ (tOp (EU K) ta (tC (.int 2))) r3 (m.bind λp=>.ok p.2.2):=λH Q w s P=>
  ha.run w s FB.tr P λa x H1 s1 w1 q1 r9 P1=>by obtain ⟨p, x1, x2, x3, e, q, h1, h2, h3⟩:=r9; exact ⟨p, _, 2, x3, e, rfl, SqT.of q, rfl, P1 _ H1 (XC.refl _) h3⟩
noncomputable def rDP {α : Type} (r : Enc α) (K : PySem.W.Frag) (H : Hp) (kv : Key × V) (kx : Int × α) : Prop:=kv.1 = .inl kx.1 /\ r K H kv.2 kx.2
noncomputable def rD {α : Type} (r : Enc α) : Enc (List (Int × α)):=λK H v d=>∃ p kvs, v = .ref p /\ H p = some (.dK kvs) /\ Paired (rDP r K H) kvs d
noncomputable def oD {α : Type} (r : Enc α) : OE (List (Int × α)):=λK h v d C=>∃ p kvs, v = .ref p /\ Paired (rDP r K h) kvs d /\ C = [(p, .dK kvs)]
instance {r : Enc α} [m : MonoE r] : MonoE (rD r):=⟨λs r9=>by obtain ⟨p, kvs, e, q, pr⟩:=r9; exact ⟨p, kvs, e, s _ _ q, Paired.imp2 (λ_ _ z=>⟨z.1, m.mono s z.2⟩) pr⟩⟩
instance {r : Enc α} [m : MonoE r] : MonoO (oD r):=⟨λs r9=>by obtain ⟨p, kvs, e, pr, c⟩:=r9; exact ⟨p, kvs, e, Paired.imp2 (λ_ _ z=>⟨z.1, m.mono s z.2⟩) pr, c⟩⟩
instance {r : Enc α} [m : FlatE r] : FlatO (oD r):=⟨λs r9=>by obtain ⟨p, kvs, e, pr, c⟩:=r9; exact ⟨p, kvs, e, Paired.imp2 (λ_ _ z=>⟨z.1, m.flat s z.2⟩) pr, c⟩⟩
instance {r : Enc α} [m : MonoE r] : FrzC (oD r) (rD r):=⟨λr9 s hc=>by obtain ⟨p, kvs, e, pr, c⟩:=r9; exact ⟨p, kvs, e, hc (p, .dK kvs) (by rw [c]; simp), Paired.imp2 (λ_ _ z=>⟨z.1, m.mono s z.2⟩) pr⟩⟩
noncomputable def Zi (d : List (Int × α)) (k : Int) : Option α:=(d.find? λkv=>decide (kv.1 = k)).map (·.2)
noncomputable def Vb (d : List (Int × α)) (k : Int) (v : α) : List (Int × α):=if (d.any λkv=>decide (kv.1 = k)) = true then d.map (λkv=>if kv.1 = k then (kv.1, v) else kv) else d ++ [(k, v)]
noncomputable def V0 (d : List (Int × α)) (k : Int) : Rs α:=MW (Zi d k)
theorem QZ {r : Enc α} {H : Hp} {k : Int} : ∀ {kvs : List (Key × V)} {d : List (Int × α)}, Paired (rDP r K H) kvs d -> (∀ a, Zi d k = some a -> ∃ v, FR kvs (.inl k) = some v /\ r K H v a) /\ (FR kvs (.inl k)).isSome = (Zi d k).isSome
  | _, _, .nil=>⟨λa h=>(by cases h), rfl⟩
  | kv :: kvs, kx :: d, .cons h t=>by
    obtain ⟨h1, h2⟩:=QZ (k:=k) t
    by_cases e : kx.1 = k
    . have e2 : kv.1 = .inl k := by rw [h.1, e]
      rw [JV e2]
      have e3 : Zi (kx :: d) k = some kx.2:=by simp [Zi, List.find?_cons, e]
      rw [e3]
      exact ⟨λa ha=>by cases ha; exact ⟨_, rfl, h.2⟩, rfl⟩
    . have e2 : ¬ kv.1 = .inl k := by rw [h.1]; exact λz => e (Sum.inl.inj z)
      rw [J6 e2]
      have e3 : Zi (kx :: d) k = Zi d k:=by simp [Zi, List.find?_cons, e]
      rw [e3]
      exact ⟨h1, h2⟩
theorem Ub {r : Enc α} {H : Hp} {k : Int} : ∀ {kvs : List (Key × V)} {d : List (Int × α)}, Paired (rDP r K H) kvs d -> (kvs.any λkv=>decide (kv.1 = .inl k)) = d.any λkx=>decide (kx.1 = k)
  | _, _, .nil=>rfl
  | kv :: kvs, kx :: d, .cons h t=>by
    rw [List.any_cons, List.any_cons, Ub t, h.1]
    congr 1
    rw [Bool.eq_iff_iff]; simp
theorem Vx {r : Enc α} {H : Hp} {k : Int} {v : V} {a : α} (hv : r K H v a) {kvs : List (Key × V)} {d : List (Int × α)} (h : Paired (rDP r K H) kvs d) : Paired (rDP r K H) (V3 kvs (.inl k) v) (Vb d k a):=by
  unfold V3 Vb
  rw [Ub h]
  by_cases e : (d.any λkx=>decide (kx.1 = k)) = true
  . rw [if_pos e, if_pos e]
    clear e
    induction h with
    | nil=>exact .nil
    | @cons kv kx l m h t ih=>
      refine .cons ?_ ih
      show rDP r K H (if kv.1 = .inl k then (kv.1, v) else kv) (if kx.1 = k then (kx.1, a) else kx)
      by_cases e : kx.1 = k
      . rw [if_pos (show kv.1 = .inl k by rw [h.1, e]), if_pos e]; exact ⟨h.1, hv⟩
      . rw [if_neg (show ¬ kv.1 = .inl k by rw [h.1]; exact λz=>e (Sum.inl.inj z)), if_neg e]; exact h
  . rw [if_neg e, if_neg e]
    exact Paired.app h (.cons ⟨rfl, hv⟩ .nil)
theorem Ig {r : Enc α} : Ev K Er S OO OO σ EF (oD r) (.ok []):=λH Q w s P=>λp hp=>P (.ref p) [(p, .dK [])] _ (XJ hp _) (w.new hp rfl) (QX hp) ⟨p, [], rfl, .nil, rfl⟩
theorem Uz {td ty : TE} {r : Enc α} [z : MonoE r] {md : Rs (List (Int × α))} {mk : Rs Int} (hd : EvB K Er S OO σ td (rD r) md) (hk : EvB K Er S OO σ ty Xa mk) : EvB K Er S OO σ (IJ td ty) r (md.bind λd=>mk.bind λk=>V0 d k):=λH Q w s P=>
  hd.run w s FB.tr P λd x H1 s1 w1 q1 ⟨p, kvs, e, q, pr⟩ P1=>hk.run w1 q1 FB.tr P1 λk y H2 s2 w2 q2 r2 P2=>by
    cases eg : Zi d k with
    | none=>rw [V0, eg] at P2; exact P2.elim
    | some a=>
      rw [V0, eg] at P2
      obtain ⟨v, hv, rv⟩:=(QZ (k:=k) pr).1 a eg
      exact ⟨p, v, e, .inl ⟨kvs, .inl k, .inl (s2 _ _ q), r2, hv.symm⟩, P2 _ H2 (XC.refl _) (z.mono s2 rv)⟩
theorem Em {td ty : TE} {r : Enc α} {md : Rs (List (Int × α))} {mk : Rs Int} (hk : EvB K Er S OO σ ty Xa mk) (hd : EvB K Er S OO σ td (rD r) md) : EvB K Er S OO σ (Bc ty td) XS (mk.bind λk=>md.bind λd=>.ok (!(Zi d k).isSome)):=λH Q w s P=>
  hk.run w s FB.tr P λk y H1 s1 w1 q1 r1 P1=>hd.run w1 q1 FB.tr P1 λd x H2 s2 w2 q2 r9 P2=>by obtain ⟨p, kvs, e, q, pr⟩:=r9; exact ⟨p, FR kvs (.inl k), e, .inl ⟨kvs, .inl k, .inl q, r1, rfl⟩, P2 _ H2 (XC.refl _) (by rw [(QZ (k:=k) pr).2]; rfl)⟩
variable {Fd : Ends -> β -> Hp -> Prop} [fd : FdOk Fd] {u : TS}
theorem Ia {tv ty : TE} {r : Enc α} [z : MonoE r] {mv : Rs α} {mk : Rs Int} {f : List (Int × α) -> Rs β} {v : V} {d : List (Int × α)} {C : List XG} (i k : Nat) (hσ : σ[i]? = some (some v)) (hk : OO[k]? = some C) (h : ∀ x, S.p x -> oD r K x v d C) (hv : EvS K Er S OO σ tv r mv) (hy : EvB K Er S OO σ ty Xa mk)
    (hr : ∀ d' C', Sv Er (S.addO K (oD r) v d' C') (OO.set k C') σ u Fd (f d')) : Sv Er S OO σ (QF (LM (Uw i) ty tv) u) Fd (mv.bind λa=>mk.bind λn=>chk (d.length < sizeLine) (f (Vb d n a))):=λH D w s P=>
  hv.st w s P λa va H1 s1 w1 q1 r1 P1=>⟨v, hσ, hy.st w1 q1 P1 λn vn H2 s2 w2 q2 r2 P2=>by
    obtain ⟨hsz, P2⟩:=PZ.chk P2
    obtain ⟨p, kvs, e, pr, c⟩:=h _ q2
    subst c e
    have hH : H2 p = some (.dK kvs):=w2.tr (p, .dK kvs) (List.mem_flatten.mpr ⟨_, List.mem_of_getElem? hk, by simp⟩)
    obtain ⟨w3, m3⟩:=He (D:=[]) (C':=[(p, .dK (V3 kvs (.inl n) va))]) (p:=p) (o:=.dK (V3 kvs (.inl n) va)) w2.nil hk (by simp) (by simp) (by simp) (λb hb=>by simpa using hb) (λc hc=>by
      have : c = (p, .dK (V3 kvs (.inl n) va)):=by simpa using hc
      rw [this]; exact YA) (λc hc=>by
      have : c = (p, .dK (V3 kvs (.inl n) va)):=by simpa using hc
      rw [this]; rfl)
    rw [ZI] at m3
    refine ⟨p, _, rfl, .inl ⟨kvs, .inl n, hH, r2, by rw [Paired.len pr]; exact hsz, rfl⟩, ?_⟩
    exact hr _ _ _ D w3 ⟨S.mono _ _ m3 q2, ⟨p, _, rfl, Vx (z.mono ((Xj s2).trans m3) r1) (Paired.imp2 (λ_ _ h=>⟨h.1, z.mono m3 h.2⟩) pr), rfl⟩⟩ (PZ.tr (fd.tr D) m3 P2)⟩
end
section
variable {P : Program} {w : World} {h0 h h' base : Heap} {H : Hp} {a T : Addr} {cls a0 : Value} {l : List Env}
end
section
variable {fs fs2 ex ex2 : List Addr} {H0 H H' : Hp} {h0 h h' : Heap}
end
section
variable {P : Program} {w : World} {K : PySem.W.Frag} {mg : Str -> Option Value} {base : Heap} {N : List Str} {qual : Str} {scope : Scope} {f : Addr} {cd : Value} {A : Around} {outer : List Env} {s0 : Shared} {H0 : Hp} {E : XK}
end
section
variable {X : Cx} {k j : Nat} {x : Str} {ps : List Str} {sp : Sp} {e : Expr} {es : List Expr} {t : TA} {p pos : Pos} {E : XK}
end
section
variable {X : Cx} {E : XK} {C : Addr} {x : Str} {e : Expr} {es : List Expr} {t : TA} {np cpos pos : Pos}
end
section
variable {X : Cx} {e : Expr} {es : List Expr} {te : TE} {t : TJ} {n : Nat} {pos p : Pos}
end
section
variable {X : Cx} {pins : List (Addr × Obj)} {σ : St} {H : Hp} {s : Shared} {h' : Heap}
end
section
variable {X : Cx} {body suite : List Stmt} {b₀ : Stmt} {cn n : Str} {Ch : Addr} {i : Nat} {tb : XK -> TS} {ts : Addr -> Addr -> TS} {np hpos pos : Pos}
end
section
variable {K : PySem.W.Frag} {Er : Exc -> Hp -> Prop} {S : SC} {OO OO' OO2 : List (List XG)} {σ : St} {α β γ ρ ι : Type} {α1 α2 α3 α4 α5 α6 : Type} {mg : Str -> Option Value} {E : XK}
variable {Fd : Ends -> β -> Hp -> Prop} [fd : FdOk Fd] {u : TS}
section
variable {te : XK -> TE} {m : Rs α} {ts : Addr -> Addr -> TS} {N i : Nat} {Ch : Addr} {o : OE ρ} {g : Exc -> Rs ρ} {ns : List Str} {d : Str}
end
end
end L2
namespace L2
open PySem PySem.Spec PyProof.Rows PySem.W PySem.Builtin PySem.Builtin.ObjectAttr PySem.Builtin.Getset_descriptor
section
variable {prog : Program} {w : World} {A : Around} {E : Value -> Shared -> Prop} {K : Frag} {x D : Addr} {s : Shared}
end
theorem IN {X : Cx} {x : Str} {v : V} {pos : Pos} (h : ∃ u, X.mg x = some u /\ Yl v u) (hg : Gl X x) (hd : (x == ("__debug__" : Str)) = false:=by decide) : PE X (.Name x pos) (tC v):=by
  obtain ⟨u, hm, r⟩:=h
  exact HC hg hm r hd
section
variable {K : PySem.W.Frag} {C D : Addr} {b : Bool}
end
end L2
namespace L2
open PySem PySem.Spec PyProof.Rows
section
variable {α β : Type} {K : PySem.W.Frag} {Er : Exc -> Hp -> Prop} {S : SC} {OO : List (List XG)} {σ : St} {Fd : Ends -> β -> Hp -> Prop} [fd : FdOk Fd] {u : TS}
end
section
variable {α β γ δ ε : Type}
end
section
variable {K : PySem.W.Frag} {Er : Exc -> Hp -> Prop} {S : SC} {OO OO' OO1 OO2 : List (List XG)} {σ : St} {α β γ ρ ι δ ε ζ : Type}
variable {Fd : Ends -> β -> Hp -> Prop} [fd : FdOk Fd] {u : TS}
end
end L2
namespace L2
theorem LW {α : Type} {us : List α} (h : us.length = 1) : ∃ a, us = [a]:=List.length_eq_one_iff.mp h
theorem Lc {α : Type} {us : List α} (h : us.length = 2) : ∃ a0 a1, us = [a0, a1]:=by
  cases us with
  | nil=>cases h
  | cons a0 t=>
    obtain ⟨a1, rfl⟩:=LW (Nat.succ.inj h)
    exact ⟨a0, a1, rfl⟩
theorem Lm {α : Type} {us : List α} (h : us.length = 3) : ∃ a0 a1 a2, us = [a0, a1, a2]:=by
  cases us with
  | nil=>cases h
  | cons a0 t=>
    obtain ⟨a1, a2, rfl⟩:=Lc (Nat.succ.inj h)
    exact ⟨a0, a1, a2, rfl⟩
theorem Lk {α : Type} {us : List α} (h : us.length = 4) : ∃ a0 a1 a2 a3, us = [a0, a1, a2, a3]:=by
  cases us with
  | nil=>cases h
  | cons a0 t=>
    obtain ⟨a1, a2, a3, rfl⟩:=Lm (Nat.succ.inj h)
    exact ⟨a0, a1, a2, a3, rfl⟩
theorem Mx {α : Type} {us : List α} (h : us.length = 5) : ∃ a0 a1 a2 a3 a4, us = [a0, a1, a2, a3, a4]:=by
  cases us with
  | nil=>cases h
  | cons a0 t=>
    obtain ⟨a1, a2, a3, a4, rfl⟩:=Lk (Nat.succ.inj h)
    exact ⟨a0, a1, a2, a3, a4, rfl⟩
end L2
namespace L2
open PySem PySem.Spec PyProof.Rows
section
variable {prog : Program} {w : World} {A : Around} {E : Value -> Shared -> Prop}
end
section
variable {X : Cx} {pos : Pos}
end
section
variable {K : PySem.W.Frag} {Er : Exc -> Hp -> Prop} {S : SC} {OO OO' OO1 OO2 : List (List XG)} {σ : St} {α β γ ρ ι δ ε ζ : Type}
variable {Fd : Ends -> β -> Hp -> Prop} [fd : FdOk Fd] {u : TS}
end
section
variable {X : Cx}
noncomputable def ipM : TIp:=λx y H Q=>∃ i j, x = .int i /\ y = .int j /\ Lf i j /\ Q (.int (i * j)) H
theorem IQ : PIp X .Mult ipM:=by
  intro pins s σ H x y v u Q I r1 r2 h
  obtain ⟨i, j, e1, e2, hc, q⟩:=h
  subst e1; subst e2
  obtain ⟨t, rfl⟩:=r1
  obtain ⟨t', rfl⟩:=r2
  exact PySem.AutoIntOps.imul_0 ⟨.int _, H, I.tok _, ⟨_, rfl⟩, q⟩ hc.ok
end
section
variable {K : PySem.W.Frag} {Er : Exc -> Hp -> Prop} {S : SC} {OO OO' OO1 OO2 : List (List XG)} {σ : St} {α β γ ρ ι δ ε ζ : Type}
variable {Fd : Ends -> β -> Hp -> Prop} [fd : FdOk Fd] {u : TS}
theorem Il {te : TE} {m : Rs Int} {f : Int -> Rs β} {v : V} {a : Int} (i : Nat) (hσ : σ[i]? = some (some v)) (h : ∀ x, S.p x -> Xa K x v a) (he : EvB K Er S OO σ te Xa m)
    (hr : ∀ b v, Sv Er (S.add K Xa v b) OO (σ.set i (some v)) u Fd (f b)) : Sv Er S OO σ (QF (LY i te ipM) u) Fd (m.bind λb=>(Z5 a b).bind f):=λH D w s P=>
  ⟨v, hσ, he.st w s P λb y H1 s1 w1 q1 r1 P1=>by
    cases e : Z5 a b with
    | bad=>rw [e] at P1; exact P1.elim
    | err x=>exact absurd e Qo
    | ok c=>
      rw [e] at P1
      obtain ⟨h1, h2⟩:=Zm e
      cases h2
      exact ⟨a, b, h _ s, r1, h1, hr _ _ H1 D w1 ⟨q1, rfl⟩ P1⟩⟩
end
set_option maxRecDepth 100000
section
variable {prog : Program} {w : World} {A : Around} {E : Value -> Shared -> Prop} {s : Shared}
theorem GN : typeLookup (.type "list") "keys" = pure none:=by rw [typeLookup_type, builtinLookup_eq_fast]; kernel_rfl
theorem BU {a : Addr} {o : Obj} {xs : Array Value} {k : Nat} {R : Option Value -> Shared -> Prop} (hx : s.heap.get? a = some o) (hc : o.cls = .type "list") (hdat : o.data = .seq xs k) (hd : o.dict = none) (hA : A.handled = none)
    (h : ∀ g tk, (∀ b u, s.heap.get? b = some u -> g.get? b = some u) -> R none { s with heap:=g, toks:=tk }) : wpAny (model prog w) A (getAttr? (.ref a) "keys") R E s:=by
  obtain ⟨c, dct, dat, sl⟩:=o
  simp only at hc hdat hd
  subst hc hdat hd
  obtain ⟨hp, g, d, tk, os⟩:=s
  have hT : ∀ tk', (⟨hp, g, d, tk', os⟩ : Shared).TypeIs (.ref a) "list":=λ_=>⟨_, hx, rfl⟩
  have f1:=sub_AttributeError
  have f3:=F.slot_list_getattribute.lookup
  have f4:=F.slot_list_getattribute.bind (.ref a)
  have f5:=am_list_getattr_none
  unfold getAttr? getAttrBy? getAttrBy
  repeat (any_goals (first
    | assumption
    | exact hT _
    | ((with_reducible show wpAny _ _ (call (Value.builtin "list.__getattribute__") _ _) _ _ _)
       refine call_meets F.slot_list_getattribute (hT _) am_entry_list_getattribute (F.args_list_getattribute_2 _ _) (meets_getattribute_miss_list a xs k sl "keys" _ GN (by decide +kernel)) ⟨hx, hA, λh' tk' e hx'=>?_⟩)
    | wp_step))
  obtain ⟨t', u', he⟩:=hx'.there
  show wpAny _ _ (getattributeRaised _ _ _ _ _ _ _) _ _ _
  unfold getattributeRaised
  repeat (any_goals (first | wp_step | assumption))
  exact h _ _ hx'.keeps
theorem Qa : plainId "dict.update.loop" = true:=by decide +kernel
theorem Vu : entryFor table "dict.update.loop" = some Builtin.«dict.update.loop»:=entryFor_of_fast (by kernel_rfl)
end
section
variable {prog : Program} {w : World} {A : Around} {R : Result -> Shared -> Prop} {K : Type} [DecidableEq K] {knd : KeyKind prog w K}
noncomputable def HD (knd : KeyKind prog w K) (h : Heap) (its : Array Value) (kv : List (K × Value)) : Prop:=its.size = kv.length /\ ∀ (j : Nat) (x : Value) (p : K × Value), its[j]? = some x -> kv[j]? = some p -> ∃ t key, x = .ref t /\ h.IsTuple t #[key, p.2] /\ knd.is p.1 key = true
noncomputable def U4 (acc kv : List (K × Value)) : List (K × Value):=kv.foldl (λa p=>stored a p.1 p.2) acc
theorem Fy (acc : List (K × Value)) (k : K) (v : Value) : (stored acc k v).length <= acc.length + 1:=by
  unfold stored
  split
  . simp
  . simp
theorem KE {h : Heap} {t I l : Addr} {i : Nat} {xs : Array Value} (ht : h.IsTuple t xs) (it : h.IsListIter I l i) : t ≠ I:=λe=>by
  subst e
  obtain ⟨o, ho, hc, _⟩:=ht
  obtain ⟨o', ho', hc', _⟩:=it
  rw [ho] at ho'
  cases ho'
  rw [hc] at hc'
  exact absurd hc' (by decide)
theorem Ck {h : Heap} {t d : Addr} {xs : Array Value} {acc : List (K × Value)} (ht : h.IsTuple t xs) (hd : h.DictOf knd d acc) : t ≠ d:=λe=>by
  subst e
  obtain ⟨o, ho, hc, _⟩:=ht
  obtain ⟨o', _, _, ho', hc', _⟩:=hd
  rw [ho] at ho'
  cases ho'
  have:=hc'.1
  rw [hc] at this
  exact absurd this (by decide)
theorem Ms (hh : A.in1.handled = none) {d I l : Addr} (hdI : d ≠ I) (hlI : l ≠ I) (hld : l ≠ d) {its : Array Value} {kv : List (K × Value)} :
    ∀ (k i : Nat) (s : Shared) (acc : List (K × Value)), its.size - i = k -> i <= its.size -> s.heap.IsListIter I l i -> s.heap.IsList l its -> HD knd s.heap its kv -> s.heap.DictOf knd d acc -> acc.length + its.size <= sizeLine + i ->
    (∀ g tk, g.DictOf knd d (U4 acc (kv.drop i)) -> (∀ b o, b ≠ I -> b ≠ d -> s.heap.get? b = some o -> g.get? b = some o) -> R (.ok (.ret .none)) { s with heap:=g, toks:=tk }) ->
    codeAny (model prog w) A (.builtin "dict.update.loop" ⟨[.ref d, .ref I, rawInt i, .none], []⟩) R s:=by
  intro k
  induction k with
  | zero=>
    intro i s acc hk hi it hl hp hd hz r
    refine codeAny_builtin Vu ?_
    rw [Around.under_plainId Qa _]
    show wpAny _ A.in1 (pyNext (.ref I) >>= _) _ _ s
    refine wpAny_bind (wpAny_pyNext_list_end hh it hl (by simp; omega) λg hx=>?_)
    show wpAny _ _ (Builtin.Dict.addKeywords d [] >>= λ_=>ret Value.none) _ _ _
    refine wpAny_bind (wpAny_pure (wpAny_pure (r g s.toks ?_ λb o hb _ e=>hx b o hb e)))
    have e : kv.drop i = []:=List.drop_eq_nil_of_le (by have:=hp.1; omega)
    rw [e]
    exact hd.extBut hx hdI
  | succ k ih=>
    intro i s acc hk hi it hl hp hd hz r
    have lt : i < its.size:=by omega
    refine codeAny_builtin Vu ?_
    rw [Around.under_plainId Qa _]
    show wpAny _ A.in1 (pyNext (.ref I) >>= _) _ _ s
    refine wpAny_bind (wpAny_pyNext_list_item it hl (x:=its[i]) (by simp [lt]) λg it' hx=>?_)
    have lt2 : i < kv.length:=by have:=hp.1; omega
    obtain ⟨t, key, et, ht, hkey⟩:=hp.2 i its[i] kv[i] (by simp [lt]) (by simp [lt2])
    have htI : t ≠ I:=KE ht it
    have ht1 : g.IsTuple t #[key, kv[i].2]:=ht.extBut hx.extBut htI
    obtain ⟨o, ho, hc, n, hdt⟩:=id ht1
    rw [et]
    show wpAny _ _ (holding [Value.ref t] _ >>= λ_=>again (.builtin "dict.update.loop" ⟨[.ref d, .ref I, rawInt ((i : Int) + 1), .none], []⟩)) _ _ _
    refine wpAny_bind (wpAny_holding ?_)
    refine wpAny_bind (wpAny_tryCatch ?_)
    unfold Builtin.Dict.pairItems
    refine wpAny_bind (wpAny_typeOf (s:={ s with heap:=g }) ⟨o, ho, hc⟩ ?_)
    rw [if_pos (by decide)]
    refine wpAny_bind (wpAny_seqItems (s:={ s with heap:=g }) ho hdt (wpAny_pure ?_))
    show wpAny _ _ (holding [key, kv[i].2] (dictSet d key kv[i].2)) _ _ _
    refine wpAny_holding (wpAny_dictSet_pairs (s:={ s with heap:=g }) hkey (hd.extBut hx.extBut hdI) (λg2 hd2 hx2=>?_) (by omega))
    refine wpAny_pure ⟨plainId_quiet Qa _, ?_⟩
    have hne : ∀ {b : Addr} {u : Obj}, s.heap.get? b = some u -> b ≠ I -> b ≠ d -> g2.get? b = some u:=fun {b u} e h1 h2=>(hx2.2 b h2).trans (hx.extBut b u h1 e)
    refine ih (i + 1) { s with heap:=g2, toks:=s.toks + 1 } (stored acc kv[i].1 kv[i].2) (by omega) (by omega) ?_ ?_ ?_ hd2 ?_ ?_
    . exact it'.extBut hx2.extBut (λe=>hdI e.symm)
    . exact (hl.extBut hx.extBut hlI).extBut hx2.extBut hld
    . refine ⟨hp.1, λj x p h1 h2 => ?_⟩
      obtain ⟨t2, key2, e2, ht2, hk2⟩:=hp.2 j x p h1 h2
      exact ⟨t2, key2, e2, (ht2.extBut hx.extBut (KE ht2 it)).extBut hx2.extBut (Ck ht2 hd), hk2⟩
    . have := Fy acc kv[i].1 kv[i].2
      omega
    . intro g3 tk hd3 kp
      refine r g3 tk ?_ λb o h1 h2 e=>kp b o h1 h2 (hne e h1 h2)
      rw [List.drop_eq_getElem_cons lt2]
      exact hd3
theorem FG (hh : A.handled = none) {E : Value -> Shared -> Prop} {s : Shared} {l : Addr} {o : Obj} {n : Nat} {its : Array Value} {kv : List (K × Value)} {Q : Value -> Shared -> Prop} (hx : s.heap.get? l = some o) (hc : o.cls = .type "list") (hdat : o.data = .seq its n) (hd : o.dict = none) (hp : HD knd s.heap its kv) (hz : its.size <= sizeLine)
    (r : ∀ g tk, g.DictOf knd s.heap.objs.size (U4 [] kv) -> (∀ b u, s.heap.get? b = some u -> g.get? b = some u) -> Q (.ref s.heap.objs.size) { s with heap:=g, toks:=tk }) : wpAny (model prog w) A (call (.type "dict") [.ref l]) Q E s:=by
  refine callType_codes (Q₁:=λobj s₁=>obj = .ref s.heap.objs.size /\ s₁ = { s with heap:=s.heap.push { cls:=.type "dict", data:=.dict #[] } }) F.kt_called_dict (F.kt_typeCall_dict_1 _) F.entry_dict_init (kt_code_dict_new _ ⟨rfl, rfl⟩) ?_
  rintro obj s₁ ⟨rfl, rfl⟩
  have hnew : (s.heap.push { cls:=.type "dict", data:=.dict #[] }).DictOf knd s.heap.objs.size []:=Heap.DictOf.new s.heap
  have hx1 : (s.heap.push { cls:=.type "dict", data:=.dict #[] }).get? l = some o:=Heap.get?_push_of_some _ hx
  refine ⟨hnew.typeIs, F.args_dict_init_2 _ _, ?_⟩
  unfold Builtin.«dict.__init__»
  refine wpAny_bind ?_
  unfold Builtin.Dict.selfAndRest
  refine wpAny_bind (wpAny_notOrdered_dict hnew.typeIs ?_)
  show wpAny _ _ (pure (s.heap.objs.size, [Value.ref l])) _ _ _
  refine wpAny_pure ?_
  show wpAny _ _ (Builtin.Dict.updateFrom "dict.__init__" s.heap.objs.size (.ref l) [] .none) _ _ _
  unfold Builtin.Dict.updateFrom
  refine wpAny_bind (wpAny_typeOf ⟨o, hx1, hc⟩ ?_)
  rw [if_pos (by decide)]
  refine wpAny_bind (BU hx1 hc hdat hd hh λg tk kp=>?_)
  rw [if_pos (show (none : Option Value).isNone = true from rfl)]
  refine wpAny_bind (wpAny_rule ?_)
  have hlg : g.IsList l its:=⟨o, kp _ _ hx1, hc, n, hdat⟩
  have hdg : g.DictOf knd s.heap.objs.size []:=by
    obtain ⟨o', es, ep, ho, q⟩:=hnew
    exact ⟨o', es, ep, kp _ _ ho, q⟩
  have hdlt : s.heap.objs.size < g.objs.size:=by
    obtain ⟨o', es, ep, ho, q⟩:=hdg
    exact Heap.lt_size ho
  have hllt : l < s.heap.objs.size:=Heap.lt_size hx
  refine wpAny_bind (wpAny_pyIter_list (s:={ s with heap:=g, toks:=tk }) hlg ?_)
  refine wpAny_pure ⟨plainId_quiet Qa _, ?_⟩
  refine Ms (A:=A.in1) (show A.in1.in1.handled = none from hh) (d:=s.heap.objs.size) (I:=g.objs.size) (l:=l) (its:=its) (kv:=kv) (Nat.ne_of_lt hdlt) (Nat.ne_of_lt (Nat.lt_trans hllt hdlt)) (Nat.ne_of_lt hllt) its.size 0 _ [] rfl (Nat.zero_le _) ⟨_, Heap.get?_push_size _ rfl, rfl, rfl⟩ (hlg.push _) ?_ (hdg.push _) (by simpa using hz) ?_
  . refine ⟨hp.1, λj x p h1 h2 => ?_⟩
    obtain ⟨t2, key2, e2, ⟨ot, hot, q⟩, hk2⟩:=hp.2 j x p h1 h2
    exact ⟨t2, key2, e2, ⟨ot, Heap.get?_push_of_some _ (kp _ _ (Heap.get?_push_of_some _ hot)), q⟩, hk2⟩
  . intro g2 tk2 hd2 kp2
    refine ⟨rfl, r g2 tk2 hd2 λb u e=>?_⟩
    have hb:=Heap.lt_size e
    exact kp2 b u (Nat.ne_of_lt (Nat.lt_trans hb hdlt)) (Nat.ne_of_lt hb) (Heap.get?_push_of_some _ (kp _ _ (Heap.get?_push_of_some _ e)))
end
section
variable {X : Cx}
noncomputable def Jh (acc kvs : List (Key × V)) : List (Key × V):=kvs.foldl (λa p=>V3 a p.1 p.2) acc
theorem Eh (kvs : List (Key × V)) (k : Key) (v : V) : (V3 kvs k v).length <= kvs.length + 1:=by
  unfold V3
  split <;> simp
theorem Uc : ∀ (kvs acc : List (Key × V)), (Jh acc kvs).length <= acc.length + kvs.length
  | [], acc=>by simp [Jh]
  | p :: kvs, acc=>by
    have h1:=Uc kvs (V3 acc p.1 p.2)
    have h2:=Eh acc p.1 p.2
    show (Jh (V3 acc p.1 p.2) kvs).length <= _
    rw [List.length_cons]
    omega
theorem KV.all {kvs : List (Key × V)} {vs : List (Key × Value)} (t : KV kvs vs) : ∀ {acc : List (Key × V)} {acc' : List (Key × Value)}, KV acc acc' -> KV (Jh acc kvs) (U4 acc' vs):=by
  induction t with
  | nil=>intro acc acc' h; exact h
  | @cons p q kvs vs r _ ih=>
    intro acc acc' h
    have h2:=h.put p.1 r.2
    have e : stored acc' p.1 q.2 = stored acc' q.1 q.2:=by rw [r.1]
    rw [e] at h2
    exact ih h2
noncomputable def EX (K : PySem.W.Frag) : List V -> Hp -> VK -> Prop:=λxs H Q=>∃ l ps kvs, xs = [.ref l] /\ SqL K H l ps /\ Paired (λp (kv : Key × V)=>∃ t, p = .ref t /\ SqT K H t [kV kv.1, kv.2]) ps kvs /\ ∀ d, H d = none -> Q (.ref d) (upd H d (.dK (Jh [] kvs)))
theorem Ll {pins : List (Addr × Obj)} {σ : St} {H : Hp} {s : Shared} (I : Inv X pins σ H s) : ∀ {ps : List V} {kvs : List (Key × V)} {its : List Value}, Paired (λp (kv : Key × V)=>∃ t, p = .ref t /\ SqT X.K H t [kV kv.1, kv.2]) ps kvs -> Yr ps its -> ∃ kv, KV kvs kv /\ HD (Yz X.prog X.w) s.heap its.toArray kv:=fun {ps kvs its} p=>by
  induction p generalizing its with
  | nil=>
    intro v
    cases v
    exact ⟨[], .nil, rfl, λj x p h=>by simp at h⟩
  | @cons _ b _ _ r _ ih=>
    intro v
    cases v with
    | cons rv v=>
      obtain ⟨kv, h1, h2, h3⟩:=ih v
      obtain ⟨t, rfl, ht⟩:=r
      cases rv
      obtain ⟨i2, v2, tp, _⟩:=I.tuple ht
      obtain ⟨key, val, rfl, e1, e2⟩:=Yr.two v2
      refine ⟨(b.1, val) :: kv, .cons ⟨rfl, e2⟩ h1, by simpa using h2, λj x p hj hp=>?_⟩
      cases j with
      | zero=>
        simp at hj hp
        subst hj hp
        exact ⟨t, key, rfl, tp, Bk e1⟩
      | succ j=>exact h3 j x p (by simpa using hj) (by simpa using hp)
theorem Kj (K : PySem.W.Frag) (hK : X.K = K) (hc : X.calm = true) : Jr X (.type "dict") (EX K):=by
  subst hK
  intro pins s σ H xs us Q I r h
  obtain ⟨l, ps, kvs, rfl, hq, hp, q⟩:=h
  obtain ⟨u, rfl, ru⟩:=GM r
  cases ru
  obtain ⟨its, rv, ⟨o, n, ho, hcl, hdn, hdat⟩, hz⟩:=I.list hq
  obtain ⟨kv, h1, h2⟩:=Ll I hp rv
  have hlen:=rv.length
  have hl2:=Paired.len hp
  refine FG (knd:=Yz X.prog X.w) (I.ok.hd hc) ho hcl hdat hdn h2 (by simpa [← hlen] using hz) λg tk hd kp=>?_
  refine ⟨.ref s.heap.objs.size, _, I.laid (t':=tk) kp (Nat.le_refl _) (show YW X.prog X.w _ g _ (.dK (Jh [] kvs)) from ⟨Nat.le_trans (Uc kvs []) (by simp; omega), beq_eq_false_iff_ne.mpr (Ne.symm (Nat.ne_of_lt I.big)), _, KV.all h1 .nil, hd⟩), rfl, q _ (I.hok.fresh (Nat.le_refl _))⟩
end
section
variable {X : Cx} {pins : List (Addr × Obj)} {σ : St} {H : Hp} {s : Shared} {d : Addr} {o : Obj} {kvs : List (Key × V)}
theorem CU {k : Key} {u : Value} (h : U1 k u = true) : Yl (kV k) u:=by
  cases k with
  | inl n=>
    cases u <;> simp [U1, Value.isInt] at h
    subst h
    exact ⟨_, rfl⟩
  | inr x=>
    cases u <;> simp [U1, Value.isStrOf] at h
    subst h
    exact ⟨_, rfl⟩
theorem Inv.freeze (I : Inv X pins σ H s) (e : H d = some (.dK kvs)) (ho : s.heap.get? d = some o) : Inv X pins σ (upd H d (.frz o (.dK kvs))) s:=by
  have x:=(show YW X.prog X.w H s.heap d (.dK kvs) from I.hok d _ e)
  exact I.write (t':=s.toks) (x:=d) (e:=d) (h':=s.heap) (by rw [e]; exact True.intro) (.inl rfl) (λb u _ q=>q) ⟨o, ho⟩ ⟨ho, x⟩
theorem Inv.thaw (I : Inv X pins σ H s) (e : H d = some (.frz o (.dK kvs))) (n : ∀ o u, X.H₀ d ≠ some (.frz o u)) : Inv X pins σ (upd H d (.dK kvs)) s:=by
  have ne : ∀ {b : Addr}, H b = none -> b ≠ d:=fun {b} h z=>by rw [z, e] at h; cases h
  refine ⟨I.ok, I.os, I.bare, ⟨I.base.keep, I.base.slot, λb ob q nn hx=>?_, I.base.there, λb xs q=>?_, λb ob u q=>?_, λb ps q=>?_⟩, I.loc, I.cell, ?_, λx c h=>?_, λp hp=>?_, λb u q=>?_, I.len⟩
  . have h := I.base.free b ob q nn hx
    rw [XD (ne h)]; exact h
  . have h := I.base.tups b xs q
    rw [XD (Cw h e (λz=>nomatch z))]; exact h
  . have h := I.base.frzs b ob u q
    by_cases z : b = d
    . subst z; exact absurd q (n ob u)
    . rw [XD z]; exact h
  . obtain ⟨more, h⟩ := I.base.tbls b ps q
    exact ⟨more, by rw [XD (Cw h e (λz=>nomatch z))]; exact h⟩
  . rw [XD (ne I.free)]; exact I.free
  . rw [XD (ne (I.freeC x c h))]; exact I.freeC x c h
  . obtain ⟨h1, h2, h3⟩ := I.pin p hp
    exact ⟨h1, by rw [XD (ne h2)]; exact h2, h3⟩
  . by_cases z : b = d
    . subst z
      rw [YA] at q
      cases q
      obtain ⟨_, h⟩:=(show YW X.prog X.w H s.heap b (.frz o (.dK kvs)) from I.hok b _ e)
      exact h
    . rw [XD z] at q
      exact (I.hok b u q).stay (λ_ _ _ r=>r) (λc r=>by rw [XD (Cw r e (λz=>nomatch z))]; exact r) λc xs r=>by rw [XD (Cw r e (λz=>nomatch z))]; exact r
noncomputable def tFz (i : Nat) (t : TE) : TE:=λσ H Q=>∃ d kvs, σ[i]? = some (some (.ref d)) /\ H d = some (.dK kvs) /\ ∀ o, t σ (upd H d (.frz o (.dK kvs))) λv H'=>H' d = some (.frz o (.dK kvs)) /\ Q v (upd H' d (.dK kvs))
theorem Mf {x : Expr} {t : TE} (i : Nat) (h : PE X x t) : PE X x (tFz i t):=by
  intro pins s σ H Q I ⟨d, kvs, _, e, q⟩
  obtain ⟨_, _, vs, _, o, es, ep, ho, _⟩:=(show YW X.prog X.w H s.heap d (.dK kvs) from I.hok d _ e)
  refine thn (h pins s σ _ _ (I.freeze e ho) (q o)) λv s1 ⟨y, H1, I1, r1, e1, q1⟩=>⟨y, _, I1.thaw e1 (λo u z=>?_), r1, q1⟩
  have:=I.base.frzs d o u z
  rw [e] at this
  cases this
theorem Inv.dictAt (I : Inv X pins σ H s) (e : H d = some (.frz o (.dK kvs))) {es : Array DictEntry} {ep : Nat} (hd : o.data = .dict es ep) : (d == sysModules) = false /\ ∃ vs, KV kvs vs /\ Heap.DictAt (Yz X.prog X.w) s.heap d vs ep:=by
  obtain ⟨h1, _, hs, vs, rel, o', es', ep', g1, g2, g3, g4⟩:=(show YW X.prog X.w H s.heap d (.frz o (.dK kvs)) from I.hok d _ e)
  rw [h1] at g1
  cases g1
  rw [hd] at g3
  cases g3
  exact ⟨hs, vs, rel, o, es, h1, g2, hd, g4⟩
theorem KV.key {kvs : List (Key × V)} {vs : List (Key × Value)} (h : KV kvs vs) : ∀ {i : Nat} (h1 : i < kvs.length) (h2 : i < vs.length), (kvs[i]).1 = (vs[i]).1:=by
  induction h with
  | nil=>intro i h1; exact absurd h1 (Nat.not_lt_zero _)
  | cons r _ ih=>
    intro i h1 h2
    cases i with
    | zero=>exact r.1
    | succ i=>exact ih (Nat.lt_of_succ_lt_succ h1) (Nat.lt_of_succ_lt_succ h2)
end
section
variable {X : Cx}
end
section
variable {K : PySem.W.Frag} {Er : Exc -> Hp -> Prop} {S : SC} {OO OO' OO2 : List (List XG)} {σ : St} {α β γ ρ ι δ ε : Type}
variable {Fd : Ends -> β -> Hp -> Prop} [fd : FdOk Fd] {u : TS}
noncomputable def rDf {α : Type} (r : Enc α) : Enc (List (Int × α)):=λK H v d=>∃ p o kvs, v = .ref p /\ H p = some (.frz o (.dK kvs)) /\ Paired (rDP r K H) kvs d
instance {r : Enc α} [m : MonoE r] : MonoE (rDf r):=⟨λs r9=>by obtain ⟨p, o, kvs, e, q, pr⟩:=r9; exact ⟨p, o, kvs, e, s _ _ q, Paired.imp2 (λ_ _ z=>⟨z.1, m.mono s z.2⟩) pr⟩⟩
class FlatTE {α : Type} (r : Enc α) : Prop where
  flat : ∀ {K : PySem.W.Frag} {H H' : Hp} {v : V} {a : α}, (∀ b xs, H b = some (.tup xs) -> H' b = some (.tup xs)) -> r K H v a -> r K H' v a
class FlatT {α : Type} (o : OE α) : Prop where
  flat : ∀ {K : PySem.W.Frag} {H H' : Hp} {v : V} {a : α} {C : List XG}, (∀ b xs, H b = some (.tup xs) -> H' b = some (.tup xs)) -> o K H v a C -> o K H' v a C
instance : FlatTE Xa:=⟨λ_ h=>h⟩
instance : FlatTE XS:=⟨λ_ h=>h⟩
instance {r : Enc α} [m : FlatTE r] : FlatT (oF r):=⟨λs h=>⟨h.1, m.flat s h.2⟩⟩
theorem BA {te : TE} {o : OE α} [y : FlatT o] {r : Enc γ} [z : MonoE r] {m : Rs α} {v : V} {a : List (Int × γ)} {C : List XG} (i k : Nat) (hσ : σ[i]? = some (some v)) (hk : OO[k]? = some C) (h : ∀ x, S.p x -> oD r K x v a C) (hm : ∀ x, m ≠ .err x)
    (he : Ev K Er (S.add K (rDf r) v a) (OO.set k []) (OO.set k []) σ te o m) : Ev K Er S OO OO σ (tFz i te) o m:=λH Q w s P=>by
  obtain ⟨d, kvs, e, pr, c⟩:=h _ s
  subst c e
  have hp:=X6 hk
  have wk : W ([(d, .dK kvs)] :: OO.set k []) H:=w.of hp
  have hH : H d = some (.dK kvs):=wk.cell (d, .dK kvs) (by simp)
  have hnd : d ∉ fl (OO.set k []):=by
    have:=wk.nd
    rw [X7] at this
    exact λhb=>(List.nodup_append.mp this).2.2 d (by simp) d hb rfl
  have hin : ∀ {b : Addr}, b ∈ fl OO ↔ b = d ∨ b ∈ fl (OO.set k []):=fun {b}=>by
    rw [← Q1 hp b, X7]; simp
  refine ⟨d, kvs, hσ, hH, λob=>?_⟩
  have hne : ∀ {b : Addr} {x : HO}, b ∈ fl (OO.set k []) -> upd H d x b = H b:=fun {b x} hb=>XD λq=>hnd (q ▸ hb)
  have wf : W (OO.set k []) (upd H d (.frz ob (.dK kvs))):=⟨λc hc=>by rw [hne (JN hc)]; exact wk.tail.tr c hc, wk.tail.nd, wk.tail.mu⟩
  have hs : XC (hid H OO) (hid (upd H d (.frz ob (.dK kvs))) (OO.set k [])):=λb x q=>by
    obtain ⟨q1, q2⟩:=X4 q
    have hb : b ≠ d:=λe=>q2 (hin.mpr (.inl e))
    exact Zv (by rw [XD hb]; exact q1) λe=>q2 (hin.mpr (.inr e))
  have hf : hid (upd H d (.frz ob (.dK kvs))) (OO.set k []) d = some (.frz ob (.dK kvs)):=Zv YA hnd
  refine he _ _ wf ⟨S.mono _ _ hs s, d, ob, kvs, rfl, hf, Paired.imp2 (λ_ _ q=>⟨q.1, z.mono hs q.2⟩) pr⟩ ?_
  cases em : m with
  | bad=>rw [em] at P; exact P
  | err x=>exact absurd em (hm x)
  | ok b=>
    rw [em] at P
    intro v' D H' s' w' m' ho
    obtain ⟨hd1, hd2⟩:=X4 (m' _ _ hf)
    have hne2 : ∀ {b : Addr} {x : HO}, b ∈ fl (D :: OO.set k []) -> upd H' d x b = H' b:=fun {b x} hb=>XD λq=>hd2 (q ▸ hb)
    have w2 : W ([(d, .dK kvs)] :: D :: OO.set k []) (upd H' d (.dK kvs)):=by
      refine ⟨λc hc=>?_, ?_, λc hc=>?_⟩
      . rw [List.flatten_cons, List.mem_append] at hc
        rcases hc with hc | hc
        . have : c = (d, .dK kvs) := by simpa using hc
          rw [this]; exact YA
        . rw [hne2 (JN hc)]; exact w'.tr c hc
      . rw [X7]
        refine List.nodup_append.mpr ⟨by simp, w'.nd, λa ha b hb e=>?_⟩
        have : a = d:=by simpa using ha
        exact hd2 (this ▸ e ▸ hb)
      . rw [List.flatten_cons, List.mem_append] at hc
        rcases hc with hc | hc
        . have : c = (d, .dK kvs) := by simpa using hc
          rw [this]; rfl
        . exact w'.mu c hc
    have pe : (D :: OO).flatten.Perm ([(d, .dK kvs)] :: D :: OO.set k []).flatten:=by
      simp only [List.flatten_cons]
      refine List.Perm.trans (List.Perm.append_left D (by simpa using hp.symm : OO.flatten.Perm ([(d, .dK kvs)] ++ (OO.set k []).flatten))) ?_
      rw [← List.append_assoc, ← List.append_assoc]
      exact List.perm_append_comm.append_right _
    have hin2 : ∀ {b : Addr}, b ∈ fl (D :: OO) ↔ b = d ∨ b ∈ fl (D :: OO.set k []):=fun {b}=>by
      rw [Q1 pe b, X7]; simp
    refine ⟨hd1, P v' D _ (λb x q=>?_) (w2.of pe) (λb x q=>?_) (y.flat (λb xs q=>?_) ho)⟩
    . by_cases hb : b = d
      . subst hb; rw [hH] at q; rw [YA]; exact q
      . rw [XD hb]; exact s' b x (by rw [XD hb]; exact q)
    . obtain ⟨q1, q2⟩ := X4 (m' _ _ (hs b x q))
      have hb : b ≠ d:=λe=>(X4 q).2 (hin.mpr (.inl e))
      exact Zv (by rw [XD hb]; exact q1) λe=>(hin2.mp e).elim hb q2
    . obtain ⟨q1, q2⟩ := X4 q
      have hb : b ≠ d:=λe=>by rw [e, hd1] at q1; cases q1
      exact Zv (by rw [XD hb]; exact q1) λe=>(hin2.mp e).elim hb q2
noncomputable def FE (d ps : List (Int × α)) : List (Int × α):=ps.foldl (λd p=>Vb d p.1 p.2) d
theorem KB {r : Enc α} {H : Hp} {kvs : List (Key × V)} {ps : List (Int × α)} (h : Paired (rDP r K H) kvs ps) : ∀ {acc : List (Key × V)} {d : List (Int × α)}, Paired (rDP r K H) acc d -> Paired (rDP r K H) (Jh acc kvs) (FE d ps):=by
  induction h with
  | nil=>intro acc d h; exact h
  | @cons kv kx _ _ r _ ih=>
    intro acc d h
    have:=Vx (k:=kx.1) r.2 h
    rw [← r.1] at this
    exact ih this
theorem CL {r : Enc α} {h H : Hp} (hs : XC h H) {xs : List V} {ps : List (Int × α)} (p : Paired (rP2 Xa r K h) xs ps) : ∃ kvs, Paired (λp (kv : Key × V)=>∃ t, p = .ref t /\ SqT K H t [kV kv.1, kv.2]) xs kvs /\ Paired (rDP r K h) kvs ps:=by
  induction p with
  | nil=>exact ⟨[], .nil, .nil⟩
  | @cons x pr _ _ q _ ih=>
    obtain ⟨kvs, h1, h2⟩:=ih
    obtain ⟨t, a, b, e, ht, e1, e2⟩:=q
    have e1 : a = .int pr.1:=e1
    subst e1
    exact ⟨(.inl pr.1, b) :: kvs, .cons ⟨t, e, SqT.of (hs _ _ ht)⟩ h1, .cons ⟨rfl, e2⟩ h2⟩
theorem Eg {ta : TE} {r : Enc α} [z : MonoE r] {ma : Rs (List (Int × α))} (ha : EvL K Er S OO σ ta (rP2 Xa r) ma) : Ev K Er S OO OO σ (tCB (EX K) (XQ ta Qs)) (oD r) (ma.bind λps=>.ok (FE [] ps)):=λH Q w s P=>
  ha.run w s FO.tr P λps x H1 s1 w1 q1 ⟨p, xs, e, q, pr⟩ P1=>by
    obtain ⟨kvs, h1, h2⟩:=CL (Xw (H:=H1) (OO:=OO)) pr
    refine ⟨p, xs, kvs, by rw [e], SqL.of q, h1, λd hd=>?_⟩
    have hn:=QX (OO:=OO) hd (o:=.dK (Jh [] kvs))
    exact P1 (.ref d) [(d, .dK (Jh [] kvs))] _ (XJ hd _) (w1.new hd rfl) hn ⟨d, _, rfl, Paired.imp2 (λ_ _ h=>⟨h.1, z.mono hn h.2⟩) (KB h2 .nil), rfl⟩
end
section
variable {prog : Program} {w : World} {A : Around}
end
section
variable {X : Cx}
end
section
variable {K : PySem.W.Frag} {Er : Exc -> Hp -> Prop} {S : SC} {OO OO' OO1 OO2 : List (List XG)} {σ : St} {α β γ ρ ι δ ε : Type}
variable {Fd : Ends -> β -> Hp -> Prop} [fd : FdOk Fd] {u : TS}
theorem Hm {ta tb : TE} {o : OE α} [z : MonoO o] {ma mb : Rs (List α)} (ha : Ev K Er S OO OO1 σ ta (oL o) ma) (hb : ∀ C, Ev K Er S (C :: OO1) (C :: OO2) σ tb (oL o) mb) : Ev K Er S OO OO2 σ (tOp Mw ta tb) (oL o) (ma.bind λas=>mb.bind λbs=>G2 as bs):=λH Q w s P=>by
  refine ha H _ w s ?_
  cases em : ma with
  | bad=>rw [em] at P; exact P
  | err x=>rw [em] at P; exact P
  | ok as=>
    rw [em] at P
    intro v C H1 s1 w1 m1 ho
    refine hb C H1 _ w1 (S.mono _ _ m1 s) ?_
    have P1 : PZ Er (FO K OO OO2 (oL o) Q) H (mb.bind λbs=>G2 as bs):=P
    cases en : mb with
    | bad=>rw [en] at P1; exact P1
    | err x=>rw [en] at P1; exact λH2 s2=>P1 H2 (s1.trans s2)
    | ok bs=>
      rw [en] at P1
      intro v2 C2 H2 s2 w2 m2 ho2
      have P2 : PZ Er (FO K OO OO2 (oL o) Q) H (G2 as bs):=P1
      obtain ⟨c, hc, P3⟩:=P2.okOf λx=>Qo
      obtain ⟨hsz, h2⟩:=Zm hc
      cases h2
      obtain ⟨p, xs, Cs, e, q, ec⟩:=ho
      obtain ⟨p2, ys, Cs2, e2, q2, ec2⟩:=ho2
      subst ec ec2 e e2
      have hp1 : H2 p = some (.lst xs):=w2.tr (p, .lst xs) (by simp)
      have hp2 : H2 p2 = some (.lst ys):=w2.tr (p2, .lst ys) (by simp)
      refine ⟨p, p2, xs, ys, rfl, rfl, hp1, hp2, by rw [q.len.1, q2.len.1]; exact hsz, λa ha=>?_⟩
      have w3 : W ((Cs ++ Cs2).flatten :: OO2) H2:=by
        have pm : ((Cs2.flatten :: Cs.flatten :: OO2)).flatten.Perm (((Cs ++ Cs2).flatten :: OO2)).flatten:=by
          simp only [List.flatten_cons, List.flatten_append]
          rw [← List.append_assoc]
          exact List.perm_append_comm.append_right _
        refine (w2.sub (OO':=Cs2.flatten :: Cs.flatten :: OO2) ?_).of pm.symm
        simp only [List.flatten_cons, List.cons_append]
        exact (List.Sublist.append (List.Sublist.refl _) (List.sublist_cons_self _ _)).trans (List.sublist_cons_self _ _)
      have m3 : XC (hid H2 (((p2, .lst ys) :: Cs2.flatten) :: ((p, .lst xs) :: Cs.flatten) :: OO2)) (hid H2 ((Cs ++ Cs2).flatten :: OO2)):=QV (XC.refl _) λb hb=>by
        rw [X7, List.flatten_append, List.map_append, List.mem_append, List.mem_append] at hb
        rw [X7, X7, List.mem_append, List.mem_append]
        rcases hb with (hb | hb) | hb
        . exact .inr (.inl (List.mem_cons_of_mem _ hb))
        . exact .inl (List.mem_cons_of_mem _ hb)
        . exact .inr (.inr hb)
      have w4:=w3.new ha (o:=.lst (xs ++ ys)) rfl
      have m4:=QX (OO:=(Cs ++ Cs2).flatten :: OO2) ha (o:=.lst (xs ++ ys))
      have pf : ((((a, .lst (xs ++ ys)) :: (Cs ++ Cs2).flatten)) :: OO2).flatten.Perm ([(a, HO.lst (xs ++ ys))] :: (Cs ++ Cs2).flatten :: OO2).flatten:=by simp
      have m5 : XC (hid H2 ((Cs ++ Cs2).flatten :: OO2)) (hid (upd H2 a (.lst (xs ++ ys))) (((a, .lst (xs ++ ys)) :: (Cs ++ Cs2).flatten) :: OO2)):=by
        rw [X5 pf]; exact m4
      refine P3 (.ref a) ((a, .lst (xs ++ ys)) :: (Cs ++ Cs2).flatten) _ ((s1.trans s2).trans (XJ ha _)) (w4.of pf) (((m1.trans m2).trans m3).trans m5) ⟨a, xs ++ ys, Cs ++ Cs2, rfl, ?_, rfl⟩
      exact L2.P3.app (q.imp λ_ _ _ h=>z.mono ((m2.trans m3).trans m5) h) (q2.imp λ_ _ _ h=>z.mono (m3.trans m5) h)
end
section
variable {X : Cx}
end
section
variable {K : PySem.W.Frag} {Er : Exc -> Hp -> Prop} {S : SC} {OO OO' OO1 OO2 : List (List XG)} {σ : St} {α β γ ρ ι δ ε : Type}
end
section
variable {K : PySem.W.Frag} {Er : Exc -> Hp -> Prop} {S : SC} {OO OO' OO1 OO2 : List (List XG)} {σ : St} {α β γ ρ ι δ ε : Type}
variable {Fd : Ends -> β -> Hp -> Prop} [fd : FdOk Fd] {u : TS}
end
section
variable {X : Cx} {α : Type} [DecidableEq α] {r : Enc α} {d : Nat}
end
section
variable {K : PySem.W.Frag} {Er : Exc -> Hp -> Prop} {S : SC} {OO OO' OO1 OO2 : List (List XG)} {σ : St} {α β γ ρ ι δ ε : Type}
end
section
variable {X : Cx} {pins : List (Addr × Obj)} {σ : St} {H : Hp} {s : Shared} {h' : Heap}
theorem Inv.turns {t' : Nat} {ch : List Addr} (I : Inv X pins σ H s) (k : ∀ b o, b ∉ ch -> s.heap.get? b = some o -> h'.get? b = some o) (hf : ∀ b ∈ ch, GD X pins H b) : Inv X pins σ H { s with heap:=h', toks:=t' }:=by
  have nit : ∀ b o, H b = some o -> b ∉ ch:=λb o e z=>by rw [(hf b z).1] at e; cases e
  refine I.step (g':=s.gens) (d':=s.drawn) (ch:=ch) (λb hb=>?_) (λb o _ _ hc e _=>k b o hc e) (λb o _ _ hc e _=>⟨o.slots, k b o hc e⟩)
    (λb o _ e n=>n) (λb o hc e=>⟨o, k b o hc e⟩) (λb xs e=>e) (λb o xs e=>e) (λb ps e=>⟨#[], by rw [e]; simp⟩) (λm hm=>?_) (λb v e=>?_) I.bare
  . obtain ⟨f0, f1, f2, f3, f4, f5⟩ := hf b hb
    exact ⟨f3, f1, f4, f5⟩
  . obtain ⟨o, es, ep, ho, r⟩ := hm
    exact ⟨o, es, ep, k _ o (λz=>(hf _ z).2.1 rfl) ho, r⟩
  . refine (I.hok b v e).stay (λc o hc q => k c o ?_ q) (λc q => q) λc xs q => q
    rcases hc with z | z
    . rw [z]; exact nit b v e
    . exact nit c _ z
end
noncomputable def Itz (K : PySem.W.Frag) (a b : Addr) : It:=
  ⟨λi H=>∃ xs ys x y, SqL K H a xs /\ SqL K H b ys /\ xs[i]? = some x /\ ys[i]? = some y, λi H v H'=>∃ p x y, v = .ref p /\ H p = none /\ H' = upd H p (.tup [x, y]) /\ (∀ xs, SqL K H a xs -> xs[i]? = some x) /\ ∀ ys, SqL K H b ys -> ys[i]? = some y,
    λi H=>∃ xs ys, SqL K H a xs /\ SqL K H b ys /\ (xs.length <= i ∨ ys.length <= i)⟩
theorem MT {b z t u v x : Addr} (h : b ∉ [z, t, u, v, x]) : b ≠ z /\ b ≠ t /\ b ≠ u /\ b ≠ v /\ b ≠ x:=⟨λe=>h (e ▸ .head _), λe=>h (e ▸ .tail _ (.head _)), λe=>h (e ▸ .tail _ (.tail _ (.head _))), λe=>h (e ▸ .tail _ (.tail _ (.tail _ (.head _)))), λe=>h (e ▸ .tail _ (.tail _ (.tail _ (.tail _ (.head _)))))⟩
theorem MA {p : Addr -> Prop} {z t u v x : Addr} (h1 : p z) (h2 : p t) (h3 : p u) (h4 : p v) (h5 : p x) : ∀ b ∈ [z, t, u, v, x], p b:=
  List.forall_mem_cons.mpr ⟨h1, List.forall_mem_cons.mpr ⟨h2, List.forall_mem_cons.mpr ⟨h3, List.forall_mem_cons.mpr ⟨h4, List.forall_mem_cons.mpr ⟨h5, λ_ h=>(List.not_mem_nil h).elim⟩⟩⟩⟩⟩
theorem B9 {P : Program} {w : World} {K : PySem.W.Frag} {elts : List Expr} {k : Nat} {pos : Pos} {z TI TO i1 i2 l1 l2 : Addr} (ap : ZipApart z TI TO i1 i2 l1 l2) :
    Turn P w K (.Tuple elts k pos) (Itz K l1 l2) [z, TI, TO, i1, i2] z (λi h=>IsZip h z TI TO .none /\ IsPair h TI (.ref i1) (.ref i2) /\ (∃ a b, IsPair h TO a b) /\ h.IsListIter i1 l1 i /\ h.IsListIter i2 l2 i) where
  mem:=.head _
  obj:=λi h st=>by
    obtain ⟨h1, h2, ⟨a, c, h3⟩, ⟨o4, h4, c4, d4⟩, ⟨o5, h5, c5, d5⟩⟩:=st
    exact MA ⟨_, h1, λv z=>by cases z⟩ ⟨_, h2, λv z=>by cases z⟩ ⟨_, h3, λv z=>by cases z⟩ ⟨o4, h4, λv z=>by rw [d4] at z; cases z⟩ ⟨o5, h5, λv z=>by rw [d5] at z; cases z⟩
  keep:=λi h h' st k=>⟨k z (.head _) _ st.1, k TI (.tail _ (.head _)) _ st.2.1, let ⟨a, b, q⟩:=st.2.2.1; ⟨a, b, k TO (.tail _ (.tail _ (.head _))) _ q⟩, st.2.2.2.1.at λo q=>k i1 (.tail _ (.tail _ (.tail _ (.head _)))) o q, st.2.2.2.2.at λo q=>k i2 (.tail _ (.tail _ (.tail _ (.tail _ (.head _))))) o q⟩
  item:=by
    intro X hP hw hK hc i pins s σ H E I hf st hg
    subst hP hw hK
    obtain ⟨xs, ys, x, y, hq1, hq2, hx, hy⟩:=hg
    obtain ⟨its1, rv1, p1, _⟩:=I.list hq1
    obtain ⟨its2, rv2, p2, _⟩:=I.list hq2
    obtain ⟨u, hu, ru⟩:=rv1.get hx
    obtain ⟨v, hv, rv⟩:=rv2.get hy
    obtain ⟨h1, h2, ⟨a, c, h3⟩, h4, h5⟩:=id st
    refine wpAny_pyNext_zip_item ap h1 h2 h3 h4 h5 p1.isList p2.isList (x:=u) (y:=v) (by simpa using hu) (by simpa using hv) λh' z' TO' i1' i2' tup sz kk=>?_
    have hT : ∀ b o, s.heap.get? b = some o -> s.heap.objs.size ≠ b:=λb o q z=>absurd (Heap.lt_size q) (by rw [← z]; exact Nat.lt_irrefl _)
    have tz:=hT z _ h1
    have tTI:=hT TI _ h2
    have tTO:=hT TO _ h3
    have t1 : s.heap.objs.size ≠ i1:=by obtain ⟨o, q, _⟩:=h4; exact hT i1 o q
    have t2 : s.heap.objs.size ≠ i2:=by obtain ⟨o, q, _⟩:=h5; exact hT i2 o q
    refine ⟨_, rfl, wpAny_letOwnedTupleGo_zip z' λh'' z'' sb=>?_⟩
    have k1 : ∀ b o, b ≠ z -> h'.get? b = some o -> h''.get? b = some o:=λb o hb e=>(sb.2 b hb).trans e
    have k2 : ∀ b o, b ∉ [z, TI, TO, i1, i2] -> s.heap.get? b = some o -> h''.get? b = some o:=λb o q1 q=>let f:=MT q1; k1 b o f.1 (kk b o f.1 f.2.2.1 f.2.2.2.1 f.2.2.2.2 q)
    refine ⟨.ref s.heap.objs.size, upd H s.heap.objs.size (.tup [x, y]), I.turnLay (h':=h'') (t':=s.toks) k2 hf (Nat.le_refl _) ⟨by show 2 <= sizeLine; decide, [u, v], .cons ru (.cons rv .nil), ⟨_, k1 _ _ tz tup, ⟨rfl, rfl⟩, _, rfl⟩⟩, rfl,
      ⟨_, x, y, rfl, I.hok.fresh (Nat.le_refl _), rfl, λzs hz=>by rw [I.list_inj hz hq1]; exact hx, λzs hz=>by rw [I.list_inj hz hq2]; exact hy⟩, ⟨z'', k1 _ _ ap.TIz (kk _ _ ap.TIz ap.TITO ap.TIi1 ap.TIi2 h2), ⟨_, _, k1 _ _ ap.TOz TO'⟩, i1'.at λo q=>k1 _ _ ap.i1z q, i2'.at λo q=>k1 _ _ ap.i2z q⟩, λb hb=>?_⟩
    exact (XD (MA (p:=λb=>b ≠ s.heap.objs.size) tz.symm tTI.symm tTO.symm t1.symm t2.symm b hb)).trans (hf b hb).1
  done:=by
    intro X hP hw hK hc i pins s σ H E I hf st hg
    subst hP hw hK
    obtain ⟨xs, ys, hq1, hq2, hx⟩:=hg
    obtain ⟨its1, rv1, p1, _⟩:=I.list hq1
    obtain ⟨its2, rv2, p2, _⟩:=I.list hq2
    obtain ⟨h1, h2, ⟨a, c, h3⟩, h4, h5⟩:=id st
    have hl1:=rv1.length
    have hl2:=rv2.length
    refine wpAny_pyNext_zip_end (I.ok.hd hc) ap h1 h2 h3 h4 h5 p1.isList p2.isList (hx.elim (λh=>.inl (by simp; omega)) λh=>.inr (by simp; omega)) λh' kk=>⟨rfl, I.turns (t':=s.toks) (ch:=[z, TI, TO, i1, i2]) (λb o q1 q=>let f:=MT q1; kk b o f.1 f.2.2.1 f.2.2.2.1 f.2.2.2.2 q) hf⟩
  self:=λ_ _ _ _ _ st h=>wpAny_pyIter_zip st.1 h
section
variable {X : Cx} {elts : List Expr} {k : Nat} {pos0 : Pos}
noncomputable def MJ (K : PySem.W.Frag) (t : TA) : TI:=λσ H R=>t σ H λvs H1=>∃ a b, vs = [.ref a, .ref b] /\ (∃ xs, SqL K H1 a xs) /\ (∃ ys, SqL K H1 b ys) /\ R (Itz K a b) H1
theorem IU {e : Expr} {es : List Expr} {t : TA} {p pos : Pos} (K : PySem.W.Frag) (hK : X.K = K) (hg : Gl X "zip") (hm : X.mg "zip" = none) (ha : PA X (e :: es) t)
    (he : starEach (e :: es) X.env = (false, eval e X.env) :: starEach es X.env:=by rfl) (hpl : (backTo pos (starEach es X.env)).any (·.1) = false:=by rfl) : PI X (.Tuple elts k pos0) (.Call (.Name "zip" p) (e :: es) [] pos) (MJ K t):=by
  subst hK
  intro pins s σ H R I h
  refine wpAny_Call_Name_kw (Vy I hg hm boot_zip ?_)
  refine PyProof.Rows.callWith_type1 (thn (ha pos pins s σ H _ I h) λus s1 r9=>?_) he hpl
  obtain ⟨vs, H1, I1, r1, q1⟩:=r9
  obtain ⟨a, b, rfl, ⟨xs, hq1⟩, ⟨ys, hq2⟩, q⟩:=q1
  obtain ⟨u, v, rfl, ru, rv⟩:=Yr.two r1
  cases ru
  cases rv
  obtain ⟨its1, _, pl1, _⟩:=I1.list hq1
  obtain ⟨its2, _, pl2, _⟩:=I1.list hq2
  have l1 : a < s1.heap.objs.size:=by obtain ⟨o, n, ho, _⟩:=pl1; exact Heap.lt_size ho
  have l2 : b < s1.heap.objs.size:=by obtain ⟨o, n, ho, _⟩:=pl2; exact Heap.lt_size ho
  refine call_zip_2 pl1.isList pl2.isList λh' hz hTI hTO i1 i2 sz kk=>?_
  refine wpAny_pyIter_zip hz ?_
  have hge : ∀ c : Nat, s1.heap.objs.size <= c -> GD X pins H1 c:=λc hc=>I1.fpOk hc (I1.hok.fresh hc)
  generalize s1.heap.objs.size = n0 at l1 l2 hz hTI hTO i1 i2 hge ⊢
  have l1' : @LT.lt Nat _ a n0:=l1
  have l2' : @LT.lt Nat _ b n0:=l2
  have ap : ZipApart (n0 + 4) (n0 + 2) (n0 + 3) n0 (n0 + 1) a b:=by
    constructor <;> (intro z; have z : @Eq Nat _ _:=z; omega)
  refine ⟨_, [n0 + 4, n0 + 2, n0 + 3, n0, n0 + 1], _, _, H1, rfl, I1.kept (t':=s1.toks) kk, B9 ap, ⟨hz, hTI, ⟨_, _, hTO⟩, i1, i2⟩, λc hb=>hge c ?_, q⟩
  simp only [List.mem_cons, List.not_mem_nil, or_false] at hb
  rcases hb with rfl | rfl | rfl | rfl | rfl
  . exact Nat.le_add_right _ _
  . exact Nat.le_add_right _ _
  . exact Nat.le_add_right _ _
  . exact Nat.le_refl _
  . exact Nat.le_add_right _ _
end
section
variable {K : PySem.W.Frag} {Er : Exc -> Hp -> Prop} {S : SC} {OO OO' OO1 OO2 : List (List XG)} {σ : St} {α β γ ρ ι δ ε : Type}
theorem Ey {ta tb : TE} {r : Enc α} {q : Enc γ} [z : MonoE r] [y : MonoE q] {ma : Rs (List α)} {mb : Rs (List γ)} (ha : EvS K Er S OO σ ta (rV r) ma) (hb : EvS K Er S OO σ tb (rV q) mb) : Walk K Er S OO σ (MJ K (XQ ta (XQ tb Qs))) (rP2 r q) (ma.bind λas=>mb.bind λbs=>.ok (as.zip bs)):=⟨fun {H R} w s P=>by
  refine ha H _ w s ?_
  cases em : ma with
  | bad=>rw [em] at P; exact P
  | err x=>rw [em] at P; exact P
  | ok as=>
    rw [em] at P
    intro v H1 s1 ⟨p, xs, e, hp, pr⟩
    refine hb H1 _ (w.keep s1) (S.mono _ _ (Xj s1) s) ?_
    have P1 : PZ Er _ H (mb.bind λbs=>.ok (as.zip bs)):=P
    cases en : mb with
    | bad=>rw [en] at P1; exact P1
    | err x=>rw [en] at P1; exact λH2 s2=>P1 H2 (s1.trans s2)
    | ok bs=>
      rw [en] at P1
      intro v2 H2 s2 ⟨p2, ys, e2, hp2, pr2⟩
      have hp':=Xj (OO:=OO) s2 _ _ hp
      refine ⟨p, p2, by rw [e, e2], ⟨xs, SqL.of (Xw _ _ hp')⟩, ⟨ys, SqL.of (Xw _ _ hp2)⟩, P1 _ H2 (s1.trans s2) ?_ ?_⟩
      . intro i c hc OO2 H3 w3 m3
        rw [List.getElem?_zip_eq_some] at hc
        obtain ⟨x, hx, rx⟩:=Paired.getR pr hc.1
        obtain ⟨x2, hx2, rx2⟩:=Paired.getR pr2 hc.2
        have q1 : SqL K H3 p xs:=SqL.of (Xw _ _ (m3 _ _ hp'))
        have q2 : SqL K H3 p2 ys:=SqL.of (Xw _ _ (m3 _ _ hp2))
        refine ⟨⟨xs, ys, x, x2, q1, q2, hx, hx2⟩, λyv H4 h4=>?_⟩
        obtain ⟨b, x', y', rfl, hb, rfl, g1, g2⟩:=h4
        have e1:=g1 xs q1
        have e3:=g2 ys q2
        rw [hx] at e1
        rw [hx2] at e3
        cases e1
        cases e3
        refine ⟨XJ hb _, ⟨b, x, x2, rfl, ZO w3 hb, z.mono (((Xj s2).trans m3).trans (Xj (XJ hb _))) rx, y.mono (m3.trans (Xj (XJ hb _))) rx2⟩⟩
      . intro OO2 H3 w3 m3
        refine ⟨xs, ys, SqL.of (Xw _ _ (m3 _ _ hp')), SqL.of (Xw _ _ (m3 _ _ hp2)), ?_⟩
        rw [List.length_zip, Paired.len pr, Paired.len pr2]
        omega⟩
end
section
variable {X : Cx}
theorem Us (K : PySem.W.Frag) (hK : X.K = K) : MU X (ED K):=by
  subst hK
  intro pins s σ H x y v u Q I rx ry h
  obtain ⟨p, xs, i, z, rfl, rfl, hq, he, q⟩:=h
  cases rx
  obtain ⟨t, rfl⟩:=ry
  obtain ⟨its, r, pl, hz⟩:=I.list hq
  obtain ⟨j, h1, h2, h3, h4, h5⟩:=K2 he
  obtain ⟨w, ew, rw'⟩:=r.get h2
  have hl:=r.length
  have hn:=KH
  have fin : EP X pins σ Q w s:=⟨z, H, I, rw', q⟩
  by_cases h0 : 0 <= i
  . have hj : i.toNat = j:=by
      rw [seqIndex_of h0 h5] at h1
      exact Option.some.inj h1
    exact wpAny_getItem_list pl.isList h0 (by omega) (by rw [hj]; simpa using ew) fin
  . have hj : (i + (its.toArray.size : Int)).toNat = j:=by
      rw [seqIndex_neg (by omega) h4] at h1
      rw [List.size_toArray, ← hl]
      exact Option.some.inj h1
    exact wpAny_getItem_list_neg pl.isList (by omega) (by rw [List.size_toArray] <;> omega) (by omega) (by rw [hj]; simpa using ew) fin
end
section
variable {K : PySem.W.Frag} {Er : Exc -> Hp -> Prop} {S : SC} {OO OO' OO1 OO2 : List (List XG)} {σ : St} {α β γ ρ ι δ ε : Type}
variable {Fd : Ends -> β -> Hp -> Prop} [fd : FdOk Fd] {u : TS}
theorem UR {ti te : TE} {g : Int -> Int -> Int} {mi m : Rs Int} {f : List Int -> Rs β} {v : V} {as : List Int} {C : List XG} (i k : Nat) (hσ : σ[i]? = some (some v)) (hk : OO[k]? = some C) (h : ∀ x, S.p x -> oL (oF Xa) K x v as C) (hi : EvB K Er S OO σ ti Xa mi) (he : EvB K Er S OO σ te Xa m)
    (hr : ∀ bs C', Sv Er (S.addO K (oL (oF Xa)) v bs C') (OO.set k C') σ u Fd (f bs)) : Sv Er S OO σ (QF (LK (Uw i) ti te (ED K) (ipI g) Hr) u) Fd (mi.bind λj=>(atR as j).bind λx=>m.bind λb=>(QD as j (g x b)).bind f):=λH D w s P=>
  ⟨v, hσ, hi.st w s P λj zj H1 s1 w1 q1 r1 P1=>by
    cases ea : atR as j with
    | bad=>rw [ea] at P1; exact P1.elim
    | err x=>exact absurd ea Kr
    | ok x=>
      rw [ea] at P1
      obtain ⟨kk, hkk, hrow⟩:=EN ea
      obtain ⟨p, xs, Cs, e, q, c⟩:=h _ q1
      subst c
      have hH : H1 p = some (.lst xs):=w1.tr (p, .lst xs) (List.mem_flatten.mpr ⟨_, List.mem_of_getElem? hk, List.mem_cons_self⟩)
      obtain ⟨xv, Dv, g1, g2, g3⟩:=q.get hrow
      refine ⟨p, xs, j, xv, e, r1, SqL.of hH, by unfold atI; rw [q.len.1, hkk]; exact g1, he.st w1 q1 P1 λb y H2 s2 w2 q2 r2 P2=>⟨x, b, g3.2, r2, ?_⟩⟩
      have hH2 : H2 p = some (.lst xs):=w2.tr (p, .lst xs) (List.mem_flatten.mpr ⟨_, List.mem_of_getElem? hk, List.mem_cons_self⟩)
      have es : QD as j (g x b) = .ok (as.set kk (g x b)):=by unfold QD; rw [hkk]
      rw [es] at P2
      have hjl : kk < as.length:=(List.getElem?_eq_some_iff.mp hrow).1
      have hjC : kk < Cs.length:=by rw [q.len.2]; exact hjl
      have hp:=UI (Cs:=Cs) (j:=kk) (D:=[]) hjC
      obtain ⟨w3, m3⟩:=LL (xs':=xs.set kk (.int (g x b))) (Cs':=Cs.set kk []) w2.nil hk (λc hc=>hp.mem_iff.mp (List.mem_append_left _ hc)) (ZY hp (Z8 w2.nil hk))
      rw [ZI] at m3
      refine ⟨p, xs, j, kk, e, r1, hH2, by rw [q.len.1]; exact hkk, hr _ _ _ D w3 ⟨S.mono _ _ m3 q2, ⟨p, _, _, e, P3.imp (λ_ _ _ z=>MonoO.mono m3 z) (P3.set (show oF Xa K _ (.int (g x b)) (g x b) [] from ⟨rfl, rfl⟩) kk (P3.imp (λ_ _ _ z=>MonoO.mono (Xj s2) z) q)), rfl⟩⟩ (PZ.tr (fd.tr D) m3 P2)⟩⟩
end
section
variable {K : PySem.W.Frag} {Er : Exc -> Hp -> Prop} {S : SC} {OO OO' OO1 OO2 : List (List XG)} {σ : St} {α β γ ρ ι δ ε : Type} {u : TS}
noncomputable def JO : Nat -> γ -> (γ -> Rs Bool) -> (γ -> Rs (Ctl ρ γ)) -> Rs (Ctl ρ γ)
  | 0, _, _, _=>.bad
  | n + 1, g, c, f=>(c g).bind λb=>if b = true then (f g).bind λr=>match r with
    | .ret r=>.ok (.ret r)
    | .nx g'=>JO n g' c f else .ok (.nx g)
theorem CO {o : OE ρ} {c : TT} {tb : TS} {mc : γ -> Rs Bool} {body : γ -> Rs (Ctl ρ γ)} {f : γ -> Rs ρ} (J : Jn γ ι) (n : Nat) (x0 : ι) (g0 : γ) (h1 : OO = J.oo x0) (h2 : σ = J.ss x0) (h3 : ∀ h, S.p h -> (J.sc g0 x0).p h)
    (hc : ∀ g x, EvT Er (J.sc g x) (J.oo x) (J.ss x) c (mc g)) (hb : ∀ g x, Sv Er (J.sc g x) (J.oo x) (J.ss x) tb (FCd K o J) (body g))
    (hr : ∀ g x, Sv Er (J.sc g x) (J.oo x) (J.ss x) u (FTd K o) (f g)) : Sv Er S OO σ (QF (Ba c tb) u) (FTd K o) ((JO n g0 mc body).bind (Qt f)):=λH D w s P=>by
  refine ⟨λmm σ' H2=>∃ x gg, σ' = J.ss x /\ W (J.oo x) H2 /\ (J.sc gg x).p (hid H2 (J.oo x)) /\ PZ Er (FTd K o D) (hid H2 (J.oo x)) ((JO mm gg mc body).bind (Qt f)), ⟨n, x0, g0, h2, by rw [← h1]; exact w, by rw [← h1]; exact h3 _ s, by rw [← h1]; exact P⟩, ?_⟩
  rintro mm σ' H2 ⟨x, gg, rfl, w2, sc2, P2⟩
  cases mm with
  | zero=>exact P2.elim
  | succ mm=>
    have P3 : PZ Er (FTd K o D) (hid H2 (J.oo x)) ((mc gg).bind λb=>(if b = true then (body gg).bind λr=>match r with
      | .ret r=>.ok (.ret r)
      | .nx g'=>JO mm g' mc body else .ok (.nx gg)).bind (Qt f)):=by rw [← XY]; exact P2
    refine (hc gg x).st w2 sc2 P3 λb H3 w3 sc3 P4=>?_
    cases b with
    | false=>exact hr gg x H3 D w3 sc3 P4
    | true=>
      rw [if_pos rfl] at P4 ⊢
      refine ⟨λσ3 H4=>∃ x gg, σ3 = J.ss x /\ W (J.oo x) H4 /\ (J.sc gg x).p (hid H4 (J.oo x)) /\ PZ Er (FTd K o D) (hid H4 (J.oo x)) ((JO mm gg mc body).bind (Qt f)), λσ3 H4 q=>⟨mm, Nat.lt_succ_self _, q⟩, hb gg x H3 _ w3 sc3 ?_⟩
      rw [XY] at P4
      cases eb : body gg with
      | bad=>rw [eb] at P4; exact P4
      | err x=>rw [eb] at P4; exact P4
      | ok c=>
        rw [eb] at P4
        cases c with
        | ret r=>exact P4
        | nx g'=>exact λx' H5 w5 m5 sc5=>⟨x', g', rfl, w5, sc5, PZ.tr (FdOk.tr D) m5 P4⟩
end
section
variable {X : Cx}
end
section
variable {K : PySem.W.Frag} {Er : Exc -> Hp -> Prop} {S : SC} {OO : List (List XG)} {σ : St}
end
section
variable {X : Cx} {pins : List (Addr × Obj)} {σ : St} {H : Hp} {s : Shared} {d : Addr} {o : Obj} {kvs : List (Key × V)}
theorem V6 : entryFor table "dict_itemiterator.__iter__" = some Builtin.«dict_keyiterator.__iter__»:=
  entryFor_alias (id':="dict_keyiterator.__iter__") (by kernel_rfl) rfl (by decide +kernel) (by kernel_rfl)
theorem Vz {prog : Program} {w : World} {A : Around} {E : Value -> Shared -> Prop} {it d : Addr} {i n ep : Nat} {ok ov : Value} {Q : Value -> Shared -> Prop} (hit : IsItemIter s.heap it d i n ep ok ov) (h : Q (.ref it) s) : wpAny (model prog w) A (pyIter (.ref it)) Q E s:=by
  have ht : s.TypeIs (.ref it) "dict_itemiterator":=⟨_, hit, rfl⟩
  refine wpAny_pyIter_slot ht F.slot_dict_itemiterator_iter (wpAny_call_entry F.slot_dict_itemiterator_iter ht V6 ?_ (F.args_dict_itemiterator_iter_1 _))
  show wpAny _ _ (ret (.ref it)) _ _ s
  exact wpAny_pure ⟨_, rfl, "dict_itemiterator", _, ht, F.slot_dict_itemiterator_next.lookup, h⟩
theorem KV.valAt {kvs : List (Key × V)} {vs : List (Key × Value)} (h : KV kvs vs) : ∀ {i : Nat} (h1 : i < kvs.length) (h2 : i < vs.length), Yl (kvs[i]).2 (vs[i]).2:=by
  induction h with
  | nil=>intro i h1; exact absurd h1 (Nat.not_lt_zero _)
  | cons r _ ih=>
    intro i h1 h2
    cases i with
    | zero=>exact r.2
    | succ i=>exact ih (Nat.lt_of_succ_lt_succ h1) (Nat.lt_of_succ_lt_succ h2)
noncomputable def Iti (d : Addr) (o : Obj) (kvs : List (Key × V)) : It:=
  ⟨λi H=>H d = some (.frz o (.dK kvs)) /\ i < kvs.length, λi H v H'=>∃ p kv, v = .ref p /\ H p = none /\ H' = upd H p (.tup [kV kv.1, kv.2]) /\ kvs[i]? = some kv, λi H=>H d = some (.frz o (.dK kvs)) /\ kvs.length <= i⟩
theorem F2 {P : Program} {w : World} {K : PySem.W.Frag} {elts : List Expr} {k : Nat} {pos : Pos} {es : Array DictEntry} {ep : Nat} (d it : Addr) (o : Obj) (kvs : List (Key × V)) (hd : o.data = .dict es ep) : Turn P w K (.Tuple elts k pos) (Iti d o kvs) [it] it (λi h=>∃ ok ov, IsItemIter h it d i kvs.length ep ok ov) where
  mem:=.head _
  obj:=λi h st b hb=>by
    have e : b = it:=List.mem_singleton.mp hb
    subst e
    obtain ⟨ok, ov, e⟩:=st
    exact ⟨_, e, λv z=>by cases z⟩
  keep:=λi h h' ⟨ok, ov, st⟩ k=>⟨ok, ov, k it (.head _) _ st⟩
  item:=by
    intro X hP hw hK hc i pins s σ H E I hf st hg
    subst hP hw hK
    obtain ⟨he, hlt⟩:=hg
    obtain ⟨_, vs, rel, da⟩:=I.dictAt he hd
    have hl:=rel.length
    obtain ⟨ok, ov, st⟩:=st
    rw [hl] at st
    have hlt' : i < kvs.length:=hlt
    have hv : vs[i]? = some (vs[i].1, vs[i].2):=by simp [show i < vs.length by omega]
    refine wpAny_pyNext_items_item st da hv λkey h' hk out tup sz kk=>?_
    have tz : s.heap.objs.size ≠ it:=λz=>absurd (Heap.lt_size st) (by rw [← z]; exact Nat.lt_irrefl _)
    refine ⟨_, rfl, wpAny_letOwnedTupleGo_items out λh'' st'' sb=>?_⟩
    have k1 : ∀ b o, b ≠ it -> h'.get? b = some o -> h''.get? b = some o:=λb o hb e=>(sb.2 b hb).trans e
    have k2 : ∀ b o, b ∉ [it] -> s.heap.get? b = some o -> h''.get? b = some o:=λb o q1 q=>k1 b o (λe=>q1 (e ▸ .head _)) (kk b o (λe=>q1 (e ▸ .head _)) q)
    have hkv : (kvs[i]).1 = (vs[i]).1:=KV.key rel hlt' (by omega)
    refine ⟨.ref s.heap.objs.size, upd H s.heap.objs.size (.tup [kV (kvs[i]).1, (kvs[i]).2]), I.turnLay (h':=h'') (t':=s.toks) k2 hf (Nat.le_refl _) ⟨by show 2 <= sizeLine; decide, [key, (vs[i]).2], .cons (by rw [hkv]; exact CU hk) (.cons (KV.valAt rel hlt' (by omega)) .nil), ⟨_, k1 _ _ tz tup, ⟨rfl, rfl⟩, _, rfl⟩⟩, rfl,
      ⟨_, kvs[i], rfl, I.hok.fresh (Nat.le_refl _), rfl, by simp [hlt']⟩, ⟨_, _, by rw [hl]; exact st''⟩, λb hb=>?_⟩
    have h0:=(hf b hb).1
    have e : b = it:=List.mem_singleton.mp hb
    rw [XD (by rw [e]; exact tz.symm)]; exact h0
  done:=by
    intro X hP hw hK hc i pins s σ H E I hf st hg
    subst hP hw hK
    obtain ⟨he, hlt⟩:=hg
    obtain ⟨_, vs, rel, da⟩:=I.dictAt he hd
    have hl:=rel.length
    obtain ⟨ok, ov, st⟩:=st
    rw [hl] at st
    obtain ⟨f0, f1, f2, f3, f4, f5⟩:=hf it (.head _)
    exact wpAny_pyNext_items_end (I.ok.hd hc) st da (List.getElem?_eq_none (by omega)) λh' eb=>⟨rfl, I.turned (t':=s.toks) (λb o hb e=>eb b o hb e) f0 f1 f3 f4 f5⟩
  self:=λ_ _ _ _ _ st h=>Vz st.choose_spec.choose_spec h
noncomputable def EH (tl : TE) : TI:=λσ H R=>tl σ H λx H1=>∃ a o kvs, x = .ref a /\ H1 a = some (.frz o (.dK kvs)) /\ R (Iti a o kvs) H1
theorem B0 {elts : List Expr} {k : Nat} {pos0 : Pos} {l : Expr} {tl : TE} {apos cpos : Pos} (hl : PE X l tl)
    (hbase : attributeBase l "items" X.env (eval l X.env) = eval l X.env:=by rfl) (hline : (apos.endLine == cpos.line) = true:=by rfl) : PI X (.Tuple elts k pos0) (.Call (.Attribute l "items" apos) [] [] cpos) (EH tl):=by
  intro pins s σ H R I h
  refine wpAny_Call_method0_late hbase hline (thn (hl pins s σ H _ I h) λv s1 r9=>?_)
  obtain ⟨x, H1, I1, r1, q1⟩:=r9
  obtain ⟨a, o, kvs, e, he, q⟩:=q1
  subst e
  cases r1
  obtain ⟨h1, _, hs, vs, rel, o', es, ep, g1, g2, g3, g4⟩:=(show YW X.prog X.w H1 s1.heap a (.frz o (.dK kvs)) from I1.hok a _ he)
  rw [h1] at g1
  cases g1
  have hm : s1.heap.DictAt (Yz X.prog X.w) a vs ep:=⟨o, es, h1, g2, g3, g4⟩
  refine ⟨"dict", "dict.items", F.plainAttrs_dict, F.slot_dict_items, F.type_dict_items, hm.dictOf.typeIs, hm.dictOf.mapOf.noDict, ?_⟩
  refine method_meetsIn F.slot_dict_items F.entry_dict_items rfl (PySem.evalArgs_none ⟨rfl, hm.dictOf.typeIs, F.args_dict_items_1 _, _, meets_dict_items (Yz X.prog X.w) a hs, ⟨vs, hm.dictOf⟩, ?_⟩)
  refine wpAny_pyIter_items (knd:=Yz X.prog X.w) (d:=a) (kvs:=vs) (ep:=ep) ⟨_, Heap.get?_push_size _ rfl, rfl, rfl⟩ (hm.push _) ?_
  rw [← rel.length]
  refine ⟨_, [_], _, _, H1, rfl, I1.kept (t':=s1.toks) λb o e=>Heap.get?_push_of_some _ (Heap.get?_push_of_some _ e), F2 a _ o kvs g3, ⟨_, _, Heap.get?_push_size _ rfl⟩, λb hb=>?_, q⟩
  have e:=List.mem_singleton.mp hb
  subst e
  have hge : s1.heap.objs.size <= (s1.heap.push { cls:=.type "dict_items", data:=.fields #[.ref a] }).objs.size:=by rw [Heap.size_push]; exact Nat.le_succ _
  exact I1.fpOk hge (I1.hok.fresh hge)
end
section
variable {X : Cx}
noncomputable def ipD : TIp:=λx y H Q=>∃ i j, x = .int i /\ y = .int j /\ M0 i j /\ Q (.int (i / j)) H
theorem Hz : PIp X .FloorDiv ipD:=by
  intro pins s σ H x y v u Q I r1 r2 h
  obtain ⟨i, j, e1, e2, hc, q⟩:=h
  subst e1; subst e2
  obtain ⟨t, rfl⟩:=r1
  obtain ⟨t', rfl⟩:=r2
  have h1 : (0 : Int) < j:=hc.1
  have h2 : j < 1073741824:=hc.2
  exact ifloordiv_int (by omega) (by rw [Int.fdiv_eq_ediv_of_nonneg i (by omega)]; exact ⟨.int _, H, I.tok _, ⟨_, rfl⟩, q⟩) (.inl (PyProof.noPylong_small (by omega)))
end
section
variable {K : PySem.W.Frag} {Er : Exc -> Hp -> Prop} {S : SC} {OO OO' OO1 OO2 OO3 : List (List XG)} {σ : St} {α β γ ρ ι δ ε ζ : Type}
variable {Fd : Ends -> β -> Hp -> Prop} [fd : FdOk Fd] {u : TS}
noncomputable def L6 (a b : Int) : Rs Int:=chk (0 < b /\ b < 1073741824) (.ok (a / b))
theorem E9 {te : TE} {m : Rs Int} {f : Int -> Rs β} {v : V} {a : Int} (i : Nat) (hσ : σ[i]? = some (some v)) (h : ∀ x, S.p x -> Xa K x v a) (he : EvB K Er S OO σ te Xa m)
    (hr : ∀ b v, Sv Er (S.add K Xa v b) OO (σ.set i (some v)) u Fd (f b)) : Sv Er S OO σ (QF (LY i te ipD) u) Fd (m.bind λb=>(L6 a b).bind f):=λH D w s P=>
  ⟨v, hσ, he.st w s P λb y H1 s1 w1 q1 r1 P1=>by
    cases e : L6 a b with
    | bad=>rw [e] at P1; exact P1.elim
    | err x=>exact absurd e Qo
    | ok c=>
      rw [e] at P1
      obtain ⟨h1, h2⟩:=Zm e
      cases h2
      exact ⟨a, b, h _ s, r1, h1, hr _ _ H1 D w1 ⟨q1, rfl⟩ P1⟩⟩
instance {o : OE α} [m : FlatT o] : FlatT (oL o):=⟨λs r9=>by obtain ⟨p, xs, Cs, e, q, c⟩:=r9; exact ⟨p, xs, Cs, e, q.imp λ_ _ _ z=>m.flat s z, c⟩⟩
theorem Gh {te : TE} {r : Enc α} [z : MonoE r] {m : Rs (List (Int × α))} (he : EvS K Er S OO σ te (rDf r) m) : Walk K Er S OO σ (EH te) (rP2 Xa r) m:=⟨fun {H R} w s P=>by
  refine he H _ w s ?_
  cases em : m with
  | bad=>rw [em] at P; exact P
  | err x=>rw [em] at P; exact P
  | ok d=>
    rw [em] at P
    intro v H' s' ⟨p, o, kvs, e, hp, pr⟩
    refine ⟨p, o, kvs, e, Xw _ _ hp, P _ H' s' ?_ ?_⟩
    . intro i a ha OO2 H2 w2 m2
      obtain ⟨kv, hkv, rk⟩:=Paired.getR pr ha
      have hl : i < kvs.length:=(List.getElem?_eq_some_iff.mp hkv).1
      refine ⟨⟨Xw _ _ (m2 _ _ hp), hl⟩, λy H3 h3=>?_⟩
      obtain ⟨b, kv', rfl, hb, rfl, hy⟩:=h3
      rw [hkv] at hy
      cases hy
      refine ⟨XJ hb _, ⟨b, _, _, rfl, ZO w2 hb, ?_, z.mono (m2.trans (Xj (XJ hb _))) rk.2⟩⟩
      show kV kv.1 = .int a.1
      rw [rk.1]
      rfl
    . intro OO2 H2 w2 m2
      exact ⟨Xw _ _ (m2 _ _ hp), by rw [Paired.len pr]; exact Nat.le_refl _⟩⟩
theorem DT {ta : TE} {r : Enc α} {q : Enc γ} {t : Enc δ} {m : Rs (α × γ × δ)} (ha : EvB K Er S OO σ ta (rP3 r q t) m) : EvB K Er S OO σ (tCB (Fi K) (XQ ta Qs)) Xa (m.bind λ_=>.ok (3 : Int)):=λH Q w s P=>
  ha.run w s FB.tr P λa x H1 s1 w1 q1 r9 P1=>by obtain ⟨p, x1, x2, x3, e, q, h1, h2, h3⟩:=r9; exact ⟨p, [x1, x2, x3], by rw [e], .inr (SqT.of q), P1 _ H1 (XC.refl _) rfl⟩
theorem Mu {o : OE α} [z : MonoO o] {xs : List V} {as : List α} {Cs : List (List XG)} {H H0 : Hp} {Q : VK} {OO0 : List (List XG)} (w : W (Cs.flatten :: OO) H) (m0 : XC (hid H0 OO0) (hid H (Cs.flatten :: OO))) (s0 : XC H0 H) (pr : P3 (o K (hid H (Cs.flatten :: OO))) xs as Cs) (P : FO K OO0 OO (oL o) Q as H0) : ∀ p, H p = none -> Q (.ref p) (upd H p (.lst xs)):=λp hp=>by
  have hn:=QX (OO:=Cs.flatten :: OO) hp (o:=.lst xs)
  have wn:=w.new hp (o:=.lst xs) rfl
  have pe : (((p, HO.lst xs) :: Cs.flatten) :: OO).flatten.Perm ([(p, HO.lst xs)] :: Cs.flatten :: OO).flatten:=by simp
  refine P (.ref p) ((p, .lst xs) :: Cs.flatten) _ (s0.trans (XJ hp _)) (wn.of pe) ?_ ?_
  . rw [X5 pe]; exact m0.trans hn
  . rw [X5 pe]
    exact ⟨p, xs, Cs, rfl, pr.imp λ_ _ _ h=>z.mono hn h, rfl⟩
theorem Hl {t : TA} {o : OE α} [z : MonoO o] {m : Rs (List α)} (h : L7 K Er S OO OO' σ t o m) : Ev K Er S OO OO' σ (L5 t) (oL o) (m.bind λas=>chk (as.length <= sizeLine) (.ok as)):=λH Q w s P=>by
  refine h H _ w s ?_
  cases e : m with
  | bad=>rw [e] at P; exact P
  | err x=>rw [e] at P; exact P
  | ok as=>
    rw [e] at P
    obtain ⟨hsz, P⟩:=PZ.chk (show PZ Er _ H (chk (as.length <= sizeLine) (.ok as)) from P)
    intro vs Cs H1 s1 w1 m1 p
    exact ⟨by rw [p.len.1]; exact hsz, Mu w1 m1 s1 p P⟩
noncomputable def oT3 (o : OE α) (q : OE β) (t : OE γ) : OE (α × β × γ):=λK h v a C=>∃ p x y z C1 C2 C3, v = .ref p /\ h p = some (.tup [x, y, z]) /\ o K h x a.1 C1 /\ q K h y a.2.1 C2 /\ t K h z a.2.2 C3 /\ C = C1 ++ (C2 ++ C3)
instance {o : OE α} {q : OE β} {t : OE γ} [m : MonoO o] [n : MonoO q] [k : MonoO t] : MonoO (oT3 o q t):=⟨λs r9=>by obtain ⟨p, x, y, z, C1, C2, C3, e, h, h1, h2, h3, c⟩:=r9; exact ⟨p, x, y, z, C1, C2, C3, e, s _ _ h, m.mono s h1, n.mono s h2, k.mono s h3, c⟩⟩
instance {o : OE α} {q : OE β} {t : OE γ} [m : FlatO o] [n : FlatO q] [k : FlatO t] : FlatO (oT3 o q t):=⟨λs r9=>by obtain ⟨p, x, y, z, C1, C2, C3, e, h, h1, h2, h3, c⟩:=r9; exact ⟨p, x, y, z, C1, C2, C3, e, s _ _ h rfl, m.flat s h1, n.flat s h2, k.flat s h3, c⟩⟩
instance {o : OE α} {q : OE β} {t : OE γ} {ro : Enc α} {rq : Enc β} {rt : Enc γ} [m : FrzC o ro] [n : FrzC q rq] [k : FrzC t rt] : FrzC (oT3 o q t) (rP3 ro rq rt):=⟨λ⟨p, x, y, z, C1, C2, C3, e, h, h1, h2, h3, c⟩ s hc=>by
  subst c
  exact ⟨p, x, y, z, e, s _ _ h, m.frz h1 s λc hm=>hc c (by simp [hm]), n.frz h2 s λc hm=>hc c (by simp [hm]), k.frz h3 s λc hm=>hc c (by simp [hm])⟩⟩
theorem BS {ta tb tc : TE} {o : OE α} {q : OE β} {t : OE γ} [zo : MonoO o] [zq : MonoO q] [zt : MonoO t] {ma : Rs α} {mb : Rs β} {mc : Rs γ} (ha : Ev K Er S OO OO1 σ ta o ma) (hb : ∀ C, Ev K Er S (C :: OO1) (C :: OO2) σ tb q mb) (hc : ∀ C C', Ev K Er S (C' :: C :: OO2) (C' :: C :: OO3) σ tc t mc) :
    Ev K Er S OO OO3 σ (Iy (XQ ta (XQ tb (XQ tc Qs)))) (oT3 o q t) (ma.bind λa=>mb.bind λb=>mc.bind λc=>.ok (a, b, c)):=λH Q w s P=>by
  refine ha H _ w s ?_
  cases em : ma with
  | bad=>rw [em] at P; exact P
  | err x=>rw [em] at P; exact P
  | ok a=>
    rw [em] at P
    intro v C H1 s1 w1 m1 ho
    refine hb C H1 _ w1 (S.mono _ _ m1 s) ?_
    have P1 : PZ Er (FO K OO OO3 (oT3 o q t) Q) H (mb.bind λb=>mc.bind λc=>.ok (a, b, c)):=P
    cases en : mb with
    | bad=>rw [en] at P1; exact P1
    | err x=>rw [en] at P1; exact λH2 s2=>P1 H2 (s1.trans s2)
    | ok b=>
      rw [en] at P1
      have P2 : PZ Er (FO K OO OO3 (oT3 o q t) Q) H (mc.bind λc=>.ok (a, b, c)):=P1
      intro v2 C2 H2 s2 w2 m2 ho2
      refine hc C C2 H2 _ w2 (S.mono _ _ (m1.trans m2) s) ?_
      cases ek : mc with
      | bad=>rw [ek] at P2; exact P2
      | err x=>rw [ek] at P2; exact λH3 s3=>P2 H3 (s1.trans (s2.trans s3))
      | ok c=>
        rw [ek] at P2
        have P3 : FO K OO OO3 (oT3 o q t) Q (a, b, c) H:=P2
        intro v3 C3 H3 s3 w3 m3 ho3
        refine ⟨by show 3 <= sizeLine; decide, λp hp=>?_⟩
        have pe : ((C ++ (C2 ++ C3)) :: OO3).flatten.Perm (C3 :: C2 :: C :: OO3).flatten:=by
          have q : (C ++ (C2 ++ C3)).Perm (C3 ++ (C2 ++ C)):=by
            rw [← List.append_assoc C3]
            exact List.perm_append_comm.trans ((List.perm_append_comm (l₁:=C2) (l₂:=C3)).append_right _)
          have:=q.append_right OO3.flatten
          simpa [List.append_assoc] using this
        have s4 : XC H3 (upd H3 p (.tup [v, v2, v3])):=XJ hp _
        have w4:=(w3.keep s4).of pe
        have m4 : XC (hid H3 (C3 :: C2 :: C :: OO3)) (hid (upd H3 p (.tup [v, v2, v3])) ((C ++ (C2 ++ C3)) :: OO3)):=by rw [X5 pe]; exact Xj s4
        refine P3 (.ref p) (C ++ (C2 ++ C3)) _ (s1.trans (s2.trans (s3.trans s4))) w4 (m1.trans (m2.trans (m3.trans m4))) ⟨p, v, v2, v3, C, C2, C3, rfl, ?_, zo.mono (m2.trans (m3.trans m4)) ho, zq.mono (m3.trans m4) ho2, zt.mono m4 ho3, rfl⟩
        rw [X5 pe]
        exact ZO w3 hp
end
section
variable {K : PySem.W.Frag} {Er : Exc -> Hp -> Prop} {S : SC} {OO OO' OO1 OO2 : List (List XG)} {σ : St} {α β γ ρ ι δ ε ζ : Type}
variable {Fd : Ends -> β -> Hp -> Prop} [fd : FdOk Fd] {u : TS}
theorem BZ {ta : TE} {ma : Rs Bool} (ha : EvB K Er S OO σ ta XS ma) : EvB K Er S OO σ (tCB (λxs H Q=>(∃ i, xs = [.int i] /\ Q (.int i) H) ∨ ∃ k, xs = [.bl k] /\ Q (.int (if k then 1 else 0)) H) (XQ ta Qs)) Xa (ma.bind λb=>.ok (if b = true then (1 : Int) else 0)):=λH Q w s P=>
  ha.run w s FB.tr P λb x H1 s1 w1 q1 r1 P1=>.inr ⟨b, by rw [show x = .bl b from r1], P1 _ H1 (XC.refl _) rfl⟩
theorem BL {o1 : OE α} {o2 : OE γ} {o3 : OE δ} [z1 : MonoO o1] [z2 : MonoO o2] [z3 : MonoO o3] {f : α × γ × δ -> Rs β} {v : V} {a : α × γ × δ} {C : List XG} (i k k1 k2 k3 j1 j2 j3 : Nat) (hσ : σ[i]? = some (some v)) (hk : OO[k]? = some C) (hk1 : k1 < (OO.set k []).length) (hk2 : k2 < ((OO.set k []).set k1 []).length) (hk3 : k3 < (((OO.set k []).set k1 []).set k2 []).length) (h : ∀ x, S.p x -> oT3 o1 o2 o3 K x v a C)
    (hr : ∀ v1 v2 v3 C1 C2 C3, Sv Er (((S.addO K o1 v1 a.1 C1).addO K o2 v2 a.2.1 C2).addO K o3 v3 a.2.2 C3) ((((OO.set k []).set k1 C1).set k2 C2).set k3 C3) (((σ.set j1 (some v1)).set j2 (some v2)).set j3 (some v3)) u Fd (f a)) : Sv Er S OO σ (QF (Bq (Uw i) (EV K 3 (Qr (Zd j1) (Qr (Zd j2) (Qr (Zd j3) Ic))))) u) Fd (f a):=λH D w s P=>by
  obtain ⟨p, x, y, zz, C1, C2, C3, e, hp, h1, h2, h3, c⟩:=h _ s
  subst c e
  have pm:=X6 hk
  have pm2 : (C1 :: C2 :: C3 :: OO.set k []).flatten.Perm OO.flatten:=by
    refine List.Perm.trans ?_ pm
    simp only [List.flatten_cons]
    rw [List.append_assoc, List.append_assoc]
  have w1 : W (C1 :: C2 :: C3 :: OO.set k []) H:=w.of pm2
  obtain ⟨w2, m2⟩:=L0 (k:=k1 + 1 + 1) w1 (by rw [List.length_cons, List.length_cons]; exact Nat.succ_lt_succ (Nat.succ_lt_succ hk1))
  have w2' : W (C2 :: C3 :: (OO.set k []).set k1 C1) H:=w2
  obtain ⟨w3, m3⟩:=L0 (k:=k2 + 1) w2' (by rw [List.length_cons]; rw [List.length_set] at hk2 ⊢; exact Nat.succ_lt_succ hk2)
  have w3' : W (C3 :: ((OO.set k []).set k1 C1).set k2 C2) H:=w3
  obtain ⟨w4, m4⟩:=L0 (k:=k3) w3' (by rw [List.length_set, List.length_set] at hk3 ⊢; exact hk3)
  have m5 : XC (hid H OO) (hid H ((((OO.set k []).set k1 C1).set k2 C2).set k3 C3)):=by
    rw [← X5 pm2]
    exact XC.trans m2 (XC.trans m3 m4)
  exact ⟨_, hσ, p, _, rfl, SqT.of (Xw _ _ hp), rfl, x, [y, zz], rfl, y, [zz], rfl, zz, [], rfl, rfl, hr x y zz C1 C2 C3 H D w4 ⟨⟨⟨S.mono _ _ m5 s, z1.mono m5 h1⟩, z2.mono m5 h2⟩, z3.mono m5 h3⟩ (PZ.tr (fd.tr D) m5 P)⟩
theorem Gy {tl : TE} {f : List (List Int) -> Rs β} {v : V} {as : List (List Int)} {C : List XG} (j k : Nat) (hte : ∀ (H : Hp) (Q : VK), W OO H -> S.p (hid H OO) -> Q v H -> tl σ H Q) (hjl : j < σ.length) (hk : OO[k]? = some C) (h : ∀ x, S.p x -> oL (oL (oF Xa)) K x v as C)
    (hr : ∀ C' w, Sv Er (S.addO K (oL (oL (oF Xa))) v (as.map (λ_=>([] : List Int))) C') (OO.set k C') (σ.set j w) u Fd (f (as.map (λ_=>([] : List Int))))) :
    Sv Er S OO σ (QF (Iz (DW K tl) (Zd j) (QF (Ga (MF K "list" EW (Uw j))) GK)) u) Fd (f (as.map (λ_=>([] : List Int)))):=λH D w s P=>by
  obtain ⟨p, xs, Cs0, e, q, c⟩:=h _ s
  subst c e
  have hkl : k < OO.length:=by
    rcases Nat.lt_or_ge k OO.length with h | h
    . exact h
    . rw [List.getElem?_eq_none h] at hk; cases hk
  have hin : ∀ {Cs : List (List XG)}, (p, HO.lst xs) ∈ (OO.set k ((p, .lst xs) :: Cs.flatten)).flatten:=fun {Cs}=>List.mem_flatten.mpr ⟨_, List.mem_set hkl _, List.mem_cons_self⟩
  have hOO : OO.set k ((p, .lst xs) :: Cs0.flatten) = OO:=by
    apply List.ext_getElem?
    intro m
    by_cases hm : m = k
    . subst hm; rw [List.getElem?_set_self hkl, hk]
    . rw [List.getElem?_set_ne (λe=>hm e.symm)]
  have hH : H p = some (.lst xs):=w.tr (p, .lst xs) (by rw [← hOO]; exact hin)
  refine hte _ _ w s ⟨p, rfl, ⟨xs, SqL.of hH⟩, ?_⟩
  refine G3 (K:=K) (a:=p) (xs:=xs) (λt σ' H'=>∃ Cs wv, σ' = σ.set j wv /\ W (OO.set k ((p, .lst xs) :: Cs.flatten)) H' /\ XC (hid H OO) (hid H' (OO.set k ((p, .lst xs) :: Cs.flatten))) /\ P3 (oL (oF Xa) K (hid H' (OO.set k ((p, .lst xs) :: Cs.flatten)))) xs ((as.take t).map (λ_=>([] : List Int)) ++ as.drop t) Cs)
    ⟨Cs0, σ[j], by rw [List.set_getElem_self], by rw [hOO]; exact w, by rw [hOO]; exact XC.refl _, by rw [hOO]; simpa using q⟩
    (λt σ' H' ht r9=>by obtain ⟨Cs, wv, _, w', _, _⟩:=r9; exact SqL.of (w'.tr (p, .lst xs) hin)) ?_ ?_
  . rintro t x σ' H' hx ⟨Cs, wv, rfl, w', m', q'⟩
    have hlen:=q.len.1
    have htl : t < as.length:=by
      rw [← hlen]
      rcases Nat.lt_or_ge t xs.length with h | h
      . exact h
      . rw [List.getElem?_eq_none h] at hx; cases hx
    have hrow : ((as.take t).map (λ_=>([] : List Int)) ++ as.drop t)[t]? = some as[t]:=by
      rw [List.getElem?_append_right (by simp; omega)]
      simp [Nat.min_eq_left (Nat.le_of_lt htl)]
    obtain ⟨q0, ys, g1, g2, g3⟩:=DZ q' hrow
    rw [hx] at g1
    cases g1
    have hk' : (OO.set k ((p, HO.lst xs) :: Cs.flatten))[k]? = some ((p, HO.lst xs) :: Cs.flatten):=by simp [hkl]
    have hq0 : H' q0 = some (.lst ys):=w'.tr (q0, .lst ys) (List.mem_flatten.mpr ⟨_, List.mem_of_getElem? hk', List.mem_cons_of_mem _ (J7 g2 _ (by simp))⟩)
    show QF _ _ _ ((σ.set j wv).set j (some (.ref q0))) H'
    refine ⟨.ref q0, by rw [List.getElem?_set_self (by simpa using hjl)], .inl ⟨rfl, _, SqL.of hq0⟩, q0, ys, rfl, rfl, hq0, ?_⟩
    obtain ⟨C', w4, m4, o4⟩:=CG (ys':=[]) (row':=[]) (v:=.ref p) w' hk' q' hrow hx hq0 g2 .nil
    obtain ⟨p', xs', Cs', e1, o5, rfl⟩:=o4
    cases e1
    have hc1 : (p, HO.lst xs) ∈ (OO.set k ((p, .lst xs') :: Cs'.flatten)).flatten ∨ xs' = xs:=by
      right
      have h1:=w4.tr (p, .lst xs') (by rw [List.set_set]; exact List.mem_flatten.mpr ⟨_, List.mem_set hkl _, List.mem_cons_self⟩)
      have hpq : p ≠ q0:=λee=>by
        have hp1:=X6 hk'
        have:=(w'.of (OO':=((p, HO.lst xs) :: Cs.flatten) :: (OO.set k ((p, HO.lst xs) :: Cs.flatten)).set k []) hp1).nd
        rw [X7, List.map_cons, List.cons_append, List.nodup_cons] at this
        exact this.1 (List.mem_append_left _ (List.mem_map.mpr ⟨(q0, .lst ys), J7 g2 _ (by simp), ee.symm⟩))
      rw [XD hpq] at h1
      have h2:=w'.tr (p, .lst xs) hin
      rw [h1] at h2
      have h3 : HO.lst xs' = HO.lst xs:=Option.some.inj h2
      injection h3
    obtain rfl : xs' = xs:=by
      rcases hc1 with h9 | h9
      . have h1 := w4.tr (p, .lst xs') (by rw [List.set_set]; exact List.mem_flatten.mpr ⟨_, List.mem_set hkl _, List.mem_cons_self⟩)
        have h2:=w4.tr (p, .lst xs) (by rw [List.set_set]; exact h9)
        rw [h1] at h2
        have h3 : HO.lst xs' = HO.lst xs:=Option.some.inj h2
        injection h3
      . exact h9
    rw [List.set_set] at w4 m4 o5
    refine ⟨Cs', some (.ref q0), by simp, w4, m'.trans m4, ?_⟩
    have e6 : ((as.take t).map (λ_=>([] : List Int)) ++ as.drop t).set t [] = (as.take (t + 1)).map (λ_=>([] : List Int)) ++ as.drop (t + 1):=by
      rw [List.set_append_right _ _ (by simp; omega)]
      simp only [List.length_map, List.length_take, Nat.min_eq_left (Nat.le_of_lt htl), Nat.sub_self]
      rw [List.drop_eq_getElem_cons htl, List.set_cons_zero, List.take_succ_eq_append_getElem htl, List.map_append, List.append_assoc]
      rfl
    rw [e6] at o5
    exact o5
  . rintro σ' H' ⟨Cs, wv, rfl, w', m', q'⟩
    have hlen:=q.len.1
    rw [hlen, List.take_length, List.drop_length, List.append_nil] at q'
    exact hr _ wv H' D w' ⟨S.mono _ _ m' s, ⟨p, xs, Cs, rfl, q', rfl⟩⟩ (PZ.tr (fd.tr D) m' P)
theorem Dl {te : TE} {mb : Int -> Int -> Rs Int} {f : Int -> Rs β} {v : V} {as : List Int} {C : List XG} {a0 : Int} (i jx jy k : Nat) (hσ : σ[i]? = some (some v)) (hk : OO[k]? = some C) (hne : jx ≠ jy) (hx : jx < σ.length) {vy : V} (hy : σ[jy]? = some (some vy)) (hyf : ∀ x, S.p x -> Xa K x vy a0) (h : ∀ x, S.p x -> oL (oF Xa) K x v as C)
    (hb : ∀ a b va vb, EvB K Er ((S.add K Xa va a).add K Xa vb b) OO ((σ.set jx (some va)).set jy (some vb)) te Xa (mb b a))
    (hr : ∀ b vx vb, Sv Er (S.add K Xa vb b) OO ((σ.set jx vx).set jy (some vb)) u Fd (f b)) : Sv Er S OO σ (QF (Iz (DW K (Uw i)) (Zd jx) (QF (Bq te (Zd jy)) GK)) u) Fd ((forN as a0 mb).bind f):=λH D w s P=>by
  obtain rfl : vy = .int a0:=hyf _ s
  obtain ⟨p, xs, Cs0, e, q, c⟩:=h _ s
  subst c e
  have hin : (p, HO.lst xs) ∈ OO.flatten:=List.mem_flatten.mpr ⟨_, List.mem_of_getElem? hk, List.mem_cons_self⟩
  have hH : H p = some (.lst xs):=w.tr (p, .lst xs) hin
  have pr:=(P3.flat q).1
  have hjy : jy < σ.length:=(List.getElem?_eq_some_iff.mp hy).1
  refine ⟨_, hσ, p, rfl, ⟨xs, SqL.of hH⟩, ?_⟩
  refine G3 (K:=K) (a:=p) (xs:=xs) (λt σ' H'=>∃ b vx, σ' = (σ.set jx vx).set jy (some (.int b)) /\ W OO H' /\ XC (hid H OO) (hid H' OO) /\ PZ Er (Fd D) (hid H' OO) ((forN (as.drop t) b mb).bind f))
    ⟨a0, σ[jx], ?_, w, XC.refl _, P⟩ (λt σ' H' ht r9=>by obtain ⟨_, _, _, w', _, _⟩:=r9; exact SqL.of (w'.tr (p, .lst xs) hin)) ?_ ?_
  . rw [List.set_getElem_self]
    obtain ⟨_, hy2⟩:=List.getElem?_eq_some_iff.mp hy
    rw [← hy2, List.set_getElem_self]
  . rintro t x σ' H' hx' ⟨b, vx, rfl, w', m', P'⟩
    have hlen:=Paired.len pr
    have htl : t < as.length:=by
      rw [← hlen]
      exact (List.getElem?_eq_some_iff.mp hx').1
    obtain ⟨y, hy1, hy2⟩:=Paired.getR pr (List.getElem?_eq_getElem htl)
    rw [hx'] at hy1
    cases hy1
    have hy2 : x = .int as[t]:=hy2
    subst hy2
    rw [List.drop_eq_getElem_cons htl] at P'
    have P' : PZ Er (Fd D) (hid H' OO) ((mb b as[t]).bind λg=>(forN (as.drop (t + 1)) g mb).bind f):=by rw [← XY]; exact P'
    have e1 : ((σ.set jx vx).set jy (some (.int b))).set jx (some (.int as[t])) = (σ.set jx (some (.int as[t]))).set jy (some (.int b)):=by
      rw [List.set_comm _ _ hne.symm, List.set_set]
    show QF _ _ _ (((σ.set jx vx).set jy (some (.int b))).set jx (some (.int as[t]))) H'
    rw [e1]
    refine (hb as[t] b (.int as[t]) (.int b)).st w' ⟨⟨S.mono _ _ m' s, rfl⟩, rfl⟩ P' λcc y H1 s1 w1 q1 r1 P1=>?_
    have r1 : y = .int cc:=r1
    subst r1
    exact ⟨cc, some (.int as[t]), by rw [List.set_set], w1, m'.trans (Xj s1), P1⟩
  . rintro σ' H' ⟨b, vx, rfl, w', m', P'⟩
    have hlen:=Paired.len pr
    rw [hlen, List.drop_length] at P'
    exact hr b vx _ H' D w' ⟨S.mono _ _ m' s, rfl⟩ P'
end
section
variable {K : PySem.W.Frag} {Er : Exc -> Hp -> Prop} {S : SC} {OO OO' OO1 OO2 : List (List XG)} {σ : St} {α β γ ρ ι δ ε ζ : Type}
variable {Fd : Ends -> β -> Hp -> Prop} [fd : FdOk Fd] {u : TS}
end
section
variable {K : PySem.W.Frag} {Er : Exc -> Hp -> Prop} {S : SC} {OO OO' OO1 OO2 : List (List XG)} {σ : St} {α β γ ρ ι δ ε ζ α1 α3 α4 : Type}
variable {Fd : Ends -> β -> Hp -> Prop} [fd : FdOk Fd] {u : TS}
end
end L2
namespace L2
open PySem
end L2
namespace L2
open PySem PySem.Spec PyProof.Rows
section
variable {prog : Program} {w : World} {A : Around} {E : Value -> Shared -> Prop} {s : Shared} {a : Addr} {ns : List Int}
end
section
variable {prog : Program} {w : World} {A : Around} {E : Value -> Shared -> Prop} {s : Shared}
end
section
variable {M : Model} {A : Around} {E : Value -> Shared -> Prop} {s : Shared}
end
section
variable {prog : Program} {w : World} {A : Around} {E : Value -> Shared -> Prop} {s : Shared} {a : Addr} {o : Obj} {es : Array (Int × Value)} {ep : Nat} {t : SetTable}
end
section
variable {prog : Program} {w : World} {A : Around} {E : Value -> Shared -> Prop} {s : Shared} {a I tp : Addr} {o : Obj} {es : Array (Int × Value)} {ep : Nat} {t : SetTable} {L : List (Int × Value)}
end
section
variable {prog : Program} {w : World} {A : Around} {E : Value -> Shared -> Prop} {s : Shared} {a I tp : Addr} {o : Obj} {es : Array (Int × Value)} {ep : Nat} {t : SetTable} {L : List (Int × Value)} {ns : List Int}
end
section
variable {X : Cx}
end
section
variable {K : PySem.W.Frag} {Er : Exc -> Hp -> Prop} {S : SC} {OO : List (List XG)} {σ : St}
variable {u : TS} {α γ ρ ι : Type}
variable {β : Type} {Fd : Ends -> β -> Hp -> Prop} [fd : FdOk Fd]
end
section
variable {α β γ : Type}
end
section
variable {K : PySem.W.Frag} {Er : Exc -> Hp -> Prop} {S : SC} {OO : List (List XG)} {σ : St} {α1 α2 α3 α4 ρ : Type} {mg : Str -> Option Value} {E : XK}
end
section
variable {X : Cx} {tg : Expr}
end
section
variable {K : PySem.W.Frag} {Er : Exc -> Hp -> Prop} {S : SC} {OO OO' : List (List XG)} {σ : St} {α β γ : Type}
variable {u : TS} {Fd : Ends -> β -> Hp -> Prop} [fd : FdOk Fd]
end
section
variable {K : PySem.W.Frag} {Er : Exc -> Hp -> Prop} {S : SC} {OO : List (List XG)} {σ : St} {α β γ ι : Type} {u : TS} {Fd : Ends -> β -> Hp -> Prop} [fd : FdOk Fd]
end
section
variable {K : PySem.W.Frag} {Er : Exc -> Hp -> Prop} {S : SC} {OO : List (List XG)} {σ : St} {α β : Type}
end
section
variable {α : Type} [DecidableEq α] {r : Enc α} {lt : α -> α -> Bool} {d : Nat}
end
section
variable {α : Type}
variable {prog : Program} {w : World} {A : Around} {E : Value -> Shared -> Prop} {s : Shared} {lt : α -> α -> Bool} {kf : Value -> α} {d : α} {a0 : Array Keyed}
end
section
variable {α β γ : Type}
section
variable [DecidableEq α] {lt : α -> α -> Bool}
end
end
section
variable {prog : Program} {w : World} {A : Around} {E : Value -> Shared -> Prop} {s : Shared} {α : Type}
end
section
variable {X : Cx} {β : Type} [DecidableEq β] {r : Enc β} {lt : β -> β -> Bool} {d : Nat}
end
section
variable {X : Cx} {α : Type}
end
section
variable {K : PySem.W.Frag} {Er : Exc -> Hp -> Prop} {S : SC} {OO OO' : List (List XG)} {σ : St} {α β γ δ : Type}
end
section
variable {K : PySem.W.Frag} {Er : Exc -> Hp -> Prop} {S : SC} {OO OO' : List (List XG)} {σ : St} {α β : Type} {u : TS} {Fd : Ends -> β -> Hp -> Prop} [fd : FdOk Fd]
end
section
variable {K : PySem.W.Frag} {Er : Exc -> Hp -> Prop} {S : SC} {OO OO' : List (List XG)} {σ : St} {α1 α2 β ρ : Type} {u : TS}
end
section
variable {K : PySem.W.Frag} {Er : Exc -> Hp -> Prop} {S : SC} {OO OO' : List (List XG)} {σ : St} {α α2 β γ ρ : Type}
variable {Fd : Ends -> β -> Hp -> Prop} [fd : FdOk Fd] {u : TS}
end
section
variable {prog : Program} {w : World} {A : Around} {E : Value -> Shared -> Prop} {s : Shared}
end
section
variable {X : Cx}
end
section
variable {K : PySem.W.Frag} {Er : Exc -> Hp -> Prop} {S : SC} {OO OO' : List (List XG)} {σ : St} {α β γ : Type}
end
section
variable {X : Cx} {α : Type} {r : Enc α} {lt : α -> α -> Bool} {d : Nat}
end
section
variable {K : PySem.W.Frag} {Er : Exc -> Hp -> Prop} {S : SC} {OO OO' : List (List XG)} {σ : St} {α : Type}
end
section
variable {X : Cx} {pins : List (Addr × Obj)} {σ : St} {H : Hp} {s0 : Shared}
end
section
variable {K : PySem.W.Frag} {Er : Exc -> Hp -> Prop} {S : SC} {OO OO' : List (List XG)} {σ : St} {α β γ : Type}
end
section
variable {K : PySem.W.Frag} {Er : Exc -> Hp -> Prop} {S : SC} {OO : List (List XG)} {σ : St} {α1 α2 α3 α4 α5 ρ : Type} {mg : Str -> Option Value} {E : XK}
end
section
variable {X : Cx} {o e : Expr} {es : List Expr} {to : TE} {t : TA} {name : Str} {apos cpos : Pos} {id : String} {r : V -> List V -> Hp -> VK -> Prop}
end
section
variable {K : PySem.W.Frag} {Er : Exc -> Hp -> Prop} {S : SC} {OO : List (List XG)} {σ : St}
end
section
variable {α β γ δ : Type} {K : PySem.W.Frag} {Er : Exc -> Hp -> Prop} {S : SC} {OO : List (List XG)} {σ : St} {Fd : Ends -> β -> Hp -> Prop} [fd : FdOk Fd] {u : TS}
end
end L2
namespace HT
open PySem PySem.Spec PyProof PyProof.Rows
section
variable {prog : Program} {w : World} {A : Around} {E : Value -> Shared -> Prop} {s : Shared}
end
end HT
namespace L2
open PySem PySem.Spec PyProof.Rows
section
variable {X : Cx} {e : Expr} {te : TE}
end
section
variable {α β : Type} {K : PySem.W.Frag} {Er : Exc -> Hp -> Prop} {S : SC} {OO : List (List XG)} {σ : St}
end
section
variable {α β : Type} {K : PySem.W.Frag} {Er : Exc -> Hp -> Prop} {S : SC} {OO : List (List XG)} {σ : St} {Fd : Ends -> β -> Hp -> Prop} [fd : FdOk Fd] {u : TS}
end
section
variable {K : PySem.W.Frag} {Er : Exc -> Hp -> Prop} {S : SC} {OO OO' OO2 : List (List XG)} {σ : St} {α β γ ρ ι : Type} {mg : Str -> Option Value} {E : XK} {u : TS}
end
section
variable {α : Type}
variable {prog : Program} {w : World} {A : Around} {E : Value -> Shared -> Prop} {s : Shared} {lt : α -> α -> Bool} {kf : Value -> α} {d : α} {a0 : Array Keyed} {κ : SortKind}
end
section
variable {prog : Program} {w : World} {A : Around} {E : Value -> Shared -> Prop} {s : Shared} {α : Type}
end
section
variable {X : Cx}
end
section
variable {prog : Program} {w : World} {A : Around} {E : Value -> Shared -> Prop} {s : Shared}
end
section
variable {X : Cx} {o : Expr} {lo hi : Option Expr} {pos p2 : Pos} {to : TE} {tl th : TO}
end
section
variable {X : Cx} {pins : List (Addr × Obj)} {σ : St} {H G : Hp} {s : Shared} {h' : Heap}
end
section
variable {X : Cx} {l : Expr} {tl : TE} {pos npos apos cpos : Pos}
end
section
variable {X : Cx}
end
section
variable {K : PySem.W.Frag} {Er : Exc -> Hp -> Prop} {S : SC} {OO OO' OO1 OO2 OO3 : List (List XG)} {σ : St} {α β γ δ ρ : Type} {u : TS}
end
section
variable {K : PySem.W.Frag} {Er : Exc -> Hp -> Prop} {S : SC} {OO OO' OO1 OO2 OO3 : List (List XG)} {σ : St} {α β γ δ ρ ι : Type} {α1 α2 α3 α4 α5 : Type} {u : TS}
variable {Fd : Ends -> β -> Hp -> Prop} [fd : FdOk Fd]
section
variable {o : OE ρ} {kf : Nat} {Cf : List XG} {J : Jn γ ι}
end
end
section
variable {K : PySem.W.Frag} {Er : Exc -> Hp -> Prop} {S : SC} {OO : List (List XG)} {σ : St} {α β γ ρ ι : Type} {u : TS} {Fd : Ends -> β -> Hp -> Prop} [fd : FdOk Fd]
end
end L2
namespace My
open PySem L2
noncomputable def VU (a_0 : ((List (List Int)) × (List (Int × Int)))) (a_1 : Int) : Rs (Int × Int):=(Rs.bind (Rs.bind (Rs.bind (Rs.ok a_0) λx1=>(Rs.ok x1.1)) λx2=>(Rs.ok (Jx x2))) λx20=>(Rs.bind (V5 x20 () (λg5 a7=>(Rs.bind (Rs.bind (Rs.ok a_1) λx9=>(Rs.bind (Rs.ok a7.2) λx10=>(Rs.ok (decide (x9 ∈ x10))))) λx11=>(if x11 = true then (Rs.bind (Rs.bind (Rs.ok a7.1) λx14=>(Rs.bind (Rs.bind (Rs.ok a7.2) λx12=>(Rs.bind (Rs.ok a_1) λx13=>(Ek x12 x13))) λx15=>(Rs.ok (x14, x15)))) λx17=>(Rs.ok (Ctl.ret x17))) else (Rs.bind (Rs.ok ()) λx16=>(Rs.ok (Ctl.nx x16))))))) (Qt λg18=>Rs.bad)))
noncomputable def XO (a_0 : (List Int)) : Rs Int:=(Rs.bind (Rs.bind (Rs.ok a_0) λx6=>(Bp x6 (λa4=>(Rs.bind (Rs.ok a4) λx7=>(Rs.bind (Rs.ok (0 : Int)) λx8=>(Rs.ok (decide (x7 < x8)))))) (λa4=>(Rs.ok a4)))) λa1=>(Rs.bind (Rs.bind (Rs.ok a1) λx10=>(Rs.ok (x10.length : Int))) λx11=>(Rs.bind (Rs.ok (1 : Int)) λx12=>(Rs.ok (max x11 x12)))))
noncomputable def YI (a_0 : (List Int)) (a_1 : Int) : Rs (List Int):=(Rs.bind (Rs.bind (Rs.ok a_0) λx4=>(noE (XO x4))) λa1=>(Rs.bind (Rs.ok (0 : Int)) λa5=>(Rs.bind (Rs.bind (Rs.bind (Rs.ok a_1) λx11=>(Rs.bind (Rs.ok []) λx12=>(Rs.ok (x11 :: x12)))) λx10=>(chk (x10.length <= sizeLine) (Rs.ok x10))) λa7=>(Rs.bind (Rs.bind (Rs.ok a_0) λx15=>(Rs.bind (Rs.ok none) λx16=>(Rs.bind (Rs.bind (Rs.bind (Rs.ok (1 : Int)) λx13=>(Rs.ok (-x13))) λx14=>(Rs.ok (some x14))) λx17=>(Rs.ok (FD x15 x16 x17))))) λx43=>(Rs.bind (forN x43 (a5, a7) (λg20 a22=>(Rs.bind (Rs.bind (Rs.bind (Rs.ok a22) λx24=>(Rs.bind (Rs.ok (0 : Int)) λx25=>(Rs.ok (decide (x24 < x25))))) λx26=>(if x26 = true then (Rs.bind (Rs.ok (1 : Int)) λx29=>((λ(a31 : Int)=>(Rs.ok (a31))) (g20.1 + x29))) else (Rs.ok (g20.1)))) λg33=>(Rs.bind (Rs.bind (Rs.ok a_1) λx36=>(Rs.bind (Rs.bind (Rs.ok g33) λx34=>(Rs.bind (Rs.ok a1) λx35=>(Z0 x34 x35))) λx37=>(Rs.ok (x36 + x37)))) λa38=>(chk (g20.2.length < sizeLine) ((λa40=>(Rs.ok (g33, a40))) (g20.2 ++ [a38]))))))) λg41=>(Rs.ok g41.2))))))
noncomputable def Ud (a_0 : ((List (List Int)) × (List (Int × Int)))) : Rs (List (List Int)):=(Rs.bind (Rs.ok []) λa1=>(Rs.bind (Rs.ok (0 : Int)) λa4=>(Rs.bind (Rs.bind (Rs.ok a_0) λx6=>(Rs.ok x6.1)) λx26=>(Rs.bind (forN x26 (a4, a1) (λg9 a11=>(Rs.bind (Rs.bind (Rs.ok a11) λx14=>(Rs.bind (Rs.ok g9.1) λx15=>(noE (YI x14 x15)))) λa16=>(chk (g9.2.length < sizeLine) ((λa18=>(Rs.bind (Rs.bind (Rs.ok a11) λx20=>(noE (XO x20))) λx21=>((λ(a23 : Int)=>(Rs.ok (a23, a18))) (g9.1 + x21)))) (g9.2 ++ [a16])))))) λg24=>(Rs.ok g24.2)))))
noncomputable def YQ (a_0 : ((List (List Int)) × (List (Int × Int)))) : Rs Int:=(Rs.bind (Rs.bind (Rs.bind (Rs.ok a_0) λx2=>(Rs.ok x2.1)) λx6=>(J9 x6 (λa4=>(Rs.bind (Rs.ok a4) λx8=>(noE (XO x8)))))) λx9=>(Rs.ok (x9.sum)))
noncomputable def Qd (a_0 : ((List (List Int)) × (List (Int × Int)))) : Rs (List (Int × Int × Int × Int × Int)):=(Rs.bind (Rs.bind (Rs.ok a_0) λx4=>(noE (Ud x4))) λa1=>(Rs.bind (Rs.ok []) λa5=>(Rs.bind (Rs.bind (Rs.ok a_0) λx8=>(Rs.ok x8.2)) λx64=>(Rs.bind (forN x64 (a5) (λg11 a13=>(Rs.bind (Rs.bind (Rs.ok a_0) λx18=>(Rs.bind (Rs.ok a13.1) λx19=>(noE (VU x18 x19)))) λa15=>(Rs.bind (Rs.bind (Rs.ok a_0) λx24=>(Rs.bind (Rs.bind (Rs.ok a13.1) λx23=>(Rs.ok (-x23))) λx25=>(noE (VU x24 x25)))) λa20=>(Rs.bind (Rs.bind (Rs.bind (Rs.ok a1) λx29=>(Rs.bind (Rs.bind (Rs.ok a15) λx28=>(Rs.ok x28.1)) λx30=>(atR x29 x30))) λx32=>(Rs.bind (Rs.bind (Rs.ok a15) λx31=>(Rs.ok x31.2)) λx33=>(atR x32 x33))) λa26=>(Rs.bind (Rs.bind (Rs.ok a1) λx37=>(Rs.bind (Rs.bind (Rs.ok a20) λx36=>(Rs.ok x36.1)) λx38=>(atR x37 x38))) λa34=>(Rs.bind (Rs.bind (Rs.ok a34) λx42=>(Rs.bind (Rs.bind (Rs.ok a20) λx41=>(Rs.ok x41.2)) λx43=>(atR x42 x43))) λa39=>(Rs.bind (Rs.bind (Rs.ok a34) λx52=>(Rs.bind (Rs.bind (Rs.bind (Rs.bind (Rs.ok a20) λx46=>(Rs.ok x46.2)) λx47=>(Rs.bind (Rs.ok (1 : Int)) λx48=>(Rs.ok (x47 + x48)))) λx50=>(Rs.bind (Rs.bind (Rs.ok a34) λx49=>(Rs.ok (x49.length : Int))) λx51=>(Z0 x50 x51))) λx53=>(atR x52 x53))) λa44=>(Rs.bind (Rs.bind (Rs.ok a13.1) λx54=>(Rs.bind (Rs.ok a13.2) λx55=>(Rs.bind (Rs.ok a26) λx56=>(Rs.bind (Rs.ok a39) λx57=>(Rs.bind (Rs.ok a44) λx58=>(Rs.ok (x54, x55, x56, x57, x58))))))) λa59=>(chk (g11.length < sizeLine) ((λa61=>(Rs.ok (a61))) (g11 ++ [a59])))))))))))) λg62=>(Rs.ok g62)))))
noncomputable def Um (a_0 : ((List (List Int)) × (List (Int × Int)))) : Rs (List (Int × Int × Int)):=(Rs.bind (Rs.ok []) λa1=>(Rs.bind (Rs.bind (Rs.ok a_0) λx5=>(noE (Qd x5))) λx26=>(Rs.bind (forN x26 (a1) (λg8 a10=>(Rs.bind (Rs.bind (Rs.bind (Rs.ok a10.2.1) λx12=>(Rs.bind (Rs.ok (1 : Int)) λx13=>(Rs.ok (decide (x12 = x13))))) λx20=>(if x20 = true then (Rs.bind (Rs.ok a10.2.2.2.1) λx14=>(Rs.bind (Rs.ok a10.2.2.1) λx15=>(Rs.bind (Rs.ok a10.2.2.2.2) λx16=>(Rs.ok (x14, x15, x16))))) else (Rs.bind (Rs.ok a10.2.2.2.2) λx17=>(Rs.bind (Rs.ok a10.2.2.1) λx18=>(Rs.bind (Rs.ok a10.2.2.2.1) λx19=>(Rs.ok (x17, x18, x19))))))) λa21=>(chk (g8.length < sizeLine) ((λa23=>(Rs.ok (a23))) (g8 ++ [a21])))))) λg24=>(Rs.ok g24))))
noncomputable def ZA (a_0 : Int) : Rs Bool:=(Rs.bind (orR (Rs.bind (Rs.ok a_0) λx1=>(Rs.bind (Rs.ok (2 : Int)) λx2=>(Rs.ok (decide (x1 < x2))))) (Rs.bind (Rs.ok a_0) λx3=>(Rs.bind (Rs.ok (100000 : Int)) λx4=>(Rs.ok (decide (x4 < x3)))))) λx5=>(if x5 = true then (Rs.ok false) else (Rs.bind (Rs.ok (2 : Int)) λa6=>(Rs.bind (JO (a_0.natAbs + 2) (a6) (λg10=>(Rs.bind (Rs.bind (Rs.ok g10) λx12=>(Rs.bind (Rs.ok g10) λx13=>(Z5 x12 x13))) λx14=>(Rs.bind (Rs.ok a_0) λx15=>(Rs.ok (decide (x14 <= x15)))))) (λg10=>(Rs.bind (Rs.bind (Rs.bind (Rs.ok a_0) λx16=>(Rs.bind (Rs.ok g10) λx17=>(Z0 x16 x17))) λx18=>(Rs.bind (Rs.ok (0 : Int)) λx19=>(Rs.ok (decide (x18 = x19))))) λx20=>(if x20 = true then (Rs.bind (Rs.ok false) λx25=>(Rs.ok (Ctl.ret x25))) else (Rs.bind (Rs.ok (1 : Int)) λx21=>((λ(a23 : Int)=>(Rs.bind (Rs.ok (a23)) λx24=>(Rs.ok (Ctl.nx x24)))) (g10 + x21))))))) (Qt λg26=>(Rs.ok true))))))
noncomputable def YD (a_0 : Int) (a_1 : Int) : Rs Unit:=(Rs.bind (Rs.bind (Rs.bind (Rs.ok a_0) λx6=>(noE (ZA x6))) λx7=>(Rs.ok (!x7))) λx8=>(if x8 = true then Rs.bad else (Rs.bind (Rs.bind (Rs.bind (Rs.ok a_1) λx9=>(Rs.bind (Rs.ok a_0) λx10=>(Z0 x9 x10))) λx11=>(Rs.bind (Rs.ok (0 : Int)) λx12=>(Rs.ok (decide (x11 = x12))))) λx13=>(if x13 = true then Rs.bad else (Rs.ok ())))))
noncomputable def Zl (a_0 : ((List (List Int)) × (List (Int × Int)))) (a_1 : Int) (a_2 : Int) : Rs (List (List Int)):=(Rs.bind (Rs.bind (Rs.ok a_1) λx2=>(Rs.bind (Rs.ok a_2) λx3=>(noE (YD x2 x3)))) λx4=>(Rs.bind (Rs.bind (Rs.ok a_0) λx8=>(noE (YQ x8))) λa5=>(Rs.bind (Rs.ok []) λa9=>(Rs.bind (Rs.bind (Rs.ok a_0) λx13=>(noE (Um x13))) λx56=>(Rs.bind (forN x56 (a9) (λg16 a18=>(Rs.bind (Rs.bind (Rs.bind (Rs.bind (Rs.ok (0 : Int)) λx26=>(Rs.bind (Rs.ok []) λx27=>(Rs.ok (x26 :: x27)))) λx25=>(chk (x25.length <= sizeLine) (Rs.ok x25))) λx23=>(Rs.bind (Rs.ok a5) λx24=>(KF x23 x24))) λa20=>(Rs.bind (Rs.ok a18.1) λx30=>(Rs.bind (atR a20 x30) λx31=>(Rs.bind (Rs.ok a_2) λx32=>(Rs.bind (QD a20 x30 (x31 + x32)) λa28=>(Rs.bind (Rs.ok a18.2.1) λx37=>(Rs.bind (atR a28 x37) λx38=>(Rs.bind (Rs.bind (Rs.ok (1 : Int)) λx33=>(Rs.bind (Rs.ok a_2) λx34=>(Rs.ok (x33 - x34)))) λx39=>(Rs.bind (QD a28 x37 (x38 + x39)) λa35=>(Rs.bind (Rs.ok a18.2.2) λx42=>(Rs.bind (atR a35 x42) λx43=>(Rs.bind (Rs.ok (1 : Int)) λx44=>(Rs.bind (QD a35 x42 (x43 - x44)) λa40=>(Rs.bind (Rs.bind (Rs.ok a40) λx48=>(J9 x48 (λa46=>(Rs.bind (Rs.ok a46) λx49=>(Rs.bind (Rs.ok a_1) λx50=>(Z0 x49 x50)))))) λa51=>(chk (g16.length < sizeLine) ((λa53=>(Rs.ok (a53))) (g16 ++ [a51]))))))))))))))))))) λg54=>(Rs.ok g54))))))
noncomputable def Jk (a_0 : (List Int)) (a_1 : Int) (a_2 : Int) : Rs (List Int):=(Rs.bind (Rs.ok a_0) λx4=>(J9 x4 (λa2=>(Rs.bind (Rs.bind (Rs.ok a_1) λx5=>(Rs.bind (Rs.ok a2) λx6=>(Z5 x5 x6))) λx7=>(Rs.bind (Rs.ok a_2) λx8=>(Z0 x7 x8))))))
noncomputable def YG (a_0 : Int) (a_1 : Int) : Rs Int:=(Rs.bind (Rs.ok (1 : Int)) λa1=>(Rs.bind (Rs.ok a_0) λa3=>(Rs.bind (Rs.bind (Rs.ok a_1) λx7=>(Rs.bind (Rs.ok (2 : Int)) λx8=>(Rs.ok (x7 - x8)))) λa5=>(Rs.bind (Qp (100) (a3, a5, a1) (λg11=>(Rs.bind (Rs.ok g11.2.1) λx13=>(Rs.bind (Rs.ok (0 : Int)) λx14=>(Rs.ok (decide (x14 < x13)))))) (λg11=>(Rs.bind (Rs.bind (Rs.bind (Rs.bind (Rs.ok g11.2.1) λx15=>(Rs.bind (Rs.ok (2 : Int)) λx16=>(Z0 x15 x16))) λx17=>(Rs.bind (Rs.ok (1 : Int)) λx18=>(Rs.ok (decide (x17 = x18))))) λx19=>(if x19 = true then (Rs.bind (Rs.bind (Rs.bind (Rs.ok g11.2.2) λx24=>(Rs.bind (Rs.ok g11.1) λx25=>(Z5 x24 x25))) λx26=>(Rs.bind (Rs.ok a_1) λx27=>(Z0 x26 x27))) λa22=>(Rs.ok (a22))) else (Rs.ok (g11.2.2)))) λg29=>(Rs.bind (Rs.bind (Rs.bind (Rs.ok g11.1) λx32=>(Rs.bind (Rs.ok g11.1) λx33=>(Z5 x32 x33))) λx34=>(Rs.bind (Rs.ok a_1) λx35=>(Z0 x34 x35))) λa30=>(Rs.bind (Rs.ok (2 : Int)) λx36=>(Rs.bind (L6 g11.2.1 x36) λa38=>(Rs.ok (a30, a38, g29)))))))) λg39=>(Rs.ok g39.2.2)))))
noncomputable def Zu (a_0 : (List Int)) (a_1 : (List Int)) (a_2 : Int) (a_3 : Int) : Rs (List Int):=(Rs.bind (Rs.bind (Rs.ok a_0) λx1=>(Rs.bind (Rs.ok a_1) λx2=>(Rs.ok (x1.zip x2)))) λx6=>(J9 x6 (λa4=>(Rs.bind (Rs.bind (Rs.ok a4.1) λx11=>(Rs.bind (Rs.bind (Rs.bind (Rs.ok a_0) λx7=>(Rs.bind (Rs.ok a_2) λx8=>(atR x7 x8))) λx9=>(Rs.bind (Rs.ok a4.2) λx10=>(Z5 x9 x10))) λx12=>(Rs.ok (x11 - x12)))) λx13=>(Rs.bind (Rs.ok a_3) λx14=>(Z0 x13 x14))))))
noncomputable def Zz (a_0 : (List (List Int))) (a_1 : Int) (a_2 : Int) : Rs (List (Int × (List Int))):=(Rs.bind (Rs.ok []) λa1=>(Rs.bind (Rs.ok a_0) λa4=>(Rs.bind (Rs.bind (Rs.ok a_1) λx6=>(JX 0 x6)) λx81=>(Rs.bind (forN x81 (a4, a1) (λg9 a11=>(Rs.bind (Rs.bind (Rs.ok g9.1) λx18=>(Bp x18 (λa16=>(Rs.bind (Rs.bind (Rs.ok a16) λx19=>(Rs.bind (Rs.ok a11) λx20=>(atR x19 x20))) λx21=>(Rs.bind (Rs.ok (0 : Int)) λx22=>(Rs.ok (!(decide (x21 = x22))))))) (λa16=>(Rs.ok a16)))) λa13=>(Rs.bind (Rs.bind (Rs.bind (Rs.bind (Rs.ok a13) λx23=>(Rs.ok (x23.length : Int))) λx24=>(Rs.bind (Rs.ok (0 : Int)) λx25=>(Rs.ok (decide (x25 < x24))))) λx26=>(if x26 = true then (Rs.bind (Rs.bind (Rs.bind (Rs.ok a13) λx33=>(Rs.bind (Rs.ok (0 : Int)) λx34=>(atR x33 x34))) λx42=>(Rs.bind (Rs.bind (Rs.bind (Rs.bind (Rs.ok a13) λx36=>(Rs.bind (Rs.ok (0 : Int)) λx37=>(atR x36 x37))) λx38=>(Rs.bind (Rs.ok a11) λx39=>(atR x38 x39))) λx40=>(Rs.bind (Rs.ok a_2) λx41=>(noE (YG x40 x41)))) λx43=>(Rs.bind (Rs.ok a_2) λx44=>(noE (Jk x42 x43 x44))))) λa29=>(Rs.bind (Rs.bind (Rs.ok g9.1) λx50=>(J9 x50 (λa48=>(Rs.bind (Rs.ok a48) λx52=>(Rs.bind (Rs.ok a29) λx53=>(Rs.bind (Rs.ok a11) λx54=>(Rs.bind (Rs.ok a_2) λx55=>(noE (Zu x52 x53 x54 x55))))))))) λa45=>(Rs.bind (Rs.bind (Rs.bind (Rs.ok g9.2) λx64=>(J9 x64 (λa62=>(Rs.bind (Rs.ok a62.1) λx70=>(Rs.bind (Rs.bind (Rs.ok a62.2) λx66=>(Rs.bind (Rs.ok a29) λx67=>(Rs.bind (Rs.ok a11) λx68=>(Rs.bind (Rs.ok a_2) λx69=>(noE (Zu x66 x67 x68 x69)))))) λx71=>(Rs.ok (x70, x71))))))) λx59=>(Rs.bind (Rs.bind (Rs.bind (Rs.bind (Rs.ok a11) λx73=>(Rs.bind (Rs.ok a29) λx74=>(Rs.ok (x73, x74)))) λx75=>(Rs.bind (Rs.ok []) λx76=>(Rs.ok (x75 :: x76)))) λx72=>(chk (x72.length <= sizeLine) (Rs.ok x72))) λx60=>(G2 x59 x60))) λa56=>(Rs.ok (a45, a56))))) else (Rs.ok (g9.1, g9.2)))) λg78=>(Rs.ok (g78.1, g78.2)))))) λg79=>(Rs.ok g79.2)))))
noncomputable def JK (a_0 : Int) (a_1 : Int) : Rs (List Int):=(Rs.bind (Rs.bind (Rs.bind (Rs.bind (Rs.ok (0 : Int)) λx7=>(Rs.bind (Rs.ok []) λx8=>(Rs.ok (x7 :: x8)))) λx6=>(chk (x6.length <= sizeLine) (Rs.ok x6))) λx4=>(Rs.bind (Rs.ok a_0) λx5=>(KF x4 x5))) λa1=>(Rs.bind (Rs.ok (1 : Int)) λx9=>(Rs.bind (Rs.ok a_1) λx10=>(Rs.bind (QD a1 x10 x9) λa11=>(Rs.ok a11)))))
noncomputable def YH (a_0 : (List (List Int))) : Rs (List (List Int)):=(Rs.bind (Rs.bind (Rs.ok a_0) λx1=>(Rs.ok (Jx x1))) λx5=>(J9 x5 (λa3=>(Rs.bind (Rs.ok a3.2) λx6=>(Rs.bind (Rs.bind (Rs.bind (Rs.ok a_0) λx9=>(Rs.ok (x9.length : Int))) λx10=>(Rs.bind (Rs.ok a3.1) λx11=>(noE (JK x10 x11)))) λx7=>(G2 x6 x7))))))
noncomputable def YE (a_0 : Int) (a_1 : (List (Int × (List Int)))) (a_2 : Int) (a_3 : Int) : Rs (List Int):=(Rs.bind (Rs.bind (Rs.ok a_2) λx5=>(Rs.bind (Rs.ok a_0) λx6=>(noE (JK x5 x6)))) λa1=>(Rs.bind (Rs.ok a_1) λx24=>(Rs.bind (forN x24 (a1) (λg9 a11=>(Rs.bind (Rs.bind (Rs.bind (Rs.bind (Rs.ok a11.2) λx13=>(Rs.bind (Rs.ok a_0) λx14=>(atR x13 x14))) λx15=>(Rs.ok (-x15))) λx16=>(Rs.bind (Rs.ok a_3) λx17=>(Z0 x16 x17))) λx18=>(Rs.bind (Rs.ok a11.1) λx19=>(Rs.bind (QD g9 x19 x18) λa20=>(Rs.ok (a20))))))) λg22=>(Rs.ok g22))))
noncomputable def ZN (a_0 : ((List (List Int)) × (List (Int × Int)))) (a_1 : Int) (a_2 : Int) : Rs ((List Int) × (List (List Int)) × (List (Int × (List Int)))):=(Rs.bind (Rs.bind (Rs.ok a_0) λx4=>(noE (YQ x4))) λa1=>(Rs.bind (Rs.bind (Rs.bind (Rs.bind (Rs.ok a_0) λx10=>(Rs.bind (Rs.ok a_1) λx11=>(Rs.bind (Rs.ok a_2) λx12=>(noE (Zl x10 x11 x12))))) λx13=>(noE (YH x13))) λx14=>(Rs.bind (Rs.ok a1) λx15=>(Rs.bind (Rs.ok a_1) λx16=>(noE (Zz x14 x15 x16))))) λa5=>(Rs.bind (Rs.bind (Rs.ok a5) λx20=>(Rs.ok (FE [] x20))) λa17=>(Rs.bind (Rs.bind (Rs.bind (Rs.ok a1) λx24=>(JX 0 x24)) λx28=>(Bp x28 (λa26=>(Rs.bind (Rs.ok a26) λx29=>(Rs.bind (Rs.ok a17) λx30=>(Rs.ok (!(Zi x30 x29).isSome))))) (λa26=>(Rs.ok a26)))) λa21=>(Rs.bind (Rs.bind (Rs.ok a21) λx37=>(J9 x37 (λa35=>(Rs.bind (Rs.ok a35) λx40=>(Rs.bind (Rs.ok a17) λx41=>(Rs.bind (Rs.ok a1) λx42=>(Rs.bind (Rs.ok a_1) λx43=>(noE (YE x40 x41 x42 x43))))))))) λa31=>(Rs.bind (Rs.ok a21) λx54=>(Rs.bind (Rs.ok a31) λx55=>(Rs.bind (Rs.bind (Rs.ok a5) λx47=>(J9 x47 (λa45=>(Rs.bind (Rs.ok a45.1) λx52=>(Rs.bind (Rs.bind (Rs.ok a45.2) λx49=>(Rs.bind (Rs.bind (Rs.ok a1) λx48=>(Rs.ok (some x48))) λx50=>(Rs.bind (Rs.ok none) λx51=>(Rs.ok (FD x49 x50 x51))))) λx53=>(Rs.ok (x52, x53))))))) λx56=>(Rs.ok (x54, x55, x56))))))))))
noncomputable def Yb (a_0 : ((List (List Int)) × (List (Int × Int)))) (a_1 : Int) (a_2 : Int) : Rs Int:=(Rs.bind (Rs.ok (1 : Int)) λa1=>(Rs.bind (Rs.bind (Rs.bind (Rs.ok a_0) λx4=>(Rs.bind (Rs.ok a_1) λx5=>(Rs.bind (Rs.ok a_2) λx6=>(noE (ZN x4 x5 x6))))) λx7=>(Rs.ok x7.1)) λx19=>(Rs.bind (forN x19 (a1) (λg10 a12=>(Rs.bind (Rs.ok a_1) λx14=>(Rs.bind (Z5 g10 x14) λa16=>(Rs.ok (a16)))))) λg17=>(Rs.ok g17))))
noncomputable def Vp (a_0 : (List Int)) (a_1 : Int) : Rs Int:=(Rs.bind (Rs.bind (Rs.ok a_1) λx2=>(Rs.bind (Rs.bind (Rs.ok a_0) λx1=>(Rs.ok (x1.length : Int))) λx3=>(Rs.ok (decide (x2 < x3))))) λx4=>(if x4 = true then (Rs.bind (Rs.ok a_0) λx5=>(Rs.bind (Rs.ok a_1) λx6=>(atR x5 x6))) else (Rs.bind (Rs.ok (5 : Int)) λa7=>(Rs.bind (Rs.bind (Rs.ok a_0) λx10=>(Rs.bind (Rs.ok none) λx11=>(Rs.bind (Rs.bind (Rs.ok (63 : Int)) λx9=>(Rs.ok (some x9))) λx12=>(Rs.ok (FD x10 x11 x12))))) λx39=>(Rs.bind (forN x39 (a7) (λg15 a17=>(Rs.bind (Rs.bind (Rs.bind (Rs.bind (Rs.bind (Rs.ok g15) λx21=>(Rs.bind (Rs.ok (48271 : Int)) λx22=>(Z5 x21 x22))) λx25=>(Rs.bind (Rs.bind (Rs.ok a17) λx23=>(Rs.bind (Rs.ok (1000003 : Int)) λx24=>(Z0 x23 x24))) λx26=>(Rs.ok (x25 + x26)))) λx27=>(Rs.bind (Rs.ok (1 : Int)) λx28=>(Rs.ok (x27 + x28)))) λx29=>(Rs.bind (Rs.ok (2147483647 : Int)) λx30=>(Z0 x29 x30))) λa19=>(Rs.ok (a19))))) λg31=>(Rs.bind (Rs.bind (Rs.ok g31) λx35=>(Rs.bind (Rs.bind (Rs.ok (7919 : Int)) λx33=>(Rs.bind (Rs.ok a_1) λx34=>(Z5 x33 x34))) λx36=>(Rs.ok (x35 + x36)))) λx37=>(Rs.bind (Rs.ok (1000003 : Int)) λx38=>(Z0 x37 x38))))))))
noncomputable def Gi (a_0 : Int) (a_1 : Int) : Rs Int:=(Rs.bind (Rs.bind (Rs.bind (Rs.bind (Rs.bind (Rs.bind (Rs.ok a_0) λx3=>(Rs.bind (Rs.ok (2147483629 : Int)) λx4=>(Z0 x3 x4))) λx7=>(Rs.bind (Rs.bind (Rs.ok (1013 : Int)) λx5=>(Rs.bind (Rs.ok a_1) λx6=>(Z5 x5 x6))) λx8=>(Rs.ok (x7 + x8)))) λx9=>(Rs.bind (Rs.ok (7919 : Int)) λx10=>(Rs.ok (x9 + x10)))) λx11=>(Rs.bind (Rs.ok (3 : Int)) λx12=>(IB x11 x12))) λx13=>(Rs.bind (Rs.ok (2147483647 : Int)) λx14=>(Z0 x13 x14))) λa1=>(Rs.bind (Rs.bind (Rs.bind (Rs.bind (Rs.bind (Rs.ok a1) λx17=>(Rs.bind (Rs.ok (40699 : Int)) λx18=>(Z5 x17 x18))) λx23=>(Rs.bind (Rs.bind (Rs.bind (Rs.ok (3793 : Int)) λx19=>(Rs.bind (Rs.ok a_1) λx20=>(Z5 x19 x20))) λx21=>(Rs.bind (Rs.ok a_1) λx22=>(Z5 x21 x22))) λx24=>(Rs.ok (x23 + x24)))) λx25=>(Rs.bind (Rs.ok (11 : Int)) λx26=>(Rs.ok (x25 + x26)))) λx27=>(Rs.bind (Rs.ok (2147483399 : Int)) λx28=>(Z0 x27 x28))) λa15=>(Rs.bind (Rs.ok a15) λx29=>(Rs.bind (Rs.ok (101 : Int)) λx30=>(IF x29 x30)))))
noncomputable def U8 (a_0 : (List Int)) (a_1 : Int) (a_2 : (List Int)) : Rs (List Int):=(Rs.bind (Rs.bind (Rs.ok a_0) λx4=>(Rs.bind (Rs.ok a_1) λx5=>(noE (Vp x4 x5)))) λa1=>(Rs.bind (Rs.ok a1) λa6=>(Rs.bind (Rs.ok []) λa8=>(Rs.bind (Rs.bind (Rs.bind (Rs.ok a_2) λx11=>(Rs.ok (x11.length : Int))) λx12=>(JX 0 x12)) λx81=>(Rs.bind (forN x81 (a8, a6) (λg15 a17=>(Rs.bind (Rs.bind (Rs.bind (Rs.ok a1) λx21=>(Rs.bind (Rs.bind (Rs.ok (10 : Int)) λx19=>(Rs.bind (Rs.ok (18 : Int)) λx20=>(IB x19 x20))) λx22=>(Rs.ok (decide (x21 < x22))))) λx23=>(if x23 = true then (Rs.bind (Rs.bind (Rs.bind (Rs.ok a1) λx27=>(Rs.bind (Rs.ok a17) λx28=>(noE (Gi x27 x28)))) λx31=>(Rs.bind (Rs.bind (Rs.ok a_2) λx29=>(Rs.bind (Rs.ok a17) λx30=>(atR x29 x30))) λx32=>(Z0 x31 x32))) λa33=>(chk (g15.1.length < sizeLine) ((λa35=>(Rs.ok (a35, g15.2))) (g15.1 ++ [a33])))) else (Rs.bind (Rs.bind (Rs.bind (Rs.ok g15.2) λx36=>(Rs.bind (Rs.ok (0 : Int)) λx37=>(Rs.ok (decide (x37 < x36))))) λx38=>(if x38 = true then (Rs.bind (Rs.bind (Rs.ok g15.2) λx43=>(Rs.bind (Rs.bind (Rs.ok a_2) λx41=>(Rs.bind (Rs.ok a17) λx42=>(atR x41 x42))) λx44=>(Z0 x43 x44))) λa45=>(chk (g15.1.length < sizeLine) ((λa47=>(Rs.bind (Rs.bind (Rs.ok g15.2) λx52=>(Rs.bind (Rs.bind (Rs.ok a_2) λx50=>(Rs.bind (Rs.ok a17) λx51=>(atR x50 x51))) λx53=>(IF x52 x53))) λa48=>(Rs.ok (a48, a47)))) (g15.1 ++ [a45])))) else (Rs.bind (Rs.bind (Rs.ok a_0) λx63=>(Rs.bind (Rs.bind (Rs.bind (Rs.bind (Rs.ok a_1) λx57=>(Rs.bind (Rs.ok (1 : Int)) λx58=>(Rs.ok (x57 + x58)))) λx59=>(Rs.bind (Rs.ok a17) λx60=>(Rs.ok (x59 + x60)))) λx61=>(Rs.bind (Rs.ok (63 : Int)) λx62=>(Z0 x61 x62))) λx64=>(noE (Vp x63 x64)))) λa54=>(Rs.bind (Rs.bind (Rs.bind (Rs.ok a54) λx66=>(Rs.bind (Rs.ok a17) λx67=>(noE (Gi x66 x67)))) λx70=>(Rs.bind (Rs.bind (Rs.ok a_2) λx68=>(Rs.bind (Rs.ok a17) λx69=>(atR x68 x69))) λx71=>(Z0 x70 x71))) λa72=>(chk (g15.1.length < sizeLine) ((λa74=>(Rs.ok (g15.2, a74))) (g15.1 ++ [a72]))))))) λg76=>(Rs.ok (g76.2, g76.1))))) λg78=>(Rs.ok (g78.1, g78.2))))) λg79=>(Rs.ok g79.1))))))
noncomputable def JC (a_0 : (List Int)) (a_1 : (List Int)) : Rs (List Int):=(Rs.bind (Rs.bind (Rs.ok a_0) λx4=>(Rs.ok x4)) λa1=>(Rs.bind (Rs.ok []) λa5=>(Rs.bind (Rs.bind (Rs.bind (Rs.ok a_0) λx8=>(Rs.ok (x8.length : Int))) λx9=>(JX 0 x9)) λx34=>(Rs.bind (forN x34 (a5, a1) (λg12 a14=>(Rs.bind (Rs.bind (Rs.bind (Rs.ok a_1) λx20=>(Rs.bind (Rs.bind (Rs.bind (Rs.ok (8 : Int)) λx16=>(Rs.bind (Rs.ok a14) λx17=>(Z5 x16 x17))) λx18=>(Rs.bind (Rs.ok (9 : Int)) λx19=>(Rs.ok (x18 + x19)))) λx21=>(atR x20 x21))) λx23=>(Rs.bind (Rs.bind (Rs.ok g12.2) λx22=>(Rs.ok (x22.length : Int))) λx24=>(Z0 x23 x24))) λx30=>(Rs.bind (Cd g12.2 x30) λp31=>(chk (g12.1.length < sizeLine) ((λa26 a27=>(Rs.ok (a27, a26))) p31.2 (g12.1 ++ [p31.1]))))))) λg32=>(Rs.ok g32.1)))))
noncomputable def Fx (a_0 : (List Int)) (a_1 : (List Int)) (a_2 : Int) : Rs (List (List Int)):=(Rs.bind (Rs.ok []) λa1=>(Rs.bind (Rs.ok a_0) λx70=>(Rs.bind (forN x70 (a1) (λg6 a8=>(Rs.bind (Rs.bind (Rs.bind (Rs.ok a8) λx14=>(Rs.bind (Rs.bind (Rs.bind (Rs.ok a8) λx11=>(Rs.ok (-x11))) λx12=>(Rs.bind (Rs.ok []) λx13=>(Rs.ok (x12 :: x13)))) λx15=>(Rs.ok (x14 :: x15)))) λx10=>(chk (x10.length <= sizeLine) (Rs.ok x10))) λa16=>(chk (g6.length + a16.length <= sizeLine) ((λa18=>(Rs.ok (a18))) (g6 ++ a16)))))) λg19=>(Rs.bind (Rs.bind (Rs.bind (Rs.ok a_2) λx24=>(JX 0 x24)) λx28=>(J9 x28 (λa26=>(Rs.ok [])))) λa21=>(Rs.bind (Rs.bind (Rs.bind (Rs.ok (2 : Int)) λx30=>(Rs.bind (Rs.bind (Rs.ok a_0) λx29=>(Rs.ok (x29.length : Int))) λx31=>(Z5 x30 x31))) λx32=>(JX 0 x32)) λx69=>(Rs.bind (forN x69 (g19, a21) (λg35 a37=>(Rs.bind (Rs.bind (Rs.bind (Rs.ok (4 : Int)) λx41=>(Rs.bind (Rs.ok a37) λx42=>(Z5 x41 x42))) λx43=>(Rs.bind (Rs.ok (5 : Int)) λx44=>(Rs.ok (x43 + x44)))) λa39=>(Rs.bind (Rs.bind (Rs.bind (Rs.ok a_1) λx45=>(Rs.bind (Rs.ok a39) λx46=>(atR x45 x46))) λx48=>(Rs.bind (Rs.bind (Rs.ok g35.1) λx47=>(Rs.ok (x47.length : Int))) λx49=>(Z0 x48 x49))) λx54=>(Rs.bind (Cd g35.1 x54) (λp55=>(λa50 a51=>(Rs.bind (Rs.bind (Rs.bind (Rs.ok a_1) λx58=>(Rs.bind (Rs.bind (Rs.ok a39) λx56=>(Rs.bind (Rs.ok (1 : Int)) λx57=>(Rs.ok (x56 + x57)))) λx59=>(atR x58 x59))) λx60=>(Rs.bind (Rs.ok a_2) λx61=>(Z0 x60 x61))) λx63=>(Rs.bind (atR g35.2 x63) λx64=>(Rs.bind (Rs.ok a50) λx62=>(chk (x64.length < sizeLine) (Rs.bind (QD g35.2 x63 (x64 ++ [x62])) λa65=>(Rs.ok (a51, a65)))))))) p55.1 p55.2)))))) λg67=>(Rs.ok g67.2)))))))
noncomputable def ZX (a_0 : (List Int)) (a_1 : (List (Int × Int))) (a_2 : (List Int)) (a_3 : Int) : Rs (List (List Int)):=(Rs.bind (Rs.bind (Rs.bind (Rs.bind (Rs.ok false) λx7=>(Rs.bind (Rs.ok []) λx8=>(Rs.ok (x7 :: x8)))) λx6=>(chk (x6.length <= sizeLine) (Rs.ok x6))) λx4=>(Rs.bind (Rs.ok a_3) λx5=>(KF x4 x5))) λa1=>(Rs.bind (Rs.ok []) λa9=>(Rs.bind (Rs.bind (Rs.ok a_3) λx12=>(JX 0 x12)) λx118=>(Rs.bind (forN x118 (a1, a9) (λg15 a17=>(Rs.bind (Rs.bind (Rs.bind (Rs.bind (Rs.ok g15.1) λx19=>(Rs.bind (Rs.ok a17) λx20=>(atR x19 x20))) λx21=>(Rs.ok (!x21))) λx22=>(if x22 = true then (Rs.bind (Rs.ok []) λa25=>(Rs.bind (Rs.ok a17) λa28=>(Rs.bind (Qp (a_3.natAbs + 2) (g15.1, a28, a25) (λg32=>(Rs.bind (Rs.bind (Rs.ok g32.1) λx34=>(Rs.bind (Rs.ok g32.2.1) λx35=>(atR x34 x35))) λx36=>(Rs.ok (!x36)))) (λg32=>(Rs.bind (Rs.ok true) λx37=>(Rs.bind (Rs.ok g32.2.1) λx38=>(Rs.bind (QD g32.1 x38 x37) λa39=>(Rs.bind (Rs.bind (Rs.bind (Rs.ok a_0) λx41=>(Rs.ok (x41.length : Int))) λx42=>(JX 0 x42)) λx108=>(Rs.bind (forN x108 (g32.2.1, g32.2.2) (λg45 a47=>(Rs.bind (Rs.bind (Rs.bind (Rs.ok a_2) λx55=>(Rs.bind (Rs.bind (Rs.bind (Rs.ok (8 : Int)) λx51=>(Rs.bind (Rs.ok a47) λx52=>(Z5 x51 x52))) λx53=>(Rs.bind (Rs.ok (10 : Int)) λx54=>(Rs.ok (x53 + x54)))) λx56=>(atR x55 x56))) λx59=>(Rs.bind (Rs.bind (Rs.ok a_3) λx57=>(Rs.bind (Rs.ok (1 : Int)) λx58=>(Rs.ok (x57 - x58)))) λx60=>(Z0 x59 x60))) λa49=>(Rs.bind (Rs.bind (Rs.bind (Rs.ok g45.1) λx61=>(Rs.bind (Rs.ok a49) λx62=>(Rs.ok (decide (x61 = x62))))) λx63=>(if x63 = true then (Rs.bind (Rs.bind (Rs.bind (Rs.ok a_0) λx66=>(Rs.bind (Rs.ok a47) λx67=>(atR x66 x67))) λx72=>(Rs.bind (Rs.bind (Rs.ok a_1) λx70=>(Rs.bind (Rs.bind (Rs.ok a_0) λx68=>(Rs.bind (Rs.ok a47) λx69=>(atR x68 x69))) λx71=>(V0 x70 x71))) λx73=>(Z5 x72 x73))) λa74=>(chk (g45.2.length < sizeLine) ((λa76=>(Rs.bind (Rs.bind (Rs.ok a49) λx79=>(Rs.bind (Rs.ok (1 : Int)) λx80=>(Rs.ok (x79 + x80)))) λa77=>(Rs.ok (a77, a76)))) (g45.2 ++ [a74])))) else (Rs.bind (Rs.bind (Rs.bind (Rs.ok g45.1) λx83=>(Rs.bind (Rs.bind (Rs.ok a49) λx81=>(Rs.bind (Rs.ok (1 : Int)) λx82=>(Rs.ok (x81 + x82)))) λx84=>(Rs.ok (decide (x83 = x84))))) λx85=>(if x85 = true then (Rs.bind (Rs.bind (Rs.bind (Rs.bind (Rs.ok a_0) λx88=>(Rs.bind (Rs.ok a47) λx89=>(atR x88 x89))) λx90=>(Rs.ok (-x90))) λx95=>(Rs.bind (Rs.bind (Rs.ok a_1) λx93=>(Rs.bind (Rs.bind (Rs.ok a_0) λx91=>(Rs.bind (Rs.ok a47) λx92=>(atR x91 x92))) λx94=>(V0 x93 x94))) λx96=>(Z5 x95 x96))) λa97=>(chk (g45.2.length < sizeLine) ((λa99=>(Rs.bind (Rs.ok a49) λa100=>(Rs.ok (a100, a99)))) (g45.2 ++ [a97])))) else (Rs.ok (g45.1, g45.2)))) λg103=>(Rs.ok (g103.1, g103.2))))) λg105=>(Rs.ok (g105.1, g105.2)))))) λg106=>(Rs.ok (a39, g106.1, g106.2))))))))) λg109=>(Rs.bind (Rs.ok g109.2.2) λa111=>(chk (g15.2.length < sizeLine) ((λa113=>(Rs.ok (g109.1, a113))) (g15.2 ++ [a111]))))))) else (Rs.ok (g15.1, g15.2)))) λg115=>(Rs.ok (g115.1, g115.2))))) λg116=>(Rs.ok g116.2)))))
noncomputable def Jz (a_0 : (List Int)) (a_1 : Int) (a_2 : Int) : Rs ((List (List Int)) × (List (Int × Int))):=(Rs.bind (Rs.bind (Rs.bind (Rs.bind (Rs.ok a_2) λx4=>(Rs.bind (Rs.ok (1 : Int)) λx5=>(Rs.ok (x4 + x5)))) λx14=>(Rs.bind (Rs.bind (Rs.ok (5 : Int)) λx12=>(Rs.bind (Rs.bind (Rs.ok (4 : Int)) λx10=>(Rs.bind (Rs.bind (Rs.ok (3 : Int)) λx8=>(Rs.bind (Rs.bind (Rs.ok (3 : Int)) λx6=>(Rs.bind (Rs.ok []) λx7=>(Rs.ok (x6 :: x7)))) λx9=>(Rs.ok (x8 :: x9)))) λx11=>(Rs.ok (x10 :: x11)))) λx13=>(Rs.ok (x12 :: x13)))) λx15=>(Rs.ok (x14 :: x15)))) λx3=>(chk (x3.length <= sizeLine) (Rs.ok x3))) λa1=>(Rs.bind (Rs.bind (Rs.ok a_0) λx34=>(Rs.bind (Rs.ok a_1) λx35=>(Rs.bind (Rs.bind (Rs.ok a1) λx19=>(Rs.bind (Rs.bind (Rs.bind (Rs.bind (Rs.ok (80 : Int)) λx30=>(Rs.bind (Rs.bind (Rs.ok (5 : Int)) λx28=>(Rs.bind (Rs.bind (Rs.ok (2 : Int)) λx26=>(Rs.bind (Rs.bind (Rs.ok (3 : Int)) λx24=>(Rs.bind (Rs.ok []) λx25=>(Rs.ok (x24 :: x25)))) λx27=>(Rs.ok (x26 :: x27)))) λx29=>(Rs.ok (x28 :: x29)))) λx31=>(Rs.ok (x30 :: x31)))) λx23=>(chk (x23.length <= sizeLine) (Rs.ok x23))) λx21=>(Rs.bind (Rs.bind (Rs.ok (2 : Int)) λx32=>(Rs.bind (Rs.ok a_2) λx33=>(Z5 x32 x33))) λx22=>(KF x21 x22))) λx20=>(G2 x19 x20))) λx36=>(noE (U8 x34 x35 x36))))) λa16=>(Rs.bind (Rs.ok []) λa37=>(Rs.bind (Rs.ok []) λa40=>(Rs.bind (Rs.ok (0 : Int)) λa43=>(Rs.bind (Rs.bind (Rs.bind (Rs.ok a16) λx45=>(Rs.bind (Rs.ok (0 : Int)) λx46=>(atR x45 x46))) λx47=>(JX 0 x47)) λx152=>(Rs.bind (forN x152 (a43, a40, a37) (λg50 a52=>(Rs.bind (Rs.bind (Rs.bind (Rs.ok a16) λx60=>(Rs.bind (Rs.bind (Rs.bind (Rs.ok (8 : Int)) λx56=>(Rs.bind (Rs.ok a52) λx57=>(Z5 x56 x57))) λx58=>(Rs.bind (Rs.ok (8 : Int)) λx59=>(Rs.ok (x58 + x59)))) λx61=>(atR x60 x61))) λx75=>(Rs.bind (Rs.bind (Rs.bind (Rs.bind (Rs.ok (0 : Int)) λx69=>(Rs.bind (Rs.bind (Rs.ok (1 : Int)) λx67=>(Rs.bind (Rs.bind (Rs.bind (Rs.ok (10 : Int)) λx63=>(Rs.bind (Rs.ok (9 : Int)) λx64=>(IB x63 x64))) λx65=>(Rs.bind (Rs.ok []) λx66=>(Rs.ok (x65 :: x66)))) λx68=>(Rs.ok (x67 :: x68)))) λx70=>(Rs.ok (x69 :: x70)))) λx62=>(chk (x62.length <= sizeLine) (Rs.ok x62))) λx73=>(Rs.bind (Rs.bind (Rs.ok a16) λx71=>(Rs.bind (Rs.ok (3 : Int)) λx72=>(atR x71 x72))) λx74=>(atR x73 x74))) λx76=>(Z5 x75 x76))) λa54=>(Rs.bind (Rs.bind (Rs.bind (Rs.ok g50.1) λx79=>(Rs.bind (Rs.ok (1 : Int)) λx80=>(Rs.ok (x79 + x80)))) λx81=>(Rs.bind (Rs.ok a54) λx82=>(Rs.ok (x81 + x82)))) λa77=>(Rs.bind (Rs.ok a77) λa83=>(chk (g50.2.2.length < sizeLine) ((λa85=>(Rs.bind (Rs.bind (Rs.bind (Rs.ok (2 : Int)) λx92=>(Rs.bind (Rs.bind (Rs.ok a16) λx90=>(Rs.bind (Rs.bind (Rs.bind (Rs.ok (8 : Int)) λx86=>(Rs.bind (Rs.ok a52) λx87=>(Z5 x86 x87))) λx88=>(Rs.bind (Rs.ok (7 : Int)) λx89=>(Rs.ok (x88 + x89)))) λx91=>(atR x90 x91))) λx93=>(Z5 x92 x93))) λx94=>(Rs.bind (Rs.ok (1 : Int)) λx95=>(Rs.ok (x94 - x95)))) λx96=>(Rs.bind (Rs.ok a77) λx97=>(chk (g50.2.1.length < sizeLine) ((λa98=>(Rs.ok (a77, a98, a85))) (Vb g50.2.1 x97 x96)))))) (g50.2.2 ++ [a83])))))))) λg100=>(Rs.bind (Rs.bind (Rs.bind (Rs.bind (Rs.ok a16) λx102=>(Rs.bind (Rs.ok (2 : Int)) λx103=>(atR x102 x103))) λx104=>(Rs.bind (Rs.ok (2 : Int)) λx105=>(Rs.ok (decide (x104 < x105))))) λx106=>(if x106 = true then (Rs.bind (Rs.bind (Rs.bind (Rs.ok g100.2.2) λx114=>(Rs.bind (Rs.ok a16) λx115=>(noE (JC x114 x115)))) λx120=>(Rs.bind (Rs.ok g100.2.1) λx121=>(Rs.bind (Rs.ok a16) λx122=>(Rs.bind (Rs.bind (Rs.ok (2 : Int)) λx118=>(Rs.bind (Rs.bind (Rs.ok a16) λx116=>(Rs.bind (Rs.ok (4 : Int)) λx117=>(atR x116 x117))) λx119=>(Rs.ok (x118 + x119)))) λx123=>(noE (ZX x120 x121 x122 x123)))))) λa109=>(Rs.ok (a109))) else (Rs.bind (Rs.bind (Rs.bind (Rs.ok a16) λx126=>(Rs.bind (Rs.ok (1 : Int)) λx127=>(atR x126 x127))) λx131=>(Rs.bind (Rs.bind (Rs.bind (Rs.ok g100.2.2) λx128=>(Rs.ok (x128.length : Int))) λx129=>(Rs.bind (Rs.ok (1 : Int)) λx130=>(Rs.ok (min x129 x130)))) λx132=>(Rs.ok (max x131 x132)))) λa124=>(Rs.bind (Rs.bind (Rs.ok g100.2.2) λx137=>(Rs.bind (Rs.ok a16) λx138=>(Rs.bind (Rs.ok a124) λx139=>(noE (Fx x137 x138 x139))))) λa133=>(Rs.ok (a133)))))) λg141=>(Rs.bind (Rs.ok g141) λx150=>(Rs.bind (Rs.bind (Rs.ok g100.2.2) λx145=>(J9 x145 (λa143=>(Rs.bind (Rs.ok a143) λx148=>(Rs.bind (Rs.bind (Rs.ok g100.2.1) λx146=>(Rs.bind (Rs.ok a143) λx147=>(V0 x146 x147))) λx149=>(Rs.ok (x148, x149))))))) λx151=>(Rs.ok (x150, x151))))))))))))
noncomputable def Uo (a_0 : ((List (List Int)) × (List (Int × Int)))) : Rs ((List (List Int)) × (List (Int × Int))):=(Rs.bind (Rs.bind (Rs.bind (Rs.ok a_0) λx1=>(Rs.ok x1.1)) λx5=>(J9 x5 (λa3=>(Rs.bind (Rs.ok a3) λx6=>(Rs.ok x6))))) λx9=>(Rs.bind (Rs.bind (Rs.bind (Rs.ok a_0) λx8=>(Rs.ok x8.2)) λx7=>(Rs.ok x7)) λx10=>(Rs.ok (x9, x10))))
noncomputable def QL (a_0 : Int) : Rs Bool:=(HB (Rs.bind (Rs.ok a_0) λx1=>(Rs.ok true)) (Rs.bind (Rs.bind (Rs.ok a_0) λx2=>(Rs.ok false)) λx3=>(Rs.ok (!x3))))
noncomputable def YN (a_0 : (List Int)) : Rs Bool:=(Rs.bind (Rs.bind (Rs.bind (Rs.ok a_0) λx1=>(Rs.ok true)) λx2=>(Rs.ok (!x2))) λx3=>(if x3 = true then (Rs.ok false) else (Rs.bind (Rs.ok a_0) λx18=>(Rs.bind (V5 x18 () (λg6 a8=>(Rs.bind (Rs.bind (Rs.bind (Rs.ok a8) λx11=>(noE (QL x11))) λx12=>(Rs.ok (!x12))) λx13=>(if x13 = true then (Rs.bind (Rs.ok false) λx15=>(Rs.ok (Ctl.ret x15))) else (Rs.bind (Rs.ok ()) λx14=>(Rs.ok (Ctl.nx x14))))))) (Qt λg16=>(Rs.ok true))))))
noncomputable def QJ (a_0 : (List (List Int))) : Rs (List (List Int)):=(Rs.bind (Rs.ok []) λa1=>(Rs.bind (Rs.ok (0 : Int)) λa4=>(Rs.bind (Rs.ok a_0) λx94=>(Rs.bind (forN x94 (a4, a1) (λg8 a10=>(Rs.bind (Rs.ok g8.1) λa12=>(Rs.bind (Rs.ok g8.1) λa14=>(Rs.bind (Rs.bind (Rs.ok (1 : Int)) λx18=>(Rs.ok (-x18))) λa16=>(Rs.bind (Rs.bind (Rs.bind (Rs.ok a10) λx19=>(Rs.ok (x19.length : Int))) λx20=>(JX 0 x20)) λx91=>(Rs.bind (forN x91 (a16) (λg23 a25=>(Rs.bind (Rs.bind (Rs.bind (Rs.bind (Rs.ok a10) λx27=>(Rs.bind (Rs.ok a25) λx28=>(atR x27 x28))) λx29=>(Rs.bind (Rs.ok (0 : Int)) λx30=>(Rs.ok (decide (x29 < x30))))) λx31=>(if x31 = true then (Rs.bind (Rs.ok a25) λa34=>(Rs.ok (a34))) else (Rs.ok (g23)))) λg37=>(Rs.ok (g37))))) λg38=>(Rs.bind (Rs.bind (Rs.bind (Rs.bind (Rs.ok a12) λx46=>(Rs.bind (Rs.ok []) λx47=>(Rs.ok (x46 :: x47)))) λx45=>(chk (x45.length <= sizeLine) (Rs.ok x45))) λx43=>(Rs.bind (Rs.bind (Rs.bind (Rs.ok a10) λx48=>(Rs.ok (x48.length : Int))) λx49=>(Rs.bind (Rs.ok (1 : Int)) λx50=>(Rs.ok (max x49 x50)))) λx44=>(KF x43 x44))) λa40=>(Rs.bind (Rs.bind (Rs.bind (Rs.ok g38) λx51=>(Rs.bind (Rs.ok (1 : Int)) λx52=>(Rs.ok (x51 + x52)))) λx53=>(JX 0 x53)) λx90=>(Rs.bind (forN x90 (a40, g8.1, a14) (λg56 a58=>(Rs.bind (Rs.ok g56.2.2) λx60=>(Rs.bind (Rs.ok a58) λx61=>(Rs.bind (QD g56.1 x61 x60) λa62=>(Rs.bind (Rs.bind (HB (Rs.bind (Rs.bind (Rs.ok a10) λx64=>(Rs.bind (Rs.ok a58) λx65=>(atR x64 x65))) λx66=>(Rs.bind (Rs.ok (0 : Int)) λx67=>(Rs.ok (decide (x66 < x67))))) (Rs.bind (Rs.ok a58) λx68=>(Rs.bind (Rs.ok g38) λx69=>(Rs.ok (decide (x68 < x69)))))) λx70=>(if x70 = true then (Rs.bind (Rs.bind (Rs.ok g56.2.1) λx75=>(Rs.bind (Rs.ok (1 : Int)) λx76=>(Rs.ok (x75 + x76)))) λa73=>(Rs.bind (Rs.ok a73) λa77=>(Rs.ok (a73, a77)))) else (Rs.ok (g56.2.1, g56.2.2)))) λg80=>(Rs.ok (a62, g80.1, g80.2)))))))) λg81=>(Rs.bind (Rs.bind (Rs.ok g81.2.1) λx85=>(Rs.bind (Rs.ok (1 : Int)) λx86=>(Rs.ok (x85 + x86)))) λa83=>(Rs.bind (Rs.ok g81.1) λa87=>(chk (g8.2.length < sizeLine) ((λa89=>(Rs.ok (a83, a89))) (g8.2 ++ [a87]))))))))))))))) λg92=>(Rs.ok g92.2)))))
noncomputable def Qg (a_0 : (List (List Int))) (a_1 : Int) : Rs (Int × Int):=(Rs.bind (Rs.bind (Rs.bind (Rs.ok a_0) λx1=>(Rs.ok (x1.length : Int))) λx2=>(JX 0 x2)) λx28=>(Rs.bind (V5 x28 () (λg5 a7=>(Rs.bind (Rs.bind (Rs.ok a_1) λx11=>(Rs.bind (Rs.bind (Rs.ok a_0) λx9=>(Rs.bind (Rs.ok a7) λx10=>(atR x9 x10))) λx12=>(Rs.ok (decide (x11 ∈ x12))))) λx13=>(if x13 = true then (Rs.bind (Rs.bind (Rs.ok a7) λx18=>(Rs.bind (Rs.bind (Rs.bind (Rs.ok a_0) λx14=>(Rs.bind (Rs.ok a7) λx15=>(atR x14 x15))) λx16=>(Rs.bind (Rs.ok a_1) λx17=>(Ek x16 x17))) λx19=>(Rs.ok (x18, x19)))) λx21=>(Rs.ok (Ctl.ret x21))) else (Rs.bind (Rs.ok ()) λx20=>(Rs.ok (Ctl.nx x20))))))) (Qt λg22=>(Rs.bind (Rs.bind (Rs.ok (1 : Int)) λx24=>(Rs.ok (-x24))) λx26=>(Rs.bind (Rs.bind (Rs.ok (1 : Int)) λx25=>(Rs.ok (-x25))) λx27=>(Rs.ok (x26, x27)))))))
noncomputable def ZH (a_0 : ((List (List Int)) × (List (Int × Int)))) : Rs (List (Int × Int × Int × Int × Int)):=(Rs.bind (Rs.ok a_0) λa1=>(Rs.bind (Rs.bind (Rs.ok a1.1) λx7=>(noE (QJ x7))) λa4=>(Rs.bind (Rs.ok []) λa8=>(Rs.bind (Rs.ok a1.2) λx61=>(Rs.bind (forN x61 (a8) (λg13 a15=>(Rs.bind (Rs.bind (Rs.ok a1.1) λx18=>(Rs.bind (Rs.ok a15.1) λx19=>(noE (Qg x18 x19)))) λa20=>(Rs.bind (Rs.bind (Rs.ok a1.1) λx25=>(Rs.bind (Rs.bind (Rs.ok a15.1) λx24=>(Rs.ok (-x24))) λx26=>(noE (Qg x25 x26)))) λa27=>(Rs.bind (Rs.bind (Rs.bind (Rs.ok a27.2) λx32=>(Rs.bind (Rs.ok (1 : Int)) λx33=>(Rs.ok (x32 + x33)))) λx37=>(Rs.bind (Rs.bind (Rs.bind (Rs.ok a1.1) λx34=>(Rs.bind (Rs.ok a27.1) λx35=>(atR x34 x35))) λx36=>(Rs.ok (x36.length : Int))) λx38=>(Z0 x37 x38))) λa30=>(Rs.bind (Rs.bind (Rs.ok a15.1) λx51=>(Rs.bind (Rs.ok a15.2) λx52=>(Rs.bind (Rs.bind (Rs.bind (Rs.ok a4) λx39=>(Rs.bind (Rs.ok a20.1) λx40=>(atR x39 x40))) λx41=>(Rs.bind (Rs.ok a20.2) λx42=>(atR x41 x42))) λx53=>(Rs.bind (Rs.bind (Rs.bind (Rs.ok a4) λx43=>(Rs.bind (Rs.ok a27.1) λx44=>(atR x43 x44))) λx45=>(Rs.bind (Rs.ok a27.2) λx46=>(atR x45 x46))) λx54=>(Rs.bind (Rs.bind (Rs.bind (Rs.ok a4) λx47=>(Rs.bind (Rs.ok a27.1) λx48=>(atR x47 x48))) λx49=>(Rs.bind (Rs.ok a30) λx50=>(atR x49 x50))) λx55=>(Rs.ok (x51, x52, x53, x54, x55))))))) λa56=>(chk (g13.length < sizeLine) ((λa58=>(Rs.ok (a58))) (g13 ++ [a56]))))))))) λg59=>(Rs.ok g59))))))
noncomputable def Qh (a_0 : ((List (List Int)) × (List (Int × Int)))) : Rs Int:=(Rs.bind (Rs.bind (Rs.bind (Rs.ok a_0) λx3=>(Rs.ok x3.2)) λx4=>(Rs.ok (x4.length : Int))) λa1=>(Rs.bind (Rs.bind (Rs.ok a_0) λx5=>(Rs.ok x5.1)) λx32=>(Rs.bind (forN x32 (a1) (λg8 a10=>(Rs.bind (Rs.bind (Rs.bind (Rs.bind (Rs.bind (Rs.ok a10) λx15=>(Bp x15 (λa13=>(Rs.bind (Rs.ok a13) λx16=>(Rs.bind (Rs.ok (0 : Int)) λx17=>(Rs.ok (decide (x16 < x17)))))) (λa13=>(Rs.ok a13)))) λx18=>(Rs.ok (x18.length : Int))) λx19=>(Rs.bind (Rs.ok (0 : Int)) λx20=>(Rs.ok (decide (x19 = x20))))) λx21=>(if x21 = true then (Rs.bind (Rs.bind (Rs.ok g8) λx26=>(Rs.bind (Rs.ok (1 : Int)) λx27=>(Rs.ok (x26 + x27)))) λa24=>(Rs.ok (a24))) else (Rs.ok (g8)))) λg29=>(Rs.ok (g29))))) λg30=>(Rs.ok g30))))
noncomputable def Za (a_0 : Int) : Rs Int:=(Rs.bind (Qp (100000) (a_0) (λg3=>(Rs.bind (Rs.bind (Rs.bind (Rs.bind (Rs.ok (2 : Int)) λx5=>(Rs.bind (Rs.ok (317 : Int)) λx6=>(JX x5 x6))) λx10=>(Bp x10 (λa8=>(Rs.bind (Rs.bind (Rs.ok a8) λx15=>(Rs.bind (Rs.ok a8) λx16=>(Z5 x15 x16))) λx17=>(Rs.bind (Rs.ok g3) λx18=>(Rs.ok (decide (x17 <= x18)))))) (λa8=>(Rs.bind (Rs.bind (Rs.ok g3) λx11=>(Rs.bind (Rs.ok a8) λx12=>(Z0 x11 x12))) λx13=>(Rs.bind (Rs.ok (0 : Int)) λx14=>(Rs.ok (decide (x14 < x13)))))))) λx19=>(Rs.ok (x19.all id))) λx20=>(Rs.ok (!x20)))) (λg3=>(Rs.bind (Rs.bind (Rs.ok g3) λx23=>(Rs.bind (Rs.ok (1 : Int)) λx24=>(Rs.ok (x23 + x24)))) λa21=>(Rs.ok (a21))))) λg25=>(Rs.ok g25))
noncomputable def Jq (a_0 : (List Int)) : Rs (Int × Int):=(Rs.bind (Rs.bind (Rs.bind (Rs.ok (2 : Int)) λx22=>(Rs.bind (Rs.bind (Rs.ok (3 : Int)) λx20=>(Rs.bind (Rs.bind (Rs.ok (5 : Int)) λx18=>(Rs.bind (Rs.bind (Rs.ok (7 : Int)) λx16=>(Rs.bind (Rs.bind (Rs.ok (11 : Int)) λx14=>(Rs.bind (Rs.bind (Rs.ok (13 : Int)) λx12=>(Rs.bind (Rs.bind (Rs.ok (23 : Int)) λx10=>(Rs.bind (Rs.bind (Rs.ok (97 : Int)) λx8=>(Rs.bind (Rs.bind (Rs.ok (65537 : Int)) λx6=>(Rs.bind (Rs.bind (Rs.ok (99991 : Int)) λx4=>(Rs.bind (Rs.ok []) λx5=>(Rs.ok (x4 :: x5)))) λx7=>(Rs.ok (x6 :: x7)))) λx9=>(Rs.ok (x8 :: x9)))) λx11=>(Rs.ok (x10 :: x11)))) λx13=>(Rs.ok (x12 :: x13)))) λx15=>(Rs.ok (x14 :: x15)))) λx17=>(Rs.ok (x16 :: x17)))) λx19=>(Rs.ok (x18 :: x19)))) λx21=>(Rs.ok (x20 :: x21)))) λx23=>(Rs.ok (x22 :: x23)))) λx3=>(chk (x3.length <= sizeLine) (Rs.ok x3))) λa1=>(Rs.bind (Rs.bind (Rs.bind (Rs.ok a1) λx26=>(Rs.bind (Rs.bind (Rs.bind (Rs.bind (Rs.bind (Rs.bind (Rs.ok (2 : Int)) λx34=>(Rs.bind (Rs.bind (Rs.ok a_0) λx32=>(Rs.bind (Rs.ok (1 : Int)) λx33=>(atR x32 x33))) λx35=>(Rs.ok (x34 + x35)))) λx36=>(noE (Za x36))) λx37=>(Rs.bind (Rs.ok []) λx38=>(Rs.ok (x37 :: x38)))) λx30=>(chk (x30.length <= sizeLine) (Rs.ok x30))) λx28=>(Rs.bind (Rs.ok (4 : Int)) λx29=>(KF x28 x29))) λx27=>(G2 x26 x27))) λx41=>(Rs.bind (Rs.bind (Rs.ok a_0) λx39=>(Rs.bind (Rs.ok (0 : Int)) λx40=>(atR x39 x40))) λx42=>(atR x41 x42))) λa24=>(Rs.bind (Rs.bind (Rs.ok (1 : Int)) λx53=>(Rs.bind (Rs.bind (Rs.bind (Rs.ok a_0) λx45=>(Rs.bind (Rs.ok (1 : Int)) λx46=>(atR x45 x46))) λx51=>(Rs.bind (Rs.bind (Rs.ok (1 : Int)) λx49=>(Rs.bind (Rs.bind (Rs.ok a24) λx47=>(Rs.bind (Rs.ok (1 : Int)) λx48=>(Rs.ok (x47 - x48)))) λx50=>(Rs.ok (max x49 x50)))) λx52=>(Z0 x51 x52))) λx54=>(Rs.ok (x53 + x54)))) λa43=>(Rs.bind (Rs.ok a24) λx77=>(Rs.bind (Rs.bind (Rs.ok a43) λx75=>(Rs.bind (Rs.bind (Rs.ok a24) λx73=>(Rs.bind (Rs.bind (Rs.bind (Rs.bind (Rs.ok (0 : Int)) λx67=>(Rs.bind (Rs.bind (Rs.ok (0 : Int)) λx65=>(Rs.bind (Rs.bind (Rs.bind (Rs.ok (3 : Int)) λx56=>(Rs.ok (-x56))) λx63=>(Rs.bind (Rs.bind (Rs.ok (1 : Int)) λx61=>(Rs.bind (Rs.bind (Rs.bind (Rs.ok (10 : Int)) λx57=>(Rs.bind (Rs.ok (50 : Int)) λx58=>(IB x57 x58))) λx59=>(Rs.bind (Rs.ok []) λx60=>(Rs.ok (x59 :: x60)))) λx62=>(Rs.ok (x61 :: x62)))) λx64=>(Rs.ok (x63 :: x64)))) λx66=>(Rs.ok (x65 :: x66)))) λx68=>(Rs.ok (x67 :: x68)))) λx55=>(chk (x55.length <= sizeLine) (Rs.ok x55))) λx71=>(Rs.bind (Rs.bind (Rs.ok a_0) λx69=>(Rs.bind (Rs.ok (2 : Int)) λx70=>(atR x69 x70))) λx72=>(atR x71 x72))) λx74=>(Z5 x73 x74))) λx76=>(Rs.ok (x75 + x76)))) λx78=>(Rs.ok (x77, x78)))))))
noncomputable def Yx (a_0 : ((List (List Int)) × (List (Int × Int)))) (a_1 : Int) (a_2 : Int) : Rs (List (List Int)):=(Rs.bind (Rs.ok []) λa1=>(Rs.bind (Rs.bind (Rs.ok a_0) λx5=>(noE (ZH x5))) λx74=>(Rs.bind (forN x74 (a1) (λg8 a10=>(Rs.bind (Rs.ok a10.2.2.2.1) λa12=>(Rs.bind (Rs.ok a10.2.2.2.2) λa13=>(Rs.bind (Rs.bind (Rs.bind (Rs.ok a10.2.1) λx16=>(Rs.bind (Rs.ok (0 : Int)) λx17=>(Rs.ok (decide (x16 < x17))))) λx18=>(if x18 = true then (Rs.bind (Rs.ok a10.2.2.2.2) λa21=>(Rs.bind (Rs.ok a10.2.2.2.1) λa22=>(Rs.ok (a21, a22)))) else (Rs.ok (a12, a13)))) λg26=>(Rs.bind (Rs.bind (Rs.bind (Rs.bind (Rs.ok (0 : Int)) λx33=>(Rs.bind (Rs.ok []) λx34=>(Rs.ok (x33 :: x34)))) λx32=>(chk (x32.length <= sizeLine) (Rs.ok x32))) λx30=>(Rs.bind (Rs.bind (Rs.ok a_0) λx36=>(noE (Qh x36))) λx31=>(KF x30 x31))) λa27=>(Rs.bind (Rs.bind (Rs.bind (Rs.ok a27) λx37=>(Rs.bind (Rs.ok g26.1) λx38=>(atR x37 x38))) λx39=>(Rs.bind (Rs.ok a_2) λx40=>(Rs.ok (x39 + x40)))) λx41=>(Rs.bind (Rs.ok g26.1) λx42=>(Rs.bind (QD a27 x42 x41) λa43=>(Rs.bind (Rs.bind (Rs.bind (Rs.bind (Rs.ok a43) λx45=>(Rs.bind (Rs.ok a10.2.2.1) λx46=>(atR x45 x46))) λx47=>(Rs.bind (Rs.ok (1 : Int)) λx48=>(Rs.ok (x47 + x48)))) λx49=>(Rs.bind (Rs.ok a_2) λx50=>(Rs.ok (x49 - x50)))) λx51=>(Rs.bind (Rs.ok a10.2.2.1) λx52=>(Rs.bind (QD a43 x52 x51) λa53=>(Rs.bind (Rs.bind (Rs.bind (Rs.ok a53) λx55=>(Rs.bind (Rs.ok g26.2) λx56=>(atR x55 x56))) λx57=>(Rs.bind (Rs.ok (1 : Int)) λx58=>(Rs.ok (x57 - x58)))) λx59=>(Rs.bind (Rs.ok g26.2) λx60=>(Rs.bind (QD a53 x60 x59) λa61=>(Rs.bind (Rs.bind (Rs.ok a61) λx66=>(J9 x66 (λa64=>(Rs.bind (Rs.ok a64) λx67=>(Rs.bind (Rs.ok a_1) λx68=>(Z0 x67 x68)))))) λa69=>(chk (g8.length < sizeLine) ((λa71=>(Rs.ok (a71))) (g8 ++ [a69]))))))))))))))))))) λg72=>(Rs.ok g72))))
noncomputable def FC (a_0 : (List Int)) (a_1 : (List Int)) : Rs Int:=(Rs.bind (Rs.bind (Rs.bind (Rs.bind (Rs.ok a_0) λx2=>(Rs.ok (x2.length : Int))) λx3=>(JX 0 x3)) λx7=>(J9 x7 (λa5=>(Rs.bind (Rs.bind (Rs.ok a_0) λx8=>(Rs.bind (Rs.ok a5) λx9=>(atR x8 x9))) λx12=>(Rs.bind (Rs.bind (Rs.ok a_1) λx10=>(Rs.bind (Rs.ok a5) λx11=>(atR x10 x11))) λx13=>(Z5 x12 x13)))))) λx14=>(Rs.ok (x14.sum)))
noncomputable def ZB (a_0 : (List Int)) (a_1 : Int) (a_2 : Int) : Rs Bool:=(Rs.bind (orR (Rs.bind (Rs.bind (Rs.ok a_0) λx2=>(noE (YN x2))) λx3=>(Rs.ok (!x3))) (Rs.bind (Rs.bind (Rs.ok a_0) λx4=>(Rs.ok (x4.length : Int))) λx5=>(Rs.bind (Rs.ok a_1) λx6=>(Rs.ok (!(decide (x5 = x6))))))) λx7=>(if x7 = true then (Rs.ok false) else (Rs.bind (Rs.ok a_0) λx23=>(Rs.bind (V5 x23 () (λg10 a12=>(Rs.bind (Rs.bind (Rs.bind (Rs.ok (0 : Int)) λx14=>(Rs.bind (Rs.ok a12) λx15=>(if (decide (x14 <= x15)) = true then (Rs.bind (Rs.ok a_2) λx16=>(Rs.ok (decide (x15 < x16)))) else Rs.ok false))) λx17=>(Rs.ok (!x17))) λx18=>(if x18 = true then (Rs.bind (Rs.ok false) λx20=>(Rs.ok (Ctl.ret x20))) else (Rs.bind (Rs.ok ()) λx19=>(Rs.ok (Ctl.nx x19))))))) (Qt λg21=>(Rs.ok true))))))
noncomputable def Qf (a_0 : (List Int)) (a_1 : Int) : Rs Bool:=(Rs.bind (Rs.bind (Rs.bind (Rs.ok a_0) λx2=>(noE (YN x2))) λx3=>(Rs.ok (!x3))) λx4=>(if x4 = true then (Rs.ok false) else (Rs.bind (Rs.bind (Rs.bind (Rs.ok a_0) λx5=>(Rs.ok (x5.length : Int))) λx6=>(JX 0 x6)) λx36=>(Rs.bind (V5 x36 () (λg9 a11=>(Rs.bind (Rs.bind (Rs.bind (Rs.ok (0 : Int)) λx15=>(Rs.bind (Rs.bind (Rs.ok a_0) λx13=>(Rs.bind (Rs.ok a11) λx14=>(atR x13 x14))) λx16=>(if (decide (x15 <= x16)) = true then (Rs.bind (Rs.ok a_1) λx17=>(Rs.ok (decide (x16 < x17)))) else Rs.ok false))) λx18=>(Rs.ok (!x18))) λx19=>(if x19 = true then (Rs.bind (Rs.ok false) λx33=>(Rs.ok (Ctl.ret x33))) else (Rs.bind (HB (Rs.bind (Rs.ok a11) λx20=>(Rs.bind (Rs.ok (0 : Int)) λx21=>(Rs.ok (decide (x21 < x20))))) (Rs.bind (Rs.bind (Rs.ok a_0) λx22=>(Rs.bind (Rs.ok a11) λx23=>(atR x22 x23))) λx28=>(Rs.bind (Rs.bind (Rs.ok a_0) λx26=>(Rs.bind (Rs.bind (Rs.ok a11) λx24=>(Rs.bind (Rs.ok (1 : Int)) λx25=>(Rs.ok (x24 - x25)))) λx27=>(atR x26 x27))) λx29=>(Rs.ok (decide (x28 <= x29)))))) λx30=>(if x30 = true then (Rs.bind (Rs.ok false) λx32=>(Rs.ok (Ctl.ret x32))) else (Rs.bind (Rs.ok ()) λx31=>(Rs.ok (Ctl.nx x31))))))))) (Qt λg34=>(Rs.ok true))))))
noncomputable def Q0 (a_0 : (List Int)) (a_1 : (List (List Int))) (a_2 : (List (List Int))) (a_3 : Int) (a_4 : Int) : Rs Bool:=(Rs.bind (orR (Rs.bind (Rs.bind (Rs.ok a_1) λx1=>(Rs.ok true)) λx2=>(Rs.ok (!x2))) (Rs.bind (Rs.bind (Rs.ok a_1) λx3=>(Rs.ok (x3.length : Int))) λx5=>(Rs.bind (Rs.bind (Rs.ok a_0) λx4=>(Rs.ok (x4.length : Int))) λx6=>(Rs.ok (!(decide (x5 = x6))))))) λx7=>(if x7 = true then (Rs.ok false) else (Rs.bind (Rs.bind (Rs.bind (Rs.ok a_0) λx8=>(Rs.ok (x8.length : Int))) λx9=>(JX 0 x9)) λx74=>(Rs.bind (V5 x74 () (λg12 a14=>(Rs.bind (Rs.bind (Rs.bind (Rs.bind (Rs.ok a_1) λx17=>(Rs.bind (Rs.ok a14) λx18=>(atR x17 x18))) λx19=>(Rs.bind (Rs.ok a_3) λx20=>(Rs.bind (Rs.ok a_4) λx21=>(noE (ZB x19 x20 x21))))) λx22=>(Rs.ok (!x22))) λx23=>(if x23 = true then (Rs.bind (Rs.ok false) λx71=>(Rs.ok (Ctl.ret x71))) else (Rs.bind (Rs.bind (Rs.bind (Rs.ok a_0) λx24=>(Rs.ok (x24.length : Int))) λx25=>(JX 0 x25)) λx70=>(Rs.bind (V5 x70 () (λg28 a30=>(Rs.bind (Rs.bind (Rs.bind (Rs.bind (Rs.ok a_1) λx32=>(Rs.bind (Rs.ok a14) λx33=>(atR x32 x33))) λx36=>(Rs.bind (Rs.bind (Rs.ok a_0) λx34=>(Rs.bind (Rs.ok a30) λx35=>(atR x34 x35))) λx37=>(atR x36 x37))) λx41=>(Rs.bind (Rs.bind (Rs.bind (Rs.ok a30) λx38=>(Rs.bind (Rs.ok a14) λx39=>(Rs.ok (decide (x38 = x39))))) λx40=>(Rs.ok (if x40 = true then (1 : Int) else 0))) λx42=>(Rs.ok (!(decide (x41 = x42)))))) λx43=>(if x43 = true then (Rs.bind (Rs.ok false) λx45=>(Rs.ok (Ctl.ret x45))) else (Rs.bind (Rs.ok ()) λx44=>(Rs.ok (Ctl.nx x44))))))) (JR λg46=>(Rs.bind (Rs.ok a_2) λx69=>(Rs.bind (V5 x69 () (λg50 a52=>(Rs.bind (Rs.bind (Rs.bind (Rs.bind (Rs.ok a52) λx57=>(Rs.bind (Rs.bind (Rs.ok a_1) λx55=>(Rs.bind (Rs.ok a14) λx56=>(atR x55 x56))) λx58=>(noE (FC x57 x58)))) λx59=>(Rs.bind (Rs.ok a_4) λx60=>(Z0 x59 x60))) λx61=>(Rs.bind (Rs.ok (0 : Int)) λx62=>(Rs.ok (!(decide (x61 = x62)))))) λx63=>(if x63 = true then (Rs.bind (Rs.ok false) λx65=>(Rs.ok (Ctl.ret x65))) else (Rs.bind (Rs.ok ()) λx64=>(Rs.ok (Ctl.nx x64))))))) (JR λg66=>(Rs.bind (Rs.ok ()) λx68=>(Rs.ok (Ctl.nx x68))))))))))))) (Qt λg72=>(Rs.ok true))))))
noncomputable def Ql (a_0 : ((List (List Int)) × (List (Int × Int)))) (a_1 : Int) (a_2 : Int) : Rs Bool:=(Rs.bind (Rs.bind (Rs.ok a_0) λx4=>(noE (Uo x4))) λa1=>(Rs.bind (Rs.bind (Rs.ok a1) λx9=>(Rs.bind (Rs.ok a_1) λx10=>(Rs.bind (Rs.ok a_2) λx11=>(noE (ZN x9 x10 x11))))) λa5=>(Rs.bind (orR (Rs.bind (Rs.ok a1) λx12=>(Rs.bind (Rs.ok a_0) λx13=>(Rs.ok (!(decide (x12 = x13)))))) (Rs.bind (Rs.bind (Rs.ok a5) λx14=>(Rs.ok true)) λx15=>(Rs.ok (!x15)))) λx16=>(if x16 = true then (Rs.ok false) else (Rs.bind (orR (Rs.bind (Rs.bind (Rs.ok a5) λ_=>(Rs.ok (3 : Int))) λx18=>(Rs.bind (Rs.ok (3 : Int)) λx19=>(Rs.ok (!(decide (x18 = x19)))))) (Rs.bind (Rs.bind (Rs.bind (Rs.ok a5) λx20=>(Rs.ok x20.2.2)) λx21=>(Rs.ok true)) λx22=>(Rs.ok (!x22)))) λx23=>(if x23 = true then (Rs.ok false) else (Rs.bind (Rs.bind (Rs.ok a_0) λx27=>(noE (Qh x27))) λa24=>(Rs.bind (Rs.ok (1 : Int)) λa34=>(Rs.bind (forN a5.1 a34 (λg37 a36=>(Rs.bind (Rs.ok g37) λx43=>(Rs.bind (Rs.ok a_1) λx44=>(Z5 x43 x44))))) λg40=>(Rs.bind (Rs.bind (Rs.bind (Rs.ok a1) λx46=>(Rs.bind (Rs.ok a_1) λx47=>(Rs.bind (Rs.ok a_2) λx48=>(noE (Yb x46 x47 x48))))) λx49=>(Rs.bind (Rs.ok g40) λx50=>(Rs.ok (!(decide (x49 = x50)))))) λx51=>(if x51 = true then (Rs.ok false) else (Rs.bind (orR (Rs.bind (Rs.bind (Rs.ok a5.1) λx53=>(Rs.bind (Rs.ok a24) λx54=>(noE (Qf x53 x54)))) λx55=>(Rs.ok (!x55))) (Rs.bind (Rs.bind (Rs.bind (Rs.ok a5.2.2) λx56=>(Rs.ok (x56.length : Int))) λx58=>(Rs.bind (Rs.bind (Rs.ok a5.1) λx57=>(Rs.ok (x57.length : Int))) λx59=>(Rs.ok (x58 + x59)))) λx60=>(Rs.bind (Rs.ok a24) λx61=>(Rs.ok (!(decide (x60 = x61))))))) λx62=>(if x62 = true then (Rs.ok false) else (Rs.bind (Rs.bind (Rs.ok a_0) λx66=>(Rs.bind (Rs.ok a_1) λx67=>(Rs.bind (Rs.ok a_2) λx68=>(noE (Yx x66 x67 x68))))) λa63=>(Rs.bind (Rs.bind (Rs.bind (Rs.ok a5.1) λx70=>(Rs.bind (Rs.ok a5.2.1) λx71=>(Rs.bind (Rs.ok a63) λx72=>(Rs.bind (Rs.ok a24) λx73=>(Rs.bind (Rs.ok a_1) λx74=>(noE (Q0 x70 x71 x72 x73 x74))))))) λx75=>(Rs.ok (!x75))) λx76=>(if x76 = true then (Rs.ok false) else ((λ(a79 : List (List Int))=>(Rs.bind (Rs.ok a24) λa80=>(chk (a5.1.length < sizeLine) ((λa82=>(Rs.bind (Rs.bind (Rs.ok (0 : Int)) λx83=>(Rs.bind (Rs.ok []) λx84=>(Rs.ok (x83, x84)))) λa85=>(chk (a5.2.2.length < sizeLine) ((λa87=>(Rs.ok true)) (a5.2.2 ++ [a85]))))) (a5.1 ++ [a80]))))) (a5.2.1.map (λ_=>([] : List Int))))))))))))))))))))
noncomputable def GP (a_0 : (List Int)) : Rs Bool:=(Rs.bind (Rs.bind (Rs.ok a_0) λx17=>(Rs.bind (Rs.ok (1 : Int)) λx18=>(Rs.bind (Rs.bind (Rs.bind (Rs.ok (14 : Int)) λx15=>(Rs.bind (Rs.bind (Rs.ok (99990 : Int)) λx13=>(Rs.bind (Rs.bind (Rs.ok (5 : Int)) λx11=>(Rs.bind (Rs.bind (Rs.ok (8 : Int)) λx9=>(Rs.bind (Rs.bind (Rs.ok (8 : Int)) λx7=>(Rs.bind (Rs.bind (Rs.ok (9 : Int)) λx5=>(Rs.bind (Rs.ok []) λx6=>(Rs.ok (x5 :: x6)))) λx8=>(Rs.ok (x7 :: x8)))) λx10=>(Rs.ok (x9 :: x10)))) λx12=>(Rs.ok (x11 :: x12)))) λx14=>(Rs.ok (x13 :: x14)))) λx16=>(Rs.ok (x15 :: x16)))) λx4=>(chk (x4.length <= sizeLine) (Rs.ok x4))) λx19=>(noE (U8 x17 x18 x19))))) λa1=>(Rs.bind (Rs.bind (Rs.ok a_0) λx34=>(Rs.bind (Rs.ok (0 : Int)) λx35=>(Rs.bind (Rs.bind (Rs.bind (Rs.bind (Rs.ok (20 : Int)) λx26=>(Rs.bind (Rs.bind (Rs.ok (40 : Int)) λx24=>(Rs.bind (Rs.ok []) λx25=>(Rs.ok (x24 :: x25)))) λx27=>(Rs.ok (x26 :: x27)))) λx23=>(chk (x23.length <= sizeLine) (Rs.ok x23))) λx32=>(Rs.bind (Rs.bind (Rs.bind (Rs.ok a1) λx28=>(Rs.bind (Rs.ok (3 : Int)) λx29=>(atR x28 x29))) λx30=>(Rs.bind (Rs.ok (7 : Int)) λx31=>(IF x30 x31))) λx33=>(atR x32 x33))) λx36=>(noE (Jz x34 x35 x36))))) λa20=>(Rs.bind (Rs.bind (Rs.bind (Rs.bind (Rs.ok a1) λx37=>(Rs.bind (Rs.ok (4 : Int)) λx38=>(atR x37 x38))) λx39=>(Rs.bind (Rs.ok (0 : Int)) λx40=>(Rs.ok (decide (x39 = x40))))) λx41=>(if x41 = true then (Rs.bind (Rs.bind (Rs.bind (Rs.bind (Rs.ok a20) λx56=>(Rs.ok x56.1)) λx46=>(Rs.bind (Rs.bind (Rs.bind (Rs.bind (Rs.ok a1) λx57=>(Rs.bind (Rs.ok (5 : Int)) λx58=>(atR x57 x58))) λx59=>(JX 0 x59)) λx63=>(J9 x63 (λa61=>(Rs.ok [])))) λx47=>(G2 x46 x47))) λx65=>(Rs.bind (Rs.bind (Rs.ok a20) λx64=>(Rs.ok x64.2)) λx66=>(Rs.ok (x65, x66)))) λa44=>(Rs.ok (a44))) else (Rs.ok (a20)))) λg68=>(Rs.bind (Rs.bind (Rs.ok a1) λx70=>(noE (Jq x70))) λa71=>(Rs.bind (Rs.bind (Rs.bind (Rs.ok g68) λx75=>(Rs.bind (Rs.ok a71.1) λx76=>(Rs.bind (Rs.ok a71.2) λx77=>(noE (Ql x75 x76 x77))))) λx78=>(Rs.ok (!x78))) λx79=>(if x79 = true then (Rs.ok false) else (orR (Rs.bind (Rs.bind (Rs.ok a1) λx80=>(Rs.bind (Rs.ok (3 : Int)) λx81=>(atR x80 x81))) λx82=>(Rs.bind (Rs.ok (7 : Int)) λx83=>(Rs.ok (decide (x82 = x83))))) (Rs.bind (Rs.ok g68) λx85=>(Rs.bind (Rs.ok a71.1) λx86=>(Rs.bind (Rs.ok a71.2) λx87=>(noE (Ql x85 x86 x87))))))))))))
end My
namespace L2
open PySem
section
variable {α β γ ρ : Type}
theorem Rs.okb (a : α) (f : α -> Rs β) : (Rs.ok a).bind f = f a:=(Eq.refl (f a)).symm.symm
theorem F8 {f : α -> Rs β} {h : α -> β} : ∀ {as : List α}, (∀ a ∈ as, f a = .ok (h a)) -> F3 as f = .ok (as.map h)
  | [], _=>rfl
  | a :: as, hf=>by
    show (f a).bind _ = _
    rw [hf a (by simp), Rs.ok_bind, F8 λb hb=>hf b (by simp [hb])]; rfl
theorem Zg {f : α -> Rs β} {h : α -> β} {as : List α} (hl : as.length <= sizeLine) (hf : ∀ a ∈ as, f a = .ok (h a)) : J9 as f = .ok (as.map h):=by
  unfold J9; rw [XB hl]; exact F8 hf
theorem CH {c : α -> Rs Bool} {f : α -> Rs β} {p : α -> Bool} {h : α -> β} : ∀ {as : List α}, (∀ a ∈ as, c a = .ok (p a)) -> (∀ a ∈ as, p a = true -> f a = .ok (h a)) -> G1 as c f = .ok ((as.filter p).map h)
  | [], _, _=>rfl
  | a :: as, hc, hf=>by
    show (c a).bind _ = _
    rw [hc a (by simp), Rs.ok_bind]
    have ih:=CH (as:=as) (λb hb=>hc b (by simp [hb])) λb hb=>hf b (by simp [hb])
    cases hp : p a with
    | false=>rw [if_neg (by simp), ih, List.filter_cons, hp]; rfl
    | true=>rw [if_pos rfl, hf a (by simp) hp, Rs.ok_bind, ih, List.filter_cons, hp]; rfl
theorem VO {c : α -> Rs Bool} {f : α -> Rs β} {p : α -> Bool} {h : α -> β} {as : List α} (hl : as.length <= sizeLine) (hc : ∀ a ∈ as, c a = .ok (p a)) (hf : ∀ a ∈ as, p a = true -> f a = .ok (h a)) : Bp as c f = .ok ((as.filter p).map h):=by
  unfold Bp; rw [XB hl]; exact CH hc hf
theorem Gf {f : γ -> α -> Rs γ} {h : γ -> α -> γ} : ∀ {as : List α} {g : γ}, (∀ g, ∀ a ∈ as, f g a = .ok (h g a)) -> forN as g f = .ok (as.foldl h g)
  | [], _, _=>rfl
  | a :: as, g, hf=>by
    show (f g a).bind _ = _
    rw [hf g a (by simp), Rs.ok_bind]
    exact Gf λg b hb=>hf g b (by simp [hb])
theorem Kv {f : γ -> α -> Rs γ} (P : Nat -> γ -> Prop) : ∀ (as : List α) (k : Nat) (g : γ), P k g -> (∀ i a g, as[i]? = some a -> P (k + i) g -> ∃ g', f g a = .ok g' /\ P (k + i + 1) g') -> ∃ g', forN as g f = .ok g' /\ P (k + as.length) g'
  | [], k, g, h0, _=>⟨g, rfl, h0⟩
  | a :: as, k, g, h0, hs=>by
    obtain ⟨g1, e1, p1⟩:=hs 0 a g rfl h0
    obtain ⟨g2, e2, p2⟩:=Kv P as (k + 1) g1 p1 λi b g hb hp=>by
      obtain ⟨g', e', p'⟩:=hs (i + 1) b g (by simpa using hb) (by rw [show k + (i + 1) = k + 1 + i by omega]; exact hp)
      exact ⟨g', e', by rw [show k + 1 + i + 1 = k + (i + 1) + 1 by omega]; exact p'⟩
    refine ⟨g2, ?_, by rw [List.length_cons, show k + (as.length + 1) = k + 1 + as.length by omega]; exact p2⟩
    show (f g a).bind _ = _
    rw [e1, Rs.ok_bind]; exact e2
theorem Fa {f : γ -> α -> Rs γ} (P : Nat -> γ -> Prop) {as : List α} {g : γ} (h0 : P 0 g) (hs : ∀ i a g, as[i]? = some a -> P i g -> ∃ g', f g a = .ok g' /\ P (i + 1) g') : ∃ g', forN as g f = .ok g' /\ P as.length g':=by
  have:=Kv P as 0 g h0 (by simpa using hs)
  simpa using this
theorem Z1 {f : List β -> α -> Rs (List β)} {h : α -> β} : ∀ {as : List α} {g : List β}, g.length + as.length <= sizeLine -> (∀ g : List β, g.length < sizeLine -> ∀ a ∈ as, f g a = .ok (g ++ [h a])) -> forN as g f = .ok (g ++ as.map h)
  | [], g, _, _=>by simp [forN]
  | a :: as, g, hl, hf=>by
    show (f g a).bind _ = _
    rw [List.length_cons] at hl
    rw [hf g (by omega) a (by simp), Rs.ok_bind, Z1 (by simp; omega) λg hg b hb=>hf g hg b (by simp [hb])]
    simp
theorem Z7 {f : γ -> α -> Rs (Ctl ρ γ)} : ∀ {as : List α} {g : γ}, (∀ a ∈ as, f g a = .ok (.nx g)) -> V5 as g f = .ok (.nx g)
  | [], _, _=>rfl
  | a :: as, g, hf=>by
    show (f g a).bind _ = _
    rw [hf a (by simp), Rs.ok_bind]
    exact Z7 λb hb=>hf b (by simp [hb])
theorem Yg {a b : Int} (h : 0 < b) : Z0 a b = .ok (a % b):=XB h
theorem Yv {a b : Int} (h1 : -(2 ^ 64) < a) (h2 : a < 2 ^ 64) : Z5 a b = .ok (a * b):=XB (.inl ⟨h1, h2⟩)
theorem QR {a b : Int} (h1 : -(2 ^ 64) < b) (h2 : b < 2 ^ 64) : Z5 a b = .ok (a * b):=XB (.inr ⟨h1, h2⟩)
theorem Cl {a b : Int} (h : 0 < b) (h2 : b < 2 ^ 250) : IF a b = .ok (a / b):=XB ⟨h, by
  have h3 : b.natAbs < 2 ^ 250:=by omega
  rcases Nat.eq_zero_or_pos b.natAbs with h0 | h0
  . omega
  . have := (Nat.log2_lt (by omega)).mpr h3
    omega⟩
theorem Ff {a b : Int} (h0 : 0 <= b) (h1 : b <= 1000000) (h2 : -(2 ^ 64) < a) (h3 : a < 2 ^ 64) : IB a b = .ok (a ^ b.toNat):=XB ⟨h0, h1, by omega⟩
theorem YB {as : List α} {i : Nat} {a : α} (h : as[i]? = some a) : atR as (i : Int) = .ok a:=by
  have hlt:=(List.getElem?_eq_some_iff.mp h).1
  unfold atR atI ixN
  rw [if_pos (by omega), if_pos (by omega)]
  simp [h]
theorem LI {as : List α} {i : Int} {a : α} (h0 : 0 <= i) (h : as[i.toNat]? = some a) : atR as i = .ok a:=by
  have : i = (i.toNat : Int):=by omega
  rw [this]; exact YB h
theorem Zw {n : Nat} (h : n < 2 ^ 62) : JX 0 (n : Int) = .ok ((List.range n).map λ(i : Nat)=>(i : Int)):=by
  unfold JX
  rw [XB (by omega)]
  unfold Qw
  congr 1
  rw [Int.sub_zero, Int.toNat_natCast]
  exact List.map_congr_left λi _=>by omega
theorem Y2 {n i : Nat} {a : Int} (h : ((List.range n).map λ(i : Nat)=>(i : Int))[i]? = some a) : a = (i : Int) /\ i < n:=by
  have hlt:=(List.getElem?_eq_some_iff.mp h).1
  simp only [List.length_map, List.length_range] at hlt
  rw [List.getElem?_map, List.getElem?_range hlt] at h
  exact ⟨(Option.some.inj h).symm, hlt⟩
theorem ZZ {n : Nat} {a : Int} (h : a ∈ (List.range n).map λ(i : Nat)=>(i : Int)) : ∃ i : Nat, i < n /\ a = (i : Int):=by
  obtain ⟨i, hi, rfl⟩:=List.mem_map.mp h
  exact ⟨i, List.mem_range.mp hi, rfl⟩
theorem Ze {n : Nat} : ((List.range n).map λ(i : Nat)=>(i : Int)).length = n:=by simp
theorem IP {a : Bool} {b : Rs Bool} {c : Bool} (h : a = true -> b = .ok c) : HB (.ok a) b = .ok (a && c):=by
  cases a with
  | false=>rfl
  | true=>
    show (if true = true then b else Rs.ok false) = _
    rw [if_pos rfl, h rfl]; rfl
theorem sz {n : Nat} (h : n <= 100000) : n <= sizeLine:=Nat.le_trans h (by decide)
theorem F4 {n : Nat} (h : n <= 100000) : n < sizeLine:=Nat.lt_of_le_of_lt h (by decide)
noncomputable def Ok (m : Rs β) (R : β -> Prop) : Prop:=∃ r, m = .ok r /\ R r
theorem Ok.bind {m : Rs α} {f : α -> Rs β} {R : α -> Prop} {T : β -> Prop} (h : Ok m R) (hf : ∀ a, R a -> Ok (f a) T) : Ok (m.bind f) T:=by
  obtain ⟨a, e, ha⟩:=h
  rw [e]; exact hf a ha
theorem Ok.imp {m : Rs α} {R T : α -> Prop} (h : Ok m R) (hf : ∀ a, R a -> T a) : Ok m T:=by
  obtain ⟨a, e, ha⟩:=h
  exact ⟨a, e, hf a ha⟩
theorem Ok.noE {m : Rs α} {R : α -> Prop} (h : Ok m R) : Ok (noE m) R:=by
  obtain ⟨a, e, ha⟩:=h
  rw [e]; exact ⟨a, rfl, ha⟩
theorem Ok.ite {b : Bool} {m n : Rs α} {R : α -> Prop} (h1 : b = true -> Ok m R) (h2 : b = false -> Ok n R) : Ok (if b = true then m else n) R:=by
  cases b with
  | true=>rw [if_pos rfl]; exact h1 rfl
  | false=>rw [if_neg Bool.false_ne_true]; exact h2 rfl
theorem Ok.forN {f : γ -> α -> Rs γ} (P : Nat -> γ -> Prop) {as : List α} {g : γ} (h0 : P 0 g) (hs : ∀ i a g, as[i]? = some a -> P i g -> Ok (f g a) (P (i + 1))) : Ok (forN as g f) (P as.length):=Fa P h0 hs
theorem JW {f : γ -> Rs ρ} (g : γ) : Qt f (.nx g) = f g:=(Eq.refl (f g)).symm.symm
theorem KG {f : γ -> Rs ρ} (r : ρ) : Qt f (.ret r) = .ok r:=(Eq.refl (Rs.ok r)).symm.symm
theorem Kp {δ : Type} {f : γ -> Rs (Ctl ρ δ)} (g : γ) : JR f (.nx g) = f g:=(Eq.refl (f g)).symm.symm
theorem XA (a : α) : noE (Rs.ok a) = .ok a:=(Eq.refl (Rs.ok a)).symm.symm
theorem Ok.eq {m : Rs α} {a : α} (h : Ok m (λb=>b = a)) : m = .ok a:=by
  obtain ⟨b, e, rfl⟩:=h
  exact e
end
end L2
namespace My
end My
namespace My
open PySem L2
theorem JB {α : Type} {as : List α} {i : Nat} {a : α} (h : i < as.length) : QD as (i : Int) a = .ok (as.set i a):=by
  unfold QD ixN
  rw [if_pos (by omega), if_pos (by omega)]
  simp
theorem EE {as : List Int} {i : Nat} (h : i < as.length) (hl : as.length <= 100000) : Cd as (i : Int) = .ok (as[i], as.eraseIdx i):=by
  unfold Cd
  rw [XB (by omega)]
  have e : seqIndex? (i : Int) as.length = some i:=by
    unfold seqIndex?
    have h0 : ¬ ((i : Int) < 0):=by omega
    simp [h0, h]
  rw [e]
  simp [h]
theorem Uk : ∀ {as : List Int} {i : Nat} (h : i < as.length), (as[i] :: as.eraseIdx i).Perm as
  | a :: as, 0, _=>by simp
  | a :: as, i + 1, h=>by
    have:=Uk (as:=as) (i:=i) (by simpa using h)
    simp only [List.getElem_cons_succ, List.eraseIdx_cons_succ]
    exact (List.Perm.swap _ _ _).trans (this.cons a)
theorem BT {α : Type} (as : List α) {k : Nat} (h : k <= as.length) : FD as (some (k : Int)) none = as.drop k:=by
  unfold FD
  rw [HT.sIx_nat, HT.sIx_none, Nat.min_eq_left h, List.take_of_length_le (by rw [List.length_drop]; omega)]
end My
namespace My
theorem QB (names : List Int) : (names.flatMap λx=>[x, -x]).length = 2 * names.length:=by
  induction names with
  | nil=>rfl
  | cons x r ih=>rw [List.flatMap_cons, List.length_append, ih]; simp; omega
theorem Js {α : Type} : ∀ {l : List α} {k : Nat} {y : α}, l[k]? = some y -> (y :: l.eraseIdx k).Perm l
  | [], _, _, e=>by simp at e
  | a :: r, 0, y, e=>by
    have e' : a = y:=by simpa using e
    subst e'; exact List.Perm.refl _
  | a :: r, k + 1, y, e=>by
    have e' : r[k]? = some y:=by simpa using e
    show (y :: a :: r.eraseIdx k).Perm (a :: r)
    exact (List.Perm.swap a y _).trans (List.Perm.cons a (Js e'))
theorem KL {α : Type} {l : List α} {k : Nat} {y : α} (e : l[k]? = some y) : (l.eraseIdx k).length + 1 = l.length:=by
  have:=(Js e).length_eq
  simpa using this
theorem Fh {α : Type} : ∀ {ws : List (List α)} {j : Nat} {w : List α} {y : α}, ws[j]? = some w -> ((ws.set j (w ++ [y])).flatten).Perm (y :: ws.flatten)
  | [], _, _, _, e=>by simp at e
  | a :: r, 0, w, y, e=>by
    have e' : a = w:=by simpa using e
    subst e'
    show ((a ++ [y]) ++ r.flatten).Perm (y :: (a ++ r.flatten))
    rw [List.append_assoc]
    exact List.perm_middle
  | a :: r, j + 1, w, y, e=>by
    have e' : r[j]? = some w:=by simpa using e
    show (a ++ (r.set j (w ++ [y])).flatten).Perm (y :: (a ++ r.flatten))
    exact (List.Perm.append_left a (Fh e')).trans List.perm_middle
theorem DR {α : Type} {ws : List (List α)} {j k : Nat} {w l : List α} {y : α} (e : ws[j]? = some w) (e3 : l[k]? = some y) : ((ws.set j (w ++ [y])).flatten ++ l.eraseIdx k).Perm (ws.flatten ++ l):=by
  refine ((Fh (y:=y) e).append_right _).trans ?_
  rw [List.cons_append]
  refine List.perm_middle.symm.trans ?_
  exact List.Perm.append_left _ (Js e3)
theorem mem_set {α : Type} : ∀ {l : List α} {j : Nat} {v x : α}, x ∈ l.set j v -> x ∈ l ∨ x = v
  | [], _, _, _, h=>by simp at h
  | a :: r, 0, v, x, h=>by
    rw [List.set_cons_zero] at h
    rcases List.mem_cons.mp h with h | h
    . exact .inr h
    . exact .inl (List.mem_cons_of_mem _ h)
  | a :: r, j + 1, v, x, h=>by
    rw [List.set_cons_succ] at h
    rcases List.mem_cons.mp h with h | h
    . exact .inl (by rw [h]; exact List.mem_cons_self)
    . rcases mem_set h with h | h
      . exact .inl (List.mem_cons_of_mem _ h)
      . exact .inr h
theorem Kf : ∀ {l : List Bool} {j : Nat}, l[j]? = some false -> (l.set j true).count false + 1 = l.count false
  | [], _, e=>by simp at e
  | a :: r, 0, e=>by
    have e' : a = false:=by simpa using e
    subst e'; simp
  | a :: r, j + 1, e=>by
    have e' : r[j]? = some false:=by simpa using e
    have ih:=Kf e'
    rw [List.set_cons_succ, List.count_cons, List.count_cons]
    omega
end My
namespace My
noncomputable def Gv (r : Int × Int) (at' : Int) : List Int:=if at' = r.1 then [r.2] else if at' = r.1 + 1 then [-r.2] else []
noncomputable def Ug (r : Int × Int) (at' : Int) : Int:=if at' = r.1 then r.1 + 1 else if at' = r.1 + 1 then r.1 else at'
noncomputable def El : List (Int × Int) -> Int -> Int
  | [], a=>a
  | r :: rs, a=>El rs (Ug r a)
noncomputable def GF : List (Int × Int) -> Int -> List Int
  | [], _=>[]
  | r :: rs, a=>Gv r a ++ GF rs (Ug r a)
theorem DU (rs : List (Int × Int)) (r : Int × Int) : ∀ a, El (rs ++ [r]) a = Ug r (El rs a):=by
  induction rs with
  | nil=>intro a; rfl
  | cons q rs ih=>intro a; exact ih _
theorem DL (rs : List (Int × Int)) (r : Int × Int) : ∀ a, GF (rs ++ [r]) a = GF rs a ++ Gv r (El rs a):=by
  induction rs with
  | nil=>intro a; simp [GF, El]
  | cons q rs ih=>intro a; simp [GF, El, ih]
theorem K5 {S : Int} {r : Int × Int} {a : Int} (h0 : 0 <= r.1) (h1 : r.1 + 1 < S) (a0 : 0 <= a) (a1 : a < S) : 0 <= Ug r a /\ Ug r a < S:=by
  unfold Ug
  split
  . omega
  . split <;> omega
noncomputable def F5 (S : Nat) : List Int:=(List.range S).map λ(k : Nat)=>(k : Int)
theorem QI {S : Nat} {x : Int} : x ∈ F5 S ↔ 0 <= x /\ x < (S : Int):=by
  unfold F5
  rw [List.mem_map]
  constructor
  . rintro ⟨k, hk, rfl⟩
    have:=List.mem_range.mp hk
    omega
  . rintro ⟨h0, h1⟩
    exact ⟨x.toNat, List.mem_range.mpr (by omega), by omega⟩
theorem Qe {α β : Type} {f : α -> β} : ∀ {l : List α}, (∀ a b, a ∈ l -> b ∈ l -> f a = f b -> a = b) -> l.Nodup -> (l.map f).Nodup
  | [], _, _=>List.nodup_nil
  | a :: r, h, nd=>by
    rw [List.map_cons, List.nodup_cons]
    refine ⟨λm=>?_, Qe (λx y hx hy=>h x y (List.mem_cons_of_mem _ hx) (List.mem_cons_of_mem _ hy)) (List.nodup_cons.mp nd).2⟩
    obtain ⟨b, hb, e⟩:=List.mem_map.mp m
    have:=h b a (List.mem_cons_of_mem _ hb) List.mem_cons_self e
    exact (List.nodup_cons.mp nd).1 (by rw [← this]; exact hb)
theorem QH (S : Nat) : (F5 S).Nodup:=Qe (λa b _ _ e=>by omega) List.nodup_range
theorem Jy {α : Type} [DecidableEq α] : ∀ {l m : List α}, l.Nodup -> m.Nodup -> (∀ x, x ∈ l ↔ x ∈ m) -> l.Perm m
  | [], m, _, _, h=>by
    cases m with
    | nil=>exact List.Perm.refl _
    | cons a r=>exact absurd ((h a).mpr List.mem_cons_self) (by simp)
  | a :: r, m, nl, nm, h=>by
    have ha : a ∈ m:=(h a).mp List.mem_cons_self
    have hp : m.Perm (a :: m.erase a):=List.perm_cons_erase ha
    refine List.Perm.trans (List.Perm.cons a ?_) hp.symm
    have nd2 : (a :: m.erase a).Nodup:=hp.nodup_iff.mp nm
    refine Jy (List.nodup_cons.mp nl).2 (List.nodup_cons.mp nd2).2 λx=>?_
    constructor
    . intro hx
      have hxa : x ≠ a:=λe=>(List.nodup_cons.mp nl).1 (by rw [← e]; exact hx)
      have : x ∈ a :: m.erase a:=hp.mem_iff.mp ((h x).mp (List.mem_cons_of_mem _ hx))
      exact (List.mem_cons.mp this).resolve_left hxa
    . intro hx
      have hxa : x ≠ a:=λe=>(List.nodup_cons.mp nd2).1 (e ▸ hx)
      have : x ∈ a :: r:=(h x).mpr (hp.mem_iff.mpr (List.mem_cons_of_mem _ hx))
      exact (List.mem_cons.mp this).resolve_left hxa
theorem Bi {S : Nat} {r : Int × Int} (h0 : 0 <= r.1) (h1 : r.1 + 1 < (S : Int)) : ((F5 S).map (Ug r)).Perm (F5 S):=by
  refine Jy (Qe (λa b _ _ e=>?_) (QH S)) (QH S) λx=>?_
  . unfold Ug at e
    split at e <;> split at e <;> (try split at e) <;> (try split at e) <;> omega
  . rw [List.mem_map, QI]
    constructor
    . rintro ⟨a, ha, rfl⟩
      have:=QI.mp ha
      exact K5 h0 h1 this.1 this.2
    . rintro ⟨x0, x1⟩
      refine ⟨Ug r x, QI.mpr (K5 h0 h1 x0 x1), ?_⟩
      unfold Ug
      split <;> (try split) <;> (try split) <;> omega
theorem ZP {α β : Type} (f : α -> List β) {l m : List α} (h : l.Perm m) : (l.flatMap f).Perm (m.flatMap f):=by
  induction h with
  | nil=>exact List.Perm.refl _
  | cons x _ ih=>rw [List.flatMap_cons, List.flatMap_cons]; exact List.Perm.append_left _ ih
  | swap x y l=>
    rw [List.flatMap_cons, List.flatMap_cons, List.flatMap_cons, List.flatMap_cons, ← List.append_assoc, ← List.append_assoc]
    exact List.Perm.append_right _ List.perm_append_comm
  | trans _ _ ih1 ih2=>exact ih1.trans ih2
theorem VP {α β : Type} (f g : α -> List β) : ∀ l : List α, (l.flatMap λx=>f x ++ g x).Perm (l.flatMap f ++ l.flatMap g)
  | []=>List.Perm.refl _
  | a :: r=>by
    rw [List.flatMap_cons, List.flatMap_cons, List.flatMap_cons]
    refine (List.Perm.append_left _ (VP f g r)).trans ?_
    rw [List.append_assoc, List.append_assoc]
    refine List.Perm.append_left _ ?_
    rw [← List.append_assoc, ← List.append_assoc]
    exact List.Perm.append_right _ List.perm_append_comm
theorem QQ {α β : Type} (f : α -> List β) : ∀ {l : List α}, (∀ x ∈ l, f x = []) -> l.flatMap f = []
  | [], _=>rfl
  | a :: r, h=>by rw [List.flatMap_cons, h a List.mem_cons_self, QQ f λx hx=>h x (List.mem_cons_of_mem _ hx)]; rfl
theorem Bu {S : Nat} {r : Int × Int} (h0 : 0 <= r.1) (h1 : r.1 + 1 < (S : Int)) : ((F5 S).flatMap (Gv r)).Perm [r.2, -r.2]:=by
  have ha : r.1 ∈ F5 S:=QI.mpr ⟨h0, by omega⟩
  have hp:=List.perm_cons_erase ha
  have nd:=hp.nodup_iff.mp (QH S)
  have hb : r.1 + 1 ∈ (F5 S).erase r.1:=by
    have : r.1 + 1 ∈ r.1 :: (F5 S).erase r.1:=hp.mem_iff.mp (QI.mpr ⟨by omega, h1⟩)
    exact (List.mem_cons.mp this).resolve_left (by omega)
  have hq:=List.perm_cons_erase hb
  have nd2:=hq.nodup_iff.mp (List.nodup_cons.mp nd).2
  refine (ZP _ (hp.trans (List.Perm.cons _ hq))).trans ?_
  rw [List.flatMap_cons, List.flatMap_cons, QQ]
  . unfold Gv
    rw [if_pos rfl, if_neg (by omega), if_pos rfl]
    exact List.Perm.refl _
  . intro x hx
    have x2 : x ≠ r.1 + 1:=λe=>(List.nodup_cons.mp nd2).1 (e ▸ hx)
    have x1 : x ≠ r.1:=λe=>(List.nodup_cons.mp nd).1 (e ▸ hq.mem_iff.mpr (List.mem_cons_of_mem _ hx))
    unfold Gv
    rw [if_neg x1, if_neg x2]
theorem QY {α β γ : Type} (f : α -> β) (g : β -> List γ) (l : List α) : (l.map f).flatMap g = l.flatMap λx=>g (f x):=by
  induction l with
  | nil=>rfl
  | cons a r ih=>rw [List.map_cons, List.flatMap_cons, List.flatMap_cons, ih]
theorem G8 {S : Nat} : ∀ {rs : List (Int × Int)}, (∀ r ∈ rs, 0 <= r.1 /\ r.1 + 1 < (S : Int)) -> ((F5 S).flatMap (GF rs)).Perm (rs.flatMap λr=>[r.2, -r.2])
  | [], _=>by rw [QQ (GF []) (λx _=>rfl)]; exact List.Perm.refl _
  | r :: rs, h=>by
    obtain ⟨h0, h1⟩:=h r List.mem_cons_self
    rw [List.flatMap_cons]
    refine (VP (Gv r) (λa=>GF rs (Ug r a)) (F5 S)).trans ?_
    refine List.Perm.append (Bu h0 h1) ?_
    rw [← QY (Ug r) (GF rs)]
    exact (ZP _ (Bi h0 h1)).trans (G8 λq hq=>h q (List.mem_cons_of_mem _ hq))
theorem Iw {x s : Int} (h : s = 1 ∨ s = -1) : [x * s, -(x * s)].Perm [x, -x]:=by
  rcases h with h | h
  . subst h; simp
  . subst h
    have e1 : x * -1 = -x:=by omega
    have e2 : -(-x) = x:=by omega
    rw [e1, e2]
    exact List.Perm.swap _ _ _
theorem Q4 {α β : Type} {f g : α -> List β} : ∀ {l : List α}, (∀ x ∈ l, (f x).Perm (g x)) -> (l.flatMap f).Perm (l.flatMap g)
  | [], _=>List.Perm.refl _
  | a :: r, h=>by
    rw [List.flatMap_cons, List.flatMap_cons]
    exact List.Perm.append (h a List.mem_cons_self) (Q4 λx hx=>h x (List.mem_cons_of_mem _ hx))
end My
namespace My
theorem HY {r : Int × Int} {a : Int} (h : a = r.1) : Gv r a = [r.2]:=by unfold Gv; rw [if_pos h]
theorem HU {r : Int × Int} {a : Int} (h : a = r.1 + 1) : Gv r a = [-r.2]:=by unfold Gv; rw [if_neg (by omega), if_pos h]
theorem Hb {r : Int × Int} {a : Int} (h : ¬ a = r.1) (h2 : ¬ a = r.1 + 1) : Gv r a = []:=by unfold Gv; rw [if_neg h, if_neg h2]
theorem Hd {r : Int × Int} {a : Int} (h : a = r.1) : Ug r a = r.1 + 1:=by unfold Ug; rw [if_pos h]
theorem Hf {r : Int × Int} {a : Int} (h : a = r.1 + 1) : Ug r a = r.1:=by unfold Ug; rw [if_neg (by omega), if_pos h]
theorem HV {r : Int × Int} {a : Int} (h : ¬ a = r.1) (h2 : ¬ a = r.1 + 1) : Ug r a = a:=by unfold Ug; rw [if_neg h, if_neg h2]
structure Done (S : Int) (seen : List Bool) (ps : List Int) : Prop where
  nd : ps.Nodup
  at' : ∀ p ∈ ps, 0 <= p /\ p < S /\ seen[p.toNat]? = some true
  of : ∀ q : Nat, seen[q]? = some true -> (q : Int) ∈ ps
theorem Done.none (S : Int) (n : Nat) : Done S (List.replicate n false) []:=
  ⟨List.nodup_nil, λp h=>by simp at h, λq h=>by
    rw [List.getElem?_replicate] at h
    split at h <;> cases h⟩
theorem UP {l : List Bool} {j q : Nat} (h : l[q]? = some true) : (l.set j true)[q]? = some true:=by
  by_cases e : j = q
  . subst e
    rw [List.getElem?_set_self (List.getElem?_eq_some_iff.mp h).1]
  . rw [List.getElem?_set_ne e]; exact h
theorem Done.snoc {S : Int} {seen : List Bool} {ps : List Int} {a : Int} (h : Done S seen ps) (a0 : 0 <= a) (a1 : a < S) (e : seen[a.toNat]? = some false) : Done S (seen.set a.toNat true) (ps ++ [a]):=by
  have hl : a.toNat < seen.length:=(List.getElem?_eq_some_iff.mp e).1
  have hn : a ∉ ps:=λm=>by
    have:=(h.at' a m).2.2
    rw [e] at this; cases this
  refine ⟨?_, λp hp=>?_, λq hq=>?_⟩
  . rw [List.nodup_append]
    refine ⟨h.nd, by simp, λx hx y hy=>?_⟩
    rw [List.mem_singleton.mp hy]
    exact λe=>hn (e ▸ hx)
  . rcases List.mem_append.mp hp with hp | hp
    . obtain ⟨h1, h2, h3⟩ := h.at' p hp
      exact ⟨h1, h2, UP h3⟩
    . rw [List.mem_singleton.mp hp]
      exact ⟨a0, a1, by rw [List.getElem?_set_self hl]⟩
  . by_cases hqa : a.toNat = q
    . exact List.mem_append_right _ (List.mem_singleton.mpr (by omega))
    . rw [List.getElem?_set_ne hqa] at hq
      exact List.mem_append_left _ (h.of q hq)
theorem Done.all {S : Int} {seen : List Bool} {ps : List Int} (h : Done S seen ps) (hl : seen.length = S.toNat) (h0 : 0 <= S) (ha : ∀ q : Nat, q < S.toNat -> seen[q]? = some true) : ps.Perm (F5 S.toNat):=by
  refine Jy h.nd (QH _) λx=>?_
  rw [QI]
  constructor
  . intro hx
    obtain ⟨h1, h2, _⟩:=h.at' x hx
    omega
  . rintro ⟨x0, x1⟩
    have:=h.of x.toNat (ha x.toNat (by omega))
    rw [show ((x.toNat : Nat) : Int) = x by omega] at this
    exact this
theorem Fj {seen : List Bool} {i : Nat} (h : ∀ q : Nat, q < i -> seen[q]? = some true) (hi : seen[i]? = some true) : ∀ q : Nat, q < i + 1 -> seen[q]? = some true:=λq hq=>by
  by_cases e : q = i
  . subst e; exact hi
  . exact h q (by omega)
end My
namespace My
open PySem L2
theorem Dw (ns : List Int) {p : Int} (hp : 0 <= p) : ∃ c, Vp ns p = .ok c:=by
  unfold Vp
  simp only [Rs.okb]
  by_cases h : p < (ns.length : Int)
  . rw [decide_eq_true h, if_pos rfl]
    have hl : p.toNat < ns.length:=by omega
    exact ⟨ns[p.toNat], LI hp (by simp [hl])⟩
  . rw [decide_eq_false h, if_neg Bool.false_ne_true]
    obtain ⟨g, e, _⟩:=Fa (as:=FD ns none (some 63)) (g:=(5 : Int)) (f:=λg15 a17=>(Rs.bind (Rs.bind (Rs.bind (Rs.bind (Z5 g15 48271) λx25=>(Rs.bind (Z0 a17 1000003) λx26=>(Rs.ok (x25 + x26)))) λx27=>Rs.ok (x27 + 1)) λx29=>Z0 x29 2147483647) λa19=>(Rs.ok (a19)))) (λ_ _=>True) True.intro λi a g _ _=>by
      rw [QR (by decide) (by decide), Rs.ok_bind, Yg (by decide), Rs.ok_bind, Rs.ok_bind, Rs.ok_bind, Yg (by decide), Rs.ok_bind]
      exact ⟨_, rfl, True.intro⟩
    rw [e, Rs.ok_bind, Yv (by decide) (by decide), Rs.ok_bind, Rs.ok_bind, Yg (by decide)]
    exact ⟨_, rfl⟩
theorem EB (c : Int) {k : Int} (h0 : 0 <= k) (h1 : k <= 100000) : ∃ y, Gi c k = .ok y /\ 0 <= y:=by
  unfold Gi
  simp only [Rs.okb]
  have hm : 0 <= c % 2147483629 /\ c % 2147483629 < 2147483629:=⟨Int.emod_nonneg _ (by decide), Int.emod_lt_of_pos _ (by decide)⟩
  rw [Yg (by decide), Rs.ok_bind, Yv (by decide) (by decide), Rs.ok_bind, Rs.ok_bind, Rs.ok_bind, Ff (by decide) (by decide) (by omega) (by omega), Rs.ok_bind, Yg (by decide), Rs.ok_bind]
  rw [QR (by decide) (by decide), Rs.ok_bind, Yv (by decide) (by decide), Rs.ok_bind, QR (by omega) (by omega), Rs.ok_bind, Rs.ok_bind, Rs.ok_bind, Yg (by decide), Rs.ok_bind, Cl (by decide) (by decide)]
  exact ⟨_, rfl, Int.ediv_nonneg (Int.emod_nonneg _ (by decide)) (by decide)⟩
theorem EY (ns : List Int) {p : Int} (hp : 0 <= p) (sizes : List Int) (hl : sizes.length <= 100000) (hs : ∀ x ∈ sizes, 0 < x /\ x < 2 ^ 250) :
    Ok (U8 ns p sizes) λr=>r.length = sizes.length /\ ∀ (i : Nat) x s, r[i]? = some x -> sizes[i]? = some s -> 0 <= x /\ x < s:=by
  obtain ⟨c, ec⟩:=Dw ns hp
  unfold U8
  simp only [Rs.okb]
  rw [ec, show noE (Rs.ok c) = .ok c from rfl, Rs.ok_bind, Zw (by omega), Rs.ok_bind, Ff (by decide) (by decide) (by decide) (by decide)]
  simp only [Rs.okb]
  have key : ∀ (i : Nat) (a : Int) (g : List Int × Int), ((List.range sizes.length).map λ(i : Nat)=>(i : Int))[i]? = some a -> (g.1.length = i /\ ∀ (j : Nat) x s, g.1[j]? = some x -> sizes[j]? = some s -> 0 <= x /\ x < s) -> ∀ y z : Int, ∀ s, sizes[i]? = some s -> 0 <= y /\ y < s -> ((g.1 ++ [y], z).1.length = i + 1 /\ ∀ (j : Nat) x s, (g.1 ++ [y], z).1[j]? = some x -> sizes[j]? = some s -> 0 <= x /\ x < s):=by
    intro i a g ha ⟨hg, hq⟩ y z s hs1 hy
    refine ⟨by simp [hg], λj x s' hx hs'=>?_⟩
    have hx : (g.1 ++ [y])[j]? = some x:=hx
    rcases Nat.lt_trichotomy j i with hj | hj | hj
    . rw [List.getElem?_append_left (by omega)] at hx; exact hq j x s' hx hs'
    . subst hj
      rw [List.getElem?_append_right (by omega), hg, Nat.sub_self] at hx
      have : y = x:=by simpa using hx
      rw [hs1] at hs'
      cases hs'
      rw [← this]; exact hy
    . rw [List.getElem?_eq_none (by simp; omega)] at hx; cases hx
  refine Ok.bind (Ok.forN (λi (g : List Int × Int)=>g.1.length = i /\ ∀ (j : Nat) x s, g.1[j]? = some x -> sizes[j]? = some s -> 0 <= x /\ x < s) ⟨rfl, λj x s h _=>by simp at h⟩ λi a g ha hg=>?_) (T:=λ(r : List Int)=>r.length = sizes.length /\ ∀ (i : Nat) x s, r[i]? = some x -> sizes[i]? = some s -> 0 <= x /\ x < s) λg ⟨hg, hq⟩=>?_
  . obtain ⟨rfl, hi⟩ := Y2 ha
    have hsz : sizes[i]? = some sizes[i]:=by simp [hi]
    have hsp:=hs _ (List.getElem_mem hi)
    have hgl : g.1.length < sizeLine:=F4 (by have:=hg.1; omega)
    by_cases hc : c < 10 ^ (18 : Int).toNat
    . rw [decide_eq_true hc, if_pos rfl]
      obtain ⟨y, ey, hy⟩:=EB c (k:=(i : Int)) (by omega) (by omega)
      rw [ey, show noE (Rs.ok y) = .ok y from rfl, Rs.ok_bind, YB hsz, Rs.ok_bind, Yg hsp.1, Rs.ok_bind, XB hgl]
      exact ⟨_, rfl, key i _ g ha hg _ _ _ hsz ⟨Int.emod_nonneg _ (by omega), Int.emod_lt_of_pos _ hsp.1⟩⟩
    . rw [decide_eq_false hc, if_neg Bool.false_ne_true]
      by_cases hq : 0 < g.2
      . rw [decide_eq_true hq, if_pos rfl, YB hsz, Rs.ok_bind, Yg hsp.1, Rs.ok_bind, XB hgl]
        simp only [Rs.okb]
        rw [Cl hsp.1 hsp.2]
        exact ⟨_, rfl, key i _ g ha hg _ _ _ hsz ⟨Int.emod_nonneg _ (by omega), Int.emod_lt_of_pos _ hsp.1⟩⟩
      . rw [decide_eq_false hq, if_neg Bool.false_ne_true, Yg (by decide), Rs.ok_bind]
        obtain ⟨c2, ec2⟩:=Dw ns (p:=(p + 1 + (i : Int)) % 63) (Int.emod_nonneg _ (by decide))
        obtain ⟨y, ey, hy⟩:=EB c2 (k:=(i : Int)) (by omega) (by omega)
        rw [ec2, show noE (Rs.ok c2) = .ok c2 from rfl, Rs.ok_bind, ey, show noE (Rs.ok y) = .ok y from rfl, Rs.ok_bind, YB hsz, Rs.ok_bind, Yg hsp.1, Rs.ok_bind, XB hgl]
        exact ⟨_, rfl, key i _ g ha hg _ _ _ hsz ⟨Int.emod_nonneg _ (by omega), Int.emod_lt_of_pos _ hsp.1⟩⟩
  . rw [Ze] at hg
    exact ⟨g.1, rfl, hg, hq⟩
theorem Yt {α : Type} {r : List α} {k : Int} {n : Nat} (e : k = (n : Int)) (h : n < r.length) : atR r k = .ok r[n]:=by
  subst e; exact YB (by simp [h])
theorem UA {γ : Type} {c : γ -> Rs Bool} {f : γ -> Rs γ} (P : γ -> Prop) (μ : γ -> Nat) (hs : ∀ g, P g -> ∃ b, c g = .ok b /\ (b = true -> Ok (f g) λg'=>P g' /\ μ g' < μ g)) : ∀ (n : Nat) (g : γ), P g -> μ g < n -> Ok (Qp n g c f) λg'=>P g' /\ c g' = .ok false
  | 0, _, _, h=>by omega
  | n + 1, g, hp, hm=>by
    obtain ⟨b, hb, h⟩:=hs g hp
    show Ok ((c g).bind _) _
    rw [hb, Rs.okb]
    cases b with
    | false=>rw [if_neg Bool.false_ne_true]; exact ⟨g, rfl, hp, hb⟩
    | true=>
      rw [if_pos rfl]
      exact Ok.bind (h rfl) λg' h'=>UA P μ hs n g' h'.1 (by omega)
theorem Bs {ns r : List Int} (hl : ns.length <= 100) (hr : 8 * ns.length + 3 <= r.length) : Ok (JC ns r) λl=>l.Perm ns:=by
  unfold JC
  simp only [Rs.okb]
  rw [Zw (by omega)]
  simp only [Rs.okb]
  refine Ok.bind (Ok.forN (λi (g : List Int × List Int)=>g.1.length = i /\ (g.1 ++ g.2).Perm ns) ⟨rfl, List.Perm.refl _⟩ λi a g ha hg=>?_) λg hg=>?_
  . obtain ⟨rfl, hi⟩ := Y2 ha
    obtain ⟨h1, h2⟩:=hg
    have hl:=h2.length_eq
    simp only [List.length_append] at hl
    rw [Yv (by decide) (by decide)]
    simp only [Rs.okb]
    rw [Yt (r:=r) (n:=8 * i + 9) (by omega) (by omega)]
    simp only [Rs.okb]
    have hpos : (0 : Int) < (g.2.length : Int):=by omega
    generalize r[8 * i + 9] = y
    have hm1:=Int.emod_nonneg y (show (g.2.length : Int) ≠ 0 by omega)
    have hm2:=Int.emod_lt_of_pos y hpos
    rw [Yg hpos, Rs.okb]
    generalize hk : y % (g.2.length : Int) = k at hm1 hm2
    obtain ⟨j, rfl⟩ : ∃ j : Nat, k = j:=⟨k.toNat, by omega⟩
    have hj : j < g.2.length:=by omega
    rw [EE hj (by omega), Rs.okb, XB (F4 (by omega))]
    refine ⟨_, rfl, by simp [h1], ?_⟩
    refine List.Perm.trans ?_ h2
    show ((g.1 ++ [g.2[j]]) ++ g.2.eraseIdx j).Perm (g.1 ++ g.2)
    rw [List.append_assoc]
    exact (Uk hj).append_left _
  . obtain ⟨h1, h2⟩ := hg
    rw [Ze] at h1
    have hl:=h2.length_eq
    simp only [List.length_append] at hl
    have : g.2 = []:=List.length_eq_zero_iff.mp (by omega)
    rw [this, List.append_nil] at h2
    exact ⟨_, rfl, h2⟩
theorem Lz {ns r : List Int} {rings : Nat} (hl : ns.length <= 100) (hr : 8 * ns.length + 3 <= r.length) (hg : ns ≠ [] -> 1 <= rings) (hg2 : rings <= 100) : Ok (Fx ns r (rings : Int)) λws=>ws.length = rings /\ ws.flatten.Perm (ns.flatMap λx=>[x, -x]):=by
  unfold Fx
  simp only [Rs.okb]
  refine Ok.bind (Ok.forN (λi (g : List Int)=>g = (ns.take i).flatMap λx=>[x, -x]) rfl λi a g ha hg=>?_) λg hgg=>?_
  . have hi := (List.getElem?_eq_some_iff.mp ha).1
    subst hg
    rw [XB (show [a, -a].length <= sizeLine from sz (by simp)), Rs.okb, XB (sz (by rw [QB]; simp; omega))]
    refine ⟨_, rfl, ?_⟩
    rw [List.take_add_one, ha]
    simp
  rw [List.take_length] at hgg
  subst hgg
  rw [Zw (by omega)]
  simp only [Rs.okb]
  rw [Zg (h:=λ_=>([] : List Int)) (sz (by simp; omega)) λ_ _=>rfl]
  simp only [Rs.okb]
  rw [Yv (by decide) (by decide), Rs.okb, show (2 : Int) * (ns.length : Int) = ((2 * ns.length : Nat) : Int) by omega, Zw (by omega)]
  simp only [Rs.okb]
  refine Ok.bind (Ok.forN (λi (g : List Int × List (List Int))=>g.2.length = rings /\ g.1.length + i = 2 * ns.length /\ (∀ w ∈ g.2, w.length <= i) /\ (g.2.flatten ++ g.1).Perm (ns.flatMap λx=>[x, -x])) ⟨by simp, by rw [QB]; rfl, λw hw=>?_, ?_⟩ λi a g ha hg=>?_) λg hg=>?_
  . obtain ⟨_, _, rfl⟩ := List.mem_map.mp hw
    exact Nat.zero_le _
  . have : ∀ l : List Int, (l.map λ_ => ([] : List Int)).flatten = [] := λl => by simp
    rw [this]; exact List.Perm.refl _
  . obtain ⟨rfl, hi⟩ := Y2 ha
    obtain ⟨h1, h2, h3, h4⟩:=hg
    have hne : 1 <= rings:=by
      refine ‹ns ≠ [] -> 1 <= rings› λe=>?_
      rw [e] at hi; simp at hi
    rw [Yv (by decide) (by decide)]
    simp only [Rs.okb]
    rw [Yt (r:=r) (n:=4 * i + 5) (by omega) (by omega)]
    simp only [Rs.okb]
    have hpos : (0 : Int) < (g.1.length : Int):=by omega
    generalize r[4 * i + 5] = y
    have hm1:=Int.emod_nonneg y (show (g.1.length : Int) ≠ 0 by omega)
    have hm2:=Int.emod_lt_of_pos y hpos
    rw [Yg hpos, Rs.okb]
    generalize hk : y % (g.1.length : Int) = k at hm1 hm2
    obtain ⟨j, rfl⟩ : ∃ j : Nat, k = j:=⟨k.toNat, by omega⟩
    have hj : j < g.1.length:=by omega
    rw [EE hj (by omega), Rs.okb]
    simp only [Rs.okb]
    rw [Yt (r:=r) (n:=4 * i + 6) (by omega) (by omega)]
    simp only [Rs.okb]
    generalize r[4 * i + 6] = y2
    have hp2 : (0 : Int) < (rings : Int):=by omega
    have hn1:=Int.emod_nonneg y2 (show (rings : Int) ≠ 0 by omega)
    have hn2:=Int.emod_lt_of_pos y2 hp2
    rw [Yg hp2, Rs.okb]
    generalize hk2 : y2 % (rings : Int) = k2 at hn1 hn2
    obtain ⟨q, rfl⟩ : ∃ q : Nat, k2 = q:=⟨k2.toNat, by omega⟩
    have hq : q < g.2.length:=by omega
    have hw:=h3 g.2[q] (List.getElem_mem hq)
    rw [Yt (n:=q) rfl hq, Rs.okb, XB (F4 (by omega)), JB hq, Rs.okb]
    have hjs : g.1[j]? = some g.1[j]:=by simp [hj]
    have hqs : g.2[q]? = some g.2[q]:=by simp [hq]
    refine ⟨_, rfl, by simp [h1], ?_, λw hw'=>?_, (DR hqs hjs).trans h4⟩
    . have := KL hjs
      show (g.1.eraseIdx j).length + (i + 1) = _
      omega
    . rcases mem_set hw' with h | h
      . have:=h3 w h; omega
      . rw [h]; simp; omega
  . obtain ⟨h1, h2, h3, h4⟩ := hg
    rw [Ze] at h2
    have : g.1 = []:=List.length_eq_zero_iff.mp (by omega)
    rw [this, List.append_nil] at h4
    exact ⟨_, rfl, h1, h4⟩
noncomputable def VS (ns r : List Int) (sg : Int -> Int) (S : Int) : List (Int × Int):=(List.range ns.length).map λk=>(r.getD (8 * k + 10) 0 % (S - 1), ns.getD k 0 * sg (ns.getD k 0))
theorem F1 {ns r : List Int} {sg : Int -> Int} {S : Int} {k : Nat} (h : k < ns.length) (h2 : 8 * k + 10 < r.length) : (VS ns r sg S)[k]? = some (r[8 * k + 10] % (S - 1), ns[k] * sg ns[k]):=by
  unfold VS
  rw [List.getElem?_map, List.getElem?_range h]
  simp [h, h2]
theorem Fw {ns r : List Int} {d : List (Int × Int)} {sg : Int -> Int} {S : Nat} (hl : ns.length <= 100) (hr : 8 * ns.length + 3 <= r.length) (hd : ∀ x ∈ ns, Zi d x = some (sg x)) (hs : ∀ x ∈ ns, sg x = 1 ∨ sg x = -1) (h2 : 2 <= S) (h4 : S <= 100) : Ok (ZX ns d r (S : Int)) λws=>ws.length <= S /\ ws.flatten.Perm (ns.flatMap λx=>[x, -x]):=by
  have hrs : ∀ q ∈ VS ns r sg (S : Int), 0 <= q.1 /\ q.1 + 1 < (S : Int):=λq hq=>by
    obtain ⟨k, _, rfl⟩:=List.mem_map.mp hq
    have hp : (0 : Int) < (S : Int) - 1:=by omega
    have hm1:=Int.emod_nonneg (r.getD (8 * k + 10) 0) (show ((S : Int) - 1) ≠ 0 by omega)
    have hm2:=Int.emod_lt_of_pos (r.getD (8 * k + 10) 0) hp
    show 0 <= _ % _ /\ _ % _ + 1 < _
    omega
  have hrl : (VS ns r sg (S : Int)).length = ns.length:=by simp [VS]
  have hin : ∀ (rs : List (Int × Int)), (∀ q ∈ rs, 0 <= q.1 /\ q.1 + 1 < (S : Int)) -> ∀ a : Int, 0 <= a -> a < (S : Int) -> 0 <= El rs a /\ El rs a < (S : Int):=by
    intro rs
    induction rs with
    | nil=>intro _ a h0 h1; exact ⟨h0, h1⟩
    | cons q rs ih=>
      intro hq a h0 h1
      have h:=K5 (hq q (by simp)).1 (hq q (by simp)).2 h0 h1
      exact ih (λx hx=>hq x (by simp [hx])) _ h.1 h.2
  have hcl : ∀ (rs : List (Int × Int)) (a : Int), (GF rs a).length <= rs.length:=by
    intro rs
    induction rs with
    | nil=>intro a; exact Nat.le_refl _
    | cons q rs ih=>
      intro a
      show (Gv q a ++ GF rs (Ug q a)).length <= _
      have h1 : (Gv q a).length <= 1:=by
        unfold Gv
        split
        . simp
        . split <;> simp
      have:=ih (Ug q a)
      simp only [List.length_append, List.length_cons]
      omega
  unfold ZX
  simp only [Rs.okb]
  rw [XB (show [false].length <= sizeLine from sz (by simp)), Rs.okb, show KF [false] (S : Int) = .ok (List.replicate S false) from ?_]
  rotate_left
  . unfold KF
    rw [XB ⟨by omega, by omega, sz (by simp; omega)⟩, Int.toNat_natCast]
    congr 1
    clear h2 h4 hrs hin hrl
    induction S with
    | zero=>rfl
    | succ n ih=>rw [List.replicate_succ, List.flatten_cons, ih, List.replicate_succ]; rfl
  rw [Rs.okb, Zw (by omega), Rs.okb]
  generalize hR : VS ns r sg (S : Int) = rs at hrs hrl
  refine Ok.bind (Ok.forN (λi (g : List Bool × List (List Int))=>g.1.length = S /\ g.2.length <= i /\ (∀ q : Nat, q < i -> g.1[q]? = some true) /\ ∃ ps, Done (S : Int) g.1 ps /\ g.2.flatten = ps.flatMap (GF rs)) ⟨by simp, Nat.le_refl _, λq hq=>by omega, [], Done.none _ _, rfl⟩ λi a g ha hg=>?_) λg hg=>?_
  . obtain ⟨rfl, hi⟩ := Y2 ha
    obtain ⟨g1, g2, g3, ps, g4, g5⟩:=hg
    have hi1 : i < g.1.length:=by omega
    rw [Yt (n:=i) rfl hi1]
    simp only [Rs.okb]
    cases hb : g.1[i] with
    | true=>
      rw [show (!true) = false from rfl, if_neg Bool.false_ne_true]
      simp only [Rs.okb]
      exact ⟨_, rfl, g1, by show g.2.length <= _; omega, Fj g3 (by simp [hi1, hb]), ps, g4, g5⟩
    | false=>
      rw [show (!false) = true from rfl, if_pos rfl]
      refine Ok.bind (R:=λg' : List Bool × List (List Int)=>g'.1.length = S /\ g'.2.length <= i + 1 /\ (∀ q : Nat, q < i + 1 -> g'.1[q]? = some true) /\ ∃ ps, Done (S : Int) g'.1 ps /\ g'.2.flatten = ps.flatMap (GF rs)) (Ok.bind (UA (λg' : List Bool × Int × List Int=>g'.1.length = S /\ 0 <= g'.2.1 /\ g'.2.1 < (S : Int) /\ (∀ q : Nat, g.1[q]? = some true -> g'.1[q]? = some true) /\ ((g'.2.1 = (i : Int) /\ g'.1[i]? = some false) ∨ g'.1[i]? = some true) /\ g'.2.2.length + 100 * g'.1.count false <= 100 * S /\ ∃ qs, Done (S : Int) g'.1 (ps ++ qs) /\ g'.2.2 = qs.flatMap (GF rs)) (λg'=>g'.1.count false) (λg' hg'=>?_) _ (g.1, (i : Int), []) ⟨g1, by show (0 : Int) <= (i : Int); omega, by show (i : Int) < (S : Int); omega, λq h=>h, .inl ⟨rfl, by simp [hi1, hb]⟩, by
        have : g.1.count false <= g.1.length:=List.count_le_length
        show 0 + 100 * g.1.count false <= 100 * S
        omega, [], by rw [List.append_nil]; exact g4, rfl⟩ ?_) λg' hg'=>?_) λg' hg'=>?_
      . obtain ⟨w1, w2, w3, w4, w5, w8, qs, w6, w7⟩ := hg'
        obtain ⟨p, hp⟩ : ∃ p : Nat, g'.2.1 = (p : Int):=⟨g'.2.1.toNat, by omega⟩
        have hpl : p < g'.1.length:=by omega
        rw [Yt hp hpl]
        refine ⟨_, rfl, λhf=>?_⟩
        have hf' : g'.1[p] = false:=by simpa using hf
        have hfs : g'.1[p]? = some false:=by simp [hpl, hf']
        rw [hp, JB hpl]
        simp only [Rs.okb]
        rw [Zw (by omega)]
        simp only [Rs.okb]
        refine Ok.bind (Ok.forN (λk (h : Int × List Int)=>h.1 = El (rs.take k) (p : Int) /\ h.2 = g'.2.2 ++ GF (rs.take k) (p : Int)) ⟨rfl, by rw [List.take_zero]; exact (List.append_nil _).symm⟩ λk b h hb' hh=>?_) λh hh=>?_
        . obtain ⟨rfl, hk⟩ := Y2 hb'
          obtain ⟨e1, e2⟩:=hh
          have hq:=F1 (sg:=sg) (S:=(S : Int)) hk (show 8 * k + 10 < r.length by omega)
          rw [hR] at hq
          have hts : rs.take (k + 1) = rs.take k ++ [(r[8 * k + 10] % ((S : Int) - 1), ns[k] * sg ns[k])]:=by rw [List.take_add_one, hq]; rfl
          rw [hts, DU, DL, ← e1]
          rw [Yv (by decide) (by decide)]
          simp only [Rs.okb]
          rw [Yt (r:=r) (n:=8 * k + 10) (by omega) (by omega)]
          simp only [Rs.okb]
          rw [Yg (by omega)]
          simp only [Rs.okb]
          rw [Yt (r:=ns) (n:=k) rfl hk]
          simp only [Rs.okb]
          have hgd : V0 d ns[k] = .ok (sg ns[k]):=by unfold V0; rw [hd _ (List.getElem_mem hk)]; rfl
          have hsg:=hs _ (List.getElem_mem hk)
          rw [hgd]
          simp only [Rs.okb]
          rw [QR (a:=ns[k]) (by omega) (by omega), QR (a:=-ns[k]) (by omega) (by omega)]
          simp only [Rs.okb]
          have hlen : h.2.length < sizeLine:=F4 (by
            have:=hcl (rs.take k) (p : Int)
            rw [List.length_take] at this
            rw [e2, List.length_append]; omega)
          rw [XB hlen, XB hlen]
          generalize r[8 * k + 10] % ((S : Int) - 1) = low
          by_cases c1 : h.1 = low
          . rw [if_pos (decide_eq_true c1)]
            simp only [Rs.okb]
            refine ⟨_, rfl, ?_, ?_⟩
            . rw [Hd c1]
            . rw [HY c1, e2, List.append_assoc]
          . rw [if_neg (by rw [decide_eq_false c1]; exact Bool.false_ne_true)]
            by_cases c2 : h.1 = low + 1
            . rw [if_pos (decide_eq_true c2)]
              simp only [Rs.okb]
              refine ⟨_, rfl, ?_, ?_⟩
              . rw [Hf c2]
              . rw [HU c2, e2, List.append_assoc, Int.neg_mul]
            . rw [if_neg (by rw [decide_eq_false c2]; exact Bool.false_ne_true)]
              simp only [Rs.okb]
              refine ⟨_, rfl, ?_, ?_⟩
              . rw [HV c1 c2]
              . rw [Hb c1 c2, List.append_nil, e2]
        . rw [Ze, ← hrl, List.take_length] at hh
          obtain ⟨e1, e2⟩:=hh
          have hpr:=hin rs hrs (p : Int) (by omega) (by omega)
          have hct:=Kf hfs
          have hcl':=hcl rs (p : Int)
          refine ⟨_, rfl, ⟨?_, ?_, ?_, ?_, ?_, ?_, qs ++ [(p : Int)], ?_, ?_⟩, ?_⟩
          . show (g'.1.set p true).length = S
            rw [List.length_set]; exact w1
          . show 0 <= h.1
            rw [e1]; exact hpr.1
          . show h.1 < _
            rw [e1]; exact hpr.2
          . exact λq hq=>UP (w4 q hq)
          . refine .inr ?_
            show (g'.1.set p true)[i]? = some true
            rcases w5 with ⟨h1, _⟩ | h1
            . have : p = i := by omega
              subst this
              rw [List.getElem?_set_self hpl]
            . exact UP h1
          . show h.2.length + 100 * (g'.1.set p true).count false <= 100 * S
            rw [e2, List.length_append]; omega
          . rw [← List.append_assoc]
            have:=w6.snoc (a:=(p : Int)) (by omega) (by omega) (by rw [Int.toNat_natCast]; exact hfs)
            rwa [Int.toNat_natCast] at this
          . show h.2 = _
            rw [e2, w7, List.flatMap_append]
            simp
          . show (g'.1.set p true).count false < g'.1.count false
            omega
      . have : g.1.count false <= g.1.length := List.count_le_length
        show g.1.count false < (S : Int).natAbs + 2
        omega
      . obtain ⟨⟨w1, w2, w3, w4, w5, w8, qs, w6, w7⟩, hc⟩ := hg'
        obtain ⟨p, hp⟩ : ∃ p : Nat, g'.2.1 = (p : Int):=⟨g'.2.1.toNat, by omega⟩
        have hpl : p < g'.1.length:=by omega
        rw [Yt hp hpl, Rs.okb] at hc
        have hc' : g'.1[p] = true:=by
          have:=Rs.ok.inj hc
          simpa using this
        have h5 : g'.1[i]? = some true:=by
          rcases w5 with ⟨h1, h6⟩ | h1
          . have : p = i := by omega
            subst this
            rw [List.getElem?_eq_getElem hpl, hc'] at h6
            cases h6
          . exact h1
        rw [XB (F4 (by omega))]
        refine ⟨_, rfl, w1, ?_, ?_, ps ++ qs, w6, ?_⟩
        . show (g.2 ++ [g'.2.2]).length <= _
          simp; omega
        . exact Fj (λq hq=>w4 q (g3 q hq)) h5
        . show (g.2 ++ [g'.2.2]).flatten = _
          rw [List.flatten_append, g5, List.flatMap_append, w7]
          simp
      . exact ⟨_, rfl, hg'⟩
  . obtain ⟨g1, g2, g3, ps, g4, g5⟩ := hg
    rw [Ze] at g2 g3
    refine ⟨_, rfl, g2, ?_⟩
    rw [g5]
    refine (ZP _ (g4.all (by rw [g1]; rfl) (by omega) λq hq=>g3 q (by omega))).trans ?_
    rw [Int.toNat_natCast]
    refine (G8 hrs).trans ?_
    rw [← hR]
    unfold VS
    rw [QY]
    have e : ns.flatMap (λx=>[x, -x]) = (List.range ns.length).flatMap λk=>[ns.getD k 0, -(ns.getD k 0)]:=by
      have h : ns = (List.range ns.length).map λk=>ns.getD k 0:=List.ext_getElem (by simp) λj h1 h2=>by simp [h1]
      conv=>lhs; rw [h]
      rw [QY]
    rw [e]
    refine Q4 λk hk=>Iw (hs _ ?_)
    have hk':=List.mem_range.mp hk
    simp [hk']
theorem C8 {α : Type} {l : List α} {m c : Nat} (hm : l.length = m) (hc : c < m) : ∀ {n j : Nat}, j < n -> (List.replicate n l).flatten[m * j + c]? = l[c]?
  | 0, _, h=>by omega
  | n + 1, 0, _=>by
    rw [List.replicate_succ, List.flatten_cons, Nat.mul_zero, Nat.zero_add, List.getElem?_append_left (by omega)]
  | n + 1, j + 1, h=>by
    rw [List.replicate_succ, List.flatten_cons, List.getElem?_append_right (by rw [hm, Nat.mul_succ]; omega), hm, show m * (j + 1) + c - m = m * j + c by rw [Nat.mul_succ]; omega]
    exact C8 hm hc (by omega)
theorem D0 {α : Type} (l : List α) : ∀ n : Nat, (List.replicate n l).flatten.length = n * l.length
  | 0=>by simp
  | n + 1=>by rw [List.replicate_succ, List.flatten_cons, List.length_append, D0 l n, Nat.succ_mul]; omega
structure Drawn (most : Nat) (D : List (List Int) × List (Int × Int)) : Prop where
  le : D.2.length <= most
  inc : (D.2.map Prod.fst).Pairwise (· < ·)
  pos : ∀ e ∈ D.2, 1 <= e.1 /\ e.1 < 2 ^ 62 /\ (e.2 = 1 ∨ e.2 = -1)
  perm : D.1.flatten.Perm ((D.2.map Prod.fst).flatMap λx=>[x, -x])
  few : D.1.length <= 4
theorem C5 : ∀ {d : List (Int × Int)} {x : Int}, x ∈ d.map Prod.fst -> ∃ v, Zi d x = some v /\ (x, v) ∈ d
  | [], _, h=>by simp at h
  | kv :: d, x, h=>by
    by_cases c : kv.1 = x
    . exact ⟨kv.2, by simp [Zi, List.find?_cons, c], by rw [← c]; simp⟩
    . have hx : x ∈ d.map Prod.fst:=by
        rw [List.map_cons, List.mem_cons] at h
        rcases h with h | h
        . exact absurd h.symm c
        . exact h
      obtain ⟨v, h1, h2⟩:=C5 hx
      exact ⟨v, by unfold Zi at h1 ⊢; rw [List.find?_cons, decide_eq_false c]; exact h1, List.mem_cons_of_mem _ h2⟩
theorem Ee {d : List (Int × Int)} {k v : Int} (h : ∀ x ∈ d.map Prod.fst, x ≠ k) : Vb d k v = d ++ [(k, v)]:=by
  unfold Vb
  rw [if_neg]
  rw [List.any_eq_true]
  rintro ⟨kv, h1, h2⟩
  exact h kv.1 (List.mem_map.mpr ⟨kv, h1, rfl⟩) (by simpa using h2)
theorem B7 (ns : List Int) {p : Int} (hp : 0 <= p) {most : Nat} (hm : most <= 100) : Ok (Jz ns p (most : Int)) (Drawn most):=by
  unfold Jz
  simp only [Rs.okb]
  rw [XB (sz (by simp))]
  simp only [Rs.okb]
  rw [XB (sz (by simp))]
  simp only [Rs.okb]
  rw [Yv (by decide) (by decide), Rs.okb, show (2 : Int) * (most : Int) = ((2 * most : Nat) : Int) by omega]
  rw [show KF [(80 : Int), 5, 2, 3] ((2 * most : Nat) : Int) = .ok (List.replicate (2 * most) [(80 : Int), 5, 2, 3]).flatten from by
    unfold KF
    rw [XB ⟨by omega, by omega, sz (by simp; omega)⟩, Int.toNat_natCast]]
  simp only [Rs.okb]
  have hrl:=D0 [(80 : Int), 5, 2, 3] (2 * most)
  have hrg : ∀ {j c : Nat}, c < 4 -> j < 2 * most -> (List.replicate (2 * most) [(80 : Int), 5, 2, 3]).flatten[4 * j + c]? = [(80 : Int), 5, 2, 3][c]?:=fun {j c} hc hj=>C8 rfl hc hj
  have hrm : ∀ x ∈ (List.replicate (2 * most) [(80 : Int), 5, 2, 3]).flatten, 0 < x /\ x < 2 ^ 250:=λx hx=>by
    obtain ⟨l, h1, h2⟩:=List.mem_flatten.mp hx
    rw [(List.mem_replicate.mp h1).2] at h2
    simp only [List.mem_cons, List.not_mem_nil, or_false] at h2
    rcases h2 with rfl | rfl | rfl | rfl <;> decide
  generalize (List.replicate (2 * most) [(80 : Int), 5, 2, 3]).flatten = tl at hrl hrg hrm
  rw [show ([(80 : Int), 5, 2, 3]).length = 4 from rfl] at hrl
  rw [show G2 [(most : Int) + 1, 5, 4, 3, 3] tl = .ok ([(most : Int) + 1, 5, 4, 3, 3] ++ tl) from XB (sz (by simp; omega))]
  simp only [Rs.okb]
  refine Ok.bind (Ok.noE (EY ns hp _ (by simp; omega) λx hx=>?_)) λr hr=>?_
  . rw [List.mem_append] at hx
    rcases hx with h | h
    . simp only [List.mem_cons, List.not_mem_nil, or_false] at h
      rcases h with rfl | rfl | rfl | rfl | rfl
      . refine ⟨by omega, by omega⟩
      all_goals decide
    . exact hrm x h
  obtain ⟨hl, hv⟩:=hr
  have hl' : r.length = 5 + 8 * most:=by rw [hl]; simp; omega
  have hv5 : ∀ (j c : Nat) (s : Int), c < 4 -> j < 2 * most -> [(80 : Int), 5, 2, 3][c]? = some s -> ∀ h : 5 + 4 * j + c < r.length, 0 <= r[5 + 4 * j + c] /\ r[5 + 4 * j + c] < s:=λj c s hc hj hs h=>by
    refine hv (5 + 4 * j + c) _ s (by simp [h]) ?_
    rw [List.getElem?_append_right (by simp; omega)]
    simp only [List.length_cons, List.length_nil]
    rw [show 5 + 4 * j + c - (0 + 1 + 1 + 1 + 1 + 1) = 4 * j + c by omega, hrg hc hj]
    exact hs
  have v0:=hv 0 r[0] _ (by simp) rfl
  have v1:=hv 1 r[1] _ (by simp) rfl
  have v2:=hv 2 r[2] _ (by simp) rfl
  have v3:=hv 3 r[3] _ (by simp) rfl
  have v4:=hv 4 r[4] _ (by simp) rfl
  rw [Yt (r:=r) (k:=0) (n:=0) rfl (by omega), Yt (r:=r) (k:=1) (n:=1) rfl (by omega), Yt (r:=r) (k:=2) (n:=2) rfl (by omega), Yt (r:=r) (k:=3) (n:=3) rfl (by omega), Yt (r:=r) (k:=4) (n:=4) rfl (by omega)]
  simp only [Rs.okb]
  obtain ⟨m0, hm0⟩ : ∃ m0 : Nat, r[0] = m0:=⟨r[0].toNat, by omega⟩
  rw [hm0] at v0 ⊢
  rw [Zw (by omega), Ff (by decide) (by decide) (by decide) (by decide)]
  simp only [Rs.okb]
  rw [XB (sz (by simp))]
  simp only [Rs.okb]
  have hz : ∃ z, atR [0, 1, (10 : Int) ^ (9 : Int).toNat] r[3] = .ok z /\ 0 <= z /\ z <= 1000000000:=by
    rcases (by omega : r[3] = 0 ∨ r[3] = 1 ∨ r[3] = 2) with h | h | h <;> rw [h]
    . exact ⟨0, rfl, by decide, by decide⟩
    . exact ⟨1, rfl, by decide, by decide⟩
    . exact ⟨1000000000, rfl, by decide, by decide⟩
  obtain ⟨z, hz, hz0, hz1⟩:=hz
  rw [hz]
  simp only [Rs.okb]
  refine Ok.bind (Ok.forN (λi (g : Int × List (Int × Int) × List Int)=>g.2.1.map Prod.fst = g.2.2 /\ g.2.2.length = i /\ 0 <= g.1 /\ g.1 <= (i : Int) * 3000000000 /\ g.2.2.Pairwise (· < ·) /\ (∀ x ∈ g.2.2, 1 <= x /\ x <= g.1) /\ ∀ e ∈ g.2.1, e.2 = 1 ∨ e.2 = -1) ⟨rfl, rfl, Int.le_refl _, by decide, List.Pairwise.nil, λx hx=>(by cases hx), λx hx=>(by cases hx)⟩ λi a g ha hg=>?_) λg hg=>?_
  . obtain ⟨rfl, hi⟩ := Y2 ha
    obtain ⟨h1, h2, h3, h4, h5, h6, h7⟩:=hg
    have hA : 5 + 4 * (2 * i) + 3 < r.length:=by omega
    have hB : 5 + 4 * (2 * i) + 2 < r.length:=by omega
    have kA:=hv5 (2 * i) 3 3 (by omega) (by omega) rfl hA
    have kB:=hv5 (2 * i) 2 2 (by omega) (by omega) rfl hB
    rw [Yv (a:=8) (by decide) (by decide)]
    simp only [Rs.okb]
    rw [Yt (r:=r) (k:=8 * (i : Int) + 8) (n:=5 + 4 * (2 * i) + 3) (by omega) hA, Yt (r:=r) (k:=8 * (i : Int) + 7) (n:=5 + 4 * (2 * i) + 2) (by omega) hB]
    simp only [Rs.okb]
    generalize r[5 + 4 * (2 * i) + 3] = y at kA
    generalize r[5 + 4 * (2 * i) + 2] = y2 at kB
    rw [Yv (a:=y) (by omega) (by omega), Yv (a:=2) (by decide) (by decide)]
    simp only [Rs.okb]
    have hd1 : g.2.1.length = i:=by rw [← h2, ← h1, List.length_map]
    rw [XB (F4 (by omega)), XB (F4 (by omega))]
    have q0 : 0 <= y * z:=Int.mul_nonneg kA.1 hz0
    have q1 : y * z <= 2 * 1000000000:=Int.mul_le_mul (by omega) hz1 hz0 (by decide)
    generalize y * z = st at q0 q1
    have hnew : ∀ x ∈ g.2.1.map Prod.fst, x ≠ g.1 + 1 + st:=λx hx e=>by
      rw [h1] at hx
      have:=(h6 x hx).2
      omega
    rw [Ee hnew]
    refine ⟨_, rfl, ?_, ?_, ?_, ?_, ?_, ?_, ?_⟩
    . show (g.2.1 ++ [(g.1 + 1 + st, 2 * y2 - 1)]).map Prod.fst = g.2.2 ++ [g.1 + 1 + st]
      rw [List.map_append, h1]; rfl
    . show (g.2.2 ++ [g.1 + 1 + st]).length = _
      simp [h2]
    . show 0 <= g.1 + 1 + st
      omega
    . show g.1 + 1 + st <= _
      omega
    . show (g.2.2 ++ [g.1 + 1 + st]).Pairwise (· < ·)
      rw [List.pairwise_append]
      refine ⟨h5, by simp, λx hx w hw=>?_⟩
      rw [List.mem_singleton] at hw
      have:=(h6 x hx).2
      omega
    . intro x hx
      show 1 <= x /\ x <= g.1 + 1 + st
      rcases List.mem_append.mp hx with h | h
      . have:=h6 x h; omega
      . rw [List.mem_singleton] at h; omega
    . intro e he
      rcases List.mem_append.mp he with h | h
      . exact h7 e h
      . rw [List.mem_singleton] at h
        subst h
        show 2 * y2 - 1 = 1 ∨ 2 * y2 - 1 = -1
        omega
  obtain ⟨h1, h2, h3, h4, h5, h6, h7⟩:=hg
  rw [Ze] at h2 h4
  generalize hN : g.2.2 = names at *
  generalize hD : g.2.1 = d at *
  have hsg : ∀ x ∈ names, Zi d x = some ((Zi d x).getD 1) /\ ((Zi d x).getD 1 = 1 ∨ (Zi d x).getD 1 = -1):=λx hx=>by
    obtain ⟨v, e1, e2⟩:=C5 (d:=d) (x:=x) (by rw [h1]; exact hx)
    rw [e1]
    exact ⟨rfl, h7 _ e2⟩
  have hmap : J9 names (λa=>(V0 d a).bind λx=>.ok (a, x)) = .ok (names.map λa=>(a, (Zi d a).getD 1)):=Zg (sz (by omega)) λa ha=>by
    unfold V0
    rw [(hsg a ha).1]; rfl
  refine Ok.bind (R:=λws : List (List Int)=>ws.length <= 4 /\ ws.flatten.Perm (names.flatMap λx=>[x, -x])) (Ok.ite (λ_=>?_) λ_=>?_) λws hws=>?_
  . refine Ok.bind (R := λws : List (List Int) => ws.length <= 4 /\ ws.flatten.Perm (names.flatMap λx => [x, -x])) ?_ λws hws => ⟨_, rfl, hws⟩
    refine Ok.bind (Ok.noE (Bs (by omega) (by omega))) λl hl2=>?_
    rw [show (2 : Int) + r[4] = ((2 + r[4].toNat : Nat) : Int) by omega]
    have hln:=hl2.length_eq
    refine Ok.noE (Ok.imp (Fw (sg:=λx=>(Zi d x).getD 1) (by omega) (by omega) (λx hx=>(hsg x (hl2.mem_iff.mp hx)).1) (λx hx=>(hsg x (hl2.mem_iff.mp hx)).2) (by omega) (by omega)) λws hw=>⟨by omega, hw.2.trans (ZP _ hl2)⟩)
  . refine Ok.bind (R := λws : List (List Int) => ws.length <= 4 /\ ws.flatten.Perm (names.flatMap λx => [x, -x])) ?_ λws hws => ⟨_, rfl, hws⟩
    obtain ⟨rings, hrings⟩ : ∃ k : Nat, max r[1] (min (names.length : Int) 1) = (k : Int):=⟨(max r[1] (min (names.length : Int) 1)).toNat, by omega⟩
    rw [hrings]
    refine Ok.noE (Ok.imp (Lz (by omega) (by omega) (λhne=>?_) (by omega)) λws hw=>⟨by omega, hw.2⟩)
    have : 0 < names.length:=List.length_pos_iff.mpr hne
    omega
  . rw [hmap]
    simp only [Rs.okb]
    have hfst : (names.map λa=>(a, (Zi d a).getD 1)).map Prod.fst = names:=by rw [List.map_map]; exact List.map_id' _
    refine ⟨_, rfl, ?_, ?_, ?_, ?_, hws.1⟩
    . show (names.map λa => (a, (Zi d a).getD 1)).length <= most
      simp; omega
    . show ((names.map λa => (a, (Zi d a).getD 1)).map Prod.fst).Pairwise _
      rw [hfst]; exact h5
    . intro e he
      obtain ⟨x, hx, rfl⟩:=List.mem_map.mp he
      have:=h6 x hx
      refine ⟨this.1, ?_, (hsg x hx).2⟩
      show x < 2 ^ 62
      omega
    . show ws.flatten.Perm (((names.map λa => (a, (Zi d a).getD 1)).map Prod.fst).flatMap λx => [x, -x])
      rw [hfst]; exact hws.2
theorem HK (a b : Bool) : HB (.ok a) (.ok b) = .ok (a && b):=IP λ_=>rfl
end My
namespace My
noncomputable def YY (w : List Int) : Nat:=(w.filter λx=>decide (x < 0)).length
noncomputable def Jj (w : List Int) : Nat:=max (YY w) 1
noncomputable def Qq (w : List Int) (first : Int) : List Int:=(List.range (max w.length 1)).map λk=>first + (YY (w.take k) : Int) % (Jj w : Int)
noncomputable def Y1 : List (List Int) -> Int -> List (List Int)
  | [], _=>[]
  | w :: ws, f=>Qq w f :: Y1 ws (f + Jj w)
noncomputable def XW (ws : List (List Int)) : Int:=(ws.map λw=>(Jj w : Int)).sum
noncomputable def Qk (ws : List (List Int)) : Nat:=(ws.filter λw=>decide (YY w = 0)).length
theorem Q9 (a b : List Int) : YY (a ++ b) = YY a + YY b:=by unfold YY; rw [List.filter_append, List.length_append]
theorem J3 {x : Int} (h : x < 0) : YY [x] = 1:=by simp [YY, h]
theorem Va {x : Int} (h : ¬ x < 0) : YY [x] = 0:=by simp [YY, h]
theorem Zo {w : List Int} {i : Nat} {x : Int} (h : w[i]? = some x) : YY (w.take (i + 1)) = YY (w.take i) + YY [x]:=by
  rw [List.take_add_one, h, Q9]; rfl
theorem JS (w : List Int) (i j : Nat) (h : i <= j) : YY (w.take i) <= YY (w.take j):=by
  have e : w.take j = w.take i ++ (w.take j).drop i:=by
    conv=>lhs; rw [← List.take_append_drop i (w.take j)]
    rw [List.take_take, Nat.min_eq_left h]
  rw [e, Q9]; omega
theorem Ie (w : List Int) (i : Nat) : YY (w.take i) <= YY w:=by
  by_cases h : i <= w.length
  . have := JS w i w.length h
    rw [List.take_length] at this; exact this
  . rw [List.take_of_length_le (by omega)]; exact Nat.le_refl _
theorem Fb (w : List Int) : 0 < Jj w:=by unfold Jj; omega
theorem Ji (w : List Int) (f : Int) : (Qq w f).length = max w.length 1:=by simp [Qq]
theorem FK (w : List Int) (f : Int) {k : Nat} (h : k < max w.length 1) : (Qq w f)[k]? = some (f + (YY (w.take k) : Int) % (Jj w : Int)):=by
  unfold Qq
  rw [List.getElem?_map, List.getElem?_range h]; rfl
theorem YU : ∀ (ws : List (List Int)) (f : Int), (Y1 ws f).length = ws.length
  | [], _=>rfl
  | _ :: ws, f=>by show (Y1 ws _).length + 1 = _; rw [YU ws]; rfl
theorem Z6 (w : List Int) (ws : List (List Int)) : XW (w :: ws) = Jj w + XW ws:=by simp [XW]
theorem Jl (a b : List (List Int)) : XW (a ++ b) = XW a + XW b:=by simp [XW, List.sum_append]
theorem FM (w : List Int) : XW [w] = Jj w:=by simp [XW]
theorem Jw : ∀ (a b : List (List Int)) (f : Int), Y1 (a ++ b) f = Y1 a f ++ Y1 b (f + XW a)
  | [], b, f=>by simp [Y1, XW]
  | w :: a, b, f=>by
    show Qq w f :: Y1 (a ++ b) (f + Jj w) = Qq w f :: (Y1 a (f + Jj w) ++ Y1 b (f + XW (w :: a)))
    rw [Jw a b, Z6, Int.add_assoc]
theorem QU {ws : List (List Int)} {i : Nat} {w : List Int} (h : ws[i]? = some w) (f : Int) : Y1 (ws.take (i + 1)) f = Y1 (ws.take i) f ++ [Qq w (f + XW (ws.take i))]:=by
  rw [List.take_add_one, h, Jw]; rfl
theorem Q3 {ws : List (List Int)} {i : Nat} {w : List Int} (h : ws[i]? = some w) : XW (ws.take (i + 1)) = XW (ws.take i) + Jj w:=by
  rw [List.take_add_one, h, Jl]
  show _ + XW [w] = _
  rw [FM]
theorem V9 {ws : List (List Int)} {i : Nat} {w : List Int} (h : ws[i]? = some w) (f : Int) : (Y1 ws f)[i]? = some (Qq w (f + XW (ws.take i))):=by
  have hl : i < ws.length:=(List.getElem?_eq_some_iff.mp h).1
  have e : ws = ws.take (i + 1) ++ ws.drop (i + 1):=(List.take_append_drop _ _).symm
  rw [e, Jw, QU h, List.getElem?_append_left (by rw [List.length_append, YU, List.length_take]; simp; omega),
    List.getElem?_append_right (by rw [YU, List.length_take]; omega), YU, List.length_take, Nat.min_eq_left (by omega), Nat.sub_self, List.take_append_of_le_length (by rw [List.length_take]; omega), List.take_take, Nat.min_eq_left (by omega)]
  rfl
theorem JJ : ∀ ws : List (List Int), XW ws = (YY ws.flatten : Int) + (Qk ws : Int)
  | []=>rfl
  | w :: ws=>by
    rw [Z6, JJ ws, List.flatten_cons, Q9]
    unfold Qk
    rw [List.filter_cons]
    by_cases h : YY w = 0
    . simp [h, Jj]; omega
    . simp [h, Jj]; omega
theorem Fv {ws : List (List Int)} {i : Nat} {w : List Int} (h : ws[i]? = some w) : Qk (ws.take (i + 1)) = Qk (ws.take i) + (if YY w = 0 then 1 else 0):=by
  unfold Qk
  rw [List.take_add_one, h, List.filter_append, List.length_append]
  by_cases e : YY w = 0 <;> simp [e]
theorem Dq {a b : List Int} (h : a.Perm b) : YY a = YY b:=(h.filter _).length_eq
theorem Cy : ∀ {xs : List Int}, (∀ x ∈ xs, 1 <= x) -> YY (xs.flatMap λx=>[x, -x]) = xs.length
  | [], _=>rfl
  | x :: xs, h=>by
    have hx:=h x List.mem_cons_self
    rw [List.flatMap_cons, Q9, Cy λy hy=>h y (List.mem_cons_of_mem _ hy)]
    have e : YY [x, -x] = 1:=by
      show YY ([x] ++ [-x]) = 1
      rw [Q9, Va (by omega), J3 (by omega)]
    rw [e, List.length_cons]; omega
structure LastIs (w : List Int) (i : Nat) (last : Int) : Prop where
  lo : -1 <= last
  hi : last < (i : Int)
  none : ∀ j : Nat, last < (j : Int) -> j < i -> ∀ x, w[j]? = some x -> ¬ x < 0
  at' : 0 <= last -> ∃ x, w[last.toNat]? = some x /\ x < 0
theorem LastIs.zero (w : List Int) : LastIs w 0 (-1):=⟨by omega, by omega, λj _ h=>by omega, λh=>by omega⟩
theorem LastIs.neg {w : List Int} {i : Nat} {x : Int} (e : w[i]? = some x) (hx : x < 0) : LastIs w (i + 1) (i : Int):=
  ⟨by omega, by omega, λj h1 h2=>by omega, λ_=>⟨x, by simpa using e, hx⟩⟩
theorem LastIs.pos {w : List Int} {i : Nat} {x last : Int} (h : LastIs w i last) (e : w[i]? = some x) (hx : ¬ x < 0) : LastIs w (i + 1) last:=by
  have:=h.hi
  refine ⟨h.lo, by omega, λj h1 h2 y hy=>?_, h.at'⟩
  by_cases hj : j = i
  . subst hj; rw [e] at hy; cases hy; exact hx
  . exact h.none j h1 (by omega) y hy
theorem QW {w : List Int} {last : Int} (h : LastIs w w.length last) : ∀ j : Nat, last < (j : Int) -> YY (w.take j) = YY w:=by
  intro j hj
  have key : ∀ d : Nat, YY (w.take (j + d)) = YY (w.take j):=λd=>by
    induction d with
    | zero=>rfl
    | succ d ih=>
      cases e : w[j + d]? with
      | none=>
        have:=List.getElem?_eq_none_iff.mp e
        rw [← ih, List.take_of_length_le (by omega), List.take_of_length_le (by omega)]
      | some x=>
        have hl:=(List.getElem?_eq_some_iff.mp e).1
        show YY (w.take ((j + d) + 1)) = _
        rw [Zo e, ih, Va (h.none (j + d) (by omega) hl x e)]; rfl
  by_cases hl : j <= w.length
  . rw [← key (w.length - j), show j + (w.length - j) = w.length by omega, List.take_length]
  . rw [List.take_of_length_le (by omega)]
theorem KP {w : List Int} {last : Int} (h : LastIs w w.length last) (h0 : 0 <= last) : YY (w.take last.toNat) + 1 = YY w:=by
  obtain ⟨x, e, hx⟩:=h.at' h0
  have:=Zo e
  rw [J3 hx] at this
  rw [← this, QW h (last.toNat + 1) (by omega)]
theorem CK {w : List Int} {last : Int} (h : LastIs w w.length last) (h0 : ¬ 0 <= last) : YY w = 0:=by
  have:=h.lo
  rw [← QW h 0 (by omega)]; simp [YY]
theorem Bh {w : List Int} {last f : Int} (h : LastIs w w.length last) {j : Nat} (hj : (j : Int) <= last) : f + (YY (w.take j) : Int) % (Jj w : Int) = f + (YY (w.take j) : Int):=by
  have h0 : 0 <= last:=by omega
  have h1:=KP h h0
  have h2:=JS w j last.toNat (by omega)
  rw [Int.emod_eq_of_lt (by omega) (by unfold Jj; omega)]
theorem BM {w : List Int} {last f : Int} (h : LastIs w w.length last) {j : Nat} (hj : last < (j : Int)) : f + (YY (w.take j) : Int) % (Jj w : Int) = f:=by
  rw [QW h j hj]
  by_cases e : YY w = 0
  . rw [e]; simp
  . have : (Jj w : Int) = (YY w : Int) := by unfold Jj; omega
    rw [this, Int.emod_self]; omega
theorem Dz {w : List Int} {last : Int} (h : LastIs w w.length last) : (YY (w.take last.toNat) : Int) + 1 = (Jj w : Int):=by
  by_cases h0 : 0 <= last
  . have := KP h h0
    unfold Jj; omega
  . have e := CK h h0
    have:=Ie w last.toNat
    unfold Jj; omega
end My
namespace My
structure Spot (ws : List (List Int)) (x : Int) (i j : Nat) (w : List Int) : Prop where
  wi : ws[i]? = some w
  xj : w[j]? = some x
  first : ∀ m : Nat, m < j -> w[m]? ≠ some x
  none : ∀ (i' : Nat) (w' : List Int), i' < i -> ws[i']? = some w' -> x ∉ w'
theorem Spot.row {ws : List (List Int)} {x : Int} {i j : Nat} {w : List Int} (h : Spot ws x i j w) : ∃ r, (Y1 ws 0)[i]? = some r /\ r.length = w.length /\ j < w.length:=by
  have hj:=(List.getElem?_eq_some_iff.mp h.xj).1
  exact ⟨_, V9 h.wi 0, by rw [Ji]; omega, hj⟩
theorem Fl : ∀ {w : List Int} {x : Int}, x ∈ w -> ∃ j : Nat, w[j]? = some x /\ ∀ m : Nat, m < j -> w[m]? ≠ some x
  | [], x, h=>by simp at h
  | y :: t, x, h=>by
    by_cases e : y = x
    . subst e
      exact ⟨0, rfl, λm hm=>by omega⟩
    . rcases List.mem_cons.mp h with z | z
      . exact absurd z.symm e
      . obtain ⟨j, h1, h2⟩ := Fl z
        refine ⟨j + 1, by simpa using h1, λm hm=>?_⟩
        cases m with
        | zero=>simpa using e
        | succ m=>simpa using h2 m (by omega)
end My
namespace My
open PySem L2
section
variable {α β γ ρ : Type}
theorem VQ {f : γ -> α -> Rs (Ctl ρ γ)} {g : γ} {v : ρ} : ∀ {as : List α} {i : Nat} {a : α}, as[i]? = some a -> (∀ (k : Nat) b, k < i -> as[k]? = some b -> f g b = .ok (.nx g)) -> f g a = .ok (.ret v) -> V5 as g f = .ok (.ret v)
  | [], i, a, h, _, _=>by simp at h
  | b :: as, 0, a, h, _, hf=>by
    have : b = a:=by simpa using h
    subst this
    show (f g b).bind _ = _
    rw [hf, Rs.okb]
  | b :: as, i + 1, a, h, hb, hf=>by
    show (f g b).bind _ = _
    rw [hb 0 b (by omega) rfl, Rs.okb]
    exact VQ (i:=i) (by simpa using h) (λk c hk hc=>hb (k + 1) c (by omega) (by simpa using hc)) hf
theorem B1 {as : List α} {i : Nat} {a : α} (h : as[i]? = some a) : (Jx as)[i]? = some ((i : Int), a):=by
  have hi:=(List.getElem?_eq_some_iff.mp h).1
  unfold Jx
  rw [List.getElem?_zip_eq_some]
  exact ⟨by rw [List.getElem?_map, List.getElem?_range hi]; rfl, h⟩
theorem KS {w : List Int} {x : Int} {j : Nat} (h : w[j]? = some x) (hf : ∀ m : Nat, m < j -> w[m]? ≠ some x) : Ek w x = .ok (j : Int):=by
  obtain ⟨hj, e⟩:=List.getElem?_eq_some_iff.mp h
  have : w.findIdx? (λb=>decide (b = x)) = some j:=by
    rw [List.findIdx?_eq_some_iff_getElem]
    refine ⟨hj, by simp [e], λm hm=>?_⟩
    have hml : m < w.length:=by omega
    have:=hf m hm
    rw [List.getElem?_eq_getElem hml] at this
    simpa using this
  unfold Ek
  rw [this]
theorem Jd {N k : Nat} {F G : Nat -> α} {v : α} (hk : k < N) (hv : G k = v) (h : ∀ j, j < N -> j ≠ k -> F j = G j) : ((List.range N).map F).set k v = (List.range N).map G:=by
  refine List.ext_getElem (by simp) λj h1 h2=>?_
  have hj : j < N:=by simpa using h1
  rw [List.getElem_set]
  by_cases e : k = j
  . subst e; rw [if_pos rfl]; simp [hv]
  . rw [if_neg e]; simp [h j hj (λz=>e z.symm)]
theorem Bx (w : List α) : FD w none (some (-1)) = w.take (w.length - 1):=by
  unfold FD
  rw [HT.sIx_none]
  have : HT.sIx w.length w.length (some (-1)) = w.length - 1:=by
    unfold HT.sIx
    simp
    omega
  rw [this]; simp
end
theorem ZL {w : List Int} (hl : w.length <= 1000) : XO w = .ok (Jj w : Int):=by
  unfold XO
  simp only [Rs.okb]
  rw [VO (p:=λx=>decide (x < 0)) (h:=λx=>x) (sz (by omega)) (λ_ _=>rfl) λ_ _ _=>rfl, Rs.okb, List.map_id']
  congr 1
  show max ((YY w : Nat) : Int) 1 = ((max (YY w) 1 : Nat) : Int)
  omega
theorem Vr {w : List Int} {f : Int} (hl : w.length <= 1000) : YI w f = .ok (Qq w f):=by
  unfold YI
  simp only [Rs.okb]
  rw [ZL hl, XA]
  simp only [Rs.okb]
  rw [XB (sz (by simp)), Bx]
  simp only [Rs.okb]
  apply Ok.eq
  refine Ok.bind (Ok.forN (λi (g : Int × List Int)=>g = ((YY (w.take i) : Int), (List.range (i + 1)).map λk=>f + (YY (w.take k) : Int) % (Jj w : Int))) ?_ λi a g ha hg=>?_) λg hg=>?_
  . simp [YY]
  . have hi := (List.getElem?_eq_some_iff.mp ha).1
    rw [List.length_take] at hi
    have ha' : w[i]? = some a:=by
      rw [List.getElem?_take_of_lt (by omega)] at ha
      exact ha
    subst hg
    have hn:=Zo ha'
    have hp:=Fb w
    have hlen : ((List.range (i + 1)).map λk=>f + (YY (w.take k) : Int) % (Jj w : Int)).length < sizeLine:=F4 (by simp; omega)
    refine Ok.bind (R:=λu=>u = (YY (w.take (i + 1)) : Int)) (Ok.ite (λc=>⟨_, rfl, ?_⟩) λc=>⟨_, rfl, ?_⟩) λu hu=>?_
    . rw [hn, J3 (of_decide_eq_true c)]
      show (YY (w.take i) : Int) + 1 = _
      omega
    . rw [hn, Va (of_decide_eq_false c)]
      show (YY (w.take i) : Int) = _
      omega
    . subst hu
      rw [Yg (by omega), Rs.okb, Rs.okb, XB hlen]
      refine ⟨_, rfl, ?_⟩
      rw [List.range_succ (n:=i + 1), List.map_append]; rfl
  . subst hg
    refine ⟨_, rfl, ?_⟩
    rw [List.length_take, show min (w.length - 1) w.length + 1 = max w.length 1 by omega]
    rfl
theorem HH {D : List (List Int) × List (Int × Int)} (hd : D.1.length <= 1000) (hw : ∀ w ∈ D.1, w.length <= 1000) : Ud D = .ok (Y1 D.1 0):=by
  unfold Ud
  simp only [Rs.okb]
  apply Ok.eq
  refine Ok.bind (Ok.forN (λi (g : Int × List (List Int))=>g = (XW (D.1.take i), Y1 (D.1.take i) 0)) rfl λi a g ha hg=>?_) λg hg=>?_
  . have hi := (List.getElem?_eq_some_iff.mp ha).1
    subst hg
    have hal:=hw a (List.mem_of_getElem? ha)
    rw [Vr hal, XA, Rs.okb, ZL hal, XA]
    rw [XB (F4 (by rw [YU, List.length_take]; omega))]
    simp only [Rs.okb]
    refine ⟨_, rfl, ?_⟩
    rw [QU ha, Q3 ha, Int.zero_add]
  . subst hg
    rw [List.take_length]
    exact ⟨_, rfl, rfl⟩
theorem JQ {D : List (List Int) × List (Int × Int)} (hd : D.1.length <= 1000) (hw : ∀ w ∈ D.1, w.length <= 1000) : YQ D = .ok (XW D.1):=by
  unfold YQ
  simp only [Rs.okb]
  rw [Zg (h:=λw=>(Jj w : Int)) (sz (by omega)) λw h=>by rw [ZL (hw w h), XA], Rs.okb]
  rfl
theorem Co {D : List (List Int) × List (Int × Int)} {x : Int} {i j : Nat} {w : List Int} (h : Spot D.1 x i j w) : VU D x = .ok ((i : Int), (j : Int)):=by
  unfold VU
  simp only [Rs.okb]
  rw [VQ (v:=((i : Int), (j : Int))) (B1 h.wi) (λk b hk hb=>?_) ?_]
  . rw [Rs.okb, KG]
  . rw [if_pos (decide_eq_true (List.mem_of_getElem? h.xj)), KS h.xj h.first]
    simp only [Rs.okb]
  . obtain ⟨_, h2⟩ := Vt hb
    rw [if_neg]
    rw [decide_eq_true_eq]
    exact h.none k b.2 hk h2
theorem Kc {ws : List (List Int)} {x : Int} {i j : Nat} {w : List Int} (hl : ws.length <= 1000) (h : Spot ws x i j w) : Qg ws x = .ok ((i : Int), (j : Int)):=by
  have hi:=(List.getElem?_eq_some_iff.mp h.wi).1
  unfold Qg
  simp only [Rs.okb]
  rw [Zw (by omega), Rs.okb]
  rw [VQ (v:=((i : Int), (j : Int))) (i:=i) (a:=(i : Int)) (by rw [List.getElem?_map, List.getElem?_range hi]; rfl) (λk b hk hb=>?_) ?_]
  . rw [Rs.okb, KG]
  . rw [YB h.wi]
    simp only [Rs.okb]
    rw [if_pos (decide_eq_true (List.mem_of_getElem? h.xj)), KS h.xj h.first]
    simp only [Rs.okb]
  . obtain ⟨rfl, hkl⟩ := Y2 hb
    have hks : ws[k]? = some ws[k]:=by simp [hkl]
    rw [YB hks]
    simp only [Rs.okb]
    rw [if_neg]
    rw [decide_eq_true_eq]
    exact h.none k _ hk hks
theorem G9 {D : List (List Int) × List (Int × Int)} (hw : ∀ w ∈ D.1, w.length <= 1000) : Qh D = .ok ((D.2.length : Int) + (Qk D.1 : Int)):=by
  unfold Qh
  simp only [Rs.okb]
  apply Ok.eq
  refine Ok.bind (Ok.forN (λi (g : Int)=>g = (D.2.length : Int) + (Qk (D.1.take i) : Int)) (by simp [Qk]) λi a g ha hg=>?_) λg hg=>?_
  . have hal := hw a (List.mem_of_getElem? ha)
    rw [VO (p:=λx=>decide (x < 0)) (h:=λx=>x) (sz (by omega)) (λ_ _=>rfl) λ_ _ _=>rfl, List.map_id']
    simp only [Rs.okb]
    have hz:=Fv ha
    have hnn : ((a.filter λx=>decide (x < 0)).length : Int) = (YY a : Int):=rfl
    rw [hnn]
    by_cases c : YY a = 0
    . rw [if_pos c] at hz
      rw [if_pos (decide_eq_true (by omega))]
      simp only [Rs.okb]
      exact ⟨_, rfl, by omega⟩
    . rw [if_neg c] at hz
      rw [if_neg (by rw [decide_eq_true_eq]; omega)]
      simp only [Rs.okb]
      exact ⟨_, rfl, by omega⟩
  . subst hg
    rw [List.take_length]
    exact ⟨_, rfl, rfl⟩
theorem MK (f : Int) (n : Nat) : (List.replicate n [f]).flatten = (List.range n).map λ_=>f:=by
  induction n with
  | zero=>rfl
  | succ n ih=>rw [List.replicate_succ, List.flatten_cons, ih, List.range_succ_eq_map, List.map_cons, List.map_map]; rfl
theorem DP {ws : List (List Int)} (hd : ws.length <= 1000) (hw : ∀ w ∈ ws, w.length <= 1000) : QJ ws = .ok (Y1 ws 0):=by
  unfold QJ
  simp only [Rs.okb]
  apply Ok.eq
  refine Ok.bind (Ok.forN (λi (g : Int × List (List Int))=>g = (XW (ws.take i), Y1 (ws.take i) 0)) rfl λi w g ha hg=>?_) λg hg=>?_
  . have hi := (List.getElem?_eq_some_iff.mp ha).1
    subst hg
    have hal:=hw w (List.mem_of_getElem? ha)
    generalize hf : XW (ws.take i) = f
    rw [Zw (by omega), Rs.okb]
    refine Ok.bind (Ok.forN (λk (l : Int)=>LastIs w k l) (LastIs.zero w) λk b l hb hl=>?_) λlast hlast=>?_
    . obtain ⟨rfl, hk⟩ := Y2 hb
      have hks : w[k]? = some w[k]:=by simp [hk]
      rw [YB hks]
      simp only [Rs.okb]
      by_cases c : w[k] < 0
      . rw [if_pos (decide_eq_true c), Rs.okb]
        exact ⟨_, rfl, LastIs.neg hks c⟩
      . rw [if_neg (by rw [decide_eq_true_eq]; exact c), Rs.okb]
        exact ⟨_, rfl, hl.pos hks c⟩
    rw [Ze] at hlast
    rw [XB (sz (by simp))]
    simp only [Rs.okb]
    rw [show max (w.length : Int) 1 = ((max w.length 1 : Nat) : Int) by omega]
    rw [show KF [f] ((max w.length 1 : Nat) : Int) = .ok ((List.range (max w.length 1)).map λ_=>f) from by
      unfold KF
      rw [XB ⟨by omega, by omega, sz (by simp; omega)⟩, Int.toNat_natCast, MK]]
    simp only [Rs.okb]
    have hlb : -1 <= last /\ last < (w.length : Int):=⟨hlast.lo, hlast.hi⟩
    rw [show last + 1 = (((last + 1).toNat : Nat) : Int) by omega, Zw (by omega), Rs.okb]
    refine Ok.bind (Ok.forN (λk (h : List Int × Int × Int)=>h.1 = ((List.range (max w.length 1)).map λj=>if j < k then f + (YY (w.take j) : Int) else f) /\ h.2.1 = f + (YY (w.take (min k last.toNat)) : Int) /\ h.2.2 = f + (YY (w.take (min k last.toNat)) : Int)) ⟨by simp, by simp [YY], by simp [YY]⟩ λk b h hb hh=>?_) λh hh=>?_
    . obtain ⟨rfl, hk⟩ := Y2 hb
      obtain ⟨h1, h2, h3⟩:=hh
      have hkl : k < w.length:=by omega
      have hks : w[k]? = some w[k]:=by simp [hkl]
      rw [Nat.min_eq_left (by omega)] at h2 h3
      rw [h1, JB (by simp; omega), Rs.okb, YB hks]
      simp only [Rs.okb, HK]
      have hset : (((List.range (max w.length 1)).map λj=>if j < k then f + (YY (w.take j) : Int) else f).set k h.2.2) = (List.range (max w.length 1)).map λj=>if j < k + 1 then f + (YY (w.take j) : Int) else f:=Jd (by omega) (by rw [if_pos (by omega), h3]) λj hj hne=>by
        by_cases c : j < k
        . rw [if_pos c, if_pos (by omega)]
        . rw [if_neg c, if_neg (by omega)]
      rw [hset]
      have hn:=Zo hks
      by_cases c : w[k] < 0 /\ (k : Int) < last
      . rw [if_pos (by rw [Bool.and_eq_true, decide_eq_true_eq, decide_eq_true_eq]; exact c), Rs.okb]
        rw [J3 c.1] at hn
        refine ⟨_, rfl, rfl, ?_, ?_⟩
        . show h.2.1 + 1 = _
          rw [Nat.min_eq_left (by omega), hn, h2]; omega
        . show h.2.1 + 1 = _
          rw [Nat.min_eq_left (by omega), hn, h2]; omega
      . rw [if_neg (by rw [Bool.and_eq_true, decide_eq_true_eq, decide_eq_true_eq]; exact c), Rs.okb]
        have hst : YY (w.take (min (k + 1) last.toNat)) = YY (w.take k):=by
          by_cases c2 : (k : Int) < last
          . have c3 : ¬ w[k] < 0 := λz => c ⟨z, c2⟩
            rw [Va c3] at hn
            rw [Nat.min_eq_left (by omega), hn, Nat.add_zero]
          . rw [Nat.min_eq_right (by omega), show last.toNat = k by omega]
        refine ⟨_, rfl, rfl, ?_, ?_⟩
        . show h.2.1 = _
          rw [hst, h2]
        . show h.2.2 = _
          rw [hst, h3]
    . rw [Ze] at hh
      obtain ⟨h1, h2, _⟩:=hh
      rw [XB (F4 (by rw [YU, List.length_take]; omega))]
      have hce:=Dz hlast
      rw [Nat.min_eq_right (by omega)] at h2
      refine ⟨_, rfl, ?_⟩
      rw [QU ha, Q3 ha, Int.zero_add, hf, h1, h2]
      have e1 : f + (YY (w.take last.toNat) : Int) + 1 = f + (Jj w : Int):=by omega
      have e2 : ((List.range (max w.length 1)).map λj=>if j < (last + 1).toNat then f + (YY (w.take j) : Int) else f) = Qq w f:=by
        unfold Qq
        refine List.map_congr_left λj _=>?_
        by_cases c : j < (last + 1).toNat
        . rw [if_pos c, Bh hlast (by omega)]
        . rw [if_neg c, BM hlast (by omega)]
      rw [e1, e2]
  . subst hg
    rw [List.take_length]
    exact ⟨_, rfl, rfl⟩
theorem GH : ∀ {ws : List (List Int)} {x : Int}, x ∈ ws.flatten -> ∃ i j w, Spot ws x i j w
  | [], x, h=>by simp at h
  | w :: ws, x, h=>by
    by_cases c : x ∈ w
    . obtain ⟨j, h1, h2⟩ := Fl c
      exact ⟨0, j, w, rfl, h1, h2, λi' w' hi _=>by omega⟩
    . have hx : x ∈ ws.flatten:=by
        rw [List.flatten_cons, List.mem_append] at h
        exact h.resolve_left c
      obtain ⟨i, j, v, s⟩:=GH hx
      refine ⟨i + 1, j, v, by simpa using s.wi, s.xj, s.first, λi' w' hi hw=>?_⟩
      cases i' with
      | zero=>
        have : w = w':=by simpa using hw
        exact this ▸ c
      | succ i'=>exact s.none i' w' (by omega) (by simpa using hw)
theorem Vs (ws : List (List Int)) : 0 <= XW ws:=by
  induction ws with
  | nil=>exact Int.le_refl _
  | cons w ws ih=>rw [Z6]; omega
theorem Bf {ws : List (List Int)} {i j : Nat} {w r : List Int} {o : Int} (hw : ws[i]? = some w) (hr : (Y1 ws 0)[i]? = some r) (ho : r[j]? = some o) : 0 <= o /\ o < XW ws:=by
  rw [V9 hw] at hr
  cases hr
  have hj:=(List.getElem?_eq_some_iff.mp ho).1
  rw [Ji] at hj
  rw [FK w _ hj] at ho
  have ho':=Option.some.inj ho
  have hp:=Fb w
  have m0:=Int.emod_nonneg (YY (w.take j) : Int) (show (Jj w : Int) ≠ 0 by omega)
  have m1:=Int.emod_lt_of_pos (YY (w.take j) : Int) (show (0 : Int) < (Jj w : Int) by omega)
  have t0:=Vs (ws.take i)
  have t1 : XW ws = XW (ws.take (i + 1)) + XW (ws.drop (i + 1)):=by rw [← Jl, List.take_append_drop]
  have t2:=Vs (ws.drop (i + 1))
  rw [Q3 hw] at t1
  omega
structure DG (D : List (List Int) × List (Int × Int)) : Prop where
  few : D.1.length <= 1000
  short : ∀ w ∈ D.1, w.length <= 1000
  le : D.2.length <= 1000
  mem : ∀ e ∈ D.2, e.1 ∈ D.1.flatten /\ -e.1 ∈ D.1.flatten
  sg : ∀ e ∈ D.2, e.2 = 1 ∨ e.2 = -1
  count : XW D.1 = (D.2.length : Int) + (Qk D.1 : Int)
noncomputable def MG (N : Int) (m : Int × Int × Int × Int × Int) : Prop:=(m.2.1 = 1 ∨ m.2.1 = -1) /\ (0 <= m.2.2.1 /\ m.2.2.1 < N) /\ (0 <= m.2.2.2.1 /\ m.2.2.2.1 < N) /\ (0 <= m.2.2.2.2 /\ m.2.2.2.2 < N)
theorem FW {D : List (List Int) × List (Int × Int)} (h : DG D) : ∃ ms, Qd D = .ok ms /\ ZH D = .ok ms /\ ms.length = D.2.length /\ ∀ m ∈ ms, MG (XW D.1) m:=by
  have key : ∀ e : Int × Int, ∃ v : Int × Int × Int × Int × Int, e ∈ D.2 -> ∃ (i j k l : Nat) (w w' r r' : List Int), Spot D.1 e.1 i j w /\ Spot D.1 (-e.1) k l w' /\ (Y1 D.1 0)[i]? = some r /\ r[j]? = some v.2.2.1 /\ (Y1 D.1 0)[k]? = some r' /\ r'.length = w'.length /\ 0 < w'.length /\ r'[l]? = some v.2.2.2.1 /\ r'[(l + 1) % w'.length]? = some v.2.2.2.2 /\ v.1 = e.1 /\ v.2.1 = e.2:=λe=>by
    by_cases he : e ∈ D.2
    . obtain ⟨i, j, w, s1⟩ := GH (h.mem e he).1
      obtain ⟨k, l, w', s2⟩:=GH (h.mem e he).2
      obtain ⟨r, hr, hrl, hj⟩:=s1.row
      obtain ⟨r', hr', hrl', hl⟩:=s2.row
      have hm : (l + 1) % w'.length < r'.length:=by rw [hrl']; exact Nat.mod_lt _ (by omega)
      exact ⟨(e.1, e.2, r[j], r'[l], r'[(l + 1) % w'.length]), λ_=>⟨i, j, k, l, w, w', r, r', s1, s2, hr, by simp, hr', hrl', by omega, by simp, by simp, rfl, rfl⟩⟩
    . exact ⟨(0, 0, 0, 0, 0), λz=>absurd z he⟩
  obtain ⟨v, hv⟩:=Classical.axiomOfChoice key
  refine ⟨D.2.map v, ?_, ?_, by simp, λm hm=>?_⟩
  . unfold Qd
    simp only [Rs.okb]
    rw [HH h.few h.short, XA]
    simp only [Rs.okb]
    rw [Z1 (h:=v) (sz (by have:=h.le; simp; omega)) λg hg e he=>?_]
    . rw [Rs.okb, List.nil_append]
    . obtain ⟨i, j, k, l, w, w', r, r', s1, s2, h1, h2, h3, h4, h5, h6, h7, h8, h9⟩ := hv e he
      have hm : ((l : Int) + 1) % (r'.length : Int) = (((l + 1) % w'.length : Nat) : Int):=by rw [h4, Int.natCast_emod]; rfl
      rw [Co s1, Co s2, XA, XA]
      simp only [Rs.okb]
      rw [YB h1, YB h3]
      simp only [Rs.okb]
      rw [YB h2, YB h6]
      simp only [Rs.okb]
      rw [Yg (by omega), hm]
      simp only [Rs.okb]
      rw [YB h7]
      simp only [Rs.okb]
      rw [XB hg]
      congr 2
      rw [← h8, ← h9]
  . unfold ZH
    simp only [Rs.okb]
    rw [DP h.few h.short, XA]
    simp only [Rs.okb]
    rw [Z1 (h:=v) (sz (by have:=h.le; simp; omega)) λg hg e he=>?_]
    . rw [Rs.okb, List.nil_append]
    . obtain ⟨i, j, k, l, w, w', r, r', s1, s2, h1, h2, h3, h4, h5, h6, h7, h8, h9⟩ := hv e he
      have hm : ((l : Int) + 1) % (w'.length : Int) = (((l + 1) % w'.length : Nat) : Int):=by rw [Int.natCast_emod]; rfl
      rw [Kc h.few s1, Kc h.few s2, XA, XA]
      simp only [Rs.okb]
      rw [YB s2.wi]
      simp only [Rs.okb]
      rw [Yg (by omega), hm]
      simp only [Rs.okb]
      rw [YB h1, YB h3]
      simp only [Rs.okb]
      rw [YB h2, YB h6]
      simp only [Rs.okb]
      rw [YB h7]
      simp only [Rs.okb]
      rw [XB hg]
      congr 2
      rw [← h8, ← h9]
  . obtain ⟨e, he, rfl⟩ := List.mem_map.mp hm
    obtain ⟨i, j, k, l, w, w', r, r', s1, s2, h1, h2, h3, h4, h5, h6, h7, h8, h9⟩:=hv e he
    exact ⟨by rw [h9]; exact h.sg e he, Bf s1.wi h1 h2, Bf s2.wi h3 h6, Bf s2.wi h3 h7⟩
theorem DG.of {most : Nat} {D : List (List Int) × List (Int × Int)} (h : Drawn most D) (hm : most <= 100) : DG D where
  few:=by have:=h.few; omega
  short:=λw hw=>by
    have h1:=h.perm.length_eq
    rw [QB, List.length_map] at h1
    have h2:=(List.sublist_flatten_of_mem hw).length_le
    have:=h.le
    omega
  le:=by have:=h.le; omega
  mem:=λe he=>by
    have hm : e.1 ∈ D.2.map Prod.fst:=List.mem_map.mpr ⟨e, he, rfl⟩
    exact ⟨h.perm.mem_iff.mpr (List.mem_flatMap.mpr ⟨_, hm, by simp⟩), h.perm.mem_iff.mpr (List.mem_flatMap.mpr ⟨_, hm, by simp⟩)⟩
  sg:=λe he=>(h.pos e he).2.2
  count:=by
    rw [JJ, Dq h.perm, Cy λx hx=>?_, List.length_map]
    obtain ⟨e, he, rfl⟩:=List.mem_map.mp hx
    exact (h.pos e he).1
theorem BR (ws : List (List Int)) : Qk ws <= ws.length:=by
  unfold Qk
  exact List.length_filter_le ..
theorem Ke (l : List Int) : YN l = .ok true:=by
  unfold YN
  simp only [Rs.okb]
  rw [if_neg (by decide), Z7]
  . rfl
  intro a _
  rfl
theorem HZ {D : List (List Int) × List (Int × Int)} (h : D.1.length <= 1000) : Uo D = .ok D:=by
  unfold Uo
  simp only [Rs.okb]
  rw [Zg (h:=λa=>a) (sz (by omega)) λ_ _=>rfl, List.map_id', Rs.okb]
noncomputable def Zb (m : Int × Int × Int × Int × Int) : Int × Int × Int:=if m.2.1 = 1 then (m.2.2.2.1, m.2.2.1, m.2.2.2.2) else (m.2.2.2.2, m.2.2.1, m.2.2.2.1)
theorem Hi {D : List (List Int) × List (Int × Int)} {ms : List (Int × Int × Int × Int × Int)} (h : Qd D = .ok ms) (hl : ms.length <= 1000) : Um D = .ok (ms.map Zb):=by
  unfold Um
  simp only [Rs.okb]
  rw [h, XA]
  simp only [Rs.okb]
  rw [Z1 (h:=Zb) (sz (by simp; omega)) λg hg e he=>?_]
  . rw [Rs.okb, List.nil_append]
  . unfold Zb
    by_cases s : e.2.1 = 1
    . rw [if_pos (decide_eq_true s), if_pos s]
      simp only [Rs.okb]
      exact XB hg
    . rw [if_neg (by rw [decide_eq_true_eq]; exact s), if_neg s]
      simp only [Rs.okb]
      exact XB hg
theorem EO {α : Type} {as : List α} {i : Int} (h0 : 0 <= i) (h : i < (as.length : Int)) : ∃ x, atR as i = .ok x /\ x ∈ as:=
  ⟨as[i.toNat]'(by omega), Yt (by omega) (by omega), List.getElem_mem _⟩
theorem C6 {γ ρ : Type} {c : γ -> Rs Bool} {f : γ -> Rs (Ctl ρ γ)} (P : γ -> Prop) (μ : γ -> Nat) (hs : ∀ g, P g -> ∃ b, c g = .ok b /\ (b = true -> ∃ g', f g = .ok (.nx g') /\ P g' /\ μ g' < μ g)) (n : Nat) : ∀ g : γ, P g -> μ g < n -> ∃ g', JO n g c f = .ok (.nx g'):=by
  induction n with
  | zero=>intro g _ h; omega
  | succ n ih=>
    intro g hp h
    obtain ⟨b, eb, hb⟩:=hs g hp
    rw [JO, eb, Rs.okb]
    cases b with
    | false=>exact ⟨g, rfl⟩
    | true=>
      obtain ⟨g', e, p', l⟩:=hb rfl
      rw [if_pos rfl, e, Rs.okb]
      exact ih g' p' (by omega)
noncomputable def UB (g : Int) : Bool:=(((Qw 2 317).filter λa=>decide (a * a <= g)).map λa=>decide (0 < g % a)).all id
theorem Im {a : Int} : a ∈ Qw 2 317 ↔ 2 <= a /\ a < 317:=by
  unfold Qw
  rw [List.mem_map]
  constructor
  . rintro ⟨i, hi, rfl⟩
    have:=List.mem_range.mp hi
    omega
  . rintro ⟨h1, h2⟩
    exact ⟨(a - 2).toNat, List.mem_range.mpr (by omega), by omega⟩
theorem CN {g : Int} (h : UB g = true) {a : Int} (h1 : 2 <= a) (h2 : a < 317) (h3 : a * a <= g) : 0 < g % a:=by
  unfold UB at h
  have:=List.all_eq_true.mp h _ (List.mem_map.mpr ⟨a, List.mem_filter.mpr ⟨Im.mpr ⟨h1, h2⟩, decide_eq_true h3⟩, rfl⟩)
  exact of_decide_eq_true this
noncomputable def PP (p : Int) : Prop:=2 <= p /\ p <= 99991 /\ UB p = true
theorem K8 {p : Int} (h : PP p) : ZA p = .ok true:=by
  obtain ⟨h1, h2, h3⟩:=h
  unfold ZA
  simp only [Rs.okb]
  rw [decide_eq_false (show ¬ p < 2 by omega), decide_eq_false (show ¬ 100000 < p by omega), show orR (Rs.ok false) (Rs.ok false) = .ok false from rfl, Rs.okb, if_neg (by decide)]
  obtain ⟨g, e⟩:=C6 (c:=λg10 : Int=>(Rs.bind (Z5 g10 g10) λx14=>Rs.ok (decide (x14 <= p)))) (f:=λg10 : Int=>Rs.bind (Rs.bind (Z0 p g10) λx18=>Rs.ok (decide (x18 = (0 : Int)))) λx20=>(if x20 = true then Rs.ok (Ctl.ret false) else ((λ(a23 : Int)=>Rs.ok (Ctl.nx a23)) (g10 + (1 : Int))))) (λg : Int=>2 <= g /\ g <= 317) (λg=>(p + 2 - g).toNat) (λg hg=>by
    obtain ⟨g2, g3⟩:=hg
    refine ⟨decide (g * g <= p), by rw [Yv (by omega) (by omega), Rs.okb], λc=>?_⟩
    have c : g * g <= p:=of_decide_eq_true c
    have c1 : g ≠ 317:=λz=>by subst z; omega
    have c2 : 2 * g <= g * g:=Int.mul_le_mul_of_nonneg_right g2 (by omega)
    have c3:=CN h3 g2 (by omega) c
    refine ⟨g + 1, ?_, ⟨by omega, by omega⟩, by omega⟩
    rw [Yg (by omega), Rs.okb, Rs.okb, decide_eq_false (by omega), if_neg (by decide)]) (p.natAbs + 2) 2 ⟨by decide, by decide⟩ (by omega)
  rw [e, Rs.okb, JW]
theorem UZ {x : Int} (h1 : 2 <= x) (h2 : x <= 99991) : Ok (Za x) PP:=by
  unfold Za
  simp only [Rs.okb]
  rw [show JX 2 317 = .ok (Qw 2 317) from XB (by decide)]
  simp only [Rs.okb]
  have hc : ∀ g : Int, ((Bp (Qw 2 317) (λa8=>Rs.bind (Z5 a8 a8) λx17=>Rs.ok (decide (x17 <= g))) (λa8=>Rs.bind (Z0 g a8) λx13=>Rs.ok (decide ((0 : Int) < x13)))).bind λx19=>Rs.ok (!x19.all id)) = .ok (!(UB g)):=λg=>by
    rw [VO (p:=λa=>decide (a * a <= g)) (h:=λa=>decide (0 < g % a)) (sz (by decide +kernel)) (λa ha=>?_) λa ha _=>?_]
    . rfl
    . have := Im.mp ha
      rw [Yv (by omega) (by omega), Rs.okb]
    . have := Im.mp ha
      rw [Yg (by omega), Rs.okb]
  refine Ok.bind (UA (λg : Int=>2 <= g /\ g <= 99991) (λg=>(99991 - g).toNat) (λg hg=>?_) 100000 x ⟨h1, h2⟩ (by omega)) λg hg=>⟨g, rfl, hg.1.1, hg.1.2, ?_⟩
  . refine ⟨!(UB g), ?_, λc => ⟨_, rfl, ?_⟩⟩
    . rw [← hc]
      simp only [XY, Rs.okb]
    . have : g ≠ 99991:=λz=>by
        subst z
        rw [show UB 99991 = true by decide +kernel] at c
        cases c
      show (2 <= g + 1 /\ g + 1 <= 99991) /\ (99991 - (g + 1)).toNat < (99991 - g).toNat
      omega
  . have e : (Rs.ok (!(UB g)) : Rs Bool) = .ok false:=by
      rw [← hc, ← hg.2]
      simp only [XY, Rs.okb]
    have e : (!(UB g)) = false:=by injection e
    simpa using e
theorem BP {r : List Int} (hl : 3 <= r.length) (v0 : (0 : Int) <= r[0] /\ r[0] < 14) (v1 : (0 : Int) <= r[1] /\ r[1] < 99990) (v2 : (0 : Int) <= r[2] /\ r[2] < 5) : Ok (Jq r) λa=>PP a.1 /\ ¬ a.2 % a.1 = 0:=by
  unfold Jq
  simp only [Rs.okb]
  rw [XB (sz (by decide)), Rs.okb, Yt (r:=r) (k:=0) (n:=0) rfl (by omega), Yt (r:=r) (k:=1) (n:=1) rfl (by omega), Yt (r:=r) (k:=2) (n:=2) rfl (by omega)]
  simp only [Rs.okb]
  obtain ⟨q, eq, hq⟩:=UZ (x:=(2 : Int) + r[1]) (by omega) (by omega)
  rw [eq, XA]
  simp only [Rs.okb]
  rw [XB (sz (by simp)), Rs.okb, show KF [q] 4 = .ok [q, q, q, q] from XB ⟨by decide, by decide, sz (by simp)⟩, Rs.okb, show G2 [2, 3, 5, 7, 11, 13, 23, 97, 65537, 99991] [q, q, q, q] = .ok [2, 3, 5, 7, 11, 13, 23, 97, 65537, 99991, q, q, q, q] from XB (sz (by simp)), Rs.okb]
  obtain ⟨p, ep, hp⟩:=EO (as:=[2, 3, 5, 7, 11, 13, 23, 97, 65537, 99991, q, q, q, q]) v0.1 v0.2
  have hp : PP p:=by
    have hd : ∀ x ∈ [(2 : Int), 3, 5, 7, 11, 13, 23, 97, 65537, 99991], 2 <= x /\ x <= 99991 /\ UB x = true:=by decide +kernel
    have hp : p ∈ [(2 : Int), 3, 5, 7, 11, 13, 23, 97, 65537, 99991] ++ [q, q, q, q]:=hp
    rcases List.mem_append.mp hp with h | h
    . exact hd p h
    . have : p = q := by simpa using h
      exact this ▸ hq
  rw [ep, Rs.okb, Ff (by decide) (by decide) (by decide) (by decide)]
  simp only [Rs.okb]
  obtain ⟨h1, h2, h3⟩:=hp
  rw [Yg (by omega), XB (sz (by simp))]
  simp only [Rs.okb]
  obtain ⟨z, ez, _⟩:=EO (as:=[0, 0, -3, 1, (10 : Int) ^ (50 : Int).toNat]) v2.1 v2.2
  rw [ez, Rs.okb, Yv (by omega) (by omega), Rs.okb, Rs.okb]
  refine ⟨_, rfl, ⟨h1, h2, h3⟩, ?_⟩
  show ¬ (1 + r[1] % max 1 (p - 1) + p * z) % p = 0
  have m0:=Int.emod_nonneg r[1] (show max 1 (p - 1) ≠ 0 by omega)
  have m1:=Int.emod_lt_of_pos r[1] (show 0 < max 1 (p - 1) by omega)
  rw [Int.add_mul_emod_self_left, Int.emod_eq_of_lt (by omega) (by omega)]
  omega
theorem Ju {K : Nat} {s : Int} {F : Nat -> Int} (h0 : 0 <= s) (h1 : s < (K : Int)) : atR ((List.range K).map F) s = .ok (F s.toNat):=by
  rw [Yt (n:=s.toNat) (by omega) (by simp; omega)]
  simp
theorem Ja {K : Nat} {s v : Int} {F : Nat -> Int} (h0 : 0 <= s) (h1 : s < (K : Int)) : QD ((List.range K).map F) s (F s.toNat + v) = .ok ((List.range K).map λi=>F i + if (i : Int) = s then v else 0):=by
  obtain ⟨k, rfl⟩ : ∃ k : Nat, s = k:=⟨s.toNat, by omega⟩
  rw [JB (by simp; omega), Int.toNat_natCast, Jd (G:=λi=>F i + if (i : Int) = (k : Int) then v else 0) (by omega) (by rw [if_pos rfl]) λj _ h=>?_]
  rw [if_neg (by omega), Int.add_zero]
theorem Fp {K : Nat} {s v : Int} {F : Nat -> Int} (h0 : 0 <= s) (h1 : s < (K : Int)) : QD ((List.range K).map F) s (F s.toNat - v) = .ok ((List.range K).map λi=>F i + if (i : Int) = s then -v else 0):=by
  rw [Int.sub_eq_add_neg]
  exact Ja h0 h1
theorem BE {K : Nat} {s u v : Int} {F : Nat -> Int} (h0 : 0 <= s) (h1 : s < (K : Int)) : QD ((List.range K).map F) s (F s.toNat + u - v) = .ok ((List.range K).map λi=>F i + if (i : Int) = s then u - v else 0):=by
  rw [Int.add_sub_assoc]
  exact Ja h0 h1
noncomputable def cfT (f : Int) (t : Int × Int × Int) (i : Nat) : Int:=0 + (if (i : Int) = t.1 then f else 0) + (if (i : Int) = t.2.1 then 1 - f else 0) + (if (i : Int) = t.2.2 then -1 else 0)
noncomputable def eqT (K : Nat) (p f : Int) (t : Int × Int × Int) : List Int:=(List.range K).map λi=>cfT f t i % p
section
variable {D : List (List Int) × List (Int × Int)} {K : Nat} {p f : Int} {ms : List (Int × Int × Int × Int × Int)}
theorem Mr (h : K <= 900) : KF [(0 : Int)] (K : Int) = .ok ((List.range K).map λ_=>0):=by
  unfold KF
  rw [XB ⟨by omega, by omega, sz (by simp; omega)⟩, Int.toNat_natCast, MK]
theorem EQ {N : Int} {m : Int × Int × Int × Int × Int} (h : MG N m) : (0 <= (Zb m).1 /\ (Zb m).1 < N) /\ (0 <= (Zb m).2.1 /\ (Zb m).2.1 < N) /\ (0 <= (Zb m).2.2 /\ (Zb m).2.2 < N):=by
  obtain ⟨_, h1, h2, h3⟩:=h
  unfold Zb
  by_cases c : m.2.1 = 1
  . rw [if_pos c]; exact ⟨h2, h1, h3⟩
  . rw [if_neg c]; exact ⟨h3, h1, h2⟩
theorem CS (hK : K <= 900) (hp : 0 < p) (t : Int × Int × Int) : J9 ((List.range K).map λi=>cfT f t i) (λa46=>Z0 a46 p) = .ok (eqT K p f t):=by
  rw [Zg (h:=λa=>a % p) (sz (by simp; omega)) λa _=>Yg hp, List.map_map]
  rfl
theorem KQ (h : DG D) (hK : XW D.1 = (K : Int)) (hK2 : K <= 900) (hp : PP p) (hf : ¬ f % p = 0) (e1 : Qd D = .ok ms) (hl : ms.length <= 1000) (hm : ∀ m ∈ ms, MG (K : Int) m) : Zl D p f = .ok ((ms.map Zb).map (eqT K p f)):=by
  have hp0 : 0 < p:=by have:=hp.1; omega
  unfold Zl
  simp only [Rs.okb]
  rw [show YD p f = .ok () from by
    unfold YD
    simp only [Rs.okb]
    rw [K8 hp, XA]
    simp only [Rs.okb]
    rw [if_neg (by decide), Yg hp0, Rs.okb, Rs.okb, decide_eq_false hf, if_neg (by decide)]]
  rw [XA, Rs.okb, JQ h.few h.short, hK, XA, Rs.okb, Hi e1 hl, XA, Rs.okb]
  rw [Z1 (h:=eqT K p f) (sz (by simp; omega)) λg hg t ht=>?_]
  . rw [Rs.okb, List.nil_append]
  . obtain ⟨m, hmm, rfl⟩ := List.mem_map.mp ht
    obtain ⟨a, b, c⟩:=EQ (hm m hmm)
    have hmod:=CS (f:=f) hK2 hp0 (Zb m)
    unfold cfT at hmod
    rw [XB (sz (by simp)), Rs.okb, Mr hK2, Rs.okb, Ju a.1 a.2, Rs.okb, Ja (F:=λ_=>0) a.1 a.2, Rs.okb, Ju b.1 b.2, Rs.okb, Ja (F:=λi=>0 + if (i : Int) = (Zb m).1 then f else 0) b.1 b.2, Rs.okb, Ju c.1 c.2, Rs.okb, Fp (F:=λi=>0 + (if (i : Int) = (Zb m).1 then f else 0) + if (i : Int) = (Zb m).2.1 then 1 - f else 0) c.1 c.2, Rs.okb, hmod, Rs.okb]
    exact XB hg
theorem VX (h : DG D) (hK : XW D.1 = (K : Int)) (hK2 : K <= 900) (hp : PP p) (e1 : ZH D = .ok ms) (hl : ms.length <= 1000) (hm : ∀ m ∈ ms, MG (K : Int) m) : Yx D p f = .ok ((ms.map Zb).map (eqT K p f)):=by
  have hp0 : 0 < p:=by have:=hp.1; omega
  unfold Yx
  simp only [Rs.okb]
  rw [e1, XA, Rs.okb, List.map_map, G9 h.short, ← h.count, hK]
  rw [Z1 (h:=(eqT K p f) ∘ Zb) (sz (by simp; omega)) λg hg m hmm=>?_]
  . rw [Rs.okb, List.nil_append]
  . have hs : (if decide (m.2.1 < 0) = true then Rs.ok (m.2.2.2.2, m.2.2.2.1) else Rs.ok (m.2.2.2.1, m.2.2.2.2)) = .ok ((Zb m).1, (Zb m).2.2):=by
      unfold Zb
      rcases (hm m hmm).1 with s | s
      . rw [if_neg (by rw [decide_eq_true_eq]; omega), if_pos s]
      . rw [if_pos (by rw [decide_eq_true_eq]; omega), if_neg (by omega)]
    have ho : m.2.2.1 = (Zb m).2.1:=by
      unfold Zb
      split <;> rfl
    obtain ⟨a, b, c⟩:=EQ (hm m hmm)
    have hmod:=CS (f:=f) hK2 hp0 (Zb m)
    unfold cfT at hmod
    rw [hs, ho, XA, XB (sz (by simp))]
    simp only [Rs.okb]
    rw [Mr hK2, Rs.okb, Ju a.1 a.2, Rs.okb, Rs.okb, Ja (F:=λ_=>0) a.1 a.2, Rs.okb, Ju b.1 b.2, Rs.okb, Rs.okb, Rs.okb, BE (F:=λi=>0 + if (i : Int) = (Zb m).1 then f else 0) b.1 b.2, Rs.okb, Ju c.1 c.2, Rs.okb, Rs.okb, Fp (F:=λi=>0 + (if (i : Int) = (Zb m).1 then f else 0) + if (i : Int) = (Zb m).2.1 then 1 - f else 0) c.1 c.2, Rs.okb, hmod, Rs.okb]
    exact XB hg
end
noncomputable def ch : Nat -> Nat -> Nat
  | _, 0=>1
  | 0, _ + 1=>0
  | n + 1, k + 1=>ch n k + ch n (k + 1)
theorem UW (n : Nat) : ch n 0 = 1:=by cases n <;> rfl
theorem Vm (n k : Nat) : ch (n + 1) (k + 1) = ch n k + ch n (k + 1):=rfl
theorem Eb : ∀ (n k : Nat), n < k -> ch n k = 0:=by
  intro n
  induction n with
  | zero=>intro k h; cases k with
    | zero=>omega
    | succ k=>rfl
  | succ n ih=>intro k h; cases k with
    | zero=>omega
    | succ k=>rw [Vm, ih k (by omega), ih (k + 1) (by omega)]
theorem HW (n : Nat) : ch n n = 1:=by
  induction n with
  | zero=>rfl
  | succ n ih=>rw [Vm, ih, Eb n (n + 1) (by omega)]
theorem DJ : ∀ (n k : Nat), (k + 1) * ch (n + 1) (k + 1) = (n + 1) * ch n k:=by
  intro n
  induction n with
  | zero=>
    intro k
    cases k with
    | zero=>rfl
    | succ k=>rw [Eb 1 (k + 2) (by omega), Eb 0 (k + 1) (by omega)]; omega
  | succ n ih=>
    intro k
    rw [Vm, Nat.mul_add, ih k]
    cases k with
    | zero=>rw [UW, UW]; omega
    | succ j=>
      rw [Nat.succ_mul (j + 1), ih j, Vm n j, Nat.mul_add (n + 1 + 1), Nat.succ_mul (n + 1), Nat.succ_mul (n + 1)]
      omega
noncomputable def Y6 (f : Nat -> Nat) : Nat -> Nat
  | 0=>0
  | n + 1=>Y6 f n + f n
theorem Jv (f : Nat -> Nat) (n : Nat) : Y6 f (n + 1) = f 0 + Y6 (λk=>f (k + 1)) n:=by
  induction n with
  | zero=>show 0 + f 0 = f 0 + 0; omega
  | succ n ih=>
    show Y6 f (n + 1) + f (n + 1) = f 0 + (Y6 (λk=>f (k + 1)) n + f (n + 1))
    rw [ih]; omega
theorem GO {f g : Nat -> Nat} : ∀ n, (∀ k, k < n -> f k = g k) -> Y6 f n = Y6 g n:=by
  intro n
  induction n with
  | zero=>intro _; rfl
  | succ n ih=>
    intro h
    show Y6 f n + f n = Y6 g n + g n
    rw [ih λk hk=>h k (by omega), h n (by omega)]
theorem Be (f g : Nat -> Nat) (n : Nat) : Y6 (λk=>f k + g k) n = Y6 f n + Y6 g n:=by
  induction n with
  | zero=>rfl
  | succ n ih=>
    show Y6 (λk=>f k + g k) n + (f n + g n) = Y6 f n + f n + (Y6 g n + g n)
    rw [ih]; omega
theorem CQ (c : Nat) (f : Nat -> Nat) (n : Nat) : Y6 (λk=>c * f k) n = c * Y6 f n:=by
  induction n with
  | zero=>rfl
  | succ n ih=>
    show Y6 (λk=>c * f k) n + c * f n = c * (Y6 f n + f n)
    rw [ih, Nat.mul_add]
theorem Mb (a n : Nat) : (a + 1) ^ n = Y6 (λk=>ch n k * a ^ k) (n + 1):=by
  induction n with
  | zero=>rfl
  | succ n ih=>
    have h1 : Y6 (λk=>ch n k * a ^ k) (n + 2) = Y6 (λk=>ch n k * a ^ k) (n + 1):=by
      show Y6 (λk=>ch n k * a ^ k) (n + 1) + ch n (n + 1) * a ^ (n + 1) = _
      rw [Eb n (n + 1) (by omega), Nat.zero_mul, Nat.add_zero]
    rw [Jv] at h1
    rw [Jv]
    have h2 : Y6 (λk=>ch (n + 1) (k + 1) * a ^ (k + 1)) (n + 1) = a * Y6 (λk=>ch n k * a ^ k) (n + 1) + Y6 (λk=>ch n (k + 1) * a ^ (k + 1)) (n + 1):=by
      rw [← CQ, ← Be]
      refine GO _ λk _=>?_
      rw [Vm, Nat.add_mul]
      congr 1
      rw [Nat.pow_succ, Nat.mul_comm (a ^ k) a, Nat.mul_left_comm]
    rw [h2, Nat.pow_succ, ih, Nat.mul_add, Nat.mul_one, Nat.mul_comm _ a]
    simp only [UW, Nat.pow_zero, Nat.mul_one] at h1 ⊢
    omega
noncomputable def IA (p : Nat) : Prop:=2 <= p /\ ∀ d, d ∣ p -> d = 1 ∨ d = p
theorem IA.cop {p : Nat} (h : IA p) {k : Nat} (hk : ¬ p ∣ k) : Nat.Coprime p k:=by
  rcases h.2 (Nat.gcd p k) (Nat.gcd_dvd_left p k) with e | e
  . exact e
  . exact absurd (e ▸ Nat.gcd_dvd_right p k) hk
theorem Lp {p : Nat} (h : IA p) {k : Nat} (h0 : 0 < k) (h1 : k < p) : p ∣ ch p k:=by
  obtain ⟨j, rfl⟩ : ∃ j, k = j + 1:=⟨k - 1, by omega⟩
  obtain ⟨q, rfl⟩ : ∃ q, p = q + 1:=⟨p - 1, by omega⟩
  have e:=DJ q j
  have hd : (q + 1) ∣ (j + 1) * ch (q + 1) (j + 1):=⟨_, e⟩
  exact (h.cop (λz=>by have:=Nat.le_of_dvd (by omega) z; omega)).dvd_of_dvd_mul_left hd
theorem Dd {p : Nat} {f : Nat -> Nat} : ∀ n, (∀ k, k < n -> p ∣ f k) -> p ∣ Y6 f n:=by
  intro n
  induction n with
  | zero=>intro _; exact Nat.dvd_zero p
  | succ n ih=>intro h; exact Nat.dvd_add (ih λk hk=>h k (by omega)) (h n (by omega))
theorem LV {p : Nat} (h : IA p) (a : Nat) : a ^ p % p = a % p:=by
  induction a with
  | zero=>rw [Nat.zero_pow (by have:=h.1; omega)]
  | succ a ih=>
    obtain ⟨q, rfl⟩ : ∃ q, p = q + 1:=⟨p - 1, by have:=h.1; omega⟩
    rw [Mb]
    have e : Y6 (λk=>ch (q + 1) k * a ^ k) (q + 1 + 1) = Y6 (λk=>ch (q + 1) (k + 1) * a ^ (k + 1)) q + (1 + a ^ (q + 1)):=by
      show Y6 (λk=>ch (q + 1) k * a ^ k) (q + 1) + ch (q + 1) (q + 1) * a ^ (q + 1) = _
      rw [Jv, UW, HW, Nat.pow_zero]; omega
    have hd : (q + 1) ∣ Y6 (λk=>ch (q + 1) (k + 1) * a ^ (k + 1)) q:=Dd q λk hk=>Nat.dvd_mul_right_of_dvd (Lp h (by omega) (by omega)) _
    obtain ⟨z, hz⟩:=hd
    rw [e, hz, Nat.mul_add_mod, Nat.add_mod, ih, ← Nat.add_mod, Nat.add_comm]
theorem Iq {p : Nat} (h : IA p) {a : Nat} (ha : ¬ p ∣ a) : (a * a ^ (p - 2)) % p = 1:=by
  obtain ⟨q, rfl⟩ : ∃ q, p = q + 2:=⟨p - 2, by have:=h.1; omega⟩
  show a * a ^ q % (q + 2) = 1
  have hf:=LV h a
  have hpos : 0 < a:=Nat.pos_of_ne_zero λz=>ha (by rw [z]; exact Nat.dvd_zero _)
  have h1 : 1 <= a ^ (q + 1):=Nat.one_le_pow _ _ hpos
  have e : a ^ (q + 2) = a * a ^ (q + 1):=by rw [Nat.pow_succ, Nat.mul_comm]
  have hle : a <= a ^ (q + 2):=by rw [e]; exact Nat.le_mul_of_pos_right a h1
  have hd : (q + 2) ∣ a ^ (q + 2) - a:=Nat.dvd_of_mod_eq_zero (Nat.sub_mod_eq_zero_of_mod_eq hf)
  have e2 : a ^ (q + 2) - a = a * (a ^ (q + 1) - 1):=by rw [e, Nat.mul_sub, Nat.mul_one]
  rw [e2] at hd
  have hd2:=(h.cop ha).dvd_of_dvd_mul_left hd
  have e3 : a * a ^ q = a ^ (q + 1):=by rw [Nat.pow_succ, Nat.mul_comm]
  rw [e3]
  obtain ⟨z, hz⟩:=hd2
  have : a ^ (q + 1) = 1 + (q + 2) * z:=by omega
  rw [this, Nat.add_mul_mod_self_left]
  exact Nat.mod_eq_of_lt (by omega)
noncomputable def Cg (p x y : Int) : Prop:=p ∣ x - y
section
variable {p x y z u v : Int}
theorem Cg.refl (p x : Int) : Cg p x x:=⟨0, by omega⟩
theorem Cg.of (h : x = y) : Cg p x y:=h ▸ Cg.refl p x
theorem Cg.symm (h : Cg p x y) : Cg p y x:=by
  obtain ⟨c, h⟩:=h
  exact ⟨-c, by rw [Int.mul_neg]; omega⟩
theorem Cg.trans (h : Cg p x y) (g : Cg p y z) : Cg p x z:=by
  obtain ⟨c, h⟩:=h
  obtain ⟨d, g⟩:=g
  exact ⟨c + d, by rw [Int.mul_add]; omega⟩
theorem Cg.add (h : Cg p x y) (g : Cg p u v) : Cg p (x + u) (y + v):=by
  obtain ⟨c, h⟩:=h
  obtain ⟨d, g⟩:=g
  exact ⟨c + d, by rw [Int.mul_add]; omega⟩
theorem Cg.mul (h : Cg p x y) (g : Cg p u v) : Cg p (x * u) (y * v):=by
  obtain ⟨c, h⟩:=h
  obtain ⟨d, g⟩:=g
  have e1 : x = y + p * c:=by omega
  have e2 : u = v + p * d:=by omega
  refine ⟨c * u + y * d, ?_⟩
  have : x * u = y * u + p * (c * u):=by rw [e1, Int.add_mul, Int.mul_assoc]
  rw [this, e2, Int.mul_add y, Int.mul_add p, Int.mul_left_comm y p d]
  omega
theorem Cg.emod (p x : Int) : Cg p (x % p) x:=⟨-(x / p), by rw [Int.emod_def, Int.mul_neg]; omega⟩
theorem Cg.pow (h : Cg p x y) (n : Nat) : Cg p (x ^ n) (y ^ n):=by
  induction n with
  | zero=>rw [Int.pow_zero, Int.pow_zero]; exact Cg.refl ..
  | succ n ih=>rw [Int.pow_succ, Int.pow_succ]; exact ih.mul h
theorem Cg.rest (h : Cg p x y) (h2 : 0 <= y /\ y < p) : x % p = y:=by
  have e : (x - y) % p = 0:=Int.emod_eq_zero_of_dvd h
  have e2 : x % p = y % p:=Int.emod_eq_emod_iff_emod_sub_eq_zero.mpr e
  rwa [Int.emod_eq_of_lt h2.1 h2.2] at e2
end
theorem EZ (s : Int) (h : Nat) : (s * s) ^ h = s ^ (2 * h):=by
  induction h with
  | zero=>rw [Nat.mul_zero, Int.pow_zero, Int.pow_zero]
  | succ h ih=>rw [Int.pow_succ, ih, show 2 * (h + 1) = 2 * h + 1 + 1 by omega, Int.pow_succ, Int.pow_succ, Int.mul_assoc]
theorem Ir {p : Int} (h : PP p) : IA p.toNat:=by
  obtain ⟨h1, h2, h3⟩:=h
  obtain ⟨n, rfl⟩ : ∃ n : Nat, p = n:=⟨p.toNat, by omega⟩
  rw [Int.toNat_natCast]
  have key : ∀ d e : Nat, n = d * e -> d <= e -> 2 <= d -> False:=λd e he hle hd=>by
    have hdd : d * d <= n:=by rw [he]; exact Nat.mul_le_mul_left d hle
    have h317 : d < 317:=by
      rcases Nat.lt_or_ge d 317 with h | h
      . exact h
      . have := Nat.mul_le_mul h h
        omega
    have hg:=CN h3 (a:=(d : Int)) (by omega) (by omega) (by
      have : ((d * d : Nat) : Int) <= (n : Int):=by omega
      rwa [Int.natCast_mul] at this)
    have : (n : Int) % (d : Int) = 0:=Int.emod_eq_zero_of_dvd ⟨(e : Int), by rw [he, Int.natCast_mul]⟩
    omega
  refine ⟨by omega, λd r9=>?_⟩
  obtain ⟨e, he⟩:=r9
  rcases Nat.le_total d e with hle | hle
  . rcases (by omega : d = 0 ∨ d = 1 ∨ 2 <= d) with hd | hd | hd
    . rw [hd, Nat.zero_mul] at he; omega
    . exact .inl hd
    . exact (key d e he hle hd).elim
  . rcases (by omega : e = 0 ∨ e = 1 ∨ 2 <= e) with hd | hd | hd
    . rw [hd, Nat.mul_zero] at he; omega
    . rw [hd, Nat.mul_one] at he; exact .inr he.symm
    . exact (key e d (by rw [he, Nat.mul_comm]) hle hd).elim
theorem Fu {γ : Type} {c : γ -> Rs Bool} {f : γ -> Rs γ} (P : γ -> Prop) (μ : γ -> Nat) (hs : ∀ g, P g -> c g = .ok (decide (0 < μ g)) /\ (0 < μ g -> Ok (f g) λg'=>P g' /\ μ g' = μ g / 2)) : ∀ (n : Nat) (g : γ), P g -> μ g < 2 ^ n -> Ok (Qp (n + 1) g c f) λg'=>P g' /\ μ g' = 0:=by
  intro n
  induction n with
  | zero=>
    intro g hp hl
    have h0 : μ g = 0:=by rw [Nat.pow_zero] at hl; omega
    rw [Qp, (hs g hp).1, h0]
    exact ⟨g, rfl, hp, h0⟩
  | succ n ih=>
    intro g hp hl
    rw [Qp, (hs g hp).1, Rs.okb]
    by_cases h : 0 < μ g
    . rw [if_pos (decide_eq_true h)]
      refine Ok.bind ((hs g hp).2 h) λg' hg=>ih g' hg.1 ?_
      rw [hg.2, Nat.div_lt_iff_lt_mul (by decide)]
      rw [Nat.pow_succ] at hl
      exact hl
    . rw [if_neg (by rw [decide_eq_true_eq]; exact h)]
      exact ⟨g, rfl, hp, by omega⟩
theorem Fs {p a : Int} (hp : PP p) (h0 : 0 < a) (h1 : a < p) : Ok (YG a p) λr=>0 <= r /\ r < p /\ Cg p (a * r) 1:=by
  obtain ⟨p1, p2, _⟩:=id hp
  unfold YG
  simp only [Rs.okb]
  refine Ok.bind (Fu (λg : Int × Int × Int=>(0 <= g.1 /\ g.1 < p) /\ (0 <= g.2.1 /\ g.2.1 <= 100000) /\ (0 <= g.2.2 /\ g.2.2 < p) /\ Cg p (g.2.2 * g.1 ^ g.2.1.toNat) (a ^ (p - 2).toNat)) (λg=>g.2.1.toNat) (λg hg=>?_) 99 (a, p - 2, 1) ⟨⟨by omega, h1⟩, ⟨by show 0 <= p - 2; omega, by show p - 2 <= 100000; omega⟩, ⟨by show (0 : Int) <= 1; decide, by show (1 : Int) < p; omega⟩, Cg.of (Int.one_mul _)⟩ (by show (p - 2).toNat < 2 ^ 99; omega)) λg hg=>⟨_, rfl, ?_⟩
  . obtain ⟨⟨a1, a2⟩, ⟨b1, b2⟩, ⟨c1, c2⟩, d⟩ := hg
    refine ⟨?_, λhl=>?_⟩
    . have : (0 < g.2.1) ↔ 0 < g.2.1.toNat := by omega
      simp only [this]
    . have hl : 0 < g.2.1.toNat := hl
      rw [Yg (by decide), Rs.okb, Rs.okb, Yv (a:=g.2.2) (by omega) (by omega), Yv (a:=g.1) (by omega) (by omega), Rs.okb, Yg (by omega), show L6 g.2.1 2 = .ok (g.2.1 / 2) from XB (by decide)]
      simp only [Rs.okb]
      have hm : ∀ w : Int, 0 <= w % p /\ w % p < p:=λw=>⟨Int.emod_nonneg _ (by omega), Int.emod_lt_of_pos _ (by omega)⟩
      have ht : (g.2.1 / 2).toNat = g.2.1.toNat / 2:=by omega
      by_cases hodd : g.2.1 % 2 = 1
      . rw [if_pos (decide_eq_true hodd), Yg (by omega)]
        simp only [Rs.okb]
        refine ⟨_, rfl, ⟨hm _, ⟨by show 0 <= g.2.1 / 2; omega, by show g.2.1 / 2 <= 100000; omega⟩, hm _, ?_⟩, ht⟩
        show Cg p (g.2.2 * g.1 % p * (g.1 * g.1 % p) ^ (g.2.1 / 2).toNat) _
        refine (((Cg.emod p _).mul ((Cg.emod p _).pow _)).trans (Cg.of ?_)).trans d
        rw [EZ, ht, Int.mul_assoc, Int.mul_comm g.1, ← Int.pow_succ]
        congr 2
        omega
      . rw [if_neg (by rw [decide_eq_true_eq]; exact hodd), Rs.okb, Yg (by omega), Rs.okb]
        refine ⟨(g.1 * g.1 % p, g.2.1 / 2, g.2.2), rfl, ⟨hm _, ⟨by show 0 <= g.2.1 / 2; omega, by show g.2.1 / 2 <= 100000; omega⟩, ⟨c1, c2⟩, ?_⟩, ht⟩
        show Cg p (g.2.2 * (g.1 * g.1 % p) ^ (g.2.1 / 2).toNat) _
        refine (((Cg.refl p _).mul ((Cg.emod p _).pow _)).trans (Cg.of ?_)).trans d
        rw [EZ, ht]
        congr 2
        omega
  . obtain ⟨⟨_, _, c, d⟩, hz⟩ := hg
    have hz : g.2.1.toNat = 0:=hz
    rw [hz, Int.pow_zero, Int.mul_one] at d
    refine ⟨c.1, c.2, ((Cg.refl p a).mul d).trans ?_⟩
    obtain ⟨n, rfl⟩ : ∃ n : Nat, a = n:=⟨a.toNat, by omega⟩
    obtain ⟨q, rfl⟩ : ∃ q : Nat, p = q:=⟨p.toNat, by omega⟩
    have hf:=Iq (Ir hp) (a:=n) (λz=>by rw [Int.toNat_natCast] at z; have:=Nat.le_of_dvd (by omega) z; omega)
    rw [Int.toNat_natCast] at hf
    have e : ((q : Int) - 2).toNat = q - 2:=by omega
    have h2:=Nat.div_add_mod (n * n ^ (q - 2)) q
    rw [hf] at h2
    refine ⟨((n * n ^ (q - 2) / q : Nat) : Int), ?_⟩
    rw [e, ← Int.natCast_pow, ← Int.natCast_mul, ← Int.natCast_mul]
    omega
noncomputable def Yw (M : Nat) (r : Nat -> Int) : List Int:=(List.range M).map r
theorem Zy (M : Nat) (r : Nat -> Int) : (Yw M r).length = M:=by simp [Yw]
theorem VL {M : Nat} {r : Nat -> Int} {j : Nat} (h : j < M) : atR (Yw M r) (j : Int) = .ok (r j):=YB (by simp [Yw, h])
theorem QK {M : Nat} {r q : Nat -> Int} (h : ∀ j, j < M -> r j = q j) : Yw M r = Yw M q:=List.map_congr_left λj hj=>h j (List.mem_range.mp hj)
noncomputable def tim (p s : Int) (r : Nat -> Int) (j : Nat) : Int:=s * r j % p
noncomputable def clr (p : Int) (a : Nat) (l r : Nat -> Int) (j : Nat) : Int:=(r j - r a * l j) % p
theorem Bz {M : Nat} {r : Nat -> Int} {s p : Int} (hM : M <= 1000) (h0 : 0 <= s) (h1 : s < 2 ^ 63) (hp : 0 < p) : Jk (Yw M r) s p = .ok (Yw M (tim p s r)):=by
  unfold Jk
  simp only [Rs.okb]
  rw [Zg (h:=λx=>s * x % p) (sz (by rw [Zy]; omega)) λx _=>by rw [Yv (by omega) (by omega), Rs.okb, Yg hp]]
  unfold Yw
  rw [List.map_map]
  rfl
theorem Uf {M a : Nat} {r l : Nat -> Int} {p : Int} (hM : M <= 1000) (ha : a < M) (h0 : 0 <= r a) (h1 : r a < 2 ^ 63) (hp : 0 < p) : Zu (Yw M r) (Yw M l) (a : Int) p = .ok (Yw M (clr p a l r)):=by
  unfold Zu
  simp only [Rs.okb]
  rw [VL ha]
  simp only [Rs.okb]
  rw [Zg (h:=λx : Int × Int=>(x.1 - r a * x.2) % p) (sz (by simp [Yw]; omega)) λx _=>by rw [Yv (by omega) (by omega), Rs.okb, Rs.okb, Yg hp]]
  unfold Yw
  rw [List.zip_map', List.map_map]
  rfl
noncomputable def VZ (N : Nat) (F : Nat -> Int) : Int:=((List.range N).map F).sum
theorem ZE (N : Nat) (F : Nat -> Int) : VZ (N + 1) F = VZ N F + F N:=by
  unfold VZ
  rw [List.range_succ, List.map_append, List.sum_append]
  simp
theorem Up {F G : Nat -> Int} (N : Nat) (h : ∀ i, i < N -> F i = G i) : VZ N F = VZ N G:=by
  unfold VZ
  rw [List.map_congr_left λi hi=>h i (List.mem_range.mp hi)]
theorem CF {p : Int} {F G : Nat -> Int} (N : Nat) (h : ∀ i, i < N -> Cg p (F i) (G i)) : Cg p (VZ N F) (VZ N G):=by
  induction N with
  | zero=>exact Cg.refl ..
  | succ N ih=>rw [ZE, ZE]; exact (ih λi hi=>h i (by omega)).add (h N (by omega))
theorem UN (N : Nat) (u v : Int) (F G : Nat -> Int) : VZ N (λi=>u * F i + v * G i) = u * VZ N F + v * VZ N G:=by
  induction N with
  | zero=>show (0 : Int) = u * 0 + v * 0; omega
  | succ N ih=>rw [ZE, ZE, ZE, ih, Int.mul_add, Int.mul_add]; omega
theorem KD (N : Nat) {F : Nat -> Int} (h : ∀ i, i < N -> F i = 0) : VZ N F = 0:=by
  induction N with
  | zero=>rfl
  | succ N ih=>rw [ZE, ih λi hi=>h i (by omega), h N (by omega)]; rfl
theorem Vj {N k : Nat} (F : Nat -> Int) (h : k < N) (hz : ∀ i, i < N -> i ≠ k -> F i = 0) : VZ N F = F k:=by
  induction N with
  | zero=>omega
  | succ N ih=>
    rw [ZE]
    by_cases e : k = N
    . subst e
      rw [KD _ λi hi=>hz i (by omega) (by omega)]; omega
    . rw [ih (by omega) λi hi=>hz i (by omega), hz N (by omega) (λz=>e z.symm)]; omega
section
variable {p : Int} {K N : Nat} {e : Nat -> Nat -> Int}
noncomputable def Lin (p : Int) (K N : Nat) (e : Nat -> Nat -> Int) (r : Nat -> Int) : Prop:=∀ j, j < K -> Cg p (r j) (VZ N λk=>r (K + k) * e k j)
noncomputable def Ran (p : Int) (M : Nat) (r : Nat -> Int) : Prop:=∀ j, j < M -> 0 <= r j /\ r j < p
noncomputable def Kil (p : Int) (K : Nat) (r c : Nat -> Int) : Prop:=Cg p (VZ K λj=>r j * c j) 0
theorem G4 {r l t : Nat -> Int} {u v : Int} (hr : Lin p K N e r) (hl : Lin p K N e l) (ht : ∀ j, j < K + N -> Cg p (t j) (u * r j + v * l j)) : Lin p K N e t:=λj hj=>by
  refine (ht j (by omega)).trans ((((Cg.refl p u).mul (hr j hj)).add ((Cg.refl p v).mul (hl j hj))).trans ?_)
  rw [← UN]
  refine CF N λk hk=>?_
  have:=((ht (K + k) (by omega)).mul (Cg.refl p (e k j))).symm
  rw [Int.add_mul, Int.mul_assoc, Int.mul_assoc] at this
  exact this
theorem BQ {r l t c : Nat -> Int} {u v : Int} (hr : Kil p K r c) (hl : Kil p K l c) (ht : ∀ j, j < K -> Cg p (t j) (u * r j + v * l j)) : Kil p K t c:=by
  unfold Kil at hr hl ⊢
  have h1 : Cg p (VZ K λj=>t j * c j) (VZ K λj=>u * (r j * c j) + v * (l j * c j)):=CF K λj hj=>by
    have:=(ht j hj).mul (Cg.refl p (c j))
    rw [Int.add_mul, Int.mul_assoc, Int.mul_assoc] at this
    exact this
  rw [UN] at h1
  refine h1.trans ((((Cg.refl p u).mul hr).add ((Cg.refl p v).mul hl)).trans (Cg.of ?_))
  omega
theorem I9 (s : Int) (r : Nat -> Int) (j : Nat) : Cg p (tim p s r j) (s * r j + 0 * r j):=by
  rw [Int.zero_mul, Int.add_zero]; exact Cg.emod ..
theorem EI (a : Nat) (l r : Nat -> Int) (j : Nat) : Cg p (clr p a l r j) (1 * r j + -(r a) * l j):=by
  rw [Int.one_mul, Int.neg_mul, ← Int.sub_eq_add_neg]; exact Cg.emod ..
structure GI (p : Int) (K N : Nat) (e : Nat -> Nat -> Int) (a : Nat) (ws : List (Nat -> Int)) (ts : List (Nat × (Nat -> Int))) : Prop where
  wl : ∀ r ∈ ws, Lin p K N e r /\ Ran p (K + N) r /\ ∀ j, j < a -> r j = 0
  tl : ∀ t ∈ ts, Lin p K N e t.2 /\ Ran p (K + N) t.2 /\ t.1 < a /\ t.2 t.1 = 1 /\ (∀ j, j < t.1 -> t.2 j = 0) /\ ∀ t' ∈ ts, t'.1 ≠ t.1 -> t.2 t'.1 = 0
  inc : (ts.map (·.1)).Pairwise (· < ·)
  sp : ∀ c : Nat -> Int, (∀ r ∈ ws, Kil p K r c) -> (∀ t ∈ ts, Kil p K t.2 c) -> ∀ k, k < N -> Kil p K (e k) c
theorem UQ (hp : 0 < p) (x : Int) : 0 <= x % p /\ x % p < p:=⟨Int.emod_nonneg _ (by omega), Int.emod_lt_of_pos _ hp⟩
theorem GI.skip {a : Nat} {ws : List (Nat -> Int)} {ts : List (Nat × (Nat -> Int))} (h : GI p K N e a ws ts) (hz : ∀ r ∈ ws, r a = 0) : GI p K N e (a + 1) ws ts where
  wl:=λr hr=>by
    obtain ⟨h1, h2, h3⟩:=h.wl r hr
    refine ⟨h1, h2, λj hj=>?_⟩
    rcases (by omega : j < a ∨ j = a) with q | q
    . exact h3 j q
    . rw [q]; exact hz r hr
  tl:=λt ht=>by
    obtain ⟨h1, h2, h3, h4, h5, h6⟩:=h.tl t ht
    exact ⟨h1, h2, by omega, h4, h5, h6⟩
  inc:=h.inc
  sp:=h.sp
theorem GI.step {a : Nat} {ws : List (Nat -> Int)} {ts : List (Nat × (Nat -> Int))} {l : Nat -> Int} {s : Int} (h : GI p K N e a ws ts) (hp : 1 < p) (ha : a < K) (hl : l ∈ ws) (hs : Cg p (l a * s) 1) : GI p K N e (a + 1) (ws.map (clr p a (tim p s l))) (ts.map (λt=>(t.1, clr p a (tim p s l) t.2)) ++ [(a, tim p s l)]):=by
  obtain ⟨l1, l2, l3⟩:=h.wl l hl
  have hpp : 0 < p:=by omega
  have L1 : Lin p K N e (tim p s l):=G4 l1 l1 λj _=>I9 s l j
  have L2 : Ran p (K + N) (tim p s l):=λj _=>UQ hpp _
  have L3 : ∀ j, j < a -> tim p s l j = 0:=λj hj=>by
    show s * l j % p = 0
    rw [l3 j hj, Int.mul_zero, Int.zero_emod]
  have L4 : tim p s l a = 1:=Cg.rest (by rw [Int.mul_comm]; exact hs) ⟨by decide, hp⟩
  generalize tim p s l = m at L1 L2 L3 L4
  have hclr : ∀ {r : Nat -> Int}, Lin p K N e r -> Lin p K N e (clr p a m r):=fun {r} hr=>G4 hr L1 λj _=>EI a m r j
  have hran : ∀ r : Nat -> Int, Ran p (K + N) (clr p a m r):=λr j _=>UQ hpp _
  have hat : ∀ r : Nat -> Int, clr p a m r a = 0:=λr=>by
    show (r a - r a * m a) % p = 0
    rw [L4, Int.mul_one, Int.sub_self, Int.zero_emod]
  have hlow : ∀ (r : Nat -> Int) j, j < a -> Ran p (K + N) r -> clr p a m r j = r j:=λr j hj hr=>by
    show (r j - r a * m j) % p = r j
    rw [L3 j hj, Int.mul_zero, Int.sub_zero]
    have:=hr j (by omega)
    exact Int.emod_eq_of_lt this.1 this.2
  refine ⟨λr hr=>?_, λt ht=>?_, ?_, λc hw ht=>?_⟩
  . obtain ⟨r, hr', rfl⟩ := List.mem_map.mp hr
    obtain ⟨h1, h2, h3⟩:=h.wl r hr'
    refine ⟨hclr h1, hran r, λj hj=>?_⟩
    rcases (by omega : j < a ∨ j = a) with q | q
    . rw [hlow r j q h2]; exact h3 j q
    . rw [q]; exact hat r
  . rcases List.mem_append.mp ht with ht | ht
    . obtain ⟨t, htt, rfl⟩ := List.mem_map.mp ht
      obtain ⟨h1, h2, h3, h4, h5, h6⟩:=h.tl t htt
      refine ⟨hclr h1, hran _, by show t.1 < a + 1; omega, ?_, λj hj=>?_, λt' ht' hne=>?_⟩
      . show clr p a m t.2 t.1 = 1
        rw [hlow _ _ h3 h2]; exact h4
      . have hj : j < t.1 := hj
        show clr p a m t.2 j = 0
        rw [hlow _ _ (by omega) h2]; exact h5 j hj
      . show clr p a m t.2 t'.1 = 0
        rcases List.mem_append.mp ht' with q | q
        . obtain ⟨t', q', rfl⟩ := List.mem_map.mp q
          show clr p a m t.2 t'.1 = 0
          rw [hlow _ _ (h.tl t' q').2.2.1 h2]
          exact h6 t' q' hne
        . rw [List.mem_singleton.mp q]; exact hat _
    . rw [List.mem_singleton.mp ht]
      refine ⟨L1, L2, by show a < a + 1; omega, L4, L3, λt' ht' hne=>?_⟩
      rcases List.mem_append.mp ht' with q | q
      . obtain ⟨t', q', rfl⟩ := List.mem_map.mp q
        exact L3 _ (h.tl t' q').2.2.1
      . rw [List.mem_singleton.mp q] at hne
        exact absurd rfl hne
  . rw [List.map_append, List.map_map]
    show (ts.map (·.1) ++ [a]).Pairwise (· < ·)
    rw [List.pairwise_append]
    refine ⟨h.inc, by simp, λx hx y hy=>?_⟩
    obtain ⟨t, ht, rfl⟩:=List.mem_map.mp hx
    rw [List.mem_singleton.mp hy]
    exact (h.tl t ht).2.2.1
  . have hm : Kil p K m c := ht (a, m) (List.mem_append_right _ (by simp))
    have back : ∀ r : Nat -> Int, Kil p K (clr p a m r) c -> Kil p K r c:=λr hr=>BQ hr hm λj _=>by
      have:=(EI (p:=p) a m r j).symm
      refine (Cg.of ?_).trans ((this.mul (Cg.refl p 1)).add (Cg.refl p (r a * m j))) |>.trans (Cg.of ?_)
      . rw [Int.mul_one, Int.neg_mul]; omega
      . rw [Int.mul_comm _ 1]
    exact h.sp c (λr hr=>back r (hw _ (List.mem_map.mpr ⟨r, hr, rfl⟩))) λt ht'=>back t.2 (ht (t.1, clr p a m t.2) (List.mem_append_left _ (List.mem_map.mpr ⟨t, ht', rfl⟩)))
noncomputable def QM (M : Nat) (t : Nat × (Nat -> Int)) : Int × List Int:=((t.1 : Int), Yw M t.2)
theorem LC (hp : PP p) {ws0 : List (Nat -> Int)} (hK : K <= 100) (hN : N <= 100) (hw : ws0.length <= 100) (h0 : GI p K N e 0 ws0 []) : Ok (Zz (ws0.map (Yw (K + N))) (K : Int) p) λtold=>∃ ws ts, told = ts.map (QM (K + N)) /\ GI p K N e K ws ts:=by
  obtain ⟨p1, p2, _⟩:=id hp
  unfold Zz
  simp only [Rs.okb]
  rw [Zw (by omega), Rs.okb]
  refine Ok.bind (Ok.forN (λa (g : List (List Int) × List (Int × List Int))=>∃ ws ts, g = (ws.map (Yw (K + N)), ts.map (QM (K + N))) /\ GI p K N e a ws ts /\ ws.length <= 100 /\ ts.length <= a) ⟨ws0, [], rfl, h0, hw, Nat.le_refl _⟩ λa x g hx hg=>?_) λg hg=>?_
  . obtain ⟨rfl, ha⟩ := Y2 hx
    obtain ⟨ws, ts, rfl, hI, hwl, htl⟩:=hg
    have hfil : Bp (ws.map (Yw (K + N))) (λa16=>(Rs.bind (atR a16 (a : Int)) λx21=>(Rs.ok (!decide (x21 = (0 : Int)))))) (λa16=>Rs.ok a16) = .ok ((ws.filter λr=>!decide (r a = 0)).map (Yw (K + N))):=by
      rw [VO (p:=λrow=>!decide (row.getD a 0 = 0)) (h:=λrow=>row) (sz (by simp; omega)) (λrow hrow=>?_) λ_ _ _=>rfl]
      . rw [List.map_id', List.filter_map]
        congr 2
        refine List.filter_congr λr _=>?_
        show (!decide ((Yw (K + N) r).getD a 0 = 0)) = _
        have : (Yw (K + N) r).getD a 0 = r a:=by simp [Yw, show a < K + N by omega]
        rw [this]
      . obtain ⟨r, hr, rfl⟩ := List.mem_map.mp hrow
        have : (Yw (K + N) r).getD a 0 = r a:=by simp [Yw, show a < K + N by omega]
        rw [VL (by omega), Rs.okb, this]
    rw [hfil, Rs.okb]
    cases hls : ws.filter λr=>!decide (r a = 0) with
    | nil=>
      rw [List.map_nil, if_neg (by decide), Rs.okb]
      refine ⟨_, rfl, ws, ts, rfl, hI.skip λr hr=>?_, hwl, by omega⟩
      have:=List.filter_eq_nil_iff.mp hls r hr
      simpa using this
    | cons l rest=>
      have hmem : l ∈ ws.filter λr=>!decide (r a = 0):=by rw [hls]; exact List.mem_cons_self
      obtain ⟨hl, hne⟩:=List.mem_filter.mp hmem
      have hne : l a ≠ 0:=by simpa using hne
      have hlr:=(hI.wl l hl).2.1 a (by omega)
      rw [if_pos (by simp), show atR ((l :: rest).map (Yw (K + N))) 0 = .ok (Yw (K + N) l) from YB (i:=0) rfl]
      simp only [Rs.okb]
      rw [VL (show a < K + N by omega), Rs.okb]
      obtain ⟨s, es, s0, s1, sc⟩:=Fs hp (a:=l a) (by omega) hlr.2
      rw [es, XA, Rs.okb, Bz (by omega) s0 (by omega) (by omega), XA, Rs.okb]
      rw [Zg (h:=λrow=>Yw (K + N) (clr p a (tim p s l) λj=>row.getD j 0)) (sz (by simp; omega)) λrow hrow=>?_, Rs.okb]
      . rw [Zg (h := λt : Int × List Int => (t.1, Yw (K + N) (clr p a (tim p s l) λj => t.2.getD j 0))) (sz (by simp; omega)) λt ht => ?_, Rs.okb]
        . rw [XB (sz (by simp)), Rs.okb, show ∀ l1 l2 : List (Int × List Int), l1.length + l2.length <= 1000 -> G2 l1 l2 = .ok (l1 ++ l2) from λl1 l2 h => XB (sz (by omega)), Rs.okb]
          . refine ⟨_, rfl, _, _, ?_, hI.step (by omega) ha hl sc, by simpa using hwl, by simp; omega⟩
            have hg : ∀ r : Nat -> Int, Yw (K + N) (clr p a (tim p s l) λj=>(Yw (K + N) r).getD j 0) = Yw (K + N) (clr p a (tim p s l) r):=λr=>QK λj hj=>by
              have q : ∀ j, j < K + N -> (Yw (K + N) r).getD j 0 = r j:=λj hj=>by simp [Yw, hj]
              show ((Yw (K + N) r).getD j 0 - (Yw (K + N) r).getD a 0 * _) % p = _
              rw [q j hj, q a (by omega)]
              rfl
            refine Prod.ext ?_ ?_
            . show (ws.map (Yw (K + N))).map _ = (ws.map _).map _
              rw [List.map_map, List.map_map]
              exact List.map_congr_left λr _=>hg r
            . show (ts.map (QM (K + N))).map _ ++ [((a : Int), Yw (K + N) (tim p s l))] = (ts.map _ ++ [(a, tim p s l)]).map _
              rw [List.map_append, List.map_map, List.map_map]
              congr 1
              refine List.map_congr_left λt _=>?_
              show ((t.1 : Int), _) = ((t.1 : Int), _)
              rw [← hg t.2]
              rfl
          . simp; omega
        . obtain ⟨t, htt, rfl⟩ := List.mem_map.mp ht
          have hr:=(hI.tl t htt).2.1 a (by omega)
          show ((noE (Zu (Yw (K + N) t.2) _ _ _)).bind _) = _
          rw [Uf (by omega) (by omega) hr.1 (by omega) (by omega), XA, Rs.okb]
          congr 2
          refine QK λj hj=>?_
          have q : ∀ j, j < K + N -> (QM (K + N) t).2.getD j 0 = t.2 j:=λj hj=>by simp [QM, Yw, hj]
          show _ = ((QM (K + N) t).2.getD j 0 - (QM (K + N) t).2.getD a 0 * _) % p
          rw [q j hj, q a (by omega)]
          rfl
      . obtain ⟨r, hrr, rfl⟩ := List.mem_map.mp hrow
        have hr:=(hI.wl r hrr).2.1 a (by omega)
        rw [Uf (by omega) (by omega) hr.1 (by omega) (by omega), XA]
        congr 1
        refine QK λj hj=>?_
        have q : ∀ j, j < K + N -> (Yw (K + N) r).getD j 0 = r j:=λj hj=>by simp [Yw, hj]
        show _ = ((Yw (K + N) r).getD j 0 - (Yw (K + N) r).getD a 0 * _) % p
        rw [q j hj, q a (by omega)]
        rfl
  . obtain ⟨ws, ts, rfl, hI, _, _⟩ := hg
    rw [Ze] at hI
    exact ⟨_, rfl, ws, ts, rfl, hI⟩
end
theorem FZ : ∀ {l m : List Int}, l.Pairwise (· < ·) -> m.Pairwise (· < ·) -> (∀ x, x ∈ l ↔ x ∈ m) -> l = m:=by
  intro l
  induction l with
  | nil=>
    intro m _ _ h
    cases m with
    | nil=>rfl
    | cons b m=>exact absurd ((h b).mpr List.mem_cons_self) (by simp)
  | cons a l ih=>
    intro m hl hm h
    cases m with
    | nil=>exact absurd ((h a).mp List.mem_cons_self) (by simp)
    | cons b m=>
      rw [List.pairwise_cons] at hl hm
      have e : a = b:=by
        have h1:=(h a).mp List.mem_cons_self
        have h2:=(h b).mpr List.mem_cons_self
        rcases List.mem_cons.mp h1 with q | q
        . exact q
        . rcases List.mem_cons.mp h2 with r | r
          . exact r.symm
          . have := hm.1 a q
            have:=hl.1 b r
            omega
      subst e
      rw [ih hl.2 hm.2 λx=>?_]
      constructor
      . intro hx
        rcases List.mem_cons.mp ((h x).mp (List.mem_cons_of_mem _ hx)) with q | q
        . have:=hl.1 x hx; omega
        . exact q
      . intro hx
        rcases List.mem_cons.mp ((h x).mpr (List.mem_cons_of_mem _ hx)) with q | q
        . have:=hm.1 x hx; omega
        . exact q
theorem Ct {α : Type} : ∀ {l acc : List (Int × α)}, ((acc ++ l).map (·.1)).Nodup -> FE acc l = acc ++ l:=by
  intro l
  induction l with
  | nil=>intro acc _; rw [List.append_nil]; rfl
  | cons x l ih=>
    intro acc h
    show FE (Vb acc x.1 x.2) l = _
    have hx : Vb acc x.1 x.2 = acc ++ [x]:=by
      unfold Vb
      rw [if_neg]
      rw [List.any_eq_true]
      rintro ⟨kv, h1, h2⟩
      rw [List.map_append, List.nodup_append] at h
      exact h.2.2 kv.1 (List.mem_map.mpr ⟨kv, h1, rfl⟩) x.1 (by simp) (by simpa using h2)
    rw [hx, ih (by simpa using h), List.append_assoc]
    rfl
theorem Bo {α : Type} (d : List (Int × α)) (x : Int) : (Zi d x).isSome = true ↔ x ∈ d.map (·.1):=by
  unfold Zi
  rw [Option.isSome_map, List.find?_isSome, List.mem_map]
  simp
theorem Di {n k : Nat} (hk : k < n) (hn : n <= 900) : JK (n : Int) (k : Int) = .ok (Yw n λj=>if j = k then 1 else 0):=by
  unfold JK
  simp only [Rs.okb]
  rw [XB (sz (by simp)), Rs.okb, Mr hn, Rs.okb, JB (by simp; omega), Rs.okb]
  congr 1
  exact Jd hk (by rw [if_pos rfl]) λj _ h=>by rw [if_neg h]
noncomputable def w0 (K : Nat) (e : Nat -> Nat -> Int) (k j : Nat) : Int:=if j < K then e k j else if j = K + k then 1 else 0
theorem Ix {K N : Nat} {e : Nat -> Nat -> Int} (hK : K <= 100) (hN : N <= 100) : YH ((List.range N).map λk=>Yw K (e k)) = .ok (((List.range N).map (w0 K e)).map (Yw (K + N))):=by
  unfold YH
  simp only [Rs.okb]
  have hlen : ((List.range N).map λk=>Yw K (e k)).length = N:=by simp
  rw [hlen]
  have hget : ∀ (i : Nat) (x : Int × List Int), (Jx ((List.range N).map λk=>Yw K (e k)))[i]? = some x -> i < N /\ x = ((i : Int), Yw K (e i)):=λi x hx=>by
    obtain ⟨h1, h2⟩:=Vt hx
    have hi:=(List.getElem?_eq_some_iff.mp h2).1
    rw [hlen] at hi
    rw [List.getElem?_map, List.getElem?_range hi] at h2
    exact ⟨hi, Prod.ext h1 (Option.some.inj h2).symm⟩
  have hel : (Jx ((List.range N).map λk=>Yw K (e k))).length = N:=by simp [Jx]
  rw [Zg (h:=λx : Int × List Int=>x.2 ++ Yw N λj=>if j = x.1.toNat then 1 else 0) (sz (by rw [hel]; omega)) λx hx=>?_]
  . congr 1
    rw [List.map_map]
    refine List.ext_getElem (by simp [hel]) λi h1 h2=>?_
    have hi : i < N:=by simpa using h2
    have hx:=hget i _ (List.getElem?_eq_getElem (show i < (Jx ((List.range N).map λk=>Yw K (e k))).length by rw [hel]; exact hi))
    rw [List.getElem_map, hx.2]
    simp only [List.getElem_map, List.getElem_range, Function.comp]
    unfold Yw
    rw [List.range_add, List.map_append, List.map_map]
    congr 1
    . exact List.map_congr_left λj hj=>by
        have:=List.mem_range.mp hj
        show e i j = w0 K e i j
        unfold w0
        rw [if_pos this]
    . refine List.map_congr_left λj hj => ?_
      show (if j = (i : Int).toNat then (1 : Int) else 0) = w0 K e i (K + j)
      have hw : w0 K e i (K + j) = if K + j = K + i then 1 else 0:=if_neg (by omega)
      rw [hw, Int.toNat_natCast]
      by_cases q : j = i
      . rw [if_pos q, if_pos (by omega)]
      . rw [if_neg q, if_neg (by omega)]
  . obtain ⟨i, hi⟩ := List.mem_iff_getElem?.mp hx
    obtain ⟨hN', rfl⟩:=hget i x hi
    rw [Di hN' (by omega), XA, Rs.okb]
    exact XB (sz (by rw [Zy, Zy]; omega))
theorem B5 {p : Int} {K N : Nat} {e : Nat -> Nat -> Int} (hp : 1 < p) (he : ∀ k, k < N -> Ran p K (e k)) : GI p K N e 0 ((List.range N).map (w0 K e)) []:=by
  have hlow : ∀ k j, j < K -> w0 K e k j = e k j:=λk j hj=>if_pos hj
  refine ⟨λr hr=>?_, λt ht=>(nomatch ht), List.Pairwise.nil, λc hw _ k hk=>?_⟩
  . obtain ⟨k, hk, rfl⟩ := List.mem_map.mp hr
    have hk:=List.mem_range.mp hk
    refine ⟨λj hj=>?_, λj hj=>?_, λj hj=>(by omega)⟩
    . rw [hlow k j hj, Vj (k := k) _ hk λi hi hne => ?_]
      . refine Cg.of ?_
        unfold w0
        rw [if_neg (by omega), if_pos rfl, Int.one_mul]
      . unfold w0
        rw [if_neg (by omega), if_neg (by omega), Int.zero_mul]
    . unfold w0
      by_cases q : j < K
      . rw [if_pos q]; exact he k hk j q
      . rw [if_neg q]
        split <;> omega
  . have := hw (w0 K e k) (List.mem_map.mpr ⟨k, List.mem_range.mpr hk, rfl⟩)
    unfold Kil at this ⊢
    rw [Up K λj hj=>by rw [← hlow k j hj]]
    exact this
section
variable {p : Int} {K N : Nat} {e : Nat -> Nat -> Int} {ws : List (Nat -> Int)} {ts : List (Nat × (Nat -> Int))}
theorem GI.nodup {a : Nat} (h : GI p K N e a ws ts) : ((ts.map (QM (K + N))).map (·.1)).Nodup:=by
  rw [List.map_map]
  have : ((·.1) ∘ QM (K + N)) = (λ(n : Nat)=>(n : Int)) ∘ (λt : Nat × (Nat -> Int)=>t.1):=rfl
  rw [this, ← List.map_map, List.Nodup, List.pairwise_map]
  exact h.inc.imp λh=>by omega
noncomputable def U5 (p : Int) (ts : List (Nat × (Nat -> Int))) (free j : Nat) : Int:=match ts.find? λt=>decide (t.1 = j) with
  | some t=>(-(t.2 free)) % p
  | none=>if j = free then 1 else 0
theorem KA (h : (ts.map (·.1)).Pairwise (· < ·)) {t : Nat × (Nat -> Int)} (ht : t ∈ ts) (free : Nat) : U5 p ts free t.1 = (-(t.2 free)) % p:=by
  unfold U5
  cases hf : ts.find? λt'=>decide (t'.1 = t.1) with
  | none=>
    have:=List.find?_eq_none.mp hf t ht
    simp at this
  | some t'=>
    have h1 : t'.1 = t.1:=by simpa using List.find?_some hf
    have h2:=List.mem_of_find?_eq_some hf
    have : t' = t:=by
      obtain ⟨i, hi, rfl⟩:=List.mem_iff_getElem.mp h2
      obtain ⟨k, hk, rfl⟩:=List.mem_iff_getElem.mp ht
      rw [List.pairwise_map] at h
      rcases Nat.lt_trichotomy i k with q | q | q
      . have:=List.pairwise_iff_getElem.mp h i k hi hk q; omega
      . subst q; rfl
      . have:=List.pairwise_iff_getElem.mp h k i hk hi q; omega
    rw [this]
theorem VM {j : Nat} (hj : ∀ t ∈ ts, t.1 ≠ j) (free : Nat) : U5 p ts free j = if j = free then 1 else 0:=by
  unfold U5
  rw [List.find?_eq_none.mpr λt ht=>by simpa using hj t ht]
theorem Ko (h : GI p K N e K ws ts) (hp : 0 < p) (hK : K <= 100) {free : Nat} (hf : free < K) : YE (free : Int) (ts.map (QM (K + N))) (K : Int) p = .ok (Yw K (U5 p ts free)):=by
  unfold YE
  simp only [Rs.okb]
  rw [Di hf (by omega), XA, Rs.okb]
  apply Ok.eq
  refine Ok.bind (Ok.forN (λi (g : List Int)=>∃ c : Nat -> Int, g = Yw K c /\ (∀ t ∈ ts.take i, c t.1 = (-(t.2 free)) % p) /\ ∀ j, (∀ t ∈ ts.take i, t.1 ≠ j) -> c j = if j = free then 1 else 0) ⟨_, rfl, λt ht=>absurd ht (by simp), λj _=>rfl⟩ λi x g hx hg=>?_) λg hg=>?_
  . obtain ⟨c, rfl, h1, h2⟩ := hg
    rw [List.getElem?_map] at hx
    obtain ⟨t, ht, rfl⟩:=Option.map_eq_some_iff.mp hx
    have hmem:=List.mem_of_getElem? ht
    have hi:=(List.getElem?_eq_some_iff.mp ht).1
    have ht1:=(h.tl t hmem).2.2.1
    show Ok (((((atR (Yw (K + N) t.2) (free : Int)).bind _).bind _)).bind λx18=>(QD _ ((t.1 : Nat) : Int) x18).bind _) _
    rw [VL (by omega), Rs.okb, Rs.okb, Yg hp, Rs.okb, JB (by rw [Zy]; exact ht1), Rs.okb]
    refine ⟨_, rfl, λj=>if j = t.1 then (-(t.2 free)) % p else c j, ?_, λt' ht'=>?_, λj hj=>?_⟩
    . exact Jd ht1 (by rw [if_pos rfl]) λj _ hj=>by rw [if_neg hj]
    . rw [List.take_add_one, ht, List.mem_append] at ht'
      rcases ht' with q | q
      . have hne : t'.1 ≠ t.1:=by
          obtain ⟨k, hk, rfl⟩:=List.mem_iff_getElem.mp q
          rw [List.length_take] at hk
          have hinc:=h.inc
          rw [List.pairwise_map] at hinc
          have:=List.pairwise_iff_getElem.mp hinc k i (by omega) hi (by omega)
          have e2 : ts[i] = t:=by rw [List.getElem?_eq_getElem hi] at ht; exact Option.some.inj ht
          rw [List.getElem_take]
          rw [e2] at this
          omega
        show (if t'.1 = t.1 then _ else c t'.1) = _
        rw [if_neg hne]; exact h1 t' q
      . have : t' = t := by simpa using q
        subst this
        exact if_pos rfl
    . rw [List.take_add_one, ht] at hj
      have q1 : t.1 ≠ j:=hj t (by simp)
      show (if j = t.1 then _ else c j) = _
      rw [if_neg (λz=>q1 z.symm)]
      exact h2 j λt' ht'=>hj t' (by simp [ht'])
  . obtain ⟨c, rfl, h1, h2⟩ := hg
    rw [List.length_map, List.take_length] at h1 h2
    refine ⟨_, rfl, QK λj hj=>?_⟩
    by_cases q : ∃ t ∈ ts, t.1 = j
    . obtain ⟨t, ht, rfl⟩ := q
      rw [h1 t ht, KA h.inc ht]
    . have q : ∀ t ∈ ts, t.1 ≠ j := λt ht z => q ⟨t, ht, z⟩
      rw [h2 j q, VM q]
noncomputable def isT (ts : List (Nat × (Nat -> Int))) (j : Nat) : Bool:=ts.any λt=>decide (t.1 = j)
theorem VA {j : Nat} : isT ts j = true ↔ ∃ t ∈ ts, t.1 = j:=by
  unfold isT
  rw [List.any_eq_true]
  simp
noncomputable def frs (K : Nat) (ts : List (Nat × (Nat -> Int))) : List Nat:=(List.range K).filter λj=>!(isT ts j)
theorem Dt {D : List (List Int) × List (Int × Int)} {f : Int} {ms : List (Int × Int × Int × Int × Int)} (h : DG D) (hA : XW D.1 = (K : Int)) (hK : K <= 100) (hp : PP p) (hf : ¬ f % p = 0) (e1 : Qd D = .ok ms) (hl : ms.length = N) (hN : N <= 100) (hm : ∀ m ∈ ms, MG (K : Int) m) (hE : (ms.map Zb).map (eqT K p f) = (List.range N).map λk=>Yw K (e k)) (he : ∀ k, k < N -> Ran p K (e k)) :
    ∃ ws ts, GI p K N e K ws ts /\ ZN D p f = .ok ((frs K ts).map (λ(j : Nat)=>(j : Int)), (frs K ts).map (λj=>Yw K (U5 p ts j)), ts.map λt=>((t.1 : Int), Yw N λk=>t.2 (K + k))):=by
  obtain ⟨p1, p2, _⟩:=id hp
  obtain ⟨told, et, ws, ts, rfl, hI⟩:=LC hp (e:=e) (ws0:=(List.range N).map (w0 K e)) hK hN (by simp; omega) (B5 (by omega) he)
  refine ⟨ws, ts, hI, ?_⟩
  have htl : ts.length <= 100:=by
    have h1 : (ts.map (·.1)).length <= (List.range K).length:=(List.nodup_iff_pairwise_ne.mpr (hI.inc.imp λh=>by omega)).length_le_of_subset λx hx=>by
      obtain ⟨t, ht, rfl⟩:=List.mem_map.mp hx
      exact List.mem_range.mpr (hI.tl t ht).2.2.1
    simp at h1
    omega
  unfold ZN
  simp only [Rs.okb]
  rw [JQ h.few h.short, hA, XA, Rs.okb, KQ h hA (by omega) hp hf e1 (by omega) hm, XA, Rs.okb, hE, Ix hK hN, XA, Rs.okb, et, XA, Rs.okb]
  rw [show FE [] (ts.map (QM (K + N))) = ts.map (QM (K + N)) from Ct (by rw [List.nil_append]; exact hI.nodup), Zw (by omega), Rs.okb]
  have hkey : ∀ j : Nat, (Zi (ts.map (QM (K + N))) (j : Int)).isSome = isT ts j:=λj=>by
    rw [Bool.eq_iff_iff, Bo, VA, List.map_map, List.mem_map]
    constructor
    . rintro ⟨t, ht, q⟩
      exact ⟨t, ht, by have q : ((t.1 : Nat) : Int) = (j : Int):=q; omega⟩
    . rintro ⟨t, ht, rfl⟩
      exact ⟨t, ht, rfl⟩
  rw [VO (p:=λx : Int=>!(isT ts x.toNat)) (h:=λx=>x) (sz (by simp; omega)) (λx hx=>?_) λ_ _ _=>rfl]
  . have e2 : (((List.range K).map λ(i : Nat)=>(i : Int)).filter λx : Int=>!(isT ts x.toNat)).map (λx=>x) = (frs K ts).map (λ(j : Nat)=>(j : Int)):=by
      rw [List.map_id', List.filter_map]
      congr 1
    rw [e2, Rs.okb]
    have hfl : (frs K ts).length <= 100:=by
      have:=List.length_filter_le (λj=>!(isT ts j)) (List.range K)
      unfold frs
      simp at this
      omega
    rw [Zg (h:=λx : Int=>Yw K (U5 p ts x.toNat)) (sz (by simp; omega)) λx hx=>?_, Rs.okb]
    . rw [Zg (h := λx : Int × List Int => (x.1, x.2.drop K)) (sz (by simp; omega)) λx hx => ?_, Rs.okb]
      . have q1 : ((frs K ts).map (λ(j : Nat)=>(j : Int))).map (λx : Int=>Yw K (U5 p ts x.toNat)) = (frs K ts).map (λj=>Yw K (U5 p ts j)):=by
          rw [List.map_map]
          exact List.map_congr_left λj _=>by
            show Yw K (U5 p ts ((j : Int)).toNat) = _
            rw [Int.toNat_natCast]
        have q2 : (ts.map (QM (K + N))).map (λx : Int × List Int=>(x.1, x.2.drop K)) = ts.map λt=>((t.1 : Int), Yw N λk=>t.2 (K + k)):=by
          rw [List.map_map]
          exact List.map_congr_left λt _=>by
            show ((t.1 : Int), (Yw (K + N) t.2).drop K) = _
            have : (Yw (K + N) t.2).drop K = Yw N λk=>t.2 (K + k):=by
              unfold Yw
              rw [List.range_add, List.map_append, List.drop_left' (by simp), List.map_map]
              rfl
            rw [this]
        rw [q1, q2]
      . obtain ⟨t, ht, rfl⟩ := List.mem_map.mp hx
        rw [show FD (QM (K + N) t).2 (some (K : Int)) none = (QM (K + N) t).2.drop K from BT _ (by show K <= (Yw (K + N) t.2).length; rw [Zy]; omega)]
    . obtain ⟨j, hj, rfl⟩ := List.mem_map.mp hx
      have:=List.mem_range.mp (List.mem_filter.mp hj).1
      rw [Ko hI (by omega) hK this, XA, Int.toNat_natCast]
  . obtain ⟨i, hi, rfl⟩ := ZZ hx
    rw [hkey, Int.toNat_natCast]
end
theorem B8 {K : Nat} {p f : Int} {L : List (Int × Int × Int)} : L.map (eqT K p f) = (List.range L.length).map λk=>Yw K λj=>cfT f (L.getD k (0, 0, 0)) j % p:=by
  refine List.ext_getElem (by simp) λi h1 h2=>?_
  have hi : i < L.length:=by simpa using h1
  simp [eqT, Yw, hi]
noncomputable def dot (l c : List Int) : Int:=((l.zip c).map λa=>a.1 * a.2).sum
theorem IK {l c : List Int} (hl : l.length <= 1000) (hc : c.length = l.length) (hb : ∀ x ∈ l, 0 <= x /\ x < 100000) : FC l c = .ok (dot l c):=by
  unfold FC
  simp only [Rs.okb]
  rw [Zw (by omega), Rs.okb, Zg (h:=λa : Int=>l.getD a.toNat 0 * c.getD a.toNat 0) (sz (by simp; omega)) λa ha=>?_, Rs.okb]
  . unfold dot
    congr 2
    refine List.ext_getElem (by simp; omega) λj h1 h2=>?_
    have h3 : j < l.length:=by simpa using h1
    simp [h3, hc]
  . obtain ⟨i, hi, rfl⟩ := ZZ ha
    have:=hb _ (List.getElem_mem hi)
    rw [Yt (r:=l) (n:=i) rfl hi, Rs.okb, Yt (r:=c) (n:=i) rfl (by omega), Rs.okb, Yv (by omega) (by omega)]
    simp [hi, hc]
section
variable {p : Int} {K N : Nat} {e : Nat -> Nat -> Int} {ws : List (Nat -> Int)} {ts : List (Nat × (Nat -> Int))}
theorem Ih (a b : Nat -> Int) : dot (Yw K a) (Yw K b) = VZ K λj=>a j * b j:=by
  unfold dot Yw VZ
  rw [List.zip_map', List.map_map]
  rfl
theorem Gr {j : Nat} : j ∈ frs K ts ↔ j < K /\ ∀ t ∈ ts, t.1 ≠ j:=by
  unfold frs
  rw [List.mem_filter, List.mem_range]
  constructor
  . rintro ⟨h1, h2⟩
    refine ⟨h1, λt ht z=>?_⟩
    rw [VA.mpr ⟨t, ht, z⟩] at h2
    cases h2
  . rintro ⟨h1, h2⟩
    refine ⟨h1, ?_⟩
    cases q : isT ts j with
    | false=>rfl
    | true=>
      obtain ⟨t, ht, z⟩:=VA.mp q
      exact absurd z (h2 t ht)
theorem B4 (hp : 1 < p) (free j : Nat) : 0 <= U5 p ts free j /\ U5 p ts free j < p:=by
  unfold U5
  cases ts.find? λt=>decide (t.1 = j) with
  | some t=>exact UQ (by omega) _
  | none=>
    show 0 <= (if j = free then (1 : Int) else 0) /\ (if j = free then (1 : Int) else 0) < p
    split <;> omega
theorem HN (h : GI p K N e K ws ts) {t : Nat × (Nat -> Int)} (ht : t ∈ ts) {free : Nat} (hf : free ∈ frs K ts) : Kil p K t.2 (U5 p ts free):=by
  obtain ⟨f1, f2⟩:=Gr.mp hf
  obtain ⟨h1, h2, h3, h4, h5, h6⟩:=h.tl t ht
  unfold Kil
  have e1 : (VZ K λj=>t.2 j * U5 p ts free j) = VZ K λj=>1 * (if j = free then t.2 free else 0) + 1 * (if j = t.1 then (-(t.2 free)) % p else 0):=Up K λj hj=>by
    by_cases q : ∃ t' ∈ ts, t'.1 = j
    . obtain ⟨t', ht', rfl⟩ := q
      rw [KA h.inc ht', if_neg (f2 t' ht')]
      by_cases q : t'.1 = t.1
      . rw [if_pos q, q, h4]
        have : t' = t:=by
          obtain ⟨i, hi, rfl⟩:=List.mem_iff_getElem.mp ht'
          obtain ⟨k, hk, rfl⟩:=List.mem_iff_getElem.mp ht
          have hinc:=h.inc
          rw [List.pairwise_map] at hinc
          rcases Nat.lt_trichotomy i k with z | z | z
          . have:=List.pairwise_iff_getElem.mp hinc i k hi hk z; omega
          . subst z; rfl
          . have:=List.pairwise_iff_getElem.mp hinc k i hk hi z; omega
        rw [this]; omega
      . rw [if_neg q, h6 t' ht' q]; omega
    . have q : ∀ t' ∈ ts, t'.1 ≠ j := λt' ht' z => q ⟨t', ht', z⟩
      rw [VM q, if_neg (show ¬ j = t.1 from λz=>q t ht z.symm)]
      by_cases z : j = free
      . rw [if_pos z, if_pos z, z]; omega
      . rw [if_neg z, if_neg z]; omega
  rw [e1, UN, Vj (k:=free) _ f1 λi _ hne=>if_neg hne, Vj (k:=t.1) _ h3 λi _ hne=>if_neg hne, if_pos rfl, if_pos rfl]
  refine ((Cg.refl p _).add ((Cg.refl p 1).mul (Cg.emod ..))).trans (Cg.of ?_)
  omega
theorem E5 (h : GI p K N e K ws ts) {c : Nat -> Int} (hc : ∀ t ∈ ts, Kil p K t.2 c) : ∀ k, k < N -> Kil p K (e k) c:=
  h.sp c (λr hr=>Cg.of (KD K λj hj=>by rw [(h.wl r hr).2.2 j hj, Int.zero_mul])) hc
end
variable {p : Int}
theorem BK {M : Nat} {r : Nat -> Int} (hr : ∀ j, j < M -> 0 <= r j /\ r j < p) : ZB (Yw M r) (M : Int) p = .ok true:=by
  unfold ZB
  simp only [Rs.okb]
  rw [Ke, XA, Rs.okb, Zy, decide_eq_true rfl, show orR (Rs.ok (!true)) (Rs.ok (!true)) = .ok false from rfl, Rs.okb, if_neg (by decide), Z7, Rs.okb, JW]
  intro x hx
  obtain ⟨j, hj, rfl⟩:=List.mem_map.mp hx
  have:=hr j (List.mem_range.mp hj)
  rw [if_pos (decide_eq_true this.1), decide_eq_true this.2]
  rfl
section
variable {p : Int} {K N : Nat} {e : Nat -> Nat -> Int} {ws : List (Nat -> Int)} {ts : List (Nat × (Nat -> Int))}
theorem Ii (h : GI p K N e K ws ts) : ts.length + (frs K ts).length = K:=by
  have h1 : (((List.range K).map λ(i : Nat)=>(i : Int)).filter λx=>isT ts x.toNat) = ts.map λt=>(t.1 : Int):=by
    refine FZ ?_ ?_ λx=>?_
    . refine List.Pairwise.filter _ ?_
      rw [List.pairwise_map]
      exact List.pairwise_lt_range.imp λh=>by omega
    . have := h.inc
      rw [List.pairwise_map] at this ⊢
      exact this.imp λh=>by omega
    . rw [List.mem_filter]
      constructor
      . rintro ⟨h1, h2⟩
        obtain ⟨j, hj, rfl⟩:=ZZ h1
        rw [Int.toNat_natCast] at h2
        obtain ⟨t, ht, rfl⟩:=VA.mp h2
        exact List.mem_map.mpr ⟨t, ht, rfl⟩
      . intro hx
        obtain ⟨t, ht, rfl⟩:=List.mem_map.mp hx
        exact ⟨List.mem_map.mpr ⟨t.1, List.mem_range.mpr (h.tl t ht).2.2.1, rfl⟩, by rw [Int.toNat_natCast]; exact VA.mpr ⟨t, ht, rfl⟩⟩
  have h2 : ((List.range K).filter λj=>isT ts j).length = ts.length:=by
    have:=congrArg List.length h1
    rw [List.filter_map, List.length_map, List.length_map] at this
    exact this
  have h3 : ∀ L : List Nat, (L.filter λj=>isT ts j).length + (L.filter λj=>!(isT ts j)).length = L.length:=by
    intro L
    induction L with
    | nil=>rfl
    | cons a L ih=>
      rw [List.filter_cons, List.filter_cons]
      cases isT ts a
      . rw [if_neg (by decide), if_pos (by decide), List.length_cons, List.length_cons]; omega
      . rw [if_pos (by decide), if_neg (by decide), List.length_cons, List.length_cons]; omega
  have h4:=h3 (List.range K)
  rw [h2, List.length_range] at h4
  exact h4
theorem Hq : (frs K ts).Pairwise (· < ·):=List.Pairwise.filter _ List.pairwise_lt_range
theorem LE : (frs K ts).Nodup:=List.Pairwise.filter _ List.nodup_range
theorem CB (hK : K <= 100) : Qf ((frs K ts).map λ(j : Nat)=>(j : Int)) (K : Int) = .ok true:=by
  have hfl : (frs K ts).length <= 100:=by
    have:=List.length_filter_le (λj=>!(isT ts j)) (List.range K)
    unfold frs
    simp at this
    omega
  unfold Qf
  simp only [Rs.okb]
  rw [Ke, XA, Rs.okb, Rs.okb, if_neg (by decide), List.length_map, Zw (n:=(frs K ts).length) (by omega), Rs.okb, Z7, Rs.okb, JW]
  intro x hx
  obtain ⟨i, hi, rfl⟩:=ZZ hx
  have hg : ∀ i (hi : i < (frs K ts).length), atR ((frs K ts).map λ(j : Nat)=>(j : Int)) (i : Int) = .ok (((frs K ts)[i] : Nat) : Int):=λi hi=>YB (by simp [hi])
  have hm:=(Gr.mp (List.getElem_mem hi)).1
  rw [hg i hi]
  simp only [Rs.okb]
  rw [if_pos (decide_eq_true (by omega)), decide_eq_true (by omega), Rs.okb, Rs.okb, if_neg (by decide)]
  by_cases q : 0 < i
  . have e1 : (i : Int) - 1 = ((i - 1 : Nat) : Int) := by omega
    have:=List.pairwise_iff_getElem.mp (Hq (K:=K) (ts:=ts)) (i - 1) i (by omega) hi (by omega)
    rw [e1, hg (i - 1) (by omega), Rs.okb, decide_eq_true (show (0 : Int) < (i : Int) by omega), decide_eq_false (by omega)]
    rfl
  . rw [decide_eq_false (show ¬ (0 : Int) < (i : Int) by omega)]
    rfl
theorem Ec (h : GI p K N e K ws ts) (hp : 1 < p) (hpb : p <= 100000) (hK : K <= 100) (he : ∀ k, k < N -> Ran p K (e k)) : Q0 ((frs K ts).map λ(j : Nat)=>(j : Int)) ((frs K ts).map λj=>Yw K (U5 p ts j)) ((List.range N).map λk=>Yw K (e k)) (K : Int) p = .ok true:=by
  have hfl : (frs K ts).length <= 100:=by
    have:=List.length_filter_le (λj=>!(isT ts j)) (List.range K)
    unfold frs
    simp at this
    omega
  unfold Q0
  simp only [Rs.okb, List.length_map, decide_true]
  rw [show orR (Rs.ok (!true)) (Rs.ok (!true)) = .ok false from rfl, Rs.okb, if_neg (by decide), Zw (n:=(frs K ts).length) (by omega), Rs.okb, Z7, Rs.okb, JW]
  intro x hx
  obtain ⟨k, hk, rfl⟩:=ZZ hx
  have hb : atR ((frs K ts).map λj=>Yw K (U5 p ts j)) (k : Int) = .ok (Yw K (U5 p ts (frs K ts)[k])):=YB (by simp [hk])
  rw [hb]
  simp only [Rs.okb]
  rw [BK λj _=>B4 hp _ j, XA, Rs.okb, Rs.okb, if_neg (by decide), Z7, Rs.okb, Kp, Z7, Rs.okb, Kp]
  . intro l hl
    obtain ⟨i, hi, rfl⟩:=List.mem_map.mp hl
    have hi:=List.mem_range.mp hi
    rw [IK (by rw [Zy]; omega) (by rw [Zy, Zy]) λx hx=>?_, XA, Rs.okb, Yg (by omega), Rs.okb]
    . have hkil := E5 h (λt ht => HN h ht (List.getElem_mem hk)) i hi
      unfold Kil Cg at hkil
      rw [Int.sub_zero] at hkil
      rw [Ih, Int.emod_eq_zero_of_dvd hkil]
      rfl
    . obtain ⟨j, hj, rfl⟩ := List.mem_map.mp hx
      have:=he i hi j (List.mem_range.mp hj)
      exact ⟨this.1, by omega⟩
  . intro y hy
    obtain ⟨n, hn, rfl⟩:=ZZ hy
    have hm:=Gr.mp (List.getElem_mem hn)
    rw [YB (as:=(frs K ts).map λ(j : Nat)=>(j : Int)) (i:=n) (a:=(((frs K ts)[n] : Nat) : Int)) (by simp [hn]), Rs.okb, VL hm.1, Rs.okb, VM hm.2]
    by_cases q : n = k
    . subst q
      rw [if_pos rfl, decide_eq_true (show (n : Int) = (n : Int) from rfl), if_pos rfl]
      rfl
    . rw [if_neg (λz => q ((List.getElem_inj LE).mp z)), decide_eq_false (show ¬ (n : Int) = (k : Int) by omega), if_neg Bool.false_ne_true]
      rfl
theorem Bv (hp : 1 < p) (hpb : p <= 100000) (L : List Int) : forN L (1 : Int) (λg37 _=>Z5 g37 p) = .ok (L.foldl (λg _=>g * p) 1):=Gf λg a _=>QR (by omega) (by omega)
theorem BY {D : List (List Int) × List (Int × Int)} {f : Int} (d : DG D) (hA : XW D.1 = (K : Int)) (hK : K <= 100) (hN : D.2.length <= 100) (hp : PP p) (hf : ¬ f % p = 0) : Ql D p f = .ok true:=by
  obtain ⟨p1, p2, _⟩:=id hp
  obtain ⟨ms, e1, e2, e3, e4⟩:=FW d
  rw [hA] at e4
  have hE:=B8 (K:=K) (p:=p) (f:=f) (L:=ms.map Zb)
  rw [List.length_map] at hE
  have he : ∀ k, k < ms.length -> Ran p K (λj=>cfT f ((ms.map Zb).getD k (0, 0, 0)) j % p):=λk _ j _=>UQ (by omega) _
  obtain ⟨ws, ts, hI, es⟩:=Dt (e:=λk j=>cfT f ((ms.map Zb).getD k (0, 0, 0)) j % p) d hA hK hp hf e1 rfl (by omega) e4 hE he
  have hlen:=Ii hI
  have hsm : Yb D p f = .ok (((frs K ts).map λ(j : Nat)=>(j : Int)).foldl (λg _=>g * p) 1):=by
    unfold Yb
    simp only [Rs.okb]
    rw [es, XA, Rs.okb, Rs.okb, Gf (h:=λg _=>g * p) λg a _=>by rw [QR (by omega) (by omega), Rs.okb], Rs.okb]
  have hcnt : Qh D = .ok (K : Int):=by rw [G9 d.short, ← d.count, hA]
  unfold Ql
  simp only [Rs.okb]
  rw [HZ d.few, XA, Rs.okb, es, XA, Rs.okb, decide_eq_true rfl, show orR (Rs.ok (!true)) (Rs.ok (!true)) = .ok false from rfl, Rs.okb, if_neg (by decide), decide_true, show orR (Rs.ok (!true)) (Rs.ok (!true)) = .ok false from rfl, Rs.okb, if_neg (by decide), hcnt, XA, Rs.okb]
  simp only []
  rw [Bv (by omega) (by omega), Rs.okb, hsm, XA, Rs.okb, decide_eq_true rfl, Rs.okb, if_neg (by decide), CB hK, XA, Rs.okb, List.length_map, List.length_map, decide_eq_true (by omega), show orR (Rs.ok (!true)) (Rs.ok (!true)) = .ok false from rfl, Rs.okb, if_neg (by decide)]
  rw [VX d hA (by omega) hp e2 (by omega) e4, XA, Rs.okb, hE, Ec hI (by omega) (by omega) hK he, XA, Rs.okb, Rs.okb, if_neg (by decide), XB (F4 (by omega)), XB (F4 (by omega))]
end
theorem DG.more {D : List (List Int) × List (Int × Int)} (h : DG D) {n : Nat} (hn : D.1.length + n <= 1000) : DG (D.1 ++ List.replicate n [], D.2) where
  few:=by rw [List.length_append, List.length_replicate]; exact hn
  short:=λw hw=>by
    rcases List.mem_append.mp hw with q | q
    . exact h.short w q
    . rw [(List.mem_replicate.mp q).2]; exact Nat.zero_le _
  le:=h.le
  mem:=λe he=>by
    show e.1 ∈ (D.1 ++ List.replicate n []).flatten /\ -e.1 ∈ (D.1 ++ List.replicate n []).flatten
    rw [List.flatten_append]
    exact ⟨List.mem_append_left _ (h.mem e he).1, List.mem_append_left _ (h.mem e he).2⟩
  sg:=h.sg
  count:=by
    show XW (D.1 ++ List.replicate n []) = (D.2.length : Int) + (Qk (D.1 ++ List.replicate n []) : Int)
    have h1 : ∀ m : Nat, XW (List.replicate m ([] : List Int)) = (m : Int):=by
      intro m
      induction m with
      | zero=>rfl
      | succ m ih=>rw [List.replicate_succ, Z6, ih]; show ((max 0 1 : Nat) : Int) + _ = _; omega
    have h2 : ∀ m : Nat, Qk (List.replicate m ([] : List Int)) = m:=by
      intro m
      unfold Qk
      rw [List.filter_eq_self.mpr λw hw=>?_, List.length_replicate]
      rw [(List.mem_replicate.mp hw).2]; rfl
    have h3 : Qk (D.1 ++ List.replicate n []) = Qk D.1 + Qk (List.replicate n ([] : List Int)):=by
      unfold Qk
      rw [List.filter_append, List.length_append]
    rw [Jl, h1, h3, h2, h.count]
    omega
theorem BG (ns : List Int) (_ : ns.length <= 63) : GP ns = .ok true:=by
  unfold GP
  simp only [Rs.okb]
  rw [XB (sz (by decide)), Rs.okb]
  obtain ⟨r, er, hrl, hr⟩:=EY ns (p:=1) (by decide) [14, 99990, 5, 8, 8, 9] (by decide) (by decide)
  have hrl : r.length = 6:=hrl
  have v:=hr 3 r[3] 8 (by simp) rfl
  have v5:=hr 5 r[5] 9 (by simp) rfl
  rw [er, XA, Rs.okb, XB (sz (by decide)), Rs.okb, Yt (r:=r) (k:=3) (n:=3) rfl (by omega), Rs.okb, Cl (by decide) (by decide), Rs.okb]
  obtain ⟨most, hmost, hat⟩ : ∃ most : Nat, most <= 40 /\ atR [(20 : Int), 40] (r[3] / 7) = .ok (most : Int):=by
    rcases (by omega : r[3] / 7 = 0 ∨ r[3] / 7 = 1) with h | h <;> rw [h]
    . exact ⟨20, by decide, rfl⟩
    . exact ⟨40, by decide, rfl⟩
  obtain ⟨D, eD, hD⟩:=B7 ns (p:=0) (by decide) (most:=most) (by omega)
  have d:=DG.of hD (by omega)
  obtain ⟨⟨p, f⟩, ep, hp, hf⟩:=BP (r:=r) (by omega) (hr 0 _ 14 (by simp) rfl) (hr 1 _ 99990 (by simp) rfl) (hr 2 _ 5 (by simp) rfl)
  have hp : PP p:=hp
  have hf : ¬ f % p = 0:=hf
  have hN:=hD.le
  have hfew:=hD.few
  have hend : ∀ G : List (List Int) × List (Int × Int), DG G -> G.1.length <= 12 -> G.2.length <= 40 -> Ql G p f = .ok true:=λG g g1 g2=>by
    obtain ⟨K, hK⟩ : ∃ K : Nat, XW G.1 = (K : Int):=⟨(XW G.1).toNat, by have:=Vs G.1; omega⟩
    have hK2 : K <= 52:=by
      have h1:=g.count
      have h4 : Qk G.1 <= G.1.length:=BR G.1
      omega
    exact BY g hK (by omega) (by omega) hp hf
  rw [hat, Rs.okb, eD, XA, Rs.okb, Yt (r:=r) (k:=4) (n:=4) rfl (by omega), Rs.okb, Yt (r:=r) (k:=5) (n:=5) rfl (by omega), Rs.okb, Rs.okb]
  have hG : ∃ G : List (List Int) × List (Int × Int), (if decide (r[4] = 0) = true then Rs.bind (Rs.bind (Rs.bind (Rs.bind (JX 0 r[5]) λx63=>J9 x63 λ_=>Rs.ok ([] : List Int)) λx47=>G2 D.1 x47) λx65=>Rs.ok (x65, D.2)) λa44=>Rs.ok a44 else Rs.ok D) = .ok G /\ Ql G p f = .ok true:=by
    by_cases c : r[4] = 0
    . rw [if_pos (decide_eq_true c)]
      obtain ⟨n, hn⟩ : ∃ n : Nat, r[5] = (n : Int):=⟨r[5].toNat, by omega⟩
      rw [hn] at v5 ⊢
      rw [Zw (by omega), Rs.okb, Zg (h:=λ_=>([] : List Int)) (sz (by simp; omega)) λ_ _=>rfl, Rs.okb]
      have e : ((List.range n).map λ(i : Nat)=>(i : Int)).map (λ_=>([] : List Int)) = List.replicate n []:=by
        rw [List.map_map]
        refine List.ext_getElem (by simp) λi _ _=>by simp
      rw [e, show G2 D.1 (List.replicate n []) = .ok (D.1 ++ List.replicate n []) from XB (sz (by simp; omega)), Rs.okb, Rs.okb]
      exact ⟨_, rfl, hend _ (d.more (by omega)) (by simp; omega) (by show D.2.length <= 40; omega)⟩
    . rw [if_neg (by rw [decide_eq_true_eq]; exact c)]
      exact ⟨_, rfl, hend _ d (by omega) (by omega)⟩
  obtain ⟨G, eG, hg⟩:=hG
  rw [eG, Rs.okb, ep, XA, Rs.okb]
  simp only []
  rw [hg, XA, Rs.okb, Rs.okb, if_neg (by decide), Rs.okb]
  cases decide (r[3] = 7) <;> rfl
noncomputable def top (i : Nat) : Stmt:=PySem.Challenge.pw_plait_k82_free_arcs.main.body.getD i (.Pass ⟨0, 0, 0, 0⟩)
noncomputable abbrev Da : Stmt:=top 6
noncomputable abbrev Dm : Stmt:=top 8
noncomputable abbrev Z9 : Stmt:=top 9
noncomputable abbrev Zn : Stmt:=top 10
noncomputable abbrev ZS : Stmt:=top 11
noncomputable abbrev GQ : Stmt:=top 12
noncomputable abbrev De : Stmt:=top 14
noncomputable abbrev ZV : Stmt:=top 17
noncomputable abbrev JE : Stmt:=top 18
noncomputable abbrev Qc : Stmt:=top 19
noncomputable abbrev QG : Stmt:=top 20
noncomputable abbrev Zp : Stmt:=top 21
noncomputable abbrev DX : Stmt:=top 22
noncomputable abbrev ZD : Stmt:=top 23
noncomputable abbrev U2 : Stmt:=top 24
noncomputable abbrev Q7 : Stmt:=top 25
noncomputable abbrev ZT : Stmt:=top 26
noncomputable abbrev ZW : Stmt:=top 27
noncomputable abbrev ZG : Stmt:=top 28
noncomputable abbrev Bj : Stmt:=top 30
noncomputable abbrev HI : Stmt:=top 31
noncomputable abbrev Io : Stmt:=top 32
noncomputable abbrev Gp : Stmt:=top 33
noncomputable abbrev BH : Stmt:=top 34
noncomputable abbrev Vd : Stmt:=top 35
noncomputable abbrev UY : Stmt:=top 36
noncomputable abbrev Fk : Stmt:=top 37
noncomputable abbrev JF : Stmt:=top 38
noncomputable abbrev QS : Stmt:=top 39
noncomputable abbrev UK : Stmt:=top 40
noncomputable abbrev UU : Stmt:=top 41
noncomputable abbrev VG : Stmt:=top 42
noncomputable abbrev UF : Stmt:=top 43
noncomputable abbrev ZM : Stmt:=top 44
noncomputable abbrev Gc : Stmt:=top 45
noncomputable abbrev Zx : Stmt:=top 46
noncomputable abbrev Es : Stmt:=top 47
noncomputable abbrev Jp : Stmt:=top 48
noncomputable abbrev UV : Stmt:=top 49
noncomputable abbrev K6 : Stmt:=top 50
noncomputable abbrev Gg : Stmt:=top 51
noncomputable abbrev V1 : Stmt:=top 52
structure Blt (mg : Str -> Option Value) : Prop where
  b_all : mg "all" = none
  b_bool : mg "bool" = none
  b_dict : mg "dict" = none
  b_enumerate : mg "enumerate" = none
  b_int : mg "int" = none
  b_isinstance : mg "isinstance" = none
  b_len : mg "len" = none
  b_list : mg "list" = none
  b_max : mg "max" = none
  b_min : mg "min" = none
  b_range : mg "range" = none
  b_sum : mg "sum" = none
  b_tuple : mg "tuple" = none
  b_zip : mg "zip" = none
  c_MOST_PRIME : ∃ u, mg "MOST_PRIME" = some u /\ Yl (.int 100000) u
section
variable {P : Program} {w : World} {K : PySem.W.Frag} {mg : Str -> Option Value} {base : Heap}
theorem Gd : FnScope ["drawing", "passage", "at", "walk"] ["drawing", "passage"] (Xi Da):=⟨rfl, rfl, rfl, by decide +kernel, rfl, by decide +kernel, by decide +kernel⟩
theorem E6 (D : Def K mg "spot" Da ["drawing", "passage"])  (Z : Blt mg) : Fn P w K mg base 1 "spot" ["drawing", "passage"] (sp2 (rP2 (rV (rV Xa)) (rV (rP2 Xa Xa))) Xa (oF (rP2 Xa Xa)) VU K):=by
  refine Yp D Gd (λvs H Q E h=>?_) (λf cdv A outer s H vs Q E hr h=>?_)
  . obtain ⟨v_0, v_1, a_0, a_1, b, rfl, _⟩:=h; rfl
  obtain ⟨v_0, v_1, a_0, a_1, b, rfl, h_0, h_1, hm, q⟩:=h
  have hu:=hu8 hr
  have hu1:=Ym hr
  refine ⟨_, (Xb (X9 PassesOwn.never rfl (Cr rfl Z.b_enumerate (XE (YM K rfl) (pv 0) Xh (λ_ _=>rfl))) (Z4 rfl (Xt (Xm (i:=2) Gd.nd rfl (Or.inl rfl)) (Xt (Xm (i:=3) Gd.nd rfl (Or.inl rfl)) YZ)))
      (Xb (YC (XH KM (pv 1) (pv 3) rfl)
        (Xb (Xz (Zs (Xd (pv 2) (Xd (ER (K:=K) rfl PySem.F.plainAttrs_list PySem.F.slot_list_index PySem.F.type_list_index (U6 K rfl) (pv 3) (Xd (pv 1) Xg)) Xg))))
        Xf)
        Xf)
      Xf))
    (Xb UD
    Xf)), ?_⟩
  refine Yq (S:=(SC.add (SC.add SC.nil K (rP2 (rV (rV Xa)) (rV (rP2 Xa Xa))) v_0 a_0) K Xa v_1 a_1)) (σ:=[some v_0, some v_1, none, none]) 0 ?_ (SC.i (SC.i SC.t h_0) h_1) hm q rfl
  unfold VU
  exact (JD (K:=K) (J:=({ oo:=λx3=>[], ss:=λx3=>[some v_0, some v_1, x3.1, x3.2], sc:=λg4 x3=>(SC.add (SC.add SC.nil K (rP2 (rV (rV Xa)) (rV (rP2 Xa Xa))) v_0 a_0) K Xa v_1 a_1) } : Jn (Unit) (Option V × Option V))) (λ_=>tg2 2 3) ((none), (none)) () (K0 (JH (Xl (r:=(rP2 (rV (rV Xa)) (rV (rP2 Xa Xa)))) 0 rfl (λ_ s=>s.l.r)))) rfl rfl (λ_ s=>s) (λg5 x6 a7 v8=>(ZU (Xs (K:=K) (ET (Xc (r:=Xa) 1 rfl (λ_ s=>s.l.l.r)) (Xc (r:=(rV Xa)) 3 rfl (λ_ s=>s.r)))) (Xy (EvS.ev (QE (Xl (r:=Xa) 2 rfl (λ_ s=>s.l.r)) (EvB.sh (Kb (Xc (r:=(rV Xa)) 3 rfl (λ_ s=>s.r)) (Xc (r:=Xa) 1 rfl (λ_ s=>s.l.l.r))))))) (Q8 (Xx (J:=_) ((some v8.1), (some v8.2)) () rfl rfl (λ_ s=>s.l.l))))) λg18 x19=>LO)
theorem Qz : FnScope ["walk", "unders"] ["walk"] (Xi Zn):=⟨rfl, rfl, rfl, by decide +kernel, rfl, by decide +kernel, by decide +kernel⟩
theorem Vq (D : Def K mg "arcs_of_walk" Zn ["walk"])  (Z : Blt mg) : Fn P w K mg base 1 "arcs_of_walk" ["walk"] (sp1 (rV Xa) (oF Xa) XO K):=by
  refine Yp D Qz (λvs H Q E h=>?_) (λf cdv A outer s H vs Q E hr h=>?_)
  . obtain ⟨v_0, a_0, b, rfl, _⟩:=h; rfl
  obtain ⟨v_0, a_0, b, rfl, h_0, hm, q⟩:=h
  have hu:=hu8 hr
  have hu1:=Ym hr
  refine ⟨_, (Xb (Jm 1 (Xi Zn) ["walk", "unders"] ["passage"] [] rfl Qz.nd rfl rfl (XI (K:=K) rfl (pv 0)) (Y0 (by decide)) (λcl C s H ex E=>⟨Xm (i:=0) (show List.Nodup (["passage"] : List Str) by decide +kernel) rfl (Or.inl rfl), (VB (XH JG (pv 0) Xh (XV _))), (pv 0)⟩))
    (Xb (Xz (Xr (Jc rfl) rfl Z.b_max PyProof.Rows.boot_max (Xd (Xr (Xn K rfl) rfl Z.b_len PySem.boot_len (Xd (pv 1) Xg)) (Xd Xh Xg))))
    Xf)), ?_⟩
  refine Yq (S:=(SC.add SC.nil K (rV Xa) v_0 a_0)) (σ:=[some v_0, none]) 0 ?_ (SC.i SC.t h_0) hm q rfl
  unfold XO
  exact (Xv (K:=K) (r:=(rV Xa)) 1 (Ev.sh (Jg (λ_=>tg1 0) (XF (Xl (r:=(rV Xa)) 0 rfl (λ_ s=>s.r))) (λC3 a4 v5=>(Xs (K:=K) (Qv (Xc (r:=Xa) 0 rfl (λ_ s=>s.r)) (Xe 0)))) (λC3 a4 v5=>(EvS.ev (Xl (r:=Xa) 0 rfl (λ_ s=>s.r)))))) λa1 v2=>(Xy (EvS.ev (EvB.sh (UH (X2 (Xc (r:=(rV Xa)) 1 rfl (λ_ s=>s.r))) (Xe 1))))))
theorem Ys : FnScope ["walk", "first", "number", "unders", "ways", "passage"] ["walk", "first"] (Xi ZS):=⟨rfl, rfl, rfl, by decide +kernel, rfl, by decide +kernel, by decide +kernel⟩
theorem Vv (D : Def K mg "arcs_of_ways" ZS ["walk", "first"]) (g_arcs_of_walk : Fn P w K mg base 1 "arcs_of_walk" ["walk"] (sp1 (rV Xa) (oF Xa) XO K)) (Z : Blt mg) : Fn P w K mg base 2 "arcs_of_ways" ["walk", "first"] (sp2 (rV Xa) Xa (oL (oF Xa)) YI K):=by
  refine Yp D Ys (λvs H Q E h=>?_) (λf cdv A outer s H vs Q E hr h=>?_)
  . obtain ⟨v_0, v_1, a_0, a_1, b, rfl, _⟩:=h; rfl
  obtain ⟨v_0, v_1, a_0, a_1, b, rfl, h_0, h_1, hm, q⟩:=h
  have hu:=hu8 hr
  have hu1:=Ym hr
  refine ⟨_, (Xb (Xo (i:=2) Ys.nd rfl (Or.inl rfl) (XX g_arcs_of_walk hr (by decide) (Xd (pv 0) Xg)))
    (Xb (Xo (i:=3) Ys.nd rfl (Or.inl rfl) Xh)
    (Xb (Xo (i:=4) Ys.nd rfl (Or.inl rfl) (X8 (Xd (pv 1) Xg)))
    (Xb (X9 PassesOwn.never rfl (XI (K:=K) rfl (UM (Ux K rfl) (pv 0) GL (K3 (V2 QN Xh)))) (Xm (i:=5) Ys.nd rfl (Or.inl rfl))
      (Xb (YC (XH JG (pv 5) Xh (XV _))
        (Xb (KN (i:=3) Ys.nd rfl (Or.inl rfl) Xh Kw)
        Xf)
        Xf)
      (Xb (Yh (ZJ PySem.F.plainAttrs_list PySem.F.slot_list_append PySem.F.type_list_append XU (pv 4) (Xd (Xp XZ (pv 1) (Xp Yf (pv 3) (pv 2))) Xg)))
      Xf)))
    (Xb (Xz (pv 4))
    Xf))))), ?_⟩
  refine Yq (S:=(SC.add (SC.add SC.nil K (rV Xa) v_0 a_0) K Xa v_1 a_1)) (σ:=[some v_0, some v_1, none, none, none, none]) 1 ?_ (SC.i (SC.i SC.t h_0) h_1) hm q rfl
  unfold YI
  exact (Xv (K:=K) (r:=Xa) 2 (EvB.sh (Ev.toB (X3 (Xc (r:=(rV Xa)) 0 rfl (λ_ s=>s.l.r))))) λa1 v2=>(Xv (K:=K) (r:=Xa) 3 (EvB.sh (Xe 0)) λa5 v6=>(XN (K:=K) (o:=(oL (oF Xa))) 4 0 (ZF (Xq (Xl (r:=Xa) 1 rfl (λ_ s=>s.l.l.r)) Y8)) (Nat.le_of_ble_eq_true rfl) λa7 v8 C9=>(YV (K:=K) (J:=({ oo:=λx18=>[x18.2.2.2], ss:=λx18=>[some v_0, some v_1, some v2, some x18.2.1, some x18.2.2.1, x18.1], sc:=λg19 x18=>(SC.addO (SC.add (SC.add (SC.add (SC.add SC.nil K (rV Xa) v_0 a_0) K Xa v_1 a_1) K Xa v2 a1) K Xa x18.2.1 g19.1) K (oL (oF Xa)) x18.2.2.1 g19.2 x18.2.2.2) } : Jn (Int × (List Int)) (Option V × V × V × List XG))) (λ_=>tg1 5) ((none), v6, v8, C9) (a5, a7) (XF (Ev.sh (GS (EvS.ls (Xl (r:=(rV Xa)) 0 rfl (λ_ s=>s.l.l.l.l.r))) UJ (UG (K:=K) (ZR (Xe 1)))))) rfl rfl (λ_ s=>s) (λg20 x21 a22 v23=>(Zf (J:=({ oo:=λx27=>[x21.2.2.2], ss:=λx27=>[some v_0, some v_1, some v2, some x27, some x21.2.2.1, some v23], sc:=λg28 x27=>(SC.add (SC.add (SC.addO (SC.add (SC.add (SC.add SC.nil K (rV Xa) v_0 a_0) K Xa v_1 a_1) K Xa v2 a1) K (oL (oF Xa)) x21.2.2.1 g20.2 x21.2.2.2) K Xa v23 a22) K Xa x27 g28) } : Jn (Int) (V))) (ZQ (Fd:=FNd ({ oo:=λx27=>[x21.2.2.2], ss:=λx27=>[some v_0, some v_1, some v2, some x27, some x21.2.2.1, some v23], sc:=λg28 x27=>(SC.add (SC.add (SC.addO (SC.add (SC.add (SC.add SC.nil K (rV Xa) v_0 a_0) K Xa v_1 a_1) K Xa v2 a1) K (oL (oF Xa)) x21.2.2.1 g20.2 x21.2.2.2) K Xa v23 a22) K Xa x27 g28) } : Jn (Int) (V))) (Xs (K:=K) (Qv (Xc (r:=Xa) 5 rfl (λ_ s=>s.r)) (Xe 0))) (Bd (K:=K) (f:=λa31=>(Rs.ok (a31))) 3 rfl (λ_ s=>s.l.l.r) (Xe 1) λa31 v30=>(Xx (J:=_) (v30) (a31) rfl rfl (λ_ s=>(SC.i (SC.i (SC.i s.l.l.l.l s.l.l.r) s.l.r) s.r)))) (Xx (J:=_) (x21.2.1) (g20.1) rfl rfl (λ_ s=>(SC.i (SC.i (SC.i s.l.l.l s.l.r) s.r) s.l.l.r)))) λg33 x32=>(Zr (K:=K) (o:=(oF Xa)) (f:=λa40=>(Rs.ok (g33, a40))) 4 0 rfl rfl rfl (λ_ s=>s.l.l.r) (EvS.ev (EvB.sh (XM (Xc (r:=Xa) 1 rfl (λ_ s=>s.l.l.l.l.r)) (XR (Xc (r:=Xa) 3 rfl (λ_ s=>s.r)) (Xc (r:=Xa) 2 rfl (λ_ s=>s.l.l.l.r)))))) λa38 C39=>(Xx (J:=_) ((some v23), x32, x21.2.2.1, C39) (g33, (g20.2 ++ [a38])) rfl rfl (λ_ s=>(SC.i (SC.i s.l.l.l.l s.l.r) s.r)))))) λg41 x42=>(Xy (Yk (o:=(oL (oF Xa))) 4 0 rfl rfl (λ_ s=>s.r)))))))
theorem Vl : FnScope ["drawing", "told", "first", "walk"] ["drawing"] (Xi Dm):=⟨rfl, rfl, rfl, by decide +kernel, rfl, by decide +kernel, by decide +kernel⟩
theorem Hx (D : Def K mg "arcs" Dm ["drawing"]) (g_arcs_of_walk : Fn P w K mg base 1 "arcs_of_walk" ["walk"] (sp1 (rV Xa) (oF Xa) XO K)) (g_arcs_of_ways : Fn P w K mg base 2 "arcs_of_ways" ["walk", "first"] (sp2 (rV Xa) Xa (oL (oF Xa)) YI K)) (Z : Blt mg) : Fn P w K mg base 3 "arcs" ["drawing"] (sp1 (rP2 (rV (rV Xa)) (rV (rP2 Xa Xa))) (oL (oL (oF Xa))) Ud K):=by
  refine Yp D Vl (λvs H Q E h=>?_) (λf cdv A outer s H vs Q E hr h=>?_)
  . obtain ⟨v_0, a_0, b, rfl, _⟩:=h; rfl
  obtain ⟨v_0, a_0, b, rfl, h_0, hm, q⟩:=h
  have hu:=hu8 hr
  have hu1:=Ym hr
  refine ⟨_, (Xb (Xo (i:=1) Vl.nd rfl (Or.inl rfl) (X8 Xg))
    (Xb (Xo (i:=2) Vl.nd rfl (Or.inl rfl) Xh)
    (Xb (X9 PassesOwn.never rfl (XI (K:=K) rfl (XE (YM K rfl) (pv 0) Xh (λ_ _=>rfl))) (Xm (i:=3) Vl.nd rfl (Or.inl rfl))
      (Xb (Yh (ZJ PySem.F.plainAttrs_list PySem.F.slot_list_append PySem.F.type_list_append XU (pv 1) (Xd (XX g_arcs_of_ways hr (by decide) (Xd (pv 3) (Xd (pv 2) Xg))) Xg)))
      (Xb (KN (i:=2) Vl.nd rfl (Or.inl rfl) (XX g_arcs_of_walk hr (by decide) (Xd (pv 3) Xg)) Kw)
      Xf)))
    (Xb (Xz (pv 1))
    Xf)))), ?_⟩
  refine Yq (S:=(SC.add SC.nil K (rP2 (rV (rV Xa)) (rV (rP2 Xa Xa))) v_0 a_0)) (σ:=[some v_0, none, none, none]) 1 ?_ (SC.i SC.t h_0) hm q rfl
  unfold Ud
  exact (XN (K:=K) (o:=(oL (oL (oF Xa)))) 1 0 (Qu (o:=(oL (oF Xa)))) (Nat.le_of_ble_eq_true rfl) λa1 v2 C3=>(Xv (K:=K) (r:=Xa) 2 (EvB.sh (Xe 0)) λa4 v5=>(YV (K:=K) (J:=({ oo:=λx7=>[x7.2.2.2], ss:=λx7=>[some v_0, some x7.2.2.1, some x7.2.1, x7.1], sc:=λg8 x7=>(SC.addO (SC.add (SC.add SC.nil K (rP2 (rV (rV Xa)) (rV (rP2 Xa Xa))) v_0 a_0) K Xa x7.2.1 g8.1) K (oL (oL (oF Xa))) x7.2.2.1 g8.2 x7.2.2.2) } : Jn (Int × (List (List Int))) (Option V × V × V × List XG))) (λ_=>tg1 3) ((none), v5, v2, C3) (a4, a1) (XF (JH (Xl (r:=(rP2 (rV (rV Xa)) (rV (rP2 Xa Xa)))) 0 rfl (λ_ s=>s.l.l.r)))) rfl rfl (λ_ s=>(SC.i (SC.i (SC.i SC.t s.l.l.r) s.r) s.l.r)) (λg9 x10 a11 v12=>(Zr (K:=K) (o:=(oL (oF Xa))) (f:=λa18=>(Rs.bind (Rs.bind (Rs.ok a11) λx20=>(noE (XO x20))) λx21=>((λ(a23 : Int)=>(Rs.ok (a23, a18))) (g9.1 + x21)))) 1 0 rfl rfl rfl (λ_ s=>s.l.r) (Yn (Xc (r:=(rV Xa)) 3 rfl (λ_ s=>s.r)) (Xc (r:=Xa) 2 rfl (λ_ s=>s.l.l.r))) λa16 C17=>(Bd (K:=K) (f:=λa23=>(Rs.ok (a23, (g9.2 ++ [a16])))) 2 rfl (λ_ s=>s.l.l.l.r) (Ev.toB (X3 (Xc (r:=(rV Xa)) 3 rfl (λ_ s=>s.l.r)))) λa23 v22=>(Xx (J:=_) ((some v12), v22, x10.2.2.1, C17) (a23, (g9.2 ++ [a16])) rfl rfl (λ_ s=>(SC.i (SC.i (SC.i SC.t s.l.l.l.l.l.r) s.r) s.l.r)))))) λg24 x25=>(Xy (Yk (o:=(oL (oL (oF Xa)))) 1 0 rfl rfl (λ_ s=>s.r))))))
theorem Kz : FnScope ["drawing"] ["drawing"] (Xi Z9):=⟨rfl, rfl, rfl, by decide +kernel, rfl, by decide +kernel, by decide +kernel⟩
theorem KK (D : Def K mg "arc_count" Z9 ["drawing"]) (g_arcs_of_walk : Fn P w K mg base 1 "arcs_of_walk" ["walk"] (sp1 (rV Xa) (oF Xa) XO K)) (Z : Blt mg) : Fn P w K mg base 2 "arc_count" ["drawing"] (sp1 (rP2 (rV (rV Xa)) (rV (rP2 Xa Xa))) (oF Xa) YQ K):=by
  refine Yp D Kz (λvs H Q E h=>?_) (λf cdv A outer s H vs Q E hr h=>?_)
  . obtain ⟨v_0, a_0, b, rfl, _⟩:=h; rfl
  obtain ⟨v_0, a_0, b, rfl, h_0, hm, q⟩:=h
  have hu:=hu8 hr
  have hu1:=Ym hr
  refine ⟨_, (Xb (Xz (Xr (Ky rfl) rfl Z.b_sum PyProof.Rows.boot_sum (Xd (YK (sc:=(Xi Z9)) (N0:=["drawing"]) (tns:=["walk"]) (caps:=[]) rfl (XI (K:=K) rfl (XE (YM K rfl) (pv 0) Xh (λ_ _=>rfl))) (Y0 (by decide)) (λcl C s H ex E=>⟨Xm (i:=0) (show List.Nodup (["walk"] : List Str) by decide +kernel) rfl (Or.inl rfl), Y7, (XX g_arcs_of_walk hr (by decide) (Xd (pv 0) Xg))⟩)) Xg)))
    Xf), ?_⟩
  refine Yq (S:=(SC.add SC.nil K (rP2 (rV (rV Xa)) (rV (rP2 Xa Xa))) v_0 a_0)) (σ:=[some v_0]) 0 ?_ (SC.i SC.t h_0) hm q rfl
  unfold YQ
  exact (Xy (EvS.ev (EvB.sh (CJ (Ev.toB (Y9 (λ_=>tg1 0) (XF (JH (Xl (r:=(rP2 (rV (rV Xa)) (rV (rP2 Xa Xa)))) 0 rfl (λ_ s=>s.r)))) (λC3 a4 v5=>(X3 (Xc (r:=(rV Xa)) 0 rfl (λ_ s=>s.r))))))))))
theorem Zh : FnScope ["drawing", "numbers", "told", "crossing", "sign", "above", "below", "over", "ways", "inward", "outward"] ["drawing"] (Xi GQ):=⟨rfl, rfl, rfl, by decide +kernel, rfl, by decide +kernel, by decide +kernel⟩
theorem Eo (D : Def K mg "meets" GQ ["drawing"]) (g_arcs : Fn P w K mg base 3 "arcs" ["drawing"] (sp1 (rP2 (rV (rV Xa)) (rV (rP2 Xa Xa))) (oL (oL (oF Xa))) Ud K)) (g_spot : Fn P w K mg base 1 "spot" ["drawing", "passage"] (sp2 (rP2 (rV (rV Xa)) (rV (rP2 Xa Xa))) Xa (oF (rP2 Xa Xa)) VU K)) (Z : Blt mg) : Fn P w K mg base 4 "meets" ["drawing"] (sp1 (rP2 (rV (rV Xa)) (rV (rP2 Xa Xa))) (oL (oF (rP5 Xa Xa Xa Xa Xa))) Qd K):=by
  refine Yp D Zh (λvs H Q E h=>?_) (λf cdv A outer s H vs Q E hr h=>?_)
  . obtain ⟨v_0, a_0, b, rfl, _⟩:=h; rfl
  obtain ⟨v_0, a_0, b, rfl, h_0, hm, q⟩:=h
  have hu:=hu8 hr
  have hu1:=Ym hr
  refine ⟨_, (Xb (Xo (i:=1) Zh.nd rfl (Or.inl rfl) (XX g_arcs hr (by decide) (Xd (pv 0) Xg)))
    (Xb (Xo (i:=2) Zh.nd rfl (Or.inl rfl) (X8 Xg))
    (Xb (X9 PassesOwn.never rfl (XI (K:=K) rfl (XE (YM K rfl) (pv 0) Xh (λ_ _=>rfl))) (Z4 rfl (Xt (Xm (i:=3) Zh.nd rfl (Or.inl rfl)) (Xt (Xm (i:=4) Zh.nd rfl (Or.inl rfl)) YZ)))
      (Xb (Xo (i:=5) Zh.nd rfl (Or.inl rfl) (XX g_spot hr (by decide) (Xd (pv 0) (Xd (pv 3) Xg))))
      (Xb (Xo (i:=6) Zh.nd rfl (Or.inl rfl) (XX g_spot hr (by decide) (Xd (pv 0) (Xd (V2 QN (pv 3)) Xg))))
      (Xb (Xo (i:=7) Zh.nd rfl (Or.inl rfl) (XE (Xk K rfl) (XE (Xk K rfl) (pv 1) (XE (YM K rfl) (pv 5) Xh (λ_ _=>rfl)) (λ_ _=>rfl)) (XE (YM K rfl) (pv 5) Xh (λ_ _=>rfl)) (λ_ _=>rfl)))
      (Xb (Xo (i:=8) Zh.nd rfl (Or.inl rfl) (XE (Xk K rfl) (pv 1) (XE (YM K rfl) (pv 6) Xh (λ_ _=>rfl)) (λ_ _=>rfl)))
      (Xb (Xo (i:=9) Zh.nd rfl (Or.inl rfl) (XE (Xk K rfl) (pv 8) (XE (YM K rfl) (pv 6) Xh (λ_ _=>rfl)) (λ_ _=>rfl)))
      (Xb (Xo (i:=10) Zh.nd rfl (Or.inl rfl) (XE (Xk K rfl) (pv 8) (Xp Yf (Xp XZ (XE (YM K rfl) (pv 6) Xh (λ_ _=>rfl)) Xh) (Xr (Xn K rfl) rfl Z.b_len PySem.boot_len (Xd (pv 8) Xg))) (λ_ _=>rfl)))
      (Xb (Yh (ZJ PySem.F.plainAttrs_list PySem.F.slot_list_append PySem.F.type_list_append XU (pv 2) (Xd (Zs (Xd (pv 3) (Xd (pv 4) (Xd (pv 7) (Xd (pv 9) (Xd (pv 10) Xg)))))) Xg)))
      Xf))))))))
    (Xb (Xz (pv 2))
    Xf)))), ?_⟩
  refine Yq (S:=(SC.add SC.nil K (rP2 (rV (rV Xa)) (rV (rP2 Xa Xa))) v_0 a_0)) (σ:=[some v_0, none, none, none, none, none, none, none, none, none, none]) 1 ?_ (SC.i SC.t h_0) hm q rfl
  unfold Qd
  exact (Xv (K:=K) (r:=(rV (rV Xa))) 1 (Ev.sh (X3 (Xc (r:=(rP2 (rV (rV Xa)) (rV (rP2 Xa Xa)))) 0 rfl (λ_ s=>s.r)))) λa1 v2=>(XN (K:=K) (o:=(oL (oF (rP5 Xa Xa Xa Xa Xa)))) 2 0 (Qu (o:=(oF (rP5 Xa Xa Xa Xa Xa)))) (Nat.le_of_ble_eq_true rfl) λa5 v6 C7=>(YV (K:=K) (J:=({ oo:=λx9=>[x9.2.2.2.2.2.2.2.2.2], ss:=λx9=>[some v_0, some v2, some x9.2.2.2.2.2.2.2.2.1, x9.1, x9.2.1, x9.2.2.1, x9.2.2.2.1, x9.2.2.2.2.1, x9.2.2.2.2.2.1, x9.2.2.2.2.2.2.1, x9.2.2.2.2.2.2.2.1], sc:=λg10 x9=>(SC.addO (SC.add (SC.add SC.nil K (rP2 (rV (rV Xa)) (rV (rP2 Xa Xa))) v_0 a_0) K (rV (rV Xa)) v2 a1) K (oL (oF (rP5 Xa Xa Xa Xa Xa))) x9.2.2.2.2.2.2.2.2.1 g10 x9.2.2.2.2.2.2.2.2.2) } : Jn ((List (Int × Int × Int × Int × Int))) (Option V × Option V × Option V × Option V × Option V × Option V × Option V × Option V × V × List XG))) (λ_=>tg2 3 4) ((none), (none), (none), (none), (none), (none), (none), (none), v6, C7) (a5) (XF (Cu (Xl (r:=(rP2 (rV (rV Xa)) (rV (rP2 Xa Xa)))) 0 rfl (λ_ s=>s.l.l.r)))) rfl rfl (λ_ s=>s) (λg11 x12 a13 v14=>(Xv (K:=K) (r:=(rP2 Xa Xa)) 5 (EvB.sh (Ev.toB (Yn (Xc (r:=(rP2 (rV (rV Xa)) (rV (rP2 Xa Xa)))) 0 rfl (λ_ s=>s.l.l.l.l.r)) (Xc (r:=Xa) 3 rfl (λ_ s=>s.l.r))))) λa15 v16=>(Xv (K:=K) (r:=(rP2 Xa Xa)) 6 (EvB.sh (Ev.toB (Yn (Xc (r:=(rP2 (rV (rV Xa)) (rV (rP2 Xa Xa)))) 0 rfl (λ_ s=>s.l.l.l.l.l.r)) (ZR (Xc (r:=Xa) 3 rfl (λ_ s=>s.l.l.r)))))) λa20 v21=>(Xv (K:=K) (r:=Xa) 7 (EvB.sh (Xu (Xu (Xc (r:=(rV (rV Xa))) 1 rfl (λ_ s=>s.l.l.l.l.l.r)) (Du (Xc (r:=(rP2 Xa Xa)) 5 rfl (λ_ s=>s.l.r)))) (Ve (Xc (r:=(rP2 Xa Xa)) 5 rfl (λ_ s=>s.l.r))))) λa26 v27=>(Xv (K:=K) (r:=(rV Xa)) 8 (IT (EvS.ls (Xl (r:=(rV (rV Xa))) 1 rfl (λ_ s=>s.l.l.l.l.l.l.r))) (Du (Xc (r:=(rP2 Xa Xa)) 6 rfl (λ_ s=>s.l.r)))) λa34 v35=>(Xv (K:=K) (r:=Xa) 9 (EvB.sh (Xu (Xc (r:=(rV Xa)) 8 rfl (λ_ s=>s.r)) (Ve (Xc (r:=(rP2 Xa Xa)) 6 rfl (λ_ s=>s.l.l.r))))) λa39 v40=>(Xv (K:=K) (r:=Xa) 10 (EvB.sh (Xu (Xc (r:=(rV Xa)) 8 rfl (λ_ s=>s.l.r)) (XR (XM (Ve (Xc (r:=(rP2 Xa Xa)) 6 rfl (λ_ s=>s.l.l.l.r))) (Xe 1)) (X2 (Xc (r:=(rV Xa)) 8 rfl (λ_ s=>s.l.r)))))) λa44 v45=>(Zr (K:=K) (o:=(oF (rP5 Xa Xa Xa Xa Xa))) (f:=λa61=>(Rs.ok (a61))) 2 0 rfl rfl rfl (λ_ s=>s.l.l.l.l.l.l.l.l.r) (EvS.ev (GR (Xl (r:=Xa) 3 rfl (λ_ s=>s.l.l.l.l.l.l.l.r)) (Xl (r:=Xa) 4 rfl (λ_ s=>s.l.l.l.l.l.l.r)) (Xl (r:=Xa) 7 rfl (λ_ s=>s.l.l.l.r)) (Xl (r:=Xa) 9 rfl (λ_ s=>s.l.r)) (Xl (r:=Xa) 10 rfl (λ_ s=>s.r)))) λa59 C60=>(Xx (J:=_) ((some v14.1), (some v14.2), (some v16), (some v21), (some v27), (some v35), (some v40), (some v45), x12.2.2.2.2.2.2.2.2.1, C60) ((g11 ++ [a59])) rfl rfl (λ_ s=>(SC.i s.l.l.l.l.l.l.l.l.l.l s.r))))))))))) λg62 x63=>(Xy (Yk (o:=(oL (oF (rP5 Xa Xa Xa Xa Xa)))) 2 0 rfl rfl (λ_ s=>s.r))))))
theorem QT : FnScope ["drawing", "told", "crossing", "sign", "over", "inward", "outward"] ["drawing"] (Xi De):=⟨rfl, rfl, rfl, by decide +kernel, rfl, by decide +kernel, by decide +kernel⟩
theorem Ib (D : Def K mg "ties" De ["drawing"]) (g_meets : Fn P w K mg base 4 "meets" ["drawing"] (sp1 (rP2 (rV (rV Xa)) (rV (rP2 Xa Xa))) (oL (oF (rP5 Xa Xa Xa Xa Xa))) Qd K)) (Z : Blt mg) : Fn P w K mg base 5 "ties" ["drawing"] (sp1 (rP2 (rV (rV Xa)) (rV (rP2 Xa Xa))) (oL (oF (rP3 Xa Xa Xa))) Um K):=by
  refine Yp D QT (λvs H Q E h=>?_) (λf cdv A outer s H vs Q E hr h=>?_)
  . obtain ⟨v_0, a_0, b, rfl, _⟩:=h; rfl
  obtain ⟨v_0, a_0, b, rfl, h_0, hm, q⟩:=h
  have hu:=hu8 hr
  have hu1:=Ym hr
  refine ⟨_, (Xb (Xo (i:=1) QT.nd rfl (Or.inl rfl) (X8 Xg))
    (Xb (X9 PassesOwn.never rfl (XI (K:=K) rfl (XX g_meets hr (by decide) (Xd (pv 0) Xg))) (Z4 rfl (Xt (Xm (i:=2) QT.nd rfl (Or.inl rfl)) (Xt (Xm (i:=3) QT.nd rfl (Or.inl rfl)) (Xt (Xm (i:=4) QT.nd rfl (Or.inl rfl)) (Xt (Xm (i:=5) QT.nd rfl (Or.inl rfl)) (Xt (Xm (i:=6) QT.nd rfl (Or.inl rfl)) YZ))))))
      (Xb (Yh (ZJ PySem.F.plainAttrs_list PySem.F.slot_list_append PySem.F.type_list_append XU (pv 1) (Xd (B2 (XH VY (pv 3) Xh (XV _)) (Zs (Xd (pv 5) (Xd (pv 4) (Xd (pv 6) Xg)))) (Zs (Xd (pv 6) (Xd (pv 4) (Xd (pv 5) Xg))))) Xg)))
      Xf))
    (Xb (Xz (pv 1))
    Xf))), ?_⟩
  refine Yq (S:=(SC.add SC.nil K (rP2 (rV (rV Xa)) (rV (rP2 Xa Xa))) v_0 a_0)) (σ:=[some v_0, none, none, none, none, none, none]) 1 ?_ (SC.i SC.t h_0) hm q rfl
  unfold Um
  exact (XN (K:=K) (o:=(oL (oF (rP3 Xa Xa Xa)))) 1 0 (Qu (o:=(oF (rP3 Xa Xa Xa)))) (Nat.le_of_ble_eq_true rfl) λa1 v2 C3=>(YV (K:=K) (J:=({ oo:=λx6=>[x6.2.2.2.2.2.2], ss:=λx6=>[some v_0, some x6.2.2.2.2.2.1, x6.1, x6.2.1, x6.2.2.1, x6.2.2.2.1, x6.2.2.2.2.1], sc:=λg7 x6=>(SC.addO (SC.add SC.nil K (rP2 (rV (rV Xa)) (rV (rP2 Xa Xa))) v_0 a_0) K (oL (oF (rP3 Xa Xa Xa))) x6.2.2.2.2.2.1 g7 x6.2.2.2.2.2.2) } : Jn ((List (Int × Int × Int))) (Option V × Option V × Option V × Option V × Option V × V × List XG))) (λ_=>tg5 2 3 4 5 6) ((none), (none), (none), (none), (none), v2, C3) (a1) (XF (Ev.sh (X3 (Xc (r:=(rP2 (rV (rV Xa)) (rV (rP2 Xa Xa)))) 0 rfl (λ_ s=>s.l.r))))) rfl rfl (λ_ s=>s) (λg8 x9 a10 v11=>(Zr (K:=K) (o:=(oF (rP3 Xa Xa Xa))) (f:=λa23=>(Rs.ok (a23))) 1 0 rfl rfl rfl (λ_ s=>s.l.l.l.l.l.r) (Mp (Xs (K:=K) (QO (Xc (r:=Xa) 3 rfl (λ_ s=>s.l.l.l.r)) (Xe 1))) (EvS.ev (G7 (Xl (r:=Xa) 5 rfl (λ_ s=>s.l.r)) (Xl (r:=Xa) 4 rfl (λ_ s=>s.l.l.r)) (Xl (r:=Xa) 6 rfl (λ_ s=>s.r)))) (EvS.ev (G7 (Xl (r:=Xa) 6 rfl (λ_ s=>s.r)) (Xl (r:=Xa) 4 rfl (λ_ s=>s.l.l.r)) (Xl (r:=Xa) 5 rfl (λ_ s=>s.l.r))))) λa21 C22=>(Xx (J:=_) ((some v11.1), (some v11.2.1), (some v11.2.2.1), (some v11.2.2.2.1), (some v11.2.2.2.2), x9.2.2.2.2.2.1, C22) ((g8 ++ [a21])) rfl rfl (λ_ s=>(SC.i (SC.i SC.t s.l.l.l.l.l.l.l.r) s.r))))) λg24 x25=>(Xy (Yk (o:=(oL (oF (rP3 Xa Xa Xa)))) 1 0 rfl rfl (λ_ s=>s.r)))))
theorem QP : FnScope ["number", "divisor"] ["number"] (Xi JE):=⟨rfl, rfl, rfl, by decide +kernel, rfl, by decide +kernel, by decide +kernel⟩
theorem Gk (D : Def K mg "is_prime" JE ["number"])  (Z : Blt mg) : Fn P w K mg base 1 "is_prime" ["number"] (sp1 Xa (oF XS) ZA K):=by
  refine Yp D QP (λvs H Q E h=>?_) (λf cdv A outer s H vs Q E hr h=>?_)
  . obtain ⟨v_0, a_0, b, rfl, _⟩:=h; rfl
  obtain ⟨v_0, a_0, b, rfl, h_0, hm, q⟩:=h
  have hu:=hu8 hr
  have hu1:=Ym hr
  refine ⟨_, (Xb (YC (PW.pt (FJ (XH JG (pv 0) Xh (XV _)) (Uh (XH FN (pv 0) (IN Z.c_MOST_PRIME rfl) (XV _)))))
      (Xb (Xz Zj)
      Xf)
      Xf)
    (Xb (Xo (i:=1) QP.nd rfl (Or.inl rfl) Xh)
    (Xb (JY PassesOwn.never (XH CD (Xp Yu (pv 1) (pv 1)) (pv 0) (XV _))
      (Xb (YC (XH VY (Xp Yf (pv 0) (pv 1)) Xh (XV _))
        (Xb (Xz Zj)
        Xf)
        Xf)
      (Xb (KN (i:=1) QP.nd rfl (Or.inl rfl) Xh Kw)
      Xf)))
    (Xb (Xz Zj)
    Xf)))), ?_⟩
  refine Yq (S:=(SC.add SC.nil K Xa v_0 a_0)) (σ:=[some v_0, none]) 0 ?_ (SC.i SC.t h_0) hm q rfl
  unfold ZA
  exact (Qn (Ue (Xs (K:=K) (Qv (Xc (r:=Xa) 0 rfl (λ_ s=>s.r)) (Xe 2))) (Xs (K:=K) (Ur (Xc (r:=Xa) 0 rfl (λ_ s=>s.r)) (Xe 100000)))) (Xy (EvS.ev (EvB.sh (Yo false)))) (Xv (K:=K) (r:=Xa) 1 (EvB.sh (Xe 2)) λa6 v7=>(CO (K:=K) (J:=({ oo:=λx8=>[], ss:=λx8=>[some v_0, some x8], sc:=λg9 x8=>(SC.add (SC.add SC.nil K Xa v_0 a_0) K Xa x8 g9) } : Jn (Int) (V))) (a_0.natAbs + 2) (v7) (a6) rfl rfl (λ_ s=>s) (λg10 x11=>(Xs (K:=K) (Dn (X0 (Xc (r:=Xa) 1 rfl (λ_ s=>s.r)) (Xc (r:=Xa) 1 rfl (λ_ s=>s.r))) (Xc (r:=Xa) 0 rfl (λ_ s=>s.l.r))))) (λg10 x11=>(ZU (Xs (K:=K) (QO (XR (Xc (r:=Xa) 0 rfl (λ_ s=>s.l.r)) (Xc (r:=Xa) 1 rfl (λ_ s=>s.r))) (Xe 0))) (Xy (EvS.ev (EvB.sh (Yo false)))) (Bd (K:=K) (f:=λa23=>(Rs.bind (Rs.ok (a23)) λx24=>(Rs.ok (Ctl.nx x24)))) 1 rfl (λ_ s=>s.r) (Xe 1) λa23 v22=>(Q8 (Xx (J:=_) (v22) (a23) rfl rfl (λ_ s=>(SC.i (SC.i SC.t s.l.l.r) s.r))))))) λg26 x27=>(Xy (EvS.ev (EvB.sh (Yo true)))))))
theorem VJ : FnScope ["prime", "factor"] ["prime", "factor"] (Xi ZV):=⟨rfl, rfl, rfl, by decide +kernel, rfl, by decide +kernel, by decide +kernel⟩
theorem Vo (D : Def K mg "refuse_wrong" ZV ["prime", "factor"]) (g_is_prime : Fn P w K mg base 1 "is_prime" ["number"] (sp1 Xa (oF XS) ZA K)) (Z : Blt mg) : Fn P w K mg base 2 "refuse_wrong" ["prime", "factor"] (sp2 Xa Xa oU YD K):=by
  refine Yp D VJ (λvs H Q E h=>?_) (λf cdv A outer s H vs Q E hr h=>?_)
  . obtain ⟨v_0, v_1, a_0, a_1, b, rfl, _⟩:=h; rfl
  obtain ⟨v_0, v_1, a_0, a_1, b, rfl, h_0, h_1, hm, q⟩:=h
  have hu:=hu8 hr
  have hu1:=Ym hr
  refine ⟨_, (Xb (YC (Zt (ZK (XX g_is_prime hr (by decide) (Xd (pv 0) Xg))))
      (Xb UD
      Xf)
      Xf)
    (Xb (YC (XH VY (Xp Yf (pv 1) (pv 0)) Xh (XV _))
      (Xb UD
      Xf)
      Xf)
    Xf)), ?_⟩
  refine Ma (J:=({ oo:=λx3=>[], ss:=λx3=>[some v_0, some v_1], sc:=λg4 x3=>(SC.add (SC.add SC.nil K Xa v_0 a_0) K Xa v_1 a_1) } : Jn (Unit) (Unit))) (K:=K) (S:=(SC.add (SC.add SC.nil K Xa v_0 a_0) K Xa v_1 a_1)) (σ:=[some v_0, some v_1]) 0 ?_ (SC.i (SC.i SC.t h_0) h_1) hm q (λ_ _=>rfl)
  unfold YD
  exact (EJ (YR (QA (K:=K) (Ev.toB (X3 (Xc (r:=Xa) 0 rfl (λ_ s=>s.l.r)))))) (EJ (Xs (K:=K) (QO (XR (Xc (r:=Xa) 1 rfl (λ_ s=>s.r)) (Xc (r:=Xa) 0 rfl (λ_ s=>s.l.r))) (Xe 0))) (Xx (J:=_) () () rfl rfl (λ_ s=>s))))
theorem YS : FnScope ["drawing", "prime", "factor", "count", "told", "start", "over", "end", "numbers"] ["drawing", "prime", "factor"] (Xi Qc):=⟨rfl, rfl, rfl, by decide +kernel, rfl, by decide +kernel, by decide +kernel⟩
theorem Ks (D : Def K mg "equations" Qc ["drawing", "prime", "factor"]) (g_refuse_wrong : Fn P w K mg base 2 "refuse_wrong" ["prime", "factor"] (sp2 Xa Xa oU YD K)) (g_arc_count : Fn P w K mg base 2 "arc_count" ["drawing"] (sp1 (rP2 (rV (rV Xa)) (rV (rP2 Xa Xa))) (oF Xa) YQ K)) (g_ties : Fn P w K mg base 5 "ties" ["drawing"] (sp1 (rP2 (rV (rV Xa)) (rV (rP2 Xa Xa))) (oL (oF (rP3 Xa Xa Xa))) Um K)) (Z : Blt mg) : Fn P w K mg base 6 "equations" ["drawing", "prime", "factor"] (sp3 (rP2 (rV (rV Xa)) (rV (rP2 Xa Xa))) Xa Xa (oL (oL (oF Xa))) Zl K):=by
  refine Yp D YS (λvs H Q E h=>?_) (λf cdv A outer s H vs Q E hr h=>?_)
  . obtain ⟨v_0, v_1, v_2, a_0, a_1, a_2, b, rfl, _⟩:=h; rfl
  obtain ⟨v_0, v_1, v_2, a_0, a_1, a_2, b, rfl, h_0, h_1, h_2, hm, q⟩:=h
  have hu:=hu8 hr
  have hu1:=Ym hr
  refine ⟨_, (Xb (Yh (XX g_refuse_wrong hr (by decide) (Xd (pv 1) (Xd (pv 2) Xg))))
    (Xb (Xo (i:=3) YS.nd rfl (Or.inl rfl) (XX g_arc_count hr (by decide) (Xd (pv 0) Xg)))
    (Xb (Xo (i:=4) YS.nd rfl (Or.inl rfl) (X8 Xg))
    (Xb (X9 PassesOwn.never rfl (XI (K:=K) rfl (XX g_ties hr (by decide) (Xd (pv 0) Xg))) (Z4 rfl (Xt (Xm (i:=5) YS.nd rfl (Or.inl rfl)) (Xt (Xm (i:=6) YS.nd rfl (Or.inl rfl)) (Xt (Xm (i:=7) YS.nd rfl (Or.inl rfl)) YZ))))
      (Xb (Xo (i:=8) YS.nd rfl (Or.inl rfl) (Xp VF (X8 (Xd Xh Xg)) (pv 3)))
      (Xb (Gx (pv 8) (pv 5) (Us K rfl) (pv 2) Kw Zq)
      (Xb (Gx (pv 8) (pv 6) (Us K rfl) (Xp Q6 Xh (pv 2)) Kw Zq)
      (Xb (Gx (pv 8) (pv 7) (Us K rfl) Xh II Zq)
      (Xb (Yh (ZJ PySem.F.plainAttrs_list PySem.F.slot_list_append PySem.F.type_list_append XU (pv 4) (Xd (YK (sc:=(Xi Qc)) (N0:=["drawing", "prime", "factor", "count", "told", "start", "over", "end", "numbers"]) (tns:=["number"]) (caps:=[(1, "prime")]) rfl (XI (K:=K) rfl (pv 8)) (Y0 (by decide)) (λcl C s H ex E=>⟨Xm (i:=0) (show List.Nodup (["number", "prime"] : List Str) by decide +kernel) rfl (Or.inl rfl), Y7, (Xp Yf (pv 0) (pv 1))⟩)) Xg)))
      Xf))))))
    (Xb (Xz (pv 4))
    Xf))))), ?_⟩
  refine Yq (S:=(SC.add (SC.add (SC.add SC.nil K (rP2 (rV (rV Xa)) (rV (rP2 Xa Xa))) v_0 a_0) K Xa v_1 a_1) K Xa v_2 a_2)) (σ:=[some v_0, some v_1, some v_2, none, none, none, none, none, none]) 2 ?_ (SC.i (SC.i (SC.i SC.t h_0) h_1) h_2) hm q rfl
  unfold Zl
  exact (Hy (Ev.toB (Yn (Xc (r:=Xa) 1 rfl (λ_ s=>s.l.r)) (Xc (r:=Xa) 2 rfl (λ_ s=>s.r)))) (Xv (K:=K) (r:=Xa) 3 (EvB.sh (Ev.toB (X3 (Xc (r:=(rP2 (rV (rV Xa)) (rV (rP2 Xa Xa)))) 0 rfl (λ_ s=>s.l.l.r))))) λa5 v6=>(XN (K:=K) (o:=(oL (oL (oF Xa)))) 4 0 (Qu (o:=(oL (oF Xa)))) (Nat.le_of_ble_eq_true rfl) λa9 v10 C11=>(YV (K:=K) (J:=({ oo:=λx14=>[x14.2.2.2.2.2, []], ss:=λx14=>[some v_0, some v_1, some v_2, some v6, some x14.2.2.2.2.1, x14.1, x14.2.1, x14.2.2.1, x14.2.2.2.1], sc:=λg15 x14=>(SC.addO (SC.add (SC.add (SC.add (SC.add SC.nil K (rP2 (rV (rV Xa)) (rV (rP2 Xa Xa))) v_0 a_0) K Xa v_1 a_1) K Xa v_2 a_2) K Xa v6 a5) K (oL (oL (oF Xa))) x14.2.2.2.2.1 g15 x14.2.2.2.2.2) } : Jn ((List (List Int))) (Option V × Option V × Option V × Option V × V × List XG))) (λ_=>tg3 5 6 7) ((none), (none), (none), (none), v10, C11) (a9) (XF (Ev.sh (X3 (Xc (r:=(rP2 (rV (rV Xa)) (rV (rP2 Xa Xa)))) 0 rfl (λ_ s=>s.l.l.l.l.r))))) rfl rfl (λ_ s=>s) (λg16 x17 a18 v19=>(XN (K:=K) (o:=(oL (oF Xa))) 8 1 (VD (Ev.ls (ZF (Xq (EvB.sh (Xe 0)) Y8))) (Xc (r:=Xa) 3 rfl (λ_ s=>s.l.l.l.l.r))) (Nat.le_of_ble_eq_true rfl) λa20 v21 C22=>(UR (K:=K) (g:=λi j=>i + j) (f:=λa28=>(Rs.bind (Rs.ok a18.2.1) λx37=>(Rs.bind (atR a28 x37) λx38=>(Rs.bind (Rs.bind (Rs.ok (1 : Int)) λx33=>(Rs.bind (Rs.ok a_2) λx34=>(Rs.ok (x33 - x34)))) λx39=>(Rs.bind (QD a28 x37 (x38 + x39)) λa35=>(Rs.bind (Rs.ok a18.2.2) λx42=>(Rs.bind (atR a35 x42) λx43=>(Rs.bind (Rs.ok (1 : Int)) λx44=>(Rs.bind (QD a35 x42 (x43 - x44)) λa40=>(Rs.bind (Rs.bind (Rs.ok a40) λx48=>(J9 x48 (λa46=>(Rs.bind (Rs.ok a46) λx49=>(Rs.bind (Rs.ok a_1) λx50=>(Z0 x49 x50)))))) λa51=>(chk (g16.length < sizeLine) ((λa53=>(Rs.ok (a53))) (g16 ++ [a51]))))))))))))) 8 1 rfl rfl (λ_ s=>s.r) (Xc (r:=Xa) 5 rfl (λ_ s=>s.l.l.l.r)) (Xc (r:=Xa) 2 rfl (λ_ s=>s.l.l.l.l.l.l.r)) λa28 C29=>(UR (K:=K) (g:=λi j=>i + j) (f:=λa35=>(Rs.bind (Rs.ok a18.2.2) λx42=>(Rs.bind (atR a35 x42) λx43=>(Rs.bind (Rs.ok (1 : Int)) λx44=>(Rs.bind (QD a35 x42 (x43 - x44)) λa40=>(Rs.bind (Rs.bind (Rs.ok a40) λx48=>(J9 x48 (λa46=>(Rs.bind (Rs.ok a46) λx49=>(Rs.bind (Rs.ok a_1) λx50=>(Z0 x49 x50)))))) λa51=>(chk (g16.length < sizeLine) ((λa53=>(Rs.ok (a53))) (g16 ++ [a51]))))))))) 8 1 rfl rfl (λ_ s=>s.r) (Xc (r:=Xa) 6 rfl (λ_ s=>s.l.l.l.r)) (Qi (Xe 1) (Xc (r:=Xa) 2 rfl (λ_ s=>s.l.l.l.l.l.l.l.r))) λa35 C36=>(UR (K:=K) (g:=λi j=>i - j) (f:=λa40=>(Rs.bind (Rs.bind (Rs.ok a40) λx48=>(J9 x48 (λa46=>(Rs.bind (Rs.ok a46) λx49=>(Rs.bind (Rs.ok a_1) λx50=>(Z0 x49 x50)))))) λa51=>(chk (g16.length < sizeLine) ((λa53=>(Rs.ok (a53))) (g16 ++ [a51]))))) 8 1 rfl rfl (λ_ s=>s.r) (Xc (r:=Xa) 7 rfl (λ_ s=>s.l.l.l.r)) (Xe 1) λa40 C41=>(Zr (K:=K) (o:=(oL (oF Xa))) (f:=λa53=>(Rs.ok (a53))) 4 0 rfl rfl rfl (λ_ s=>s.l.l.l.l.l.l.l.r) (VT (K:=K) (o1:=(oL (oF Xa))) 1 rfl (λ_ s=>s.r) (Y9 (λ_=>tg1 0) (XF (Xl (r:=(rV Xa)) 8 rfl (λ_ s=>s.r))) (λC45 a46 v47=>(EvS.ev (EvB.sh (XR (Xc (r:=Xa) 0 rfl (λ_ s=>s.r)) (Xc (r:=Xa) 1 rfl (λ_ s=>s.l.l.l.l.l.l.l.l.l.l.l.l.r)))))))) λa51 C52=>(CV 1 (Xx (J:=_) ((some v19.1), (some v19.2.1), (some v19.2.2), (some v21), x17.2.2.2.2.1, C52) ((g16 ++ [a51])) rfl rfl (λ_ s=>(SC.i s.l.l.l.l.l.l.l.l.l s.r)))))))))) λg54 x55=>(Xy (Yk (o:=(oL (oL (oF Xa)))) 4 0 rfl rfl (λ_ s=>s.r)))))))
theorem B6 : FnScope ["row", "number", "prime"] ["row", "number", "prime"] (Xi U2):=⟨rfl, rfl, rfl, by decide +kernel, rfl, by decide +kernel, by decide +kernel⟩
theorem Bt (D : Def K mg "times" U2 ["row", "number", "prime"])  (Z : Blt mg) : Fn P w K mg base 1 "times" ["row", "number", "prime"] (sp3 (rV Xa) Xa Xa (oL (oF Xa)) Jk K):=by
  refine Yp D B6 (λvs H Q E h=>?_) (λf cdv A outer s H vs Q E hr h=>?_)
  . obtain ⟨v_0, v_1, v_2, a_0, a_1, a_2, b, rfl, _⟩:=h; rfl
  obtain ⟨v_0, v_1, v_2, a_0, a_1, a_2, b, rfl, h_0, h_1, h_2, hm, q⟩:=h
  have hu:=hu8 hr
  have hu1:=Ym hr
  refine ⟨_, (Xb (Xz (YK (sc:=(Xi U2)) (N0:=["row", "number", "prime"]) (tns:=["entry"]) (caps:=[(1, "number"), (2, "prime")]) rfl (XI (K:=K) rfl (pv 0)) (Y0 (by decide)) (λcl C s H ex E=>⟨Xm (i:=0) (show List.Nodup (["entry", "number", "prime"] : List Str) by decide +kernel) rfl (Or.inl rfl), Y7, (Xp Yf (Xp Yu (pv 1) (pv 0)) (pv 2))⟩)))
    Xf), ?_⟩
  refine Yq (S:=(SC.add (SC.add (SC.add SC.nil K (rV Xa) v_0 a_0) K Xa v_1 a_1) K Xa v_2 a_2)) (σ:=[some v_0, some v_1, some v_2]) 0 ?_ (SC.i (SC.i (SC.i SC.t h_0) h_1) h_2) hm q rfl
  unfold Jk
  exact (Xy (Y9 (λ_=>tg1 0) (XF (Xl (r:=(rV Xa)) 0 rfl (λ_ s=>s.l.l.r))) (λC1 a2 v3=>(EvS.ev (EvB.sh (XR (X0 (Xc (r:=Xa) 1 rfl (λ_ s=>s.l.l.r)) (Xc (r:=Xa) 0 rfl (λ_ s=>s.r))) (Xc (r:=Xa) 2 rfl (λ_ s=>s.l.r))))))))
theorem Yd : FnScope ["number", "prime", "told", "square", "left"] ["number", "prime"] (Xi ZT):=⟨rfl, rfl, rfl, by decide +kernel, rfl, by decide +kernel, by decide +kernel⟩
theorem Vw (D : Def K mg "inverse_rest" ZT ["number", "prime"])  (Z : Blt mg) : Fn P w K mg base 1 "inverse_rest" ["number", "prime"] (sp2 Xa Xa (oF Xa) YG K):=by
  refine Yp D Yd (λvs H Q E h=>?_) (λf cdv A outer s H vs Q E hr h=>?_)
  . obtain ⟨v_0, v_1, a_0, a_1, b, rfl, _⟩:=h; rfl
  obtain ⟨v_0, v_1, a_0, a_1, b, rfl, h_0, h_1, hm, q⟩:=h
  have hu:=hu8 hr
  have hu1:=Ym hr
  refine ⟨_, (Xb (Xo (i:=2) Yd.nd rfl (Or.inl rfl) Xh)
    (Xb (Xo (i:=3) Yd.nd rfl (Or.inl rfl) (pv 0))
    (Xb (Xo (i:=4) Yd.nd rfl (Or.inl rfl) (Xp Q6 (pv 1) Xh))
    (Xb (JY PassesOwn.never (XH FN (pv 4) Xh (XV _))
      (Xb (YC (XH VY (Xp Yf (pv 4) Xh) Xh (XV _))
        (Xb (Xo (i:=2) Yd.nd rfl (Or.inl rfl) (Xp Yf (Xp Yu (pv 2) (pv 3)) (pv 1)))
        Xf)
        Xf)
      (Xb (Xo (i:=3) Yd.nd rfl (Or.inl rfl) (Xp Yf (Xp Yu (pv 3) (pv 3)) (pv 1)))
      (Xb (KN (i:=4) Yd.nd rfl (Or.inl rfl) Xh Hz)
      Xf))))
    (Xb (Xz (pv 2))
    Xf))))), ?_⟩
  refine Yq (S:=(SC.add (SC.add SC.nil K Xa v_0 a_0) K Xa v_1 a_1)) (σ:=[some v_0, some v_1, none, none, none]) 0 ?_ (SC.i (SC.i SC.t h_0) h_1) hm q rfl
  unfold YG
  exact (Xv (K:=K) (r:=Xa) 2 (EvB.sh (Xe 1)) λa1 v2=>(Xv (K:=K) (r:=Xa) 3 (Xl (r:=Xa) 0 rfl (λ_ s=>s.l.l.r)) λa3 v4=>(Xv (K:=K) (r:=Xa) 4 (EvB.sh (Qi (Xc (r:=Xa) 1 rfl (λ_ s=>s.l.l.r)) (Xe 2))) λa5 v6=>(U3 (J:=({ oo:=λx9=>[], ss:=λx9=>[some v_0, some v_1, some x9.2.2, some x9.1, some x9.2.1], sc:=λg10 x9=>(SC.add (SC.add (SC.add (SC.add (SC.add SC.nil K Xa v_0 a_0) K Xa v_1 a_1) K Xa x9.1 g10.1) K Xa x9.2.1 g10.2.1) K Xa x9.2.2 g10.2.2) } : Jn (Int × Int × Int) (V × V × V))) (100) (v4, v6, v2) (a3, a5, a1) rfl rfl (λ_ s=>(SC.i (SC.i (SC.i s.l.l.l s.l.r) s.r) s.l.l.r)) (λg11 x12=>(Xs (K:=K) (Ur (Xc (r:=Xa) 4 rfl (λ_ s=>s.l.r)) (Xe 0)))) (λg11 x12=>(Zf (J:=({ oo:=λx20=>[], ss:=λx20=>[some v_0, some v_1, some x20, some x12.1, some x12.2.1], sc:=λg21 x20=>(SC.add (SC.add (SC.add (SC.add (SC.add SC.nil K Xa v_0 a_0) K Xa v_1 a_1) K Xa x12.1 g11.1) K Xa x12.2.1 g11.2.1) K Xa x20 g21) } : Jn (Int) (V))) (ZQ (Fd:=FNd ({ oo:=λx20=>[], ss:=λx20=>[some v_0, some v_1, some x20, some x12.1, some x12.2.1], sc:=λg21 x20=>(SC.add (SC.add (SC.add (SC.add (SC.add SC.nil K Xa v_0 a_0) K Xa v_1 a_1) K Xa x12.1 g11.1) K Xa x12.2.1 g11.2.1) K Xa x20 g21) } : Jn (Int) (V))) (Xs (K:=K) (QO (XR (Xc (r:=Xa) 4 rfl (λ_ s=>s.l.r)) (Xe 2)) (Xe 1))) (Xv (K:=K) (r:=Xa) 2 (EvB.sh (XR (X0 (Xc (r:=Xa) 2 rfl (λ_ s=>s.r)) (Xc (r:=Xa) 3 rfl (λ_ s=>s.l.l.r))) (Xc (r:=Xa) 1 rfl (λ_ s=>s.l.l.l.r)))) λa22 v23=>(Xx (J:=_) (v23) (a22) rfl rfl (λ_ s=>(SC.i s.l.l s.r)))) (Xx (J:=_) (x12.2.2) (g11.2.2) rfl rfl (λ_ s=>s))) λg29 x28=>(Xv (K:=K) (r:=Xa) 3 (EvB.sh (XR (X0 (Xc (r:=Xa) 3 rfl (λ_ s=>s.l.l.r)) (Xc (r:=Xa) 3 rfl (λ_ s=>s.l.l.r))) (Xc (r:=Xa) 1 rfl (λ_ s=>s.l.l.l.r)))) λa30 v31=>(E9 (K:=K) 4 rfl (λ_ s=>s.l.l.r) (Xe 2) λa38 v37=>(Xx (J:=_) (v31, v37, x28) (a30, a38, g29) rfl rfl (λ_ s=>(SC.i (SC.i (SC.i s.l.l.l.l.l s.l.r) s.r) s.l.l.r))))))) λg39 x40=>(Xy (EvS.ev (Xl (r:=Xa) 2 rfl (λ_ s=>s.r))))))))
theorem Ft : FnScope ["row", "lead", "arc", "prime"] ["row", "lead", "arc", "prime"] (Xi Q7):=⟨rfl, rfl, rfl, by decide +kernel, rfl, by decide +kernel, by decide +kernel⟩
theorem FU (D : Def K mg "cleared" Q7 ["row", "lead", "arc", "prime"])  (Z : Blt mg) : Fn P w K mg base 1 "cleared" ["row", "lead", "arc", "prime"] (sp4 (rV Xa) (rV Xa) Xa Xa (oL (oF Xa)) Zu K):=by
  refine Yp D Ft (λvs H Q E h=>?_) (λf cdv A outer s H vs Q E hr h=>?_)
  . obtain ⟨v_0, v_1, v_2, v_3, a_0, a_1, a_2, a_3, b, rfl, _⟩:=h; rfl
  obtain ⟨v_0, v_1, v_2, v_3, a_0, a_1, a_2, a_3, b, rfl, h_0, h_1, h_2, h_3, hm, q⟩:=h
  have hu:=hu8 hr
  have hu1:=Ym hr
  refine ⟨_, (Xb (Xz (YK (sc:=(Xi Q7)) (N0:=["row", "lead", "arc", "prime"]) (tns:=["entry", "other"]) (caps:=[(0, "row"), (2, "arc"), (3, "prime")]) rfl (IU K rfl rfl Z.b_zip (Xd (pv 0) (Xd (pv 1) Xg))) (UC (by decide) (by decide)) (λcl C s H ex E=>⟨US K rfl rfl (Xt (Xm (i:=0) (show List.Nodup (["entry", "other", "row", "arc", "prime"] : List Str) by decide +kernel) rfl (Or.inl rfl)) (Xt (Xm (i:=1) (show List.Nodup (["entry", "other", "row", "arc", "prime"] : List Str) by decide +kernel) rfl (Or.inl rfl)) YZ)), Y7, (Xp Yf (Xp Q6 (pv 0) (Xp Yu (XE (Xk K rfl) (pv 2) (pv 3) (λ_ _=>rfl)) (pv 1))) (pv 4))⟩)))
    Xf), ?_⟩
  refine Yq (S:=(SC.add (SC.add (SC.add (SC.add SC.nil K (rV Xa) v_0 a_0) K (rV Xa) v_1 a_1) K Xa v_2 a_2) K Xa v_3 a_3)) (σ:=[some v_0, some v_1, some v_2, some v_3]) 0 ?_ (SC.i (SC.i (SC.i (SC.i SC.t h_0) h_1) h_2) h_3) hm q rfl
  unfold Zu
  exact (Xy (Y9 (λ_=>tg2 0 1) (Ey (Xl (r:=(rV Xa)) 0 rfl (λ_ s=>s.l.l.l.r)) (Xl (r:=(rV Xa)) 1 rfl (λ_ s=>s.l.l.r))) (λC3 a4 v5=>(EvS.ev (EvB.sh (XR (Qi (Xc (r:=Xa) 0 rfl (λ_ s=>s.l.r)) (X0 (Xu (Xc (r:=(rV Xa)) 2 rfl (λ_ s=>s.l.l.l.l.l.r)) (Xc (r:=Xa) 3 rfl (λ_ s=>s.l.l.l.r))) (Xc (r:=Xa) 1 rfl (λ_ s=>s.r)))) (Xc (r:=Xa) 4 rfl (λ_ s=>s.l.l.r))))))))
theorem YO : FnScope ["rows", "count", "prime", "told", "waiting", "arc", "leads", "lead"] ["rows", "count", "prime"] (Xi ZD):=⟨rfl, rfl, rfl, by decide +kernel, rfl, by decide +kernel, by decide +kernel⟩
theorem Gn (D : Def K mg "led_rows" ZD ["rows", "count", "prime"]) (g_times : Fn P w K mg base 1 "times" ["row", "number", "prime"] (sp3 (rV Xa) Xa Xa (oL (oF Xa)) Jk K)) (g_inverse_rest : Fn P w K mg base 1 "inverse_rest" ["number", "prime"] (sp2 Xa Xa (oF Xa) YG K)) (g_cleared : Fn P w K mg base 1 "cleared" ["row", "lead", "arc", "prime"] (sp4 (rV Xa) (rV Xa) Xa Xa (oL (oF Xa)) Zu K)) (Z : Blt mg) : Fn P w K mg base 2 "led_rows" ["rows", "count", "prime"] (sp3 (rV (rV Xa)) Xa Xa (oL (oT2 (oF Xa) (oL (oF Xa)))) Zz K):=by
  refine Yp D YO (λvs H Q E h=>?_) (λf cdv A outer s H vs Q E hr h=>?_)
  . obtain ⟨v_0, v_1, v_2, a_0, a_1, a_2, b, rfl, _⟩:=h; rfl
  obtain ⟨v_0, v_1, v_2, a_0, a_1, a_2, b, rfl, h_0, h_1, h_2, hm, q⟩:=h
  have hu:=hu8 hr
  have hu1:=Ym hr
  refine ⟨_, (Xb (Xo (i:=3) YO.nd rfl (Or.inl rfl) (X8 Xg))
    (Xb (Xo (i:=4) YO.nd rfl (Or.inl rfl) (pv 0))
    (Xb (X9 PassesOwn.never rfl (X1 rfl Z.b_range (Xd (pv 1) Xg)) (Xm (i:=5) YO.nd rfl (Or.inr rfl))
      (Xb (Jm 6 (Xi ZD) ["rows", "count", "prime", "told", "waiting", "arc", "leads", "lead"] ["row"] [(5, "arc")] rfl YO.nd rfl rfl (XI (K:=K) rfl (pv 4)) (Y0 (by decide)) (λcl C s H ex E=>⟨Xm (i:=0) (show List.Nodup (["row", "arc"] : List Str) by decide +kernel) rfl (Or.inl rfl), (VB (XH Ka (XE (Xk K rfl) (pv 0) (pv 1) (λ_ _=>rfl)) Xh (XV _))), (pv 0)⟩))
      (Xb (YC (XH FN (Xr (Xn K rfl) rfl Z.b_len PySem.boot_len (Xd (pv 6) Xg)) Xh (XV _))
        (Xb (Xo (i:=7) YO.nd rfl (Or.inr rfl) (XX g_times hr (by decide) (Xd (XE (Xk K rfl) (pv 6) Xh (λ_ _=>rfl)) (Xd (XX g_inverse_rest hr (by decide) (Xd (XE (Xk K rfl) (XE (Xk K rfl) (pv 6) Xh (λ_ _=>rfl)) (pv 5) (λ_ _=>rfl)) (Xd (pv 2) Xg))) (Xd (pv 2) Xg)))))
        (Xb (Jm 4 (Xi ZD) ["rows", "count", "prime", "told", "waiting", "arc", "leads", "lead"] ["row"] [(7, "lead"), (5, "arc"), (2, "prime")] rfl YO.nd rfl rfl (XI (K:=K) rfl (pv 4)) (Y0 (by decide)) (λcl C s H ex E=>⟨Xm (i:=0) (show List.Nodup (["row", "lead", "arc", "prime"] : List Str) by decide +kernel) rfl (Or.inl rfl), Y7, (XX g_cleared hr (by decide) (Xd (pv 0) (Xd (pv 1) (Xd (pv 2) (Xd (pv 3) Xg)))))⟩))
        (Xb (Xo (i:=3) YO.nd rfl (Or.inl rfl) (Xp K1 (YK (sc:=(Xi ZD)) (N0:=["rows", "count", "prime", "told", "waiting", "arc", "leads", "lead"]) (tns:=["other", "row"]) (caps:=[(7, "lead"), (5, "arc"), (2, "prime")]) rfl (XI (K:=K) rfl (pv 3)) (UC (by decide) (by decide)) (λcl C s H ex E=>⟨US K rfl rfl (Xt (Xm (i:=0) (show List.Nodup (["other", "row", "lead", "arc", "prime"] : List Str) by decide +kernel) rfl (Or.inl rfl)) (Xt (Xm (i:=1) (show List.Nodup (["other", "row", "lead", "arc", "prime"] : List Str) by decide +kernel) rfl (Or.inl rfl)) YZ)), Y7, (Zs (Xd (pv 0) (Xd (XX g_cleared hr (by decide) (Xd (pv 1) (Xd (pv 2) (Xd (pv 3) (Xd (pv 4) Xg))))) Xg)))⟩)) (X8 (Xd (Zs (Xd (pv 5) (Xd (pv 7) Xg))) Xg))))
        Xf)))
        Xf)
      Xf)))
    (Xb (Xz (pv 3))
    Xf)))), ?_⟩
  refine Yq (S:=(SC.add (SC.add (SC.add SC.nil K (rV (rV Xa)) v_0 a_0) K Xa v_1 a_1) K Xa v_2 a_2)) (σ:=[some v_0, some v_1, some v_2, none, none, none, none, none]) 2 ?_ (SC.i (SC.i (SC.i SC.t h_0) h_1) h_2) hm q rfl
  unfold Zz
  exact (XN (K:=K) (o:=(oL (oT2 (oF Xa) (oL (oF Xa))))) 3 0 (Qu (o:=(oT2 (oF Xa) (oL (oF Xa))))) (Nat.le_of_ble_eq_true rfl) λa1 v2 C3=>(Xv (K:=K) (r:=(rV (rV Xa))) 4 (Xl (r:=(rV (rV Xa))) 0 rfl (λ_ s=>s.l.l.l.r)) λa4 v5=>(YV (K:=K) (J:=({ oo:=λx7=>[x7.2.2.2.2.2, []], ss:=λx7=>[some v_0, some v_1, some v_2, some x7.2.2.2.2.1, some x7.2.2.2.1, x7.1, x7.2.1, x7.2.2.1], sc:=λg8 x7=>(SC.addO (SC.add (SC.add (SC.add (SC.add SC.nil K (rV (rV Xa)) v_0 a_0) K Xa v_1 a_1) K Xa v_2 a_2) K (rV (rV Xa)) x7.2.2.2.1 g8.1) K (oL (oT2 (oF Xa) (oL (oF Xa)))) x7.2.2.2.2.1 g8.2 x7.2.2.2.2.2) } : Jn ((List (List Int)) × (List (Int × (List Int)))) (Option V × Option V × Option V × V × V × List XG))) (λ_=>tg1 5) ((none), (none), (none), v5, v2, C3) (a4, a1) (XL (Xc (r:=Xa) 1 rfl (λ_ s=>s.l.l.l.r))) rfl rfl (λ_ s=>(SC.i (SC.i s.l.l s.r) s.l.r)) (λg9 x10 a11 v12=>(Xv (K:=K) (r:=(rV (rV Xa))) 6 (Ev.sh (Jg (λ_=>tg1 0) (XF (Xl (r:=(rV (rV Xa))) 4 rfl (λ_ s=>s.l.l.r))) (λC15 a16 v17=>(Xs (K:=K) (JL (Xu (Xc (r:=(rV Xa)) 0 rfl (λ_ s=>s.r)) (Xc (r:=Xa) 1 rfl (λ_ s=>s.l.r))) (Xe 0)))) (λC15 a16 v17=>(EvS.ev (Xl (r:=(rV Xa)) 0 rfl (λ_ s=>s.r)))))) λa13 v14=>(Zf (J:=({ oo:=λx27=>[x27.2.2.2, []], ss:=λx27=>[some v_0, some v_1, some v_2, some x27.2.2.1, some x27.2.1, some v12, some v14, x27.1], sc:=λg28 x27=>(SC.addO (SC.add (SC.add (SC.add (SC.add (SC.add (SC.add SC.nil K (rV (rV Xa)) v_0 a_0) K Xa v_1 a_1) K Xa v_2 a_2) K Xa v12 a11) K (rV (rV Xa)) v14 a13) K (rV (rV Xa)) x27.2.1 g28.1) K (oL (oT2 (oF Xa) (oL (oF Xa)))) x27.2.2.1 g28.2 x27.2.2.2) } : Jn ((List (List Int)) × (List (Int × (List Int)))) (Option V × V × V × List XG))) (ZQ (Fd:=FNd ({ oo:=λx27=>[x27.2.2.2, []], ss:=λx27=>[some v_0, some v_1, some v_2, some x27.2.2.1, some x27.2.1, some v12, some v14, x27.1], sc:=λg28 x27=>(SC.addO (SC.add (SC.add (SC.add (SC.add (SC.add (SC.add SC.nil K (rV (rV Xa)) v_0 a_0) K Xa v_1 a_1) K Xa v_2 a_2) K Xa v12 a11) K (rV (rV Xa)) v14 a13) K (rV (rV Xa)) x27.2.1 g28.1) K (oL (oT2 (oF Xa) (oL (oF Xa)))) x27.2.2.1 g28.2 x27.2.2.2) } : Jn ((List (List Int)) × (List (Int × (List Int)))) (Option V × V × V × List XG))) (Xs (K:=K) (Ur (X2 (Xc (r:=(rV (rV Xa))) 6 rfl (λ_ s=>s.r))) (Xe 0))) (XN (K:=K) (o:=(oL (oF Xa))) 7 1 (YL (Xu (Xc (r:=(rV (rV Xa))) 6 rfl (λ_ s=>s.r)) (Xe 0)) (Ev.toB (Yn (Xu (Xu (Xc (r:=(rV (rV Xa))) 6 rfl (λ_ s=>s.r)) (Xe 0)) (Xc (r:=Xa) 5 rfl (λ_ s=>s.l.r))) (Xc (r:=Xa) 2 rfl (λ_ s=>s.l.l.l.l.r)))) (Xc (r:=Xa) 2 rfl (λ_ s=>s.l.l.l.l.r))) (Nat.le_of_ble_eq_true rfl) λa29 v30 C31=>(Xv (K:=K) (r:=(rV (rV Xa))) 4 (Ev.sh (Y9 (λ_=>tg1 0) (XF (Xl (r:=(rV (rV Xa))) 4 rfl (λ_ s=>s.l.l.l.l.r))) (λC47 a48 v49=>(J1 (Xc (r:=(rV Xa)) 0 rfl (λ_ s=>s.r)) (Yc (o:=(oL (oF Xa))) 1 2 rfl rfl (λ_ s=>s.l.r)) (Xc (r:=Xa) 2 rfl (λ_ s=>s.l.l.l.r)) (Xc (r:=Xa) 3 rfl (λ_ s=>s.l.l.l.l.l.l.r)))))) λa45 v46=>(XN (K:=K) (o:=(oL (oT2 (oF Xa) (oL (oF Xa))))) 3 0 (Hm (VT (K:=K) (o1:=(oL (oT2 (oF Xa) (oL (oF Xa))))) 0 rfl (λ_ s=>s.l.l.l.l.r) (Y9 (λ_=>tg2 0 1) (XF (Xl (r:=(rV (rP2 Xa (rV Xa)))) 3 rfl (λ_ s=>s.r))) (λC61 a62 v63=>(QC (EvS.ev (Xl (r:=Xa) 0 rfl (λ_ s=>s.l.r))) λ_=>(J1 (Xc (r:=(rV Xa)) 1 rfl (λ_ s=>s.r)) (Yc (o:=(oL (oF Xa))) 2 3 rfl rfl (λ_ s=>s.l.l.l.l.r)) (Xc (r:=Xa) 3 rfl (λ_ s=>s.l.l.l.l.l.l.r)) (Xc (r:=Xa) 4 rfl (λ_ s=>s.l.l.l.l.l.l.l.l.l.r))))))) λ_=>(Hl (DI (QC (EvS.ev (Xl (r:=Xa) 5 rfl (λ_ s=>s.l.l.l.r))) λ_=>(Yk (o:=(oL (oF Xa))) 7 3 rfl rfl (λ_ s=>s.l.r))) λ_=>Ez))) (Nat.le_of_ble_eq_true rfl) λa56 v57 C58=>(Xx (J:=_) ((some v30), v46, v57, C58) (a45, a56) rfl rfl (λ_ s=>(SC.i (SC.i (SC.i (SC.i s.l.l.l.l.l.l.l s.l.l.l.l.r) s.l.l.l.r) s.l.r) s.r)))))) (Xx (J:=_) ((x10.2.2.1), x10.2.2.2.1, x10.2.2.2.2.1, x10.2.2.2.2.2) (g9.1, g9.2) rfl rfl (λ_ s=>(SC.i (SC.i (SC.i (SC.i s.l.l.l.l s.l.r) s.r) s.l.l.l.r) s.l.l.r)))) λg78 x77=>(Xx (J:=_) ((some v12), (some v14), (x77.1), x77.2.1, x77.2.2.1, x77.2.2.2) (g78.1, g78.2) rfl rfl (λ_ s=>(SC.i (SC.i s.l.l.l.l s.l.r) s.r)))))) λg79 x80=>(Xy (Yk (o:=(oL (oT2 (oF Xa) (oL (oF Xa))))) 3 0 rfl rfl (λ_ s=>s.r))))))
theorem Bm : FnScope ["count", "at", "numbers"] ["count", "at"] (Xi DX):=⟨rfl, rfl, rfl, by decide +kernel, rfl, by decide +kernel, by decide +kernel⟩
theorem HM (D : Def K mg "unit" DX ["count", "at"])  (Z : Blt mg) : Fn P w K mg base 1 "unit" ["count", "at"] (sp2 Xa Xa (oL (oF Xa)) JK K):=by
  refine Yp D Bm (λvs H Q E h=>?_) (λf cdv A outer s H vs Q E hr h=>?_)
  . obtain ⟨v_0, v_1, a_0, a_1, b, rfl, _⟩:=h; rfl
  obtain ⟨v_0, v_1, a_0, a_1, b, rfl, h_0, h_1, hm, q⟩:=h
  have hu:=hu8 hr
  have hu1:=Ym hr
  refine ⟨_, (Xb (Xo (i:=2) Bm.nd rfl (Or.inl rfl) (Xp VF (X8 (Xd Xh Xg)) (pv 0)))
    (Xb (Qm Xh (Vf (pv 2) (pv 1) Zq))
    (Xb (Xz (pv 2))
    Xf))), ?_⟩
  refine Yq (S:=(SC.add (SC.add SC.nil K Xa v_0 a_0) K Xa v_1 a_1)) (σ:=[some v_0, some v_1, none]) 1 ?_ (SC.i (SC.i SC.t h_0) h_1) hm q rfl
  unfold JK
  exact (XN (K:=K) (o:=(oL (oF Xa))) 2 0 (VD (Ev.ls (ZF (Xq (EvB.sh (Xe 0)) Y8))) (Xc (r:=Xa) 0 rfl (λ_ s=>s.l.r))) (Nat.le_of_ble_eq_true rfl) λa1 v2 C3=>(Qj (K:=K) (o:=(oF Xa)) 2 0 rfl rfl (λ_ s=>s.r) (EvS.ev (EvB.sh (Xe 1))) (λ_=>(Xc (r:=Xa) 1 rfl (λ_ s=>s.l.r))) λa11 C12=>(Xy (Yk (o:=(oL (oF Xa))) 2 0 rfl rfl (λ_ s=>s.r)))))
theorem VV : FnScope ["rows"] ["rows"] (Xi Zp):=⟨rfl, rfl, rfl, by decide +kernel, rfl, by decide +kernel, by decide +kernel⟩
theorem VH (D : Def K mg "with_factors" Zp ["rows"]) (g_unit : Fn P w K mg base 1 "unit" ["count", "at"] (sp2 Xa Xa (oL (oF Xa)) JK K)) (Z : Blt mg) : Fn P w K mg base 2 "with_factors" ["rows"] (sp1 (rV (rV Xa)) (oL (oL (oF Xa))) YH K):=by
  refine Yp D VV (λvs H Q E h=>?_) (λf cdv A outer s H vs Q E hr h=>?_)
  . obtain ⟨v_0, a_0, b, rfl, _⟩:=h; rfl
  obtain ⟨v_0, a_0, b, rfl, h_0, hm, q⟩:=h
  have hu:=hu8 hr
  have hu1:=Ym hr
  refine ⟨_, (Xb (Xz (YK (sc:=(Xi Zp)) (N0:=["rows"]) (tns:=["at", "row"]) (caps:=[(0, "rows")]) rfl (Cr rfl Z.b_enumerate (pv 0)) (UC (by decide) (by decide)) (λcl C s H ex E=>⟨US K rfl rfl (Xt (Xm (i:=0) (show List.Nodup (["at", "row", "rows"] : List Str) by decide +kernel) rfl (Or.inl rfl)) (Xt (Xm (i:=1) (show List.Nodup (["at", "row", "rows"] : List Str) by decide +kernel) rfl (Or.inl rfl)) YZ)), Y7, (Xp K1 (pv 1) (XX g_unit hr (by decide) (Xd (Xr (Xn K rfl) rfl Z.b_len PySem.boot_len (Xd (pv 2) Xg)) (Xd (pv 0) Xg))))⟩)))
    Xf), ?_⟩
  refine Yq (S:=(SC.add SC.nil K (rV (rV Xa)) v_0 a_0)) (σ:=[some v_0]) 0 ?_ (SC.i SC.t h_0) hm q rfl
  unfold YH
  exact (Xy (Y9 (λ_=>tg2 0 1) (K0 (Xl (r:=(rV (rV Xa))) 0 rfl (λ_ s=>s.r))) (λC2 a3 v4=>(Fm (EvS.ls (Xl (r:=(rV Xa)) 1 rfl (λ_ s=>s.r))) (Ev.ls (Yn (X2 (Xc (r:=(rV (rV Xa))) 2 rfl (λ_ s=>s.l.l.r))) (Xc (r:=Xa) 0 rfl (λ_ s=>s.l.r))))))))
theorem Zc : FnScope ["free", "tied", "count", "prime", "colours", "arc", "row"] ["free", "tied", "count", "prime"] (Xi ZW):=⟨rfl, rfl, rfl, by decide +kernel, rfl, by decide +kernel, by decide +kernel⟩
theorem VN (D : Def K mg "colouring_of" ZW ["free", "tied", "count", "prime"]) (g_unit : Fn P w K mg base 1 "unit" ["count", "at"] (sp2 Xa Xa (oL (oF Xa)) JK K)) (Z : Blt mg) : Fn P w K mg base 2 "colouring_of" ["free", "tied", "count", "prime"] (sp4 Xa (rDf (rV Xa)) Xa Xa (oL (oF Xa)) YE K):=by
  refine Yp D Zc (λvs H Q E h=>?_) (λf cdv A outer s H vs Q E hr h=>?_)
  . obtain ⟨v_0, v_1, v_2, v_3, a_0, a_1, a_2, a_3, b, rfl, _⟩:=h; rfl
  obtain ⟨v_0, v_1, v_2, v_3, a_0, a_1, a_2, a_3, b, rfl, h_0, h_1, h_2, h_3, hm, q⟩:=h
  have hu:=hu8 hr
  have hu1:=Ym hr
  refine ⟨_, (Xb (Xo (i:=4) Zc.nd rfl (Or.inl rfl) (XX g_unit hr (by decide) (Xd (pv 2) (Xd (pv 0) Xg))))
    (Xb (X9 PassesOwn.never rfl (B0 (pv 1)) (Z4 rfl (Xt (Xm (i:=5) Zc.nd rfl (Or.inl rfl)) (Xt (Xm (i:=6) Zc.nd rfl (Or.inl rfl)) YZ)))
      (Xb (Qm (Xp Yf (V2 QN (XE (Xk K rfl) (pv 6) (pv 0) (λ_ _=>rfl))) (pv 3)) (Vf (pv 4) (pv 5) Zq))
      Xf))
    (Xb (Xz (pv 4))
    Xf))), ?_⟩
  refine Yq (S:=(SC.add (SC.add (SC.add (SC.add SC.nil K Xa v_0 a_0) K (rDf (rV Xa)) v_1 a_1) K Xa v_2 a_2) K Xa v_3 a_3)) (σ:=[some v_0, some v_1, some v_2, some v_3, none, none, none]) 1 ?_ (SC.i (SC.i (SC.i (SC.i SC.t h_0) h_1) h_2) h_3) hm q rfl
  unfold YE
  exact (XN (K:=K) (o:=(oL (oF Xa))) 4 0 (Yn (Xc (r:=Xa) 2 rfl (λ_ s=>s.l.r)) (Xc (r:=Xa) 0 rfl (λ_ s=>s.l.l.l.r))) (Nat.le_of_ble_eq_true rfl) λa1 v2 C3=>(YV (K:=K) (J:=({ oo:=λx7=>[x7.2.2.2], ss:=λx7=>[some v_0, some v_1, some v_2, some v_3, some x7.2.2.1, x7.1, x7.2.1], sc:=λg8 x7=>(SC.addO (SC.add (SC.add (SC.add (SC.add SC.nil K Xa v_0 a_0) K (rDf (rV Xa)) v_1 a_1) K Xa v_2 a_2) K Xa v_3 a_3) K (oL (oF Xa)) x7.2.2.1 g8 x7.2.2.2) } : Jn ((List Int)) (Option V × Option V × V × List XG))) (λ_=>tg2 5 6) ((none), (none), v2, C3) (a1) (Gh (Xl (r:=(rDf (rV Xa))) 1 rfl (λ_ s=>s.l.l.l.r))) rfl rfl (λ_ s=>s) (λg9 x10 a11 v12=>(Qj (K:=K) (o:=(oF Xa)) 4 0 rfl rfl (λ_ s=>s.l.l.r) (EvS.ev (EvB.sh (XR (ZR (Xu (Xc (r:=(rV Xa)) 6 rfl (λ_ s=>s.r)) (Xc (r:=Xa) 0 rfl (λ_ s=>s.l.l.l.l.l.l.r)))) (Xc (r:=Xa) 3 rfl (λ_ s=>s.l.l.l.r))))) (λ_=>(Xc (r:=Xa) 5 rfl (λ_ s=>s.l.r))) λa20 C21=>(Xx (J:=_) ((some v12.1), (some v12.2), x10.2.2.1, C21) (a20) rfl rfl (λ_ s=>(SC.i s.l.l.l.l s.r))))) λg22 x23=>(Xy (Yk (o:=(oL (oF Xa))) 4 0 rfl rfl (λ_ s=>s.r)))))
theorem Z2 : FnScope ["drawing", "prime", "factor", "count", "rows", "tied", "frees", "basis"] ["drawing", "prime", "factor"] (Xi QG):=⟨rfl, rfl, rfl, by decide +kernel, rfl, by decide +kernel, by decide +kernel⟩
theorem Bb (D : Def K mg "solved" QG ["drawing", "prime", "factor"]) (g_arc_count : Fn P w K mg base 2 "arc_count" ["drawing"] (sp1 (rP2 (rV (rV Xa)) (rV (rP2 Xa Xa))) (oF Xa) YQ K)) (g_led_rows : Fn P w K mg base 2 "led_rows" ["rows", "count", "prime"] (sp3 (rV (rV Xa)) Xa Xa (oL (oT2 (oF Xa) (oL (oF Xa)))) Zz K)) (g_with_factors : Fn P w K mg base 2 "with_factors" ["rows"] (sp1 (rV (rV Xa)) (oL (oL (oF Xa))) YH K)) (g_colouring_of : Fn P w K mg base 2 "colouring_of" ["free", "tied", "count", "prime"] (sp4 Xa (rDf (rV Xa)) Xa Xa (oL (oF Xa)) YE K)) (g_equations : Fn P w K mg base 6 "equations" ["drawing", "prime", "factor"] (sp3 (rP2 (rV (rV Xa)) (rV (rP2 Xa Xa))) Xa Xa (oL (oL (oF Xa))) Zl K)) (Z : Blt mg) : Fn P w K mg base 7 "solved" ["drawing", "prime", "factor"] (sp3 (rP2 (rV (rV Xa)) (rV (rP2 Xa Xa))) Xa Xa (oT3 (oL (oF Xa)) (oL (oL (oF Xa))) (oL (oT2 (oF Xa) (oL (oF Xa))))) ZN K):=by
  refine Yp D Z2 (λvs H Q E h=>?_) (λf cdv A outer s H vs Q E hr h=>?_)
  . obtain ⟨v_0, v_1, v_2, a_0, a_1, a_2, b, rfl, _⟩:=h; rfl
  obtain ⟨v_0, v_1, v_2, a_0, a_1, a_2, b, rfl, h_0, h_1, h_2, hm, q⟩:=h
  have hu:=hu8 hr
  have hu1:=Ym hr
  refine ⟨_, (Xb (Xo (i:=3) Z2.nd rfl (Or.inr rfl) (XX g_arc_count hr (by decide) (Xd (pv 0) Xg)))
    (Xb (Xo (i:=4) Z2.nd rfl (Or.inl rfl) (XX g_led_rows hr (by decide) (Xd (XX g_with_factors hr (by decide) (Xd (XX g_equations hr (by decide) (Xd (pv 0) (Xd (pv 1) (Xd (pv 2) Xg)))) Xg)) (Xd (pv 3) (Xd (pv 1) Xg)))))
    (Xb (Xo (i:=5) Z2.nd rfl (Or.inr rfl) (Qy (Kj K rfl rfl) rfl Z.b_dict PyProof.Rows.boot_dict (Xd (pv 4) Xg)))
    (Xb (Jm 6 (Xi QG) ["drawing", "prime", "factor", "count", "rows", "tied", "frees", "basis"] ["arc"] [(5, "tied")] rfl Z2.nd rfl rfl (X1 rfl Z.b_range (Xd (pv 3) Xg)) (Y0 (by decide)) (λcl C s H ex E=>⟨Xm (i:=0) (show List.Nodup (["arc", "tied"] : List Str) by decide +kernel) rfl (Or.inl rfl), (VB (LN (CA hu1 (pv 0) (pv 1)))), (pv 0)⟩))
    (Xb (Jm 7 (Xi QG) ["drawing", "prime", "factor", "count", "rows", "tied", "frees", "basis"] ["free"] [(5, "tied"), (3, "count"), (1, "prime")] rfl Z2.nd rfl rfl (XI (K:=K) rfl (pv 6)) (Y0 (by decide)) (λcl C s H ex E=>⟨Xm (i:=0) (show List.Nodup (["free", "tied", "count", "prime"] : List Str) by decide +kernel) rfl (Or.inl rfl), Y7, (Mf 1 (XX g_colouring_of hr (by decide) (Xd (pv 0) (Xd (pv 1) (Xd (pv 2) (Xd (pv 3) Xg))))))⟩))
    (Xb (Xz (Zs (Xd (pv 6) (Xd (pv 7) (Xd (YK (sc:=(Xi QG)) (N0:=["drawing", "prime", "factor", "count", "rows", "tied", "frees", "basis"]) (tns:=["arc", "row"]) (caps:=[(3, "count")]) rfl (XI (K:=K) rfl (pv 4)) (UC (by decide) (by decide)) (λcl C s H ex E=>⟨US K rfl rfl (Xt (Xm (i:=0) (show List.Nodup (["arc", "row", "count"] : List Str) by decide +kernel) rfl (Or.inl rfl)) (Xt (Xm (i:=1) (show List.Nodup (["arc", "row", "count"] : List Str) by decide +kernel) rfl (Or.inl rfl)) YZ)), Y7, (Zs (Xd (pv 0) (Xd (UM (Ux K rfl) (pv 1) (K3 (pv 2)) GL) Xg)))⟩)) Xg)))))
    Xf)))))), ?_⟩
  refine Yq (S:=(SC.add (SC.add (SC.add SC.nil K (rP2 (rV (rV Xa)) (rV (rP2 Xa Xa))) v_0 a_0) K Xa v_1 a_1) K Xa v_2 a_2)) (σ:=[some v_0, some v_1, some v_2, none, none, none, none, none]) 3 ?_ (SC.i (SC.i (SC.i SC.t h_0) h_1) h_2) hm q rfl
  unfold ZN
  exact (Xv (K:=K) (r:=Xa) 3 (EvB.sh (Ev.toB (X3 (Xc (r:=(rP2 (rV (rV Xa)) (rV (rP2 Xa Xa)))) 0 rfl (λ_ s=>s.l.l.r))))) λa1 v2=>(Xv (K:=K) (r:=(rV (rP2 Xa (rV Xa)))) 4 (Ev.sh (YL (Ev.toB (X3 (Ev.toB (YL (Xc (r:=(rP2 (rV (rV Xa)) (rV (rP2 Xa Xa)))) 0 rfl (λ_ s=>s.l.l.l.r)) (Xc (r:=Xa) 1 rfl (λ_ s=>s.l.l.r)) (Xc (r:=Xa) 2 rfl (λ_ s=>s.l.r)))))) (Xc (r:=Xa) 3 rfl (λ_ s=>s.r)) (Xc (r:=Xa) 1 rfl (λ_ s=>s.l.l.r)))) λa5 v6=>(XN (K:=K) (o:=(oD (rV Xa))) 5 2 (Eg (EvS.ls (Xl (r:=(rV (rP2 Xa (rV Xa)))) 4 rfl (λ_ s=>s.r)))) (Nat.le_of_ble_eq_true rfl) λa17 v18 C19=>(XN (K:=K) (o:=(oL (oF Xa))) 6 0 (Jg (λ_=>tg1 0) (XL (Xc (r:=Xa) 3 rfl (λ_ s=>s.l.l.r))) (λC25 a26 v27=>(QA (K:=K) (Em (Xc (r:=Xa) 0 rfl (λ_ s=>s.r)) (Yc (o:=(oD (rV Xa))) 1 3 rfl rfl (λ_ s=>s.l.r))))) (λC25 a26 v27=>(EvS.ev (Xl (r:=Xa) 0 rfl (λ_ s=>s.r))))) (Nat.le_of_ble_eq_true rfl) λa21 v22 C23=>(XN (K:=K) (o:=(oL (oL (oF Xa)))) 7 1 (VT (K:=K) (o1:=(oL (oF Xa))) 0 rfl (λ_ s=>s.r) (Y9 (λ_=>tg1 0) (XF (Xl (r:=(rV Xa)) 6 rfl (λ_ s=>s.r))) (λC34 a35 v36=>(BA (K:=K) (r:=(rV Xa)) 1 3 rfl rfl (λ_ s=>s.l.l.l.r) (λ_=>V7) (J1 (Xc (r:=Xa) 0 rfl (λ_ s=>s.l.r)) (Xc (r:=(rDf (rV Xa))) 1 rfl (λ_ s=>s.r)) (Xc (r:=Xa) 2 rfl (λ_ s=>s.l.l.l.l.l.l.r)) (Xc (r:=Xa) 3 rfl (λ_ s=>s.l.l.l.l.l.l.l.l.r))))))) (Nat.le_of_ble_eq_true rfl) λa31 v32 C33=>(Xy (BS (Yk (o:=(oL (oF Xa))) 6 0 rfl rfl (λ_ s=>s.l.r)) (λ_=>(Yk (o:=(oL (oL (oF Xa)))) 7 2 rfl rfl (λ_ s=>s.r))) λ_ _=>(Y9 (λ_=>tg2 0 1) (XF (Xl (r:=(rV (rP2 Xa (rV Xa)))) 4 rfl (λ_ s=>s.l.l.l.r))) (λC44 a45 v46=>(QC (EvS.ev (Xl (r:=Xa) 0 rfl (λ_ s=>s.l.r))) λ_=>(GS (EvS.ls (Xl (r:=(rV Xa)) 1 rfl (λ_ s=>s.r))) (UG (K:=K) (Xc (r:=Xa) 2 rfl (λ_ s=>s.l.l.l.l.l.l.r))) UJ)))))))))))
theorem Y5 : FnScope ["drawing", "prime", "factor", "number", "free"] ["drawing", "prime", "factor"] (Xi ZG):=⟨rfl, rfl, rfl, by decide +kernel, rfl, by decide +kernel, by decide +kernel⟩
theorem JT (D : Def K mg "straight_many" ZG ["drawing", "prime", "factor"]) (g_solved : Fn P w K mg base 7 "solved" ["drawing", "prime", "factor"] (sp3 (rP2 (rV (rV Xa)) (rV (rP2 Xa Xa))) Xa Xa (oT3 (oL (oF Xa)) (oL (oL (oF Xa))) (oL (oT2 (oF Xa) (oL (oF Xa))))) ZN K)) (Z : Blt mg) : Fn P w K mg base 8 "straight_many" ["drawing", "prime", "factor"] (sp3 (rP2 (rV (rV Xa)) (rV (rP2 Xa Xa))) Xa Xa (oF Xa) Yb K):=by
  refine Yp D Y5 (λvs H Q E h=>?_) (λf cdv A outer s H vs Q E hr h=>?_)
  . obtain ⟨v_0, v_1, v_2, a_0, a_1, a_2, b, rfl, _⟩:=h; rfl
  obtain ⟨v_0, v_1, v_2, a_0, a_1, a_2, b, rfl, h_0, h_1, h_2, hm, q⟩:=h
  have hu:=hu8 hr
  have hu1:=Ym hr
  refine ⟨_, (Xb (Xo (i:=3) Y5.nd rfl (Or.inl rfl) Xh)
    (Xb (X9 PassesOwn.never rfl (XI (K:=K) rfl (XE (YM K rfl) (XX g_solved hr (by decide) (Xd (pv 0) (Xd (pv 1) (Xd (pv 2) Xg)))) Xh (λ_ _=>rfl))) (Xm (i:=4) Y5.nd rfl (Or.inl rfl))
      (Xb (KN (i:=3) Y5.nd rfl (Or.inl rfl) (pv 1) IQ)
      Xf))
    (Xb (Xz (pv 3))
    Xf))), ?_⟩
  refine Yq (S:=(SC.add (SC.add (SC.add SC.nil K (rP2 (rV (rV Xa)) (rV (rP2 Xa Xa))) v_0 a_0) K Xa v_1 a_1) K Xa v_2 a_2)) (σ:=[some v_0, some v_1, some v_2, none, none]) 0 ?_ (SC.i (SC.i (SC.i SC.t h_0) h_1) h_2) hm q rfl
  unfold Yb
  exact (Xv (K:=K) (r:=Xa) 3 (EvB.sh (Xe 1)) λa1 v2=>(YV (K:=K) (J:=({ oo:=λx8=>[], ss:=λx8=>[some v_0, some v_1, some v_2, some x8.2, x8.1], sc:=λg9 x8=>(SC.add (SC.add (SC.add (SC.add SC.nil K (rP2 (rV (rV Xa)) (rV (rP2 Xa Xa))) v_0 a_0) K Xa v_1 a_1) K Xa v_2 a_2) K Xa x8.2 g9) } : Jn (Int) (Option V × V))) (λ_=>tg1 4) ((none), v2) (a1) (XF (Ij (Ev.sh (YL (Xc (r:=(rP2 (rV (rV Xa)) (rV (rP2 Xa Xa)))) 0 rfl (λ_ s=>s.l.l.l.r)) (Xc (r:=Xa) 1 rfl (λ_ s=>s.l.l.r)) (Xc (r:=Xa) 2 rfl (λ_ s=>s.l.r)))))) rfl rfl (λ_ s=>s) (λg10 x11 a12 v13=>(Il (K:=K) 3 rfl (λ_ s=>s.l.r) (Xc (r:=Xa) 1 rfl (λ_ s=>s.l.l.l.r)) λa16 v15=>(Xx (J:=_) ((some v13), v15) (a16) rfl rfl (λ_ s=>(SC.i s.l.l.l s.r))))) λg17 x18=>(Xy (EvS.ev (Xl (r:=Xa) 3 rfl (λ_ s=>s.r))))))
theorem UX : FnScope ["_law_script", "_law_place", "_law_seed", "_law_cell_here"] ["_law_script", "_law_place"] (Xi Bj):=⟨rfl, rfl, rfl, by decide +kernel, rfl, by decide +kernel, by decide +kernel⟩
theorem Hs (D : Def K mg "_law_cell" Bj ["_law_script", "_law_place"])  (Z : Blt mg) : Fn P w K mg base 1 "_law_cell" ["_law_script", "_law_place"] (sp2 (rL Xa) Xa (oF Xa) Vp K):=by
  refine Yp D UX (λvs H Q E h=>?_) (λf cdv A outer s H vs Q E hr h=>?_)
  . obtain ⟨v_0, v_1, a_0, a_1, b, rfl, _⟩:=h; rfl
  obtain ⟨v_0, v_1, a_0, a_1, b, rfl, h_0, h_1, hm, q⟩:=h
  have hu:=hu8 hr
  have hu1:=Ym hr
  refine ⟨_, (Xb (YC (XH JG (pv 1) (Xr (Xn K rfl) rfl Z.b_len PySem.boot_len (Xd (pv 0) Xg)) (XV _))
      (Xb (Xz (XE (Xk K rfl) (pv 0) (pv 1) (λ_ _=>rfl)))
      Xf)
      Xf)
    (Xb (Xo (i:=2) UX.nd rfl (Or.inl rfl) Xh)
    (Xb (X9 PassesOwn.never rfl (XI (K:=K) rfl (UM (Ux K rfl) (pv 0) GL (K3 Xh))) (Xm (i:=3) UX.nd rfl (Or.inl rfl))
      (Xb (Xo (i:=2) UX.nd rfl (Or.inl rfl) (Xp Yf (Xp XZ (Xp XZ (Xp Yu (pv 2) Xh) (Xp Yf (pv 3) Xh)) Xh) Xh))
      Xf))
    (Xb (Xz (Xp Yf (Xp XZ (pv 2) (Xp Yu Xh (pv 1))) Xh))
    Xf)))), ?_⟩
  refine Yq (S:=(SC.add (SC.add SC.nil K (rL Xa) v_0 a_0) K Xa v_1 a_1)) (σ:=[some v_0, some v_1, none, none]) 0 ?_ (SC.i (SC.i SC.t h_0) h_1) hm q rfl
  unfold Vp
  exact (Qn (Xs (K:=K) (Qv (Xc (r:=Xa) 1 rfl (λ_ s=>s.r)) (En (Xc (r:=(rL Xa)) 0 rfl (λ_ s=>s.l.r))))) (Xy (EvS.ev (EvB.sh (HL (Xc (r:=(rL Xa)) 0 rfl (λ_ s=>s.l.r)) (Xc (r:=Xa) 1 rfl (λ_ s=>s.r)))))) (Xv (K:=K) (r:=Xa) 2 (EvB.sh (Xe 5)) λa7 v8=>(YV (K:=K) (J:=({ oo:=λx13=>[], ss:=λx13=>[some v_0, some v_1, some x13.2, x13.1], sc:=λg14 x13=>(SC.add (SC.add (SC.add SC.nil K (rL Xa) v_0 a_0) K Xa v_1 a_1) K Xa x13.2 g14) } : Jn (Int) (Option V × V))) (λ_=>tg1 3) ((none), v8) (a7) (XF (Ev.sh (Cj (Xc (r:=(rL Xa)) 0 rfl (λ_ s=>s.l.l.r)) UJ (UG (K:=K) (Xe 63))))) rfl rfl (λ_ s=>s) (λg15 x16 a17 v18=>(Xv (K:=K) (r:=Xa) 2 (EvB.sh (XR (XM (XM (X0 (Xc (r:=Xa) 2 rfl (λ_ s=>s.l.r)) (Xe 48271)) (XR (Xc (r:=Xa) 3 rfl (λ_ s=>s.r)) (Xe 1000003))) (Xe 1)) (Xe 2147483647))) λa19 v20=>(Xx (J:=_) ((some v18), v20) (a19) rfl rfl (λ_ s=>(SC.i s.l.l.l s.r))))) λg31 x32=>(Xy (EvS.ev (EvB.sh (XR (XM (Xc (r:=Xa) 2 rfl (λ_ s=>s.r)) (X0 (Xe 7919) (Xc (r:=Xa) 1 rfl (λ_ s=>s.l.r)))) (Xe 1000003))))))))
theorem Dy : FnScope ["_law_cell_here", "_law_k", "_law_one", "_law_two"] ["_law_cell_here", "_law_k"] (Xi HI):=⟨rfl, rfl, rfl, by decide +kernel, rfl, by decide +kernel, by decide +kernel⟩
theorem LG (D : Def K mg "_law_mix" HI ["_law_cell_here", "_law_k"])  (Z : Blt mg) : Fn P w K mg base 1 "_law_mix" ["_law_cell_here", "_law_k"] (sp2 Xa Xa (oF Xa) Gi K):=by
  refine Yp D Dy (λvs H Q E h=>?_) (λf cdv A outer s H vs Q E hr h=>?_)
  . obtain ⟨v_0, v_1, a_0, a_1, b, rfl, _⟩:=h; rfl
  obtain ⟨v_0, v_1, a_0, a_1, b, rfl, h_0, h_1, hm, q⟩:=h
  have hu:=hu8 hr
  have hu1:=Ym hr
  refine ⟨_, (Xb (Xo (i:=2) Dy.nd rfl (Or.inl rfl) (Xp Yf (Xp GT (Xp XZ (Xp XZ (Xp Yf (pv 0) Xh) (Xp Yu Xh (pv 1))) Xh) Xh) Xh))
    (Xb (Xo (i:=3) Dy.nd rfl (Or.inl rfl) (Xp Yf (Xp XZ (Xp XZ (Xp Yu (pv 2) Xh) (Xp Yu (Xp Yu Xh (pv 1)) (pv 1))) Xh) Xh))
    (Xb (Xz (Xp Uu (pv 3) Xh))
    Xf))), ?_⟩
  refine Yq (S:=(SC.add (SC.add SC.nil K Xa v_0 a_0) K Xa v_1 a_1)) (σ:=[some v_0, some v_1, none, none]) 0 ?_ (SC.i (SC.i SC.t h_0) h_1) hm q rfl
  unfold Gi
  exact (Xv (K:=K) (r:=Xa) 2 (EvB.sh (XR (U0 (XM (XM (XR (Xc (r:=Xa) 0 rfl (λ_ s=>s.l.r)) (Xe 2147483629)) (X0 (Xe 1013) (Xc (r:=Xa) 1 rfl (λ_ s=>s.r)))) (Xe 7919)) (Xe 3)) (Xe 2147483647))) λa1 v2=>(Xv (K:=K) (r:=Xa) 3 (EvB.sh (XR (XM (XM (X0 (Xc (r:=Xa) 2 rfl (λ_ s=>s.r)) (Xe 40699)) (X0 (X0 (Xe 3793) (Xc (r:=Xa) 1 rfl (λ_ s=>s.l.r))) (Xc (r:=Xa) 1 rfl (λ_ s=>s.l.r)))) (Xe 11)) (Xe 2147483399))) λa15 v16=>(Xy (EvS.ev (EvB.sh (Ge (Xc (r:=Xa) 3 rfl (λ_ s=>s.r)) (Xe 101)))))))
theorem VC : FnScope ["_law_script", "_law_place", "_law_sizes", "_law_cell_here", "_law_left", "_law_some", "_law_k", "_law_other"] ["_law_script", "_law_place", "_law_sizes"] (Xi Io):=⟨rfl, rfl, rfl, by decide +kernel, rfl, by decide +kernel, by decide +kernel⟩
theorem IW (D : Def K mg "_law_row" Io ["_law_script", "_law_place", "_law_sizes"]) (g_cell : Fn P w K mg base 1 "_law_cell" ["_law_script", "_law_place"] (sp2 (rL Xa) Xa (oF Xa) Vp K)) (g_mix : Fn P w K mg base 1 "_law_mix" ["_law_cell_here", "_law_k"] (sp2 Xa Xa (oF Xa) Gi K)) (Z : Blt mg) : Fn P w K mg base 2 "_law_row" ["_law_script", "_law_place", "_law_sizes"] (sp3 (rL Xa) Xa (rV Xa) (oL (oF Xa)) U8 K):=by
  refine Yp D VC (λvs H Q E h=>?_) (λf cdv A outer s H vs Q E hr h=>?_)
  . obtain ⟨v_0, v_1, v_2, a_0, a_1, a_2, b, rfl, _⟩:=h; rfl
  obtain ⟨v_0, v_1, v_2, a_0, a_1, a_2, b, rfl, h_0, h_1, h_2, hm, q⟩:=h
  have hu:=hu8 hr
  have hu1:=Ym hr
  refine ⟨_, (Xb (Xo (i:=3) VC.nd rfl (Or.inl rfl) (XX g_cell hr (by decide) (Xd (pv 0) (Xd (pv 1) Xg))))
    (Xb (Xo (i:=4) VC.nd rfl (Or.inl rfl) (pv 3))
    (Xb (Xo (i:=5) VC.nd rfl (Or.inl rfl) (X8 Xg))
    (Xb (X9 PassesOwn.never rfl (X1 rfl Z.b_range (Xd (Xr (Xn K rfl) rfl Z.b_len PySem.boot_len (Xd (pv 2) Xg)) Xg)) (Xm (i:=6) VC.nd rfl (Or.inl rfl))
      (Xb (YC (XH JG (pv 3) (Xp GT Xh Xh) (XV _))
        (Xb (Yh (ZJ PySem.F.plainAttrs_list PySem.F.slot_list_append PySem.F.type_list_append XU (pv 5) (Xd (Xp Yf (XX g_mix hr (by decide) (Xd (pv 3) (Xd (pv 6) Xg))) (XE (Xk K rfl) (pv 2) (pv 6) (λ_ _=>rfl))) Xg)))
        Xf)
        (Xb (YC (XH FN (pv 4) Xh (XV _))
          (Xb (Yh (ZJ PySem.F.plainAttrs_list PySem.F.slot_list_append PySem.F.type_list_append XU (pv 5) (Xd (Xp Yf (pv 4) (XE (Xk K rfl) (pv 2) (pv 6) (λ_ _=>rfl))) Xg)))
          (Xb (Xo (i:=4) VC.nd rfl (Or.inl rfl) (Xp Uu (pv 4) (XE (Xk K rfl) (pv 2) (pv 6) (λ_ _=>rfl))))
          Xf))
          (Xb (Xo (i:=7) VC.nd rfl (Or.inl rfl) (XX g_cell hr (by decide) (Xd (pv 0) (Xd (Xp Yf (Xp XZ (Xp XZ (pv 1) Xh) (pv 6)) Xh) Xg))))
          (Xb (Yh (ZJ PySem.F.plainAttrs_list PySem.F.slot_list_append PySem.F.type_list_append XU (pv 5) (Xd (Xp Yf (XX g_mix hr (by decide) (Xd (pv 7) (Xd (pv 6) Xg))) (XE (Xk K rfl) (pv 2) (pv 6) (λ_ _=>rfl))) Xg)))
          Xf)))
        Xf))
      Xf))
    (Xb (Xz (pv 5))
    Xf))))), ?_⟩
  refine Yq (S:=(SC.add (SC.add (SC.add SC.nil K (rL Xa) v_0 a_0) K Xa v_1 a_1) K (rV Xa) v_2 a_2)) (σ:=[some v_0, some v_1, some v_2, none, none, none, none, none]) 1 ?_ (SC.i (SC.i (SC.i SC.t h_0) h_1) h_2) hm q rfl
  unfold U8
  exact (Xv (K:=K) (r:=Xa) 3 (EvB.sh (Ev.toB (Yn (Xc (r:=(rL Xa)) 0 rfl (λ_ s=>s.l.l.r)) (Xc (r:=Xa) 1 rfl (λ_ s=>s.l.r))))) λa1 v2=>(Xv (K:=K) (r:=Xa) 4 (Xl (r:=Xa) 3 rfl (λ_ s=>s.r)) λa6 v7=>(XN (K:=K) (o:=(oL (oF Xa))) 5 0 (Qu (o:=(oF Xa))) (Nat.le_of_ble_eq_true rfl) λa8 v9 C10=>(YV (K:=K) (J:=({ oo:=λx13=>[x13.2.2.2.2], ss:=λx13=>[some v_0, some v_1, some v_2, some v2, some x13.2.2.1, some x13.2.1, x13.1, x13.2.2.2.1], sc:=λg14 x13=>(SC.add (SC.addO (SC.add (SC.add (SC.add (SC.add SC.nil K (rL Xa) v_0 a_0) K Xa v_1 a_1) K (rV Xa) v_2 a_2) K Xa v2 a1) K (oL (oF Xa)) x13.2.1 g14.1 x13.2.2.2.2) K Xa x13.2.2.1 g14.2) } : Jn ((List Int) × Int) (Option V × V × V × Option V × List XG))) (λ_=>tg1 6) ((none), v9, v7, (none), C10) (a8, a6) (XL (X2 (Xc (r:=(rV Xa)) 2 rfl (λ_ s=>s.l.l.l.r)))) rfl rfl (λ_ s=>(SC.i (SC.i s.l.l s.r) s.l.r)) (λg15 x16 a17 v18=>(Zf (J:=({ oo:=λx24=>[x24.2.2.2], ss:=λx24=>[some v_0, some v_1, some v_2, some v2, some x24.2.1, some x24.1, some v18, x24.2.2.1], sc:=λg25 x24=>(SC.add (SC.addO (SC.add (SC.add (SC.add (SC.add (SC.add SC.nil K (rL Xa) v_0 a_0) K Xa v_1 a_1) K (rV Xa) v_2 a_2) K Xa v2 a1) K Xa v18 a17) K (oL (oF Xa)) x24.1 g25.1 x24.2.2.2) K Xa x24.2.1 g25.2) } : Jn ((List Int) × Int) (V × V × Option V × List XG))) (ZQ (Fd:=FNd ({ oo:=λx24=>[x24.2.2.2], ss:=λx24=>[some v_0, some v_1, some v_2, some v2, some x24.2.1, some x24.1, some v18, x24.2.2.1], sc:=λg25 x24=>(SC.add (SC.addO (SC.add (SC.add (SC.add (SC.add (SC.add SC.nil K (rL Xa) v_0 a_0) K Xa v_1 a_1) K (rV Xa) v_2 a_2) K Xa v2 a1) K Xa v18 a17) K (oL (oF Xa)) x24.1 g25.1 x24.2.2.2) K Xa x24.2.1 g25.2) } : Jn ((List Int) × Int) (V × V × Option V × List XG))) (Xs (K:=K) (Qv (Xc (r:=Xa) 3 rfl (λ_ s=>s.l.l.l.r)) (U0 (Xe 10) (Xe 18)))) (Zr (K:=K) (o:=(oF Xa)) (f:=λa35=>(Rs.ok (a35, g15.2))) 5 0 rfl rfl rfl (λ_ s=>s.l.l.r) (EvS.ev (EvB.sh (XR (Ev.toB (Yn (Xc (r:=Xa) 3 rfl (λ_ s=>s.l.l.l.r)) (Xc (r:=Xa) 6 rfl (λ_ s=>s.r)))) (Xu (Xc (r:=(rV Xa)) 2 rfl (λ_ s=>s.l.l.l.l.r)) (Xc (r:=Xa) 6 rfl (λ_ s=>s.r)))))) λa33 C34=>(Xx (J:=_) (x16.2.1, x16.2.2.1, (x16.2.2.2.1), C34) ((g15.1 ++ [a33]), g15.2) rfl rfl (λ_ s=>(SC.i (SC.i (SC.i s.l.l.l.l s.l.r) s.r) s.l.l.r)))) (Zf (J:=({ oo:=λx39=>[x39.2.2.2], ss:=λx39=>[some v_0, some v_1, some v_2, some v2, some x39.1, some x39.2.2.1, some v18, x39.2.1], sc:=λg40 x39=>(SC.addO (SC.add (SC.add (SC.add (SC.add (SC.add (SC.add SC.nil K (rL Xa) v_0 a_0) K Xa v_1 a_1) K (rV Xa) v_2 a_2) K Xa v2 a1) K Xa v18 a17) K Xa x39.1 g40.1) K (oL (oF Xa)) x39.2.2.1 g40.2 x39.2.2.2) } : Jn (Int × (List Int)) (V × Option V × V × List XG))) (ZQ (Fd:=FNd ({ oo:=λx39=>[x39.2.2.2], ss:=λx39=>[some v_0, some v_1, some v_2, some v2, some x39.1, some x39.2.2.1, some v18, x39.2.1], sc:=λg40 x39=>(SC.addO (SC.add (SC.add (SC.add (SC.add (SC.add (SC.add SC.nil K (rL Xa) v_0 a_0) K Xa v_1 a_1) K (rV Xa) v_2 a_2) K Xa v2 a1) K Xa v18 a17) K Xa x39.1 g40.1) K (oL (oF Xa)) x39.2.2.1 g40.2 x39.2.2.2) } : Jn (Int × (List Int)) (V × Option V × V × List XG))) (Xs (K:=K) (Ur (Xc (r:=Xa) 4 rfl (λ_ s=>s.l.r)) (Xe 0))) (Zr (K:=K) (o:=(oF Xa)) (f:=λa47=>(Rs.bind (Rs.bind (Rs.ok g15.2) λx52=>(Rs.bind (Rs.bind (Rs.ok a_2) λx50=>(Rs.bind (Rs.ok a17) λx51=>(atR x50 x51))) λx53=>(IF x52 x53))) λa48=>(Rs.ok (a48, a47)))) 5 0 rfl rfl rfl (λ_ s=>s.l.l.r) (EvS.ev (EvB.sh (XR (Xc (r:=Xa) 4 rfl (λ_ s=>s.l.r)) (Xu (Xc (r:=(rV Xa)) 2 rfl (λ_ s=>s.l.l.l.l.r)) (Xc (r:=Xa) 6 rfl (λ_ s=>s.r)))))) λa45 C46=>(Xv (K:=K) (r:=Xa) 4 (EvB.sh (Ge (Xc (r:=Xa) 4 rfl (λ_ s=>s.l.l.r)) (Xu (Xc (r:=(rV Xa)) 2 rfl (λ_ s=>s.l.l.l.l.l.r)) (Xc (r:=Xa) 6 rfl (λ_ s=>s.l.r))))) λa48 v49=>(Xx (J:=_) (v49, (x16.2.2.2.1), x16.2.1, C46) (a48, (g15.1 ++ [a45])) rfl rfl (λ_ s=>(SC.i (SC.i (SC.i s.l.l.l.l.l s.l.l.r) s.r) s.l.r))))) (Xv (K:=K) (r:=Xa) 7 (EvB.sh (Ev.toB (Yn (Xc (r:=(rL Xa)) 0 rfl (λ_ s=>s.l.l.l.l.l.l.r)) (XR (XM (XM (Xc (r:=Xa) 1 rfl (λ_ s=>s.l.l.l.l.l.r)) (Xe 1)) (Xc (r:=Xa) 6 rfl (λ_ s=>s.r))) (Xe 63))))) λa54 v55=>(Zr (K:=K) (o:=(oF Xa)) (f:=λa74=>(Rs.ok (g15.2, a74))) 5 0 rfl rfl rfl (λ_ s=>s.l.l.l.r) (EvS.ev (EvB.sh (XR (Ev.toB (Yn (Xc (r:=Xa) 7 rfl (λ_ s=>s.r)) (Xc (r:=Xa) 6 rfl (λ_ s=>s.l.r)))) (Xu (Xc (r:=(rV Xa)) 2 rfl (λ_ s=>s.l.l.l.l.l.r)) (Xc (r:=Xa) 6 rfl (λ_ s=>s.l.r)))))) λa72 C73=>(Xx (J:=_) (x16.2.2.1, (some v55), x16.2.1, C73) (g15.2, (g15.1 ++ [a72])) rfl rfl (λ_ s=>(SC.i (SC.i (SC.i s.l.l.l.l.l s.l.l.r) s.l.l.l.r) s.r)))))) λg76 x75=>(Xx (J:=_) (x75.2.2.1, x75.1, (x75.2.1), x75.2.2.2) (g76.2, g76.1) rfl rfl (λ_ s=>(SC.i (SC.i s.l.l s.r) s.l.r))))) λg78 x77=>(Xx (J:=_) ((some v18), x77.1, x77.2.1, (x77.2.2.1), x77.2.2.2) (g78.1, g78.2) rfl rfl (λ_ s=>(SC.i (SC.i s.l.l.l s.l.r) s.r))))) λg79 x80=>(Xy (Yk (o:=(oL (oF Xa))) 5 0 rfl rfl (λ_ s=>s.l.r)))))))
theorem J0 : FnScope ["_law_names", "_law_some", "_law_left", "_law_found", "_law_k"] ["_law_names", "_law_some"] (Xi Gp):=⟨rfl, rfl, rfl, by decide +kernel, rfl, by decide +kernel, by decide +kernel⟩
theorem BV (D : Def K mg "_law_mixed" Gp ["_law_names", "_law_some"])  (Z : Blt mg) : Fn P w K mg base 1 "_law_mixed" ["_law_names", "_law_some"] (sp2 (rV Xa) (rV Xa) (oL (oF Xa)) JC K):=by
  refine Yp D J0 (λvs H Q E h=>?_) (λf cdv A outer s H vs Q E hr h=>?_)
  . obtain ⟨v_0, v_1, a_0, a_1, b, rfl, _⟩:=h; rfl
  obtain ⟨v_0, v_1, a_0, a_1, b, rfl, h_0, h_1, hm, q⟩:=h
  have hu:=hu8 hr
  have hu1:=Ym hr
  refine ⟨_, (Xb (Xo (i:=2) J0.nd rfl (Or.inl rfl) (Qy (Qb K rfl) rfl Z.b_list PyProof.Rows.boot_list (Xd (pv 0) Xg)))
    (Xb (Xo (i:=3) J0.nd rfl (Or.inl rfl) (X8 Xg))
    (Xb (X9 PassesOwn.never rfl (X1 rfl Z.b_range (Xd (Xr (Xn K rfl) rfl Z.b_len PySem.boot_len (Xd (pv 0) Xg)) Xg)) (Xm (i:=4) J0.nd rfl (Or.inl rfl))
      (Xb (Yh (ZJ PySem.F.plainAttrs_list PySem.F.slot_list_append PySem.F.type_list_append XU (pv 3) (Xd (ZJ PySem.F.plainAttrs_list PySem.F.slot_list_pop PySem.F.type_list_pop GX (pv 2) (Xd (Xp Yf (XE (Xk K rfl) (pv 1) (Xp XZ (Xp Yu Xh (pv 4)) Xh) (λ_ _=>rfl)) (Xr (Xn K rfl) rfl Z.b_len PySem.boot_len (Xd (pv 2) Xg))) Xg)) Xg)))
      Xf))
    (Xb (Xz (pv 3))
    Xf)))), ?_⟩
  refine Yq (S:=(SC.add (SC.add SC.nil K (rV Xa) v_0 a_0) K (rV Xa) v_1 a_1)) (σ:=[some v_0, some v_1, none, none, none]) 2 ?_ (SC.i (SC.i SC.t h_0) h_1) hm q rfl
  unfold JC
  exact (XN (K:=K) (o:=(oL (oF Xa))) 2 1 (Gb (EvS.ls (Xl (r:=(rV Xa)) 0 rfl (λ_ s=>s.l.r)))) (Nat.le_of_ble_eq_true rfl) λa1 v2 C3=>(XN (K:=K) (o:=(oL (oF Xa))) 3 0 (Qu (o:=(oF Xa))) (Nat.le_of_ble_eq_true rfl) λa5 v6 C7=>(YV (K:=K) (J:=({ oo:=λx10=>[x10.2.2.2.1, x10.2.2.2.2], ss:=λx10=>[some v_0, some v_1, some x10.2.2.1, some x10.2.1, x10.1], sc:=λg11 x10=>(SC.addO (SC.addO (SC.add (SC.add SC.nil K (rV Xa) v_0 a_0) K (rV Xa) v_1 a_1) K (oL (oF Xa)) x10.2.1 g11.1 x10.2.2.2.1) K (oL (oF Xa)) x10.2.2.1 g11.2 x10.2.2.2.2) } : Jn ((List Int) × (List Int)) (Option V × V × V × List XG × List XG))) (λ_=>tg1 4) ((none), v6, v2, C7, C3) (a5, a1) (XL (X2 (Xc (r:=(rV Xa)) 0 rfl (λ_ s=>s.l.l.l.r)))) rfl rfl (λ_ s=>(SC.i (SC.i s.l.l s.r) s.l.r)) (λg12 x13 a14 v15=>(BC (K:=K) (r:=Xa) (f:=λa26 a27=>(Rs.ok (a27, a26))) 2 1 3 0 (by decide) rfl rfl (λ_ s=>s.l.r) rfl rfl (λ_ s=>s.l.l.r) (XR (Xu (Xc (r:=(rV Xa)) 1 rfl (λ_ s=>s.l.l.l.r)) (XM (X0 (Xe 8) (Xc (r:=Xa) 4 rfl (λ_ s=>s.r))) (Xe 9))) (X2 (Yc (o:=(oL (oF Xa))) 2 1 rfl rfl (λ_ s=>s.l.r)))) λa25 a26 C28 C29=>(Xx (J:=_) ((some v15), x13.2.1, x13.2.2.1, C29, C28) ((g12.1 ++ [a25]), a26) rfl rfl (λ_ s=>(SC.i (SC.i s.l.l.l.l.l s.r) s.l.r))))) λg32 x33=>(Xy (Yk (o:=(oL (oF Xa))) 3 0 rfl rfl (λ_ s=>s.l.r))))))
theorem Vg : FnScope ["_law_names", "_law_some", "_law_rings", "_law_left", "_law_one", "_law_walks", "_law_k", "_law_at", "_law_passage"] ["_law_names", "_law_some", "_law_rings"] (Xi BH):=⟨rfl, rfl, rfl, by decide +kernel, rfl, by decide +kernel, by decide +kernel⟩
theorem LP (D : Def K mg "_law_any" BH ["_law_names", "_law_some", "_law_rings"])  (Z : Blt mg) : Fn P w K mg base 1 "_law_any" ["_law_names", "_law_some", "_law_rings"] (sp3 (rV Xa) (rV Xa) Xa (oL (oL (oF Xa))) Fx K):=by
  refine Yp D Vg (λvs H Q E h=>?_) (λf cdv A outer s H vs Q E hr h=>?_)
  . obtain ⟨v_0, v_1, v_2, a_0, a_1, a_2, b, rfl, _⟩:=h; rfl
  obtain ⟨v_0, v_1, v_2, a_0, a_1, a_2, b, rfl, h_0, h_1, h_2, hm, q⟩:=h
  have hu:=hu8 hr
  have hu1:=Ym hr
  refine ⟨_, (Xb (Xo (i:=3) Vg.nd rfl (Or.inl rfl) (X8 Xg))
    (Xb (X9 PassesOwn.never rfl (XI (K:=K) rfl (pv 0)) (Xm (i:=4) Vg.nd rfl (Or.inl rfl))
      (Xb (Yh (ZJ PySem.F.plainAttrs_list PySem.F.slot_list_extend PySem.F.type_list_extend Dc (pv 3) (Xd (X8 (Xd (pv 4) (Xd (V2 QN (pv 4)) Xg))) Xg Vn)))
      Xf))
    (Xb (Jm 5 (Xi BH) ["_law_names", "_law_some", "_law_rings", "_law_left", "_law_one", "_law_walks", "_law_k", "_law_at", "_law_passage"] ["_law_k"] [] rfl Vg.nd rfl rfl (X1 rfl Z.b_range (Xd (pv 2) Xg)) (Y0 (by decide)) (λcl C s H ex E=>⟨Xm (i:=0) (show List.Nodup (["_law_k"] : List Str) by decide +kernel) rfl (Or.inl rfl), Y7, (X8 Xg)⟩))
    (Xb (X9 PassesOwn.never rfl (X1 rfl Z.b_range (Xd (Xp Yu Xh (Xr (Xn K rfl) rfl Z.b_len PySem.boot_len (Xd (pv 0) Xg))) Xg)) (Xm (i:=6) Vg.nd rfl (Or.inl rfl))
      (Xb (Xo (i:=7) Vg.nd rfl (Or.inl rfl) (Xp XZ (Xp Yu Xh (pv 6)) Xh))
      (Xb (Xo (i:=8) Vg.nd rfl (Or.inl rfl) (ZJ PySem.F.plainAttrs_list PySem.F.slot_list_pop PySem.F.type_list_pop GX (pv 3) (Xd (Xp Yf (XE (Xk K rfl) (pv 1) (pv 7) (λ_ _=>rfl)) (Xr (Xn K rfl) rfl Z.b_len PySem.boot_len (Xd (pv 3) Xg))) Xg)))
      (Xb (Yh (ZJ PySem.F.plainAttrs_list PySem.F.slot_list_append PySem.F.type_list_append XU (XE (Xk K rfl) (pv 5) (Xp Yf (XE (Xk K rfl) (pv 1) (Xp XZ (pv 7) Xh) (λ_ _=>rfl)) (pv 2)) (λ_ _=>rfl)) (Xd (pv 8) Xg)))
      Xf))))
    (Xb (Xz (pv 5))
    Xf))))), ?_⟩
  refine Yq (S:=(SC.add (SC.add (SC.add SC.nil K (rV Xa) v_0 a_0) K (rV Xa) v_1 a_1) K Xa v_2 a_2)) (σ:=[some v_0, some v_1, some v_2, none, none, none, none, none, none]) 2 ?_ (SC.i (SC.i (SC.i SC.t h_0) h_1) h_2) hm q rfl
  unfold Fx
  exact (XN (K:=K) (o:=(oL (oF Xa))) 3 1 (Qu (o:=(oF Xa))) (Nat.le_of_ble_eq_true rfl) λa1 v2 C3=>(YV (K:=K) (J:=({ oo:=λx4=>[[], x4.2.2], ss:=λx4=>[some v_0, some v_1, some v_2, some x4.2.1, x4.1, none, none, none, none], sc:=λg5 x4=>(SC.addO (SC.add (SC.add (SC.add SC.nil K (rV Xa) v_0 a_0) K (rV Xa) v_1 a_1) K Xa v_2 a_2) K (oL (oF Xa)) x4.2.1 g5 x4.2.2) } : Jn ((List Int)) (Option V × V × List XG))) (λ_=>tg1 4) ((none), v2, C3) (a1) (XF (Xl (r:=(rV Xa)) 0 rfl (λ_ s=>s.l.l.l.r))) rfl rfl (λ_ s=>s) (λg6 x7 a8 v9=>(LS (K:=K) (o:=(oF Xa)) (f:=λa18=>(Rs.ok (a18))) 3 1 rfl rfl rfl (λ_ s=>s.l.r) (ZF (Xq (Xl (r:=Xa) 4 rfl (λ_ s=>s.r)) (Xq (EvB.sh (ZR (Xc (r:=Xa) 4 rfl (λ_ s=>s.r)))) Y8))) λa16 C17=>(Xx (J:=_) ((some v9), x7.2.1, C17) ((g6 ++ a16)) rfl rfl (λ_ s=>(SC.i s.l.l.l s.r))))) λg19 x20=>(XN (K:=K) (o:=(oL (oL (oF Xa)))) 5 0 (Y9 (λ_=>tg1 0) (XL (Xc (r:=Xa) 2 rfl (λ_ s=>s.l.r))) (λC25 a26 v27=>(Qu (o:=(oF Xa))))) (Nat.le_of_ble_eq_true rfl) λa21 v22 C23=>(YV (K:=K) (J:=({ oo:=λx33=>[x33.2.2.2.2.2.2, x33.2.2.2.2.2.1], ss:=λx33=>[some v_0, some v_1, some v_2, some x33.2.2.2.1, x20.1, some x33.2.2.2.2.1, x33.1, x33.2.1, x33.2.2.1], sc:=λg34 x33=>(SC.addO (SC.addO (SC.add (SC.add (SC.add SC.nil K (rV Xa) v_0 a_0) K (rV Xa) v_1 a_1) K Xa v_2 a_2) K (oL (oF Xa)) x33.2.2.2.1 g34.1 x33.2.2.2.2.2.1) K (oL (oL (oF Xa))) x33.2.2.2.2.1 g34.2 x33.2.2.2.2.2.2) } : Jn ((List Int) × (List (List Int))) (Option V × Option V × Option V × V × V × List XG × List XG))) (λ_=>tg1 6) ((none), (none), (none), x20.2.1, v22, x20.2.2, C23) (g19, a21) (XL (X0 (Xe 2) (X2 (Xc (r:=(rV Xa)) 0 rfl (λ_ s=>s.l.l.l.l.r))))) rfl rfl (λ_ s=>s) (λg35 x36 a37 v38=>(Xv (K:=K) (r:=Xa) 7 (EvB.sh (XM (X0 (Xe 4) (Xc (r:=Xa) 6 rfl (λ_ s=>s.r))) (Xe 5))) λa39 v40=>(Li (K:=K) (r:=Xa) (f:=(λp55=>(λa50 a51=>(Rs.bind (Rs.bind (Rs.bind (Rs.ok a_1) λx58=>(Rs.bind (Rs.bind (Rs.ok a39) λx56=>(Rs.bind (Rs.ok (1 : Int)) λx57=>(Rs.ok (x56 + x57)))) λx59=>(atR x58 x59))) λx60=>(Rs.bind (Rs.ok a_2) λx61=>(Z0 x60 x61))) λx63=>(Rs.bind (atR g35.2 x63) λx64=>(Rs.bind (Rs.ok a50) λx62=>(chk (x64.length < sizeLine) (Rs.bind (QD g35.2 x63 (x64 ++ [x62])) λa65=>(Rs.ok (a51, a65)))))))) p55.1 p55.2)) 8 3 1 rfl rfl (λ_ s=>s.l.l.l.r) (XR (Xu (Xc (r:=(rV Xa)) 1 rfl (λ_ s=>s.l.l.l.l.l.r)) (Xc (r:=Xa) 7 rfl (λ_ s=>s.r))) (X2 (Yc (o:=(oL (oF Xa))) 3 1 rfl rfl (λ_ s=>s.l.l.l.r)))) λa50 a51 v52 C53=>(BI (K:=K) (r:=Xa) 5 0 rfl rfl (λ_ s=>s.l.l.l.l.r) (Xl (r:=Xa) 8 rfl (λ_ s=>s.l.r)) (XR (Xu (Xc (r:=(rV Xa)) 1 rfl (λ_ s=>s.l.l.l.l.l.l.l.r)) (XM (Xc (r:=Xa) 7 rfl (λ_ s=>s.l.l.r)) (Xe 1))) (Xc (r:=Xa) 2 rfl (λ_ s=>s.l.l.l.l.l.l.r))) λa65 C66=>(Xx (J:=_) ((some v38), (some v40), (some v52), x36.2.2.2.1, x36.2.2.2.2.1, C53, C66) (a51, a65) rfl rfl (λ_ s=>(SC.i (SC.i s.l.l.l.l.l.l.l s.l.r) s.r))))))) λg67 x68=>(Xy (Yk (o:=(oL (oL (oF Xa)))) 5 0 rfl rfl (λ_ s=>s.r)))))))
theorem YF : FnScope ["_law_names", "_law_signs", "_law_some", "_law_strands", "_law_seen", "_law_walks", "_law_start", "_law_walk", "_law_at", "_law_k", "_law_low"] ["_law_names", "_law_signs", "_law_some", "_law_strands"] (Xi Vd):=⟨rfl, rfl, rfl, by decide +kernel, rfl, by decide +kernel, by decide +kernel⟩
theorem FQ (D : Def K mg "_law_plaited" Vd ["_law_names", "_law_signs", "_law_some", "_law_strands"])  (Z : Blt mg) : Fn P w K mg base 1 "_law_plaited" ["_law_names", "_law_signs", "_law_some", "_law_strands"] (sp4 (rV Xa) (rD Xa) (rV Xa) Xa (oL (oL (oF Xa))) ZX K):=by
  refine Yp D YF (λvs H Q E h=>?_) (λf cdv A outer s H vs Q E hr h=>?_)
  . obtain ⟨v_0, v_1, v_2, v_3, a_0, a_1, a_2, a_3, b, rfl, _⟩:=h; rfl
  obtain ⟨v_0, v_1, v_2, v_3, a_0, a_1, a_2, a_3, b, rfl, h_0, h_1, h_2, h_3, hm, q⟩:=h
  have hu:=hu8 hr
  have hu1:=Ym hr
  refine ⟨_, (Xb (Xo (i:=4) YF.nd rfl (Or.inl rfl) (Xp VF (X8 (Xd Zj Xg)) (pv 3)))
    (Xb (Xo (i:=5) YF.nd rfl (Or.inl rfl) (X8 Xg))
    (Xb (X9 PassesOwn.never rfl (X1 rfl Z.b_range (Xd (pv 3) Xg)) (Xm (i:=6) YF.nd rfl (Or.inl rfl))
      (Xb (YC (Zt (ZK (XE (Xk K rfl) (pv 4) (pv 6) (λ_ _=>rfl))))
        (Xb (Xo (i:=7) YF.nd rfl (Or.inl rfl) (X8 Xg))
        (Xb (Xo (i:=8) YF.nd rfl (Or.inl rfl) (pv 6))
        (Xb (JY PassesOwn.never (Zt (ZK (XE (Xk K rfl) (pv 4) (pv 8) (λ_ _=>rfl))))
          (Xb (Qm Zj (Vf (pv 4) (pv 8) Zq))
          (Xb (X9 PassesOwn.never rfl (X1 rfl Z.b_range (Xd (Xr (Xn K rfl) rfl Z.b_len PySem.boot_len (Xd (pv 0) Xg)) Xg)) (Xm (i:=9) YF.nd rfl (Or.inl rfl))
            (Xb (Xo (i:=10) YF.nd rfl (Or.inl rfl) (Xp Yf (XE (Xk K rfl) (pv 2) (Xp XZ (Xp Yu Xh (pv 9)) Xh) (λ_ _=>rfl)) (Xp Q6 (pv 3) Xh)))
            (Xb (YC (XH VY (pv 8) (pv 10) (XV _))
              (Xb (Yh (ZJ PySem.F.plainAttrs_list PySem.F.slot_list_append PySem.F.type_list_append XU (pv 7) (Xd (Xp Yu (XE (Xk K rfl) (pv 0) (pv 9) (λ_ _=>rfl)) (Gm hu1 (pv 1) (XE (Xk K rfl) (pv 0) (pv 9) (λ_ _=>rfl)) (λ_ _=>rfl))) Xg)))
              (Xb (Xo (i:=8) YF.nd rfl (Or.inl rfl) (Xp XZ (pv 10) Xh))
              Xf))
              (Xb (YC (XH VY (pv 8) (Xp XZ (pv 10) Xh) (XV _))
                (Xb (Yh (ZJ PySem.F.plainAttrs_list PySem.F.slot_list_append PySem.F.type_list_append XU (pv 7) (Xd (Xp Yu (V2 QN (XE (Xk K rfl) (pv 0) (pv 9) (λ_ _=>rfl))) (Gm hu1 (pv 1) (XE (Xk K rfl) (pv 0) (pv 9) (λ_ _=>rfl)) (λ_ _=>rfl))) Xg)))
                (Xb (Xo (i:=8) YF.nd rfl (Or.inl rfl) (pv 10))
                Xf))
                Xf)
              Xf))
            Xf)))
          Xf)))
        (Xb (Yh (ZJ PySem.F.plainAttrs_list PySem.F.slot_list_append PySem.F.type_list_append XU (pv 5) (Xd (pv 7) Xg)))
        Xf))))
        Xf)
      Xf))
    (Xb (Xz (pv 5))
    Xf)))), ?_⟩
  refine Yq (S:=(SC.add (SC.add (SC.add (SC.add SC.nil K (rV Xa) v_0 a_0) K (rD Xa) v_1 a_1) K (rV Xa) v_2 a_2) K Xa v_3 a_3)) (σ:=[some v_0, some v_1, some v_2, some v_3, none, none, none, none, none, none, none]) 3 ?_ (SC.i (SC.i (SC.i (SC.i SC.t h_0) h_1) h_2) h_3) hm q rfl
  unfold ZX
  exact (XN (K:=K) (o:=(oL (oF XS))) 4 1 (VD (Ev.ls (ZF (Xq (EvB.sh (Yo false)) Y8))) (Xc (r:=Xa) 3 rfl (λ_ s=>s.r))) (Nat.le_of_ble_eq_true rfl) λa1 v2 C3=>(XN (K:=K) (o:=(oL (oL (oF Xa)))) 5 0 (Qu (o:=(oL (oF Xa)))) (Nat.le_of_ble_eq_true rfl) λa9 v10 C11=>(YV (K:=K) (J:=({ oo:=λx13=>[x13.2.2.2.2.2.2.2.2, x13.2.2.2.2.2.2.2.1, []], ss:=λx13=>[some v_0, some v_1, some v_2, some v_3, some x13.2.2.2.1, some x13.2.2.2.2.2.1, x13.1, x13.2.1, x13.2.2.1, x13.2.2.2.2.1, x13.2.2.2.2.2.2.1], sc:=λg14 x13=>(SC.addO (SC.addO (SC.add (SC.add (SC.add (SC.add SC.nil K (rV Xa) v_0 a_0) K (rD Xa) v_1 a_1) K (rV Xa) v_2 a_2) K Xa v_3 a_3) K (oL (oF XS)) x13.2.2.2.1 g14.1 x13.2.2.2.2.2.2.2.1) K (oL (oL (oF Xa))) x13.2.2.2.2.2.1 g14.2 x13.2.2.2.2.2.2.2.2) } : Jn ((List Bool) × (List (List Int))) (Option V × Option V × Option V × V × Option V × V × Option V × List XG × List XG))) (λ_=>tg1 6) ((none), (none), (none), v2, (none), v10, (none), C3, C11) (a1, a9) (XL (Xc (r:=Xa) 3 rfl (λ_ s=>s.l.l.r))) rfl rfl (λ_ s=>s) (λg15 x16 a17 v18=>(Zf (J:=({ oo:=λx23=>[x23.2.2.2.2.2.2.2, x23.2.2.2.2.2.2.1, []], ss:=λx23=>[some v_0, some v_1, some v_2, some v_3, some x23.2.2.1, some x23.2.2.2.2.1, some v18, x23.1, x23.2.1, x23.2.2.2.1, x23.2.2.2.2.2.1], sc:=λg24 x23=>(SC.addO (SC.addO (SC.add (SC.add (SC.add (SC.add (SC.add SC.nil K (rV Xa) v_0 a_0) K (rD Xa) v_1 a_1) K (rV Xa) v_2 a_2) K Xa v_3 a_3) K Xa v18 a17) K (oL (oF XS)) x23.2.2.1 g24.1 x23.2.2.2.2.2.2.1) K (oL (oL (oF Xa))) x23.2.2.2.2.1 g24.2 x23.2.2.2.2.2.2.2) } : Jn ((List Bool) × (List (List Int))) (Option V × Option V × V × Option V × V × Option V × List XG × List XG))) (ZQ (Fd:=FNd ({ oo:=λx23=>[x23.2.2.2.2.2.2.2, x23.2.2.2.2.2.2.1, []], ss:=λx23=>[some v_0, some v_1, some v_2, some v_3, some x23.2.2.1, some x23.2.2.2.2.1, some v18, x23.1, x23.2.1, x23.2.2.2.1, x23.2.2.2.2.2.1], sc:=λg24 x23=>(SC.addO (SC.addO (SC.add (SC.add (SC.add (SC.add (SC.add SC.nil K (rV Xa) v_0 a_0) K (rD Xa) v_1 a_1) K (rV Xa) v_2 a_2) K Xa v_3 a_3) K Xa v18 a17) K (oL (oF XS)) x23.2.2.1 g24.1 x23.2.2.2.2.2.2.1) K (oL (oL (oF Xa))) x23.2.2.2.2.1 g24.2 x23.2.2.2.2.2.2.2) } : Jn ((List Bool) × (List (List Int))) (Option V × Option V × V × Option V × V × Option V × List XG × List XG))) (YR (QA (K:=K) (Xu (Yc (o:=(oL (oF XS))) 4 1 rfl rfl (λ_ s=>s.l.l.r)) (Xc (r:=Xa) 6 rfl (λ_ s=>s.r))))) (XN (K:=K) (o:=(oL (oF Xa))) 7 2 (Qu (o:=(oF Xa))) (Nat.le_of_ble_eq_true rfl) λa25 v26 C27=>(Xv (K:=K) (r:=Xa) 8 (Xl (r:=Xa) 6 rfl (λ_ s=>s.l.r)) λa28 v29=>(U3 (J:=({ oo:=λx30=>[x16.2.2.2.2.2.2.2.2, x30.2.2.2.2.2.1, x30.2.2.2.2.2.2], ss:=λx30=>[some v_0, some v_1, some v_2, some v_3, some x30.1, some x16.2.2.2.2.2.1, some v18, some x30.2.2.2.2.1, some x30.2.2.2.1, x30.2.1, x30.2.2.1], sc:=λg31 x30=>(SC.addO (SC.add (SC.addO (SC.add (SC.addO (SC.add (SC.add (SC.add (SC.add SC.nil K (rV Xa) v_0 a_0) K (rD Xa) v_1 a_1) K (rV Xa) v_2 a_2) K Xa v_3 a_3) K (oL (oL (oF Xa))) x16.2.2.2.2.2.1 g15.2 x16.2.2.2.2.2.2.2.2) K Xa v18 a17) K (oL (oF XS)) x30.1 g31.1 x30.2.2.2.2.2.1) K Xa x30.2.2.2.1 g31.2.1) K (oL (oF Xa)) x30.2.2.2.2.1 g31.2.2 x30.2.2.2.2.2.2) } : Jn ((List Bool) × Int × (List Int)) (V × Option V × Option V × V × V × List XG × List XG))) (a_3.natAbs + 2) (x16.2.2.2.1, (x16.2.2.2.2.1), (x16.2.2.2.2.2.2.1), v29, v26, x16.2.2.2.2.2.2.2.1, C27) (g15.1, a28, a25) rfl rfl (λ_ s=>(SC.i (SC.i (SC.i (SC.i (SC.i s.l.l.l.l.l s.l.l.l.r) s.l.l.r) s.l.l.l.l.r) s.r) s.l.r)) (λg32 x33=>(YR (QA (K:=K) (Xu (Yc (o:=(oL (oF XS))) 4 1 rfl rfl (λ_ s=>s.l.l.r)) (Xc (r:=Xa) 8 rfl (λ_ s=>s.l.r)))))) (λg32 x33=>(Qj (K:=K) (o:=(oF XS)) 4 1 rfl rfl (λ_ s=>s.l.l.r) (EvS.ev (EvB.sh (Yo true))) (λ_=>(Xc (r:=Xa) 8 rfl (λ_ s=>s.l.r))) λa39 C40=>(YV (K:=K) (J:=({ oo:=λx43=>[x16.2.2.2.2.2.2.2.2, C40, x43.2.2.2.2], ss:=λx43=>[some v_0, some v_1, some v_2, some v_3, some x33.1, some x16.2.2.2.2.2.1, some v18, some x43.2.2.2.1, some x43.2.2.1, x43.1, x43.2.1], sc:=λg44 x43=>(SC.addO (SC.add (SC.addO (SC.add (SC.addO (SC.add (SC.add (SC.add (SC.add SC.nil K (rV Xa) v_0 a_0) K (rD Xa) v_1 a_1) K (rV Xa) v_2 a_2) K Xa v_3 a_3) K (oL (oL (oF Xa))) x16.2.2.2.2.2.1 g15.2 x16.2.2.2.2.2.2.2.2) K Xa v18 a17) K (oL (oF XS)) x33.1 a39 C40) K Xa x43.2.2.1 g44.1) K (oL (oF Xa)) x43.2.2.2.1 g44.2 x43.2.2.2.2) } : Jn (Int × (List Int)) (Option V × Option V × V × V × List XG))) (λ_=>tg1 9) ((x33.2.1), (x33.2.2.1), x33.2.2.2.1, x33.2.2.2.2.1, x33.2.2.2.2.2.2) (g32.2.1, g32.2.2) (XL (X2 (Xc (r:=(rV Xa)) 0 rfl (λ_ s=>s.l.l.l.l.l.l.l.l.l.r)))) rfl rfl (λ_ s=>(SC.i (SC.i (SC.i s.l.l.l.l s.r) s.l.l.r) s.l.r)) (λg45 x46 a47 v48=>(Xv (K:=K) (r:=Xa) 10 (EvB.sh (XR (Xu (Xc (r:=(rV Xa)) 2 rfl (λ_ s=>s.l.l.l.l.l.l.l.r)) (XM (X0 (Xe 8) (Xc (r:=Xa) 9 rfl (λ_ s=>s.r))) (Xe 10))) (Qi (Xc (r:=Xa) 3 rfl (λ_ s=>s.l.l.l.l.l.l.r)) (Xe 1)))) λa49 v50=>(Zf (J:=({ oo:=λx64=>[x16.2.2.2.2.2.2.2.2, C40, x64.2.2], ss:=λx64=>[some v_0, some v_1, some v_2, some v_3, some x33.1, some x16.2.2.2.2.2.1, some v18, some x64.2.1, some x64.1, some v48, some v50], sc:=λg65 x64=>(SC.addO (SC.add (SC.add (SC.add (SC.addO (SC.add (SC.addO (SC.add (SC.add (SC.add (SC.add SC.nil K (rV Xa) v_0 a_0) K (rD Xa) v_1 a_1) K (rV Xa) v_2 a_2) K Xa v_3 a_3) K (oL (oL (oF Xa))) x16.2.2.2.2.2.1 g15.2 x16.2.2.2.2.2.2.2.2) K Xa v18 a17) K (oL (oF XS)) x33.1 a39 C40) K Xa v48 a47) K Xa v50 a49) K Xa x64.1 g65.1) K (oL (oF Xa)) x64.2.1 g65.2 x64.2.2) } : Jn (Int × (List Int)) (V × V × List XG))) (ZQ (Fd:=FNd ({ oo:=λx64=>[x16.2.2.2.2.2.2.2.2, C40, x64.2.2], ss:=λx64=>[some v_0, some v_1, some v_2, some v_3, some x33.1, some x16.2.2.2.2.2.1, some v18, some x64.2.1, some x64.1, some v48, some v50], sc:=λg65 x64=>(SC.addO (SC.add (SC.add (SC.add (SC.addO (SC.add (SC.addO (SC.add (SC.add (SC.add (SC.add SC.nil K (rV Xa) v_0 a_0) K (rD Xa) v_1 a_1) K (rV Xa) v_2 a_2) K Xa v_3 a_3) K (oL (oL (oF Xa))) x16.2.2.2.2.2.1 g15.2 x16.2.2.2.2.2.2.2.2) K Xa v18 a17) K (oL (oF XS)) x33.1 a39 C40) K Xa v48 a47) K Xa v50 a49) K Xa x64.1 g65.1) K (oL (oF Xa)) x64.2.1 g65.2 x64.2.2) } : Jn (Int × (List Int)) (V × V × List XG))) (Xs (K:=K) (QO (Xc (r:=Xa) 8 rfl (λ_ s=>s.l.l.l.r)) (Xc (r:=Xa) 10 rfl (λ_ s=>s.r)))) (Zr (K:=K) (o:=(oF Xa)) (f:=λa76=>(Rs.bind (Rs.bind (Rs.ok a49) λx79=>(Rs.bind (Rs.ok (1 : Int)) λx80=>(Rs.ok (x79 + x80)))) λa77=>(Rs.ok (a77, a76)))) 7 2 rfl rfl rfl (λ_ s=>s.l.l.r) (EvS.ev (EvB.sh (X0 (Xu (Xc (r:=(rV Xa)) 0 rfl (λ_ s=>s.l.l.l.l.l.l.l.l.l.l.r)) (Xc (r:=Xa) 9 rfl (λ_ s=>s.l.r))) (Uz (Xc (r:=(rD Xa)) 1 rfl (λ_ s=>s.l.l.l.l.l.l.l.l.l.r)) (Xu (Xc (r:=(rV Xa)) 0 rfl (λ_ s=>s.l.l.l.l.l.l.l.l.l.l.r)) (Xc (r:=Xa) 9 rfl (λ_ s=>s.l.r))))))) λa74 C75=>(Xv (K:=K) (r:=Xa) 8 (EvB.sh (XM (Xc (r:=Xa) 10 rfl (λ_ s=>s.l.r)) (Xe 1))) λa77 v78=>(Xx (J:=_) (v78, x46.2.2.2.1, C75) (a77, (g45.2 ++ [a74])) rfl rfl (λ_ s=>(SC.i (SC.i (SC.i (SC.i s.l.l.l.l.l.l s.l.l.l.r) s.l.l.r) s.r) s.l.r))))) (Zf (J:=({ oo:=λx86=>[x16.2.2.2.2.2.2.2.2, C40, x86.2.2], ss:=λx86=>[some v_0, some v_1, some v_2, some v_3, some x33.1, some x16.2.2.2.2.2.1, some v18, some x86.2.1, some x86.1, some v48, some v50], sc:=λg87 x86=>(SC.addO (SC.add (SC.add (SC.add (SC.addO (SC.add (SC.addO (SC.add (SC.add (SC.add (SC.add SC.nil K (rV Xa) v_0 a_0) K (rD Xa) v_1 a_1) K (rV Xa) v_2 a_2) K Xa v_3 a_3) K (oL (oL (oF Xa))) x16.2.2.2.2.2.1 g15.2 x16.2.2.2.2.2.2.2.2) K Xa v18 a17) K (oL (oF XS)) x33.1 a39 C40) K Xa v48 a47) K Xa v50 a49) K Xa x86.1 g87.1) K (oL (oF Xa)) x86.2.1 g87.2 x86.2.2) } : Jn (Int × (List Int)) (V × V × List XG))) (ZQ (Fd:=FNd ({ oo:=λx86=>[x16.2.2.2.2.2.2.2.2, C40, x86.2.2], ss:=λx86=>[some v_0, some v_1, some v_2, some v_3, some x33.1, some x16.2.2.2.2.2.1, some v18, some x86.2.1, some x86.1, some v48, some v50], sc:=λg87 x86=>(SC.addO (SC.add (SC.add (SC.add (SC.addO (SC.add (SC.addO (SC.add (SC.add (SC.add (SC.add SC.nil K (rV Xa) v_0 a_0) K (rD Xa) v_1 a_1) K (rV Xa) v_2 a_2) K Xa v_3 a_3) K (oL (oL (oF Xa))) x16.2.2.2.2.2.1 g15.2 x16.2.2.2.2.2.2.2.2) K Xa v18 a17) K (oL (oF XS)) x33.1 a39 C40) K Xa v48 a47) K Xa v50 a49) K Xa x86.1 g87.1) K (oL (oF Xa)) x86.2.1 g87.2 x86.2.2) } : Jn (Int × (List Int)) (V × V × List XG))) (Xs (K:=K) (QO (Xc (r:=Xa) 8 rfl (λ_ s=>s.l.l.l.r)) (XM (Xc (r:=Xa) 10 rfl (λ_ s=>s.r)) (Xe 1)))) (Zr (K:=K) (o:=(oF Xa)) (f:=λa99=>(Rs.bind (Rs.ok a49) λa100=>(Rs.ok (a100, a99)))) 7 2 rfl rfl rfl (λ_ s=>s.l.l.r) (EvS.ev (EvB.sh (X0 (ZR (Xu (Xc (r:=(rV Xa)) 0 rfl (λ_ s=>s.l.l.l.l.l.l.l.l.l.l.r)) (Xc (r:=Xa) 9 rfl (λ_ s=>s.l.r)))) (Uz (Xc (r:=(rD Xa)) 1 rfl (λ_ s=>s.l.l.l.l.l.l.l.l.l.r)) (Xu (Xc (r:=(rV Xa)) 0 rfl (λ_ s=>s.l.l.l.l.l.l.l.l.l.l.r)) (Xc (r:=Xa) 9 rfl (λ_ s=>s.l.r))))))) λa97 C98=>(Xv (K:=K) (r:=Xa) 8 (Xl (r:=Xa) 10 rfl (λ_ s=>s.l.r)) λa100 v101=>(Xx (J:=_) (v101, x46.2.2.2.1, C98) (a100, (g45.2 ++ [a97])) rfl rfl (λ_ s=>(SC.i (SC.i (SC.i (SC.i s.l.l.l.l.l.l s.l.l.l.r) s.l.l.r) s.r) s.l.r))))) (Xx (J:=_) (x46.2.2.1, x46.2.2.2.1, x46.2.2.2.2) (g45.1, g45.2) rfl rfl (λ_ s=>(SC.i (SC.i (SC.i (SC.i s.l.l.l.l s.l.r) s.r) s.l.l.l.r) s.l.l.r)))) λg103 x102=>(Xx (J:=_) (x102.1, x102.2.1, x102.2.2) (g103.1, g103.2) rfl rfl (λ_ s=>s)))) λg105 x104=>(Xx (J:=_) ((some v48), (some v50), x104.1, x104.2.1, x104.2.2) (g105.1, g105.2) rfl rfl (λ_ s=>(SC.i (SC.i s.l.l.l.l s.l.r) s.r)))))) λg106 x107=>(Xx (J:=_) (x33.1, (x107.1), (x107.2.1), x107.2.2.1, x107.2.2.2.1, C40, x107.2.2.2.2) (a39, g106.1, g106.2) rfl rfl (λ_ s=>s))))) λg109 x110=>(Zr (K:=K) (o:=(oL (oF Xa))) (f:=λa113=>(Rs.ok (g109.1, a113))) 5 0 rfl rfl rfl (λ_ s=>s.l.l.l.l.r) (Yk (o:=(oL (oF Xa))) 7 2 rfl rfl (λ_ s=>s.r)) λa111 C112=>(Xx (J:=_) ((some x110.2.2.2.2.1), (some x110.2.2.2.1), x110.1, (x110.2.1), x16.2.2.2.2.2.1, (x110.2.2.1), x110.2.2.2.2.2.1, C112) (g109.1, (g15.2 ++ [a111])) rfl rfl (λ_ s=>(SC.i (SC.i (SC.i s.l.l.l.l.l.l s.l.l.l.l.r) s.l.l.l.r) s.r))))))) (Xx (J:=_) ((x16.2.1), (x16.2.2.1), x16.2.2.2.1, (x16.2.2.2.2.1), x16.2.2.2.2.2.1, (x16.2.2.2.2.2.2.1), x16.2.2.2.2.2.2.2.1, x16.2.2.2.2.2.2.2.2) (g15.1, g15.2) rfl rfl (λ_ s=>(SC.i (SC.i (SC.i s.l.l.l s.r) s.l.l.r) s.l.r)))) λg115 x114=>(Xx (J:=_) ((some v18), (x114.1), (x114.2.1), x114.2.2.1, (x114.2.2.2.1), x114.2.2.2.2.1, (x114.2.2.2.2.2.1), x114.2.2.2.2.2.2.1, x114.2.2.2.2.2.2.2) (g115.1, g115.2) rfl rfl (λ_ s=>(SC.i (SC.i s.l.l.l s.l.r) s.r))))) λg116 x117=>(Xy (Yk (o:=(oL (oL (oF Xa)))) 5 0 rfl rfl (λ_ s=>s.r))))))
theorem Y4 : FnScope ["_law_script", "_law_place", "_law_most", "_law_sizes", "_law_some", "_law_names", "_law_signs", "_law_last", "_law_k", "_law_step", "_law_walks", "_law_rings"] ["_law_script", "_law_place", "_law_most"] (Xi UY):=⟨rfl, rfl, rfl, by decide +kernel, rfl, by decide +kernel, by decide +kernel⟩
theorem Eu (D : Def K mg "_law_drawn" UY ["_law_script", "_law_place", "_law_most"]) (g_row : Fn P w K mg base 2 "_law_row" ["_law_script", "_law_place", "_law_sizes"] (sp3 (rL Xa) Xa (rV Xa) (oL (oF Xa)) U8 K)) (g_plaited : Fn P w K mg base 1 "_law_plaited" ["_law_names", "_law_signs", "_law_some", "_law_strands"] (sp4 (rV Xa) (rD Xa) (rV Xa) Xa (oL (oL (oF Xa))) ZX K)) (g_any : Fn P w K mg base 1 "_law_any" ["_law_names", "_law_some", "_law_rings"] (sp3 (rV Xa) (rV Xa) Xa (oL (oL (oF Xa))) Fx K)) (g_mixed : Fn P w K mg base 1 "_law_mixed" ["_law_names", "_law_some"] (sp2 (rV Xa) (rV Xa) (oL (oF Xa)) JC K)) (Z : Blt mg) : Fn P w K mg base 3 "_law_drawn" ["_law_script", "_law_place", "_law_most"] (sp3 (rL Xa) Xa Xa (oT2 (oL (oL (oF Xa))) (oL (oF (rP2 Xa Xa)))) Jz K):=by
  refine Yp D Y4 (λvs H Q E h=>?_) (λf cdv A outer s H vs Q E hr h=>?_)
  . obtain ⟨v_0, v_1, v_2, a_0, a_1, a_2, b, rfl, _⟩:=h; rfl
  obtain ⟨v_0, v_1, v_2, a_0, a_1, a_2, b, rfl, h_0, h_1, h_2, hm, q⟩:=h
  have hu:=hu8 hr
  have hu1:=Ym hr
  refine ⟨_, (Xb (Xo (i:=3) Y4.nd rfl (Or.inl rfl) (X8 (Xd (Xp XZ (pv 2) Xh) (Xd Xh (Xd Xh (Xd Xh (Xd Xh Xg)))))))
    (Xb (Xo (i:=4) Y4.nd rfl (Or.inl rfl) (XX g_row hr (by decide) (Xd (pv 0) (Xd (pv 1) (Xd (Xp K1 (pv 3) (Xp VF (X8 (Xd Xh (Xd Xh (Xd Xh (Xd Xh Xg))))) (Xp Yu Xh (pv 2)))) Xg)))))
    (Xb (Xo (i:=5) Y4.nd rfl (Or.inl rfl) (X8 Xg))
    (Xb (Xo (i:=6) Y4.nd rfl (Or.inr rfl) BX)
    (Xb (Xo (i:=7) Y4.nd rfl (Or.inl rfl) Xh)
    (Xb (X9 PassesOwn.never rfl (X1 rfl Z.b_range (Xd (XE (Xk K rfl) (pv 4) Xh (λ_ _=>rfl)) Xg)) (Xm (i:=8) Y4.nd rfl (Or.inl rfl))
      (Xb (Xo (i:=9) Y4.nd rfl (Or.inl rfl) (Xp Yu (XE (Xk K rfl) (pv 4) (Xp XZ (Xp Yu Xh (pv 8)) Xh) (λ_ _=>rfl)) (XE (Xk K rfl) (X8 (Xd Xh (Xd Xh (Xd (Xp GT Xh Xh) Xg)))) (XE (Xk K rfl) (pv 4) Xh (λ_ _=>rfl)) (λ_ _=>rfl))))
      (Xb (Xo (i:=7) Y4.nd rfl (Or.inl rfl) (Xp XZ (Xp XZ (pv 7) Xh) (pv 9)))
      (Xb (Yh (ZJ PySem.F.plainAttrs_list PySem.F.slot_list_append PySem.F.type_list_append XU (pv 5) (Xd (pv 7) Xg)))
      (Xb (HR hu1 (pv 6) (pv 7) (Xp Q6 (Xp Yu Xh (XE (Xk K rfl) (pv 4) (Xp XZ (Xp Yu Xh (pv 8)) Xh) (λ_ _=>rfl))) Xh) rfl)
      Xf)))))
    (Xb (YC (XH JG (XE (Xk K rfl) (pv 4) Xh (λ_ _=>rfl)) Xh (XV _))
      (Xb (Xo (i:=10) Y4.nd rfl (Or.inl rfl) (XX g_plaited hr (by decide) (Xd (XX g_mixed hr (by decide) (Xd (pv 5) (Xd (pv 4) Xg))) (Xd (pv 6) (Xd (pv 4) (Xd (Xp XZ Xh (XE (Xk K rfl) (pv 4) Xh (λ_ _=>rfl))) Xg))))))
      Xf)
      (Xb (Xo (i:=11) Y4.nd rfl (Or.inl rfl) (Xr (Jc rfl) rfl Z.b_max PyProof.Rows.boot_max (Xd (XE (Xk K rfl) (pv 4) Xh (λ_ _=>rfl)) (Xd (Xr (CM rfl) rfl Z.b_min PyProof.Rows.boot_min (Xd (Xr (Xn K rfl) rfl Z.b_len PySem.boot_len (Xd (pv 5) Xg)) (Xd Xh Xg))) Xg))))
      (Xb (Xo (i:=10) Y4.nd rfl (Or.inl rfl) (XX g_any hr (by decide) (Xd (pv 5) (Xd (pv 4) (Xd (pv 11) Xg)))))
      Xf)))
    (Xb (Xz (Zs (Xd (pv 10) (Xd (YK (sc:=(Xi UY)) (N0:=["_law_script", "_law_place", "_law_most", "_law_sizes", "_law_some", "_law_names", "_law_signs", "_law_last", "_law_k", "_law_step", "_law_walks", "_law_rings"]) (tns:=["_law_one"]) (caps:=[(6, "_law_signs")]) rfl (XI (K:=K) rfl (pv 5)) (Y0 (by decide)) (λcl C s H ex E=>⟨Xm (i:=0) (show List.Nodup (["_law_one", "_law_signs"] : List Str) by decide +kernel) rfl (Or.inl rfl), Y7, (Zs (Xd (pv 0) (Xd (Gm hu1 (pv 1) (pv 0) (λ_ _=>rfl)) Xg)))⟩)) Xg))))
    Xf)))))))), ?_⟩
  refine Yq (S:=(SC.add (SC.add (SC.add SC.nil K (rL Xa) v_0 a_0) K Xa v_1 a_1) K Xa v_2 a_2)) (σ:=[some v_0, some v_1, some v_2, none, none, none, none, none, none, none, none, none]) 3 ?_ (SC.i (SC.i (SC.i SC.t h_0) h_1) h_2) hm q rfl
  unfold Jz
  exact (Xv (K:=K) (r:=(rV Xa)) 3 (Ev.sh (ZF (Xq (EvB.sh (XM (Xc (r:=Xa) 2 rfl (λ_ s=>s.r)) (Xe 1))) (Xq (EvB.sh (Xe 5)) (Xq (EvB.sh (Xe 4)) (Xq (EvB.sh (Xe 3)) (Xq (EvB.sh (Xe 3)) Y8))))))) λa1 v2=>(Xv (K:=K) (r:=(rV Xa)) 4 (Ev.sh (YL (Xc (r:=(rL Xa)) 0 rfl (λ_ s=>s.l.l.l.r)) (Xc (r:=Xa) 1 rfl (λ_ s=>s.l.l.r)) (Ev.toB (Fm (EvS.ls (Xl (r:=(rV Xa)) 3 rfl (λ_ s=>s.r))) (Ev.ls (VD (Ev.ls (ZF (Xq (EvB.sh (Xe 80)) (Xq (EvB.sh (Xe 5)) (Xq (EvB.sh (Xe 2)) (Xq (EvB.sh (Xe 3)) Y8)))))) (X0 (Xe 2) (Xc (r:=Xa) 2 rfl (λ_ s=>s.l.r))))))))) λa16 v17=>(XN (K:=K) (o:=(oL (oF Xa))) 5 2 (Qu (o:=(oF Xa))) (Nat.le_of_ble_eq_true rfl) λa37 v38 C39=>(XN (K:=K) (o:=(oD Xa)) 6 1 (Ig (r:=Xa)) (Nat.le_of_ble_eq_true rfl) λa40 v41 C42=>(Xv (K:=K) (r:=Xa) 7 (EvB.sh (Xe 0)) λa43 v44=>(YV (K:=K) (J:=({ oo:=λx48=>[[], x48.2.2.2.2.2.1, x48.2.2.2.2.2.2], ss:=λx48=>[some v_0, some v_1, some v_2, some v2, some v17, some x48.2.2.2.2.1, some x48.2.2.2.1, some x48.2.2.1, x48.1, x48.2.1, none, none], sc:=λg49 x48=>(SC.addO (SC.addO (SC.add (SC.add (SC.add (SC.add (SC.add (SC.add SC.nil K (rL Xa) v_0 a_0) K Xa v_1 a_1) K Xa v_2 a_2) K (rV Xa) v2 a1) K (rV Xa) v17 a16) K Xa x48.2.2.1 g49.1) K (oD Xa) x48.2.2.2.1 g49.2.1 x48.2.2.2.2.2.1) K (oL (oF Xa)) x48.2.2.2.2.1 g49.2.2 x48.2.2.2.2.2.2) } : Jn (Int × (List (Int × Int)) × (List Int)) (Option V × Option V × V × V × V × List XG × List XG))) (λ_=>tg1 8) ((none), (none), v44, v41, v38, C42, C39) (a43, a40, a37) (XL (Xu (Xc (r:=(rV Xa)) 4 rfl (λ_ s=>s.l.l.l.r)) (Xe 0))) rfl rfl (λ_ s=>(SC.i (SC.i (SC.i s.l.l.l s.r) s.l.r) s.l.l.r)) (λg50 x51 a52 v53=>(Xv (K:=K) (r:=Xa) 9 (EvB.sh (X0 (Xu (Xc (r:=(rV Xa)) 4 rfl (λ_ s=>s.l.l.l.l.r)) (XM (X0 (Xe 8) (Xc (r:=Xa) 8 rfl (λ_ s=>s.r))) (Xe 8))) (Xu (Ev.toB (ZF (Xq (EvB.sh (Xe 0)) (Xq (EvB.sh (Xe 1)) (Xq (EvB.sh (U0 (Xe 10) (Xe 9))) Y8))))) (Xu (Xc (r:=(rV Xa)) 4 rfl (λ_ s=>s.l.l.l.l.r)) (Xe 3))))) λa54 v55=>(Xv (K:=K) (r:=Xa) 7 (EvB.sh (XM (XM (Xc (r:=Xa) 7 rfl (λ_ s=>s.l.l.l.l.r)) (Xe 1)) (Xc (r:=Xa) 9 rfl (λ_ s=>s.r)))) λa77 v78=>(Zr (K:=K) (o:=(oF Xa)) (f:=λa85=>(Rs.bind (Rs.bind (Rs.bind (Rs.ok (2 : Int)) λx92=>(Rs.bind (Rs.bind (Rs.ok a16) λx90=>(Rs.bind (Rs.bind (Rs.bind (Rs.ok (8 : Int)) λx86=>(Rs.bind (Rs.ok a52) λx87=>(Z5 x86 x87))) λx88=>(Rs.bind (Rs.ok (7 : Int)) λx89=>(Rs.ok (x88 + x89)))) λx91=>(atR x90 x91))) λx93=>(Z5 x92 x93))) λx94=>(Rs.bind (Rs.ok (1 : Int)) λx95=>(Rs.ok (x94 - x95)))) λx96=>(Rs.bind (Rs.ok a77) λx97=>(chk (g50.2.1.length < sizeLine) ((λa98=>(Rs.ok (a77, a98, a85))) (Vb g50.2.1 x97 x96)))))) 5 2 rfl rfl rfl (λ_ s=>s.l.l.l.r) (EvS.ev (Xl (r:=Xa) 7 rfl (λ_ s=>s.r))) λa83 C84=>(Ia (K:=K) (r:=Xa) (f:=λa98=>(Rs.ok (a77, a98, (g50.2.2 ++ [a83])))) 6 1 rfl rfl (λ_ s=>s.l.l.l.l.l.r) (EvB.sh (Qi (X0 (Xe 2) (Xu (Xc (r:=(rV Xa)) 4 rfl (λ_ s=>s.l.l.l.l.l.l.l.r)) (XM (X0 (Xe 8) (Xc (r:=Xa) 8 rfl (λ_ s=>s.l.l.l.r))) (Xe 7)))) (Xe 1))) (Xc (r:=Xa) 7 rfl (λ_ s=>s.l.r)) λa98 C99=>(Xx (J:=_) ((some v53), (some v55), v78, x51.2.2.2.1, x51.2.2.2.2.1, C99, C84) (a77, a98, (g50.2.2 ++ [a83])) rfl rfl (λ_ s=>(SC.i (SC.i (SC.i s.l.l.l.l.l.l.l.l s.l.l.r) s.r) s.l.r)))))))) λg100 x101=>(Zf (J:=({ oo:=λx107=>[x107.2.2, x101.2.2.2.2.2.1, x101.2.2.2.2.2.2], ss:=λx107=>[some v_0, some v_1, some v_2, some v2, some v17, some x101.2.2.2.2.1, some x101.2.2.2.1, some x101.2.2.1, x101.1, x101.2.1, some x107.1, x107.2.1], sc:=λg108 x107=>(SC.addO (SC.addO (SC.addO (SC.add (SC.add (SC.add (SC.add (SC.add (SC.add SC.nil K (rL Xa) v_0 a_0) K Xa v_1 a_1) K Xa v_2 a_2) K (rV Xa) v2 a1) K (rV Xa) v17 a16) K Xa x101.2.2.1 g100.1) K (oD Xa) x101.2.2.2.1 g100.2.1 x101.2.2.2.2.2.1) K (oL (oF Xa)) x101.2.2.2.2.1 g100.2.2 x101.2.2.2.2.2.2) K (oL (oL (oF Xa))) x107.1 g108 x107.2.2) } : Jn ((List (List Int))) (V × Option V × List XG))) (ZQ (Fd:=FNd ({ oo:=λx107=>[x107.2.2, x101.2.2.2.2.2.1, x101.2.2.2.2.2.2], ss:=λx107=>[some v_0, some v_1, some v_2, some v2, some v17, some x101.2.2.2.2.1, some x101.2.2.2.1, some x101.2.2.1, x101.1, x101.2.1, some x107.1, x107.2.1], sc:=λg108 x107=>(SC.addO (SC.addO (SC.addO (SC.add (SC.add (SC.add (SC.add (SC.add (SC.add SC.nil K (rL Xa) v_0 a_0) K Xa v_1 a_1) K Xa v_2 a_2) K (rV Xa) v2 a1) K (rV Xa) v17 a16) K Xa x101.2.2.1 g100.1) K (oD Xa) x101.2.2.2.1 g100.2.1 x101.2.2.2.2.2.1) K (oL (oF Xa)) x101.2.2.2.2.1 g100.2.2 x101.2.2.2.2.2.2) K (oL (oL (oF Xa))) x107.1 g108 x107.2.2) } : Jn ((List (List Int))) (V × Option V × List XG))) (Xs (K:=K) (Qv (Xu (Xc (r:=(rV Xa)) 4 rfl (λ_ s=>s.l.l.l.r)) (Xe 2)) (Xe 2))) (XN (K:=K) (o:=(oL (oL (oF Xa)))) 10 0 (J1 (Ev.toB (Yn (Yc (o:=(oL (oF Xa))) 5 2 rfl rfl (λ_ s=>s.r)) (Xc (r:=(rV Xa)) 4 rfl (λ_ s=>s.l.l.l.r)))) (Yc (o:=(oD Xa)) 6 1 rfl rfl (λ_ s=>s.l.r)) (Xc (r:=(rV Xa)) 4 rfl (λ_ s=>s.l.l.l.r)) (XM (Xe 2) (Xu (Xc (r:=(rV Xa)) 4 rfl (λ_ s=>s.l.l.l.r)) (Xe 4)))) (Nat.le_of_ble_eq_true rfl) λa109 v110 C111=>(Xx (J:=_) (v110, (none), C111) (a109) rfl rfl (λ_ s=>s))) (Xv (K:=K) (r:=Xa) 11 (EvB.sh (UH (Xu (Xc (r:=(rV Xa)) 4 rfl (λ_ s=>s.l.l.l.r)) (Xe 1)) (Iv (X2 (Yc (o:=(oL (oF Xa))) 5 2 rfl rfl (λ_ s=>s.r))) (Xe 1)))) λa124 v125=>(XN (K:=K) (o:=(oL (oL (oF Xa)))) 10 0 (YL (Yc (o:=(oL (oF Xa))) 5 2 rfl rfl (λ_ s=>s.l.r)) (Xc (r:=(rV Xa)) 4 rfl (λ_ s=>s.l.l.l.l.r)) (Xc (r:=Xa) 11 rfl (λ_ s=>s.r))) (Nat.le_of_ble_eq_true rfl) λa133 v134 C135=>(Xx (J:=_) (v134, (some v125), C135) (a133) rfl rfl (λ_ s=>(SC.i s.l.l s.r)))))) λg141 x140=>(Xy (QC (Yk (o:=(oL (oL (oF Xa)))) 10 0 rfl rfl (λ_ s=>s.r)) λ_=>(VT (K:=K) (o1:=(oL (oF Xa))) 3 rfl (λ_ s=>s.l.r) (Y9 (λ_=>tg1 0) (XF (Xl (r:=(rV Xa)) 5 rfl (λ_ s=>s.r))) (λC142 a143 v144=>(EvS.ev (QE (Xl (r:=Xa) 0 rfl (λ_ s=>s.r)) (EvB.sh (Uz (Yc (o:=(oD Xa)) 1 3 rfl rfl (λ_ s=>s.l.l.l.l.r)) (Xc (r:=Xa) 0 rfl (λ_ s=>s.r))))))))))))))))))
theorem Is : FnScope ["_law_drawing"] ["_law_drawing"] (Xi Fk):=⟨rfl, rfl, rfl, by decide +kernel, rfl, by decide +kernel, by decide +kernel⟩
theorem HQ (D : Def K mg "_law_copy" Fk ["_law_drawing"])  (Z : Blt mg) : Fn P w K mg base 1 "_law_copy" ["_law_drawing"] (sp1 (rP2 (rV (rV Xa)) (rV (rP2 Xa Xa))) (oT2 (oL (oL (oF Xa))) (oL (oF (rP2 Xa Xa)))) Uo K):=by
  refine Yp D Is (λvs H Q E h=>?_) (λf cdv A outer s H vs Q E hr h=>?_)
  . obtain ⟨v_0, a_0, b, rfl, _⟩:=h; rfl
  obtain ⟨v_0, a_0, b, rfl, h_0, hm, q⟩:=h
  have hu:=hu8 hr
  have hu1:=Ym hr
  refine ⟨_, (Xb (Xz (Zs (Xd (YK (sc:=(Xi Fk)) (N0:=["_law_drawing"]) (tns:=["_law_walk"]) (caps:=[]) rfl (XI (K:=K) rfl (XE (YM K rfl) (pv 0) Xh (λ_ _=>rfl))) (Y0 (by decide)) (λcl C s H ex E=>⟨Xm (i:=0) (show List.Nodup (["_law_walk"] : List Str) by decide +kernel) rfl (Or.inl rfl), Y7, (Qy (Qb K rfl) rfl Z.b_list PyProof.Rows.boot_list (Xd (pv 0) Xg))⟩)) (Xd (Qy (Qb K rfl) rfl Z.b_list PyProof.Rows.boot_list (Xd (XE (YM K rfl) (pv 0) Xh (λ_ _=>rfl)) Xg)) Xg))))
    Xf), ?_⟩
  refine Yq (S:=(SC.add SC.nil K (rP2 (rV (rV Xa)) (rV (rP2 Xa Xa))) v_0 a_0)) (σ:=[some v_0]) 0 ?_ (SC.i SC.t h_0) hm q rfl
  unfold Uo
  exact (Xy (QC (Y9 (λ_=>tg1 0) (XF (JH (Xl (r:=(rP2 (rV (rV Xa)) (rV (rP2 Xa Xa)))) 0 rfl (λ_ s=>s.r)))) (λC2 a3 v4=>(Gb (EvS.ls (Xl (r:=(rV Xa)) 0 rfl (λ_ s=>s.r)))))) λ_=>(Gb (EvB.ls (Ve (Xc (r:=(rP2 (rV (rV Xa)) (rV (rP2 Xa Xa)))) 0 rfl (λ_ s=>s.r)))))))
theorem Gj : FnScope ["_law_one"] ["_law_one"] (Xi JF):=⟨rfl, rfl, rfl, by decide +kernel, rfl, by decide +kernel, by decide +kernel⟩
theorem GA (D : Def K mg "_law_is_whole" JF ["_law_one"])  (Z : Blt mg) : Fn P w K mg base 1 "_law_is_whole" ["_law_one"] (sp1 Xa (oF XS) QL K):=by
  refine Yp D Gj (λvs H Q E h=>?_) (λf cdv A outer s H vs Q E hr h=>?_)
  . obtain ⟨v_0, a_0, b, rfl, _⟩:=h; rfl
  obtain ⟨v_0, a_0, b, rfl, h_0, hm, q⟩:=h
  have hu:=hu8 hr
  have hu1:=Ym hr
  refine ⟨_, (Xb (Xz (IL (Xr Zk rfl Z.b_isinstance PyProof.Rows.boot_isinstance (Xd (pv 0) (Xd (Jt (v:=V.ty "int") rfl Z.b_int PyProof.Rows.boot_int rfl) Xg))) (ES (Lo (Xr Zk rfl Z.b_isinstance PyProof.Rows.boot_isinstance (Xd (pv 0) (Xd (Jt (v:=V.ty "bool") rfl Z.b_bool PyProof.Rows.boot_bool rfl) Xg)))))))
    Xf), ?_⟩
  refine Yq (S:=(SC.add SC.nil K Xa v_0 a_0)) (σ:=[some v_0]) 0 ?_ (SC.i SC.t h_0) hm q rfl
  unfold QL
  exact (Xy (EvS.ev (EvB.sh (Ed (ZC "int" true (Je K "int") (Xc (r:=Xa) 0 rfl (λ_ s=>s.r))) (BO (ZC "bool" false (Kt K) (Xc (r:=Xa) 0 rfl (λ_ s=>s.r))))))))
theorem JP : FnScope ["_law_found", "_law_one"] ["_law_found"] (Xi QS):=⟨rfl, rfl, rfl, by decide +kernel, rfl, by decide +kernel, by decide +kernel⟩
theorem KY (D : Def K mg "_law_is_wholes" QS ["_law_found"]) (g_is_whole : Fn P w K mg base 1 "_law_is_whole" ["_law_one"] (sp1 Xa (oF XS) QL K)) (Z : Blt mg) : Fn P w K mg base 2 "_law_is_wholes" ["_law_found"] (sp1 (rV Xa) (oF XS) YN K):=by
  refine Yp D JP (λvs H Q E h=>?_) (λf cdv A outer s H vs Q E hr h=>?_)
  . obtain ⟨v_0, a_0, b, rfl, _⟩:=h; rfl
  obtain ⟨v_0, a_0, b, rfl, h_0, hm, q⟩:=h
  have hu:=hu8 hr
  have hu1:=Ym hr
  refine ⟨_, (Xb (YC (Zt (ZK (Xr Zk rfl Z.b_isinstance PyProof.Rows.boot_isinstance (Xd (pv 0) (Xd (Jt (v:=V.ty "list") rfl Z.b_list PyProof.Rows.boot_list rfl) Xg)))))
      (Xb (Xz Zj)
      Xf)
      Xf)
    (Xb (X9 PassesOwn.never rfl (XI (K:=K) rfl (pv 0)) (Xm (i:=1) JP.nd rfl (Or.inl rfl))
      (Xb (YC (Zt (ZK (XX g_is_whole hr (by decide) (Xd (pv 1) Xg))))
        (Xb (Xz Zj)
        Xf)
        Xf)
      Xf))
    (Xb (Xz Zj)
    Xf))), ?_⟩
  refine Yq (S:=(SC.add SC.nil K (rV Xa) v_0 a_0)) (σ:=[some v_0, none]) 0 ?_ (SC.i SC.t h_0) hm q rfl
  unfold YN
  exact (Qn (YR (QA (K:=K) (ZC "list" true (Je K "list") (Xc (r:=(rV Xa)) 0 rfl (λ_ s=>s.r))))) (Xy (EvS.ev (EvB.sh (Yo false)))) (JD (K:=K) (J:=({ oo:=λx4=>[], ss:=λx4=>[some v_0, x4], sc:=λg5 x4=>(SC.add SC.nil K (rV Xa) v_0 a_0) } : Jn (Unit) (Option V))) (λ_=>tg1 1) ((none)) () (XF (Xl (r:=(rV Xa)) 0 rfl (λ_ s=>s.r))) rfl rfl (λ_ s=>(SC.i SC.t s.r)) (λg6 x7 a8 v9=>(ZU (YR (QA (K:=K) (Ev.toB (X3 (Xc (r:=Xa) 1 rfl (λ_ s=>s.r)))))) (Xy (EvS.ev (EvB.sh (Yo false)))) (Q8 (Xx (J:=_) ((some v9)) () rfl rfl (λ_ s=>(SC.i SC.t s.l.r)))))) λg16 x17=>(Xy (EvS.ev (EvB.sh (Yo true))))))
theorem Yj : FnScope ["_law_walks", "_law_found", "_law_count_here", "_law_walk", "_law_first", "_law_number", "_law_last", "_law_k", "_law_row_here"] ["_law_walks"] (Xi UK):=⟨rfl, rfl, rfl, by decide +kernel, rfl, by decide +kernel, by decide +kernel⟩
theorem DV (D : Def K mg "_law_arcs" UK ["_law_walks"])  (Z : Blt mg) : Fn P w K mg base 1 "_law_arcs" ["_law_walks"] (sp1 (rV (rV Xa)) (oL (oL (oF Xa))) QJ K):=by
  refine Yp D Yj (λvs H Q E h=>?_) (λf cdv A outer s H vs Q E hr h=>?_)
  . obtain ⟨v_0, a_0, b, rfl, _⟩:=h; rfl
  obtain ⟨v_0, a_0, b, rfl, h_0, hm, q⟩:=h
  have hu:=hu8 hr
  have hu1:=Ym hr
  refine ⟨_, (Xb (Xo (i:=1) Yj.nd rfl (Or.inl rfl) (X8 Xg))
    (Xb (Xo (i:=2) Yj.nd rfl (Or.inl rfl) Xh)
    (Xb (X9 PassesOwn.never rfl (XI (K:=K) rfl (pv 0)) (Xm (i:=3) Yj.nd rfl (Or.inl rfl))
      (Xb (Xo (i:=4) Yj.nd rfl (Or.inl rfl) (pv 2))
      (Xb (Xo (i:=5) Yj.nd rfl (Or.inl rfl) (pv 2))
      (Xb (Xo (i:=6) Yj.nd rfl (Or.inl rfl) (V2 QN Xh))
      (Xb (X9 PassesOwn.never rfl (X1 rfl Z.b_range (Xd (Xr (Xn K rfl) rfl Z.b_len PySem.boot_len (Xd (pv 3) Xg)) Xg)) (Xm (i:=7) Yj.nd rfl (Or.inl rfl))
        (Xb (YC (XH JG (XE (Xk K rfl) (pv 3) (pv 7) (λ_ _=>rfl)) Xh (XV _))
          (Xb (Xo (i:=6) Yj.nd rfl (Or.inl rfl) (pv 7))
          Xf)
          Xf)
        Xf))
      (Xb (Xo (i:=8) Yj.nd rfl (Or.inl rfl) (Xp VF (X8 (Xd (pv 4) Xg)) (Xr (Jc rfl) rfl Z.b_max PyProof.Rows.boot_max (Xd (Xr (Xn K rfl) rfl Z.b_len PySem.boot_len (Xd (pv 3) Xg)) (Xd Xh Xg)))))
      (Xb (X9 PassesOwn.never rfl (X1 rfl Z.b_range (Xd (Xp XZ (pv 6) Xh) Xg)) (Xm (i:=7) Yj.nd rfl (Or.inl rfl))
        (Xb (Qm (pv 5) (Vf (pv 8) (pv 7) Zq))
        (Xb (YC (PW.pt (EK (XH JG (XE (Xk K rfl) (pv 3) (pv 7) (λ_ _=>rfl)) Xh (XV _)) (F7 (XH JG (pv 7) (pv 6) (XV _)))))
          (Xb (Xo (i:=2) Yj.nd rfl (Or.inl rfl) (Xp XZ (pv 2) Xh))
          (Xb (Xo (i:=5) Yj.nd rfl (Or.inl rfl) (pv 2))
          Xf))
          Xf)
        Xf)))
      (Xb (Xo (i:=2) Yj.nd rfl (Or.inl rfl) (Xp XZ (pv 2) Xh))
      (Xb (Yh (ZJ PySem.F.plainAttrs_list PySem.F.slot_list_append PySem.F.type_list_append XU (pv 1) (Xd (pv 8) Xg)))
      Xf)))))))))
    (Xb (Xz (pv 1))
    Xf)))), ?_⟩
  refine Yq (S:=(SC.add SC.nil K (rV (rV Xa)) v_0 a_0)) (σ:=[some v_0, none, none, none, none, none, none, none, none]) 2 ?_ (SC.i SC.t h_0) hm q rfl
  unfold QJ
  exact (XN (K:=K) (o:=(oL (oL (oF Xa)))) 1 0 (Qu (o:=(oL (oF Xa)))) (Nat.le_of_ble_eq_true rfl) λa1 v2 C3=>(Xv (K:=K) (r:=Xa) 2 (EvB.sh (Xe 0)) λa4 v5=>(YV (K:=K) (J:=({ oo:=λx6=>[x6.2.2.2.2.2.2.2.2, []], ss:=λx6=>[some v_0, some x6.2.2.2.2.2.2.2.1, some x6.2.2.2.2.2.2.1, x6.1, x6.2.1, x6.2.2.1, x6.2.2.2.1, x6.2.2.2.2.1, x6.2.2.2.2.2.1], sc:=λg7 x6=>(SC.addO (SC.add (SC.add SC.nil K (rV (rV Xa)) v_0 a_0) K Xa x6.2.2.2.2.2.2.1 g7.1) K (oL (oL (oF Xa))) x6.2.2.2.2.2.2.2.1 g7.2 x6.2.2.2.2.2.2.2.2) } : Jn (Int × (List (List Int))) (Option V × Option V × Option V × Option V × Option V × Option V × V × V × List XG))) (λ_=>tg1 3) ((none), (none), (none), (none), (none), (none), v5, v2, C3) (a4, a1) (XF (Xl (r:=(rV (rV Xa))) 0 rfl (λ_ s=>s.l.l.r))) rfl rfl (λ_ s=>(SC.i (SC.i (SC.i SC.t s.l.l.r) s.r) s.l.r)) (λg8 x9 a10 v11=>(Xv (K:=K) (r:=Xa) 4 (Xl (r:=Xa) 2 rfl (λ_ s=>s.l.l.r)) λa12 v13=>(Xv (K:=K) (r:=Xa) 5 (Xl (r:=Xa) 2 rfl (λ_ s=>s.l.l.l.r)) λa14 v15=>(Xv (K:=K) (r:=Xa) 6 (EvB.sh (ZR (Xe 1))) λa16 v17=>(YV (K:=K) (J:=({ oo:=λx21=>[x9.2.2.2.2.2.2.2.2, []], ss:=λx21=>[some v_0, some x9.2.2.2.2.2.2.2.1, some x9.2.2.2.2.2.2.1, some v11, some v13, some v15, some x21.2, x21.1, x9.2.2.2.2.2.1], sc:=λg22 x21=>(SC.add (SC.add (SC.add (SC.add (SC.addO (SC.add (SC.add SC.nil K (rV (rV Xa)) v_0 a_0) K Xa x9.2.2.2.2.2.2.1 g8.1) K (oL (oL (oF Xa))) x9.2.2.2.2.2.2.2.1 g8.2 x9.2.2.2.2.2.2.2.2) K (rV Xa) v11 a10) K Xa v13 a12) K Xa v15 a14) K Xa x21.2 g22) } : Jn (Int) (Option V × V))) (λ_=>tg1 7) ((x9.2.2.2.2.1), v17) (a16) (XL (X2 (Xc (r:=(rV Xa)) 3 rfl (λ_ s=>s.l.l.l.r)))) rfl rfl (λ_ s=>s) (λg23 x24 a25 v26=>(Zf (J:=({ oo:=λx32=>[x9.2.2.2.2.2.2.2.2, []], ss:=λx32=>[some v_0, some x9.2.2.2.2.2.2.2.1, some x9.2.2.2.2.2.2.1, some v11, some v13, some v15, some x32, some v26, x9.2.2.2.2.2.1], sc:=λg33 x32=>(SC.add (SC.add (SC.add (SC.add (SC.add (SC.addO (SC.add (SC.add SC.nil K (rV (rV Xa)) v_0 a_0) K Xa x9.2.2.2.2.2.2.1 g8.1) K (oL (oL (oF Xa))) x9.2.2.2.2.2.2.2.1 g8.2 x9.2.2.2.2.2.2.2.2) K (rV Xa) v11 a10) K Xa v13 a12) K Xa v15 a14) K Xa v26 a25) K Xa x32 g33) } : Jn (Int) (V))) (ZQ (Fd:=FNd ({ oo:=λx32=>[x9.2.2.2.2.2.2.2.2, []], ss:=λx32=>[some v_0, some x9.2.2.2.2.2.2.2.1, some x9.2.2.2.2.2.2.1, some v11, some v13, some v15, some x32, some v26, x9.2.2.2.2.2.1], sc:=λg33 x32=>(SC.add (SC.add (SC.add (SC.add (SC.add (SC.addO (SC.add (SC.add SC.nil K (rV (rV Xa)) v_0 a_0) K Xa x9.2.2.2.2.2.2.1 g8.1) K (oL (oL (oF Xa))) x9.2.2.2.2.2.2.2.1 g8.2 x9.2.2.2.2.2.2.2.2) K (rV Xa) v11 a10) K Xa v13 a12) K Xa v15 a14) K Xa v26 a25) K Xa x32 g33) } : Jn (Int) (V))) (Xs (K:=K) (Qv (Xu (Xc (r:=(rV Xa)) 3 rfl (λ_ s=>s.l.l.l.l.r)) (Xc (r:=Xa) 7 rfl (λ_ s=>s.r))) (Xe 0))) (Xv (K:=K) (r:=Xa) 6 (Xl (r:=Xa) 7 rfl (λ_ s=>s.r)) λa34 v35=>(Xx (J:=_) (v35) (a34) rfl rfl (λ_ s=>(SC.i (SC.i s.l.l.l s.l.r) s.r)))) (Xx (J:=_) (x24.2) (g23) rfl rfl (λ_ s=>(SC.i (SC.i s.l.l s.r) s.l.r)))) λg37 x36=>(Xx (J:=_) ((some v26), x36) (g37) rfl rfl (λ_ s=>(SC.i s.l.l s.r))))) λg38 x39=>(XN (K:=K) (o:=(oL (oF Xa))) 8 1 (VD (Ev.ls (ZF (Xq (Xl (r:=Xa) 4 rfl (λ_ s=>s.l.l.r)) Y8))) (UH (X2 (Xc (r:=(rV Xa)) 3 rfl (λ_ s=>s.l.l.l.r))) (Xe 1))) (Nat.le_of_ble_eq_true rfl) λa40 v41 C42=>(YV (K:=K) (J:=({ oo:=λx54=>[x9.2.2.2.2.2.2.2.2, x54.2.2.2.2], ss:=λx54=>[some v_0, some x9.2.2.2.2.2.2.2.1, some x54.2.2.1, some v11, some v13, some x54.2.2.2.1, some x39.2, x54.1, some x54.2.1], sc:=λg55 x54=>(SC.add (SC.add (SC.addO (SC.add (SC.add (SC.add (SC.addO (SC.add SC.nil K (rV (rV Xa)) v_0 a_0) K (oL (oL (oF Xa))) x9.2.2.2.2.2.2.2.1 g8.2 x9.2.2.2.2.2.2.2.2) K (rV Xa) v11 a10) K Xa v13 a12) K Xa x39.2 g38) K (oL (oF Xa)) x54.2.1 g55.1 x54.2.2.2.2) K Xa x54.2.2.1 g55.2.1) K Xa x54.2.2.2.1 g55.2.2) } : Jn ((List Int) × Int × Int) (Option V × V × V × V × List XG))) (λ_=>tg1 7) ((x39.1), v41, x9.2.2.2.2.2.2.1, v15, C42) (a40, g8.1, a14) (XL (XM (Xc (r:=Xa) 6 rfl (λ_ s=>s.l.r)) (Xe 1))) rfl rfl (λ_ s=>(SC.i (SC.i (SC.i (SC.i (SC.i (SC.i (SC.i (SC.i SC.t s.l.l.l.l.l.l.l.r) s.l.l.l.l.l.r) s.l.l.l.l.r) s.l.l.l.r) s.l.r) s.r) s.l.l.l.l.l.l.r) s.l.l.r)) (λg56 x57 a58 v59=>(Qj (K:=K) (o:=(oF Xa)) 8 1 rfl rfl (λ_ s=>s.l.l.l.r) (EvS.ev (Xl (r:=Xa) 5 rfl (λ_ s=>s.l.r))) (λ_=>(Xc (r:=Xa) 7 rfl (λ_ s=>s.r))) λa62 C63=>(Zf (J:=({ oo:=λx71=>[x9.2.2.2.2.2.2.2.2, C63], ss:=λx71=>[some v_0, some x9.2.2.2.2.2.2.2.1, some x71.1, some v11, some v13, some x71.2, some x39.2, some v59, some x57.2.1], sc:=λg72 x71=>(SC.add (SC.add (SC.add (SC.addO (SC.add (SC.add (SC.add (SC.addO (SC.add SC.nil K (rV (rV Xa)) v_0 a_0) K (oL (oL (oF Xa))) x9.2.2.2.2.2.2.2.1 g8.2 x9.2.2.2.2.2.2.2.2) K (rV Xa) v11 a10) K Xa v13 a12) K Xa x39.2 g38) K (oL (oF Xa)) x57.2.1 a62 C63) K Xa v59 a58) K Xa x71.1 g72.1) K Xa x71.2 g72.2) } : Jn (Int × Int) (V × V))) (ZQ (Fd:=FNd ({ oo:=λx71=>[x9.2.2.2.2.2.2.2.2, C63], ss:=λx71=>[some v_0, some x9.2.2.2.2.2.2.2.1, some x71.1, some v11, some v13, some x71.2, some x39.2, some v59, some x57.2.1], sc:=λg72 x71=>(SC.add (SC.add (SC.add (SC.addO (SC.add (SC.add (SC.add (SC.addO (SC.add SC.nil K (rV (rV Xa)) v_0 a_0) K (oL (oL (oF Xa))) x9.2.2.2.2.2.2.2.1 g8.2 x9.2.2.2.2.2.2.2.2) K (rV Xa) v11 a10) K Xa v13 a12) K Xa x39.2 g38) K (oL (oF Xa)) x57.2.1 a62 C63) K Xa v59 a58) K Xa x71.1 g72.1) K Xa x71.2 g72.2) } : Jn (Int × Int) (V × V))) (Ca (Xs (K:=K) (Qv (Xu (Xc (r:=(rV Xa)) 3 rfl (λ_ s=>s.l.l.l.l.l.l.l.r)) (Xc (r:=Xa) 7 rfl (λ_ s=>s.l.r))) (Xe 0))) (Xs (K:=K) (Qv (Xc (r:=Xa) 7 rfl (λ_ s=>s.l.r)) (Xc (r:=Xa) 6 rfl (λ_ s=>s.l.l.l.l.l.r))))) (Xv (K:=K) (r:=Xa) 2 (EvB.sh (XM (Xc (r:=Xa) 2 rfl (λ_ s=>s.l.l.l.r)) (Xe 1))) λa73 v74=>(Xv (K:=K) (r:=Xa) 5 (Xl (r:=Xa) 2 rfl (λ_ s=>s.r)) λa77 v78=>(Xx (J:=_) (v74, v78) (a73, a77) rfl rfl (λ_ s=>(SC.i (SC.i (SC.i (SC.i s.l.l.l.l.l.l.l s.l.l.r) s.l.l.l.r) s.l.r) s.r))))) (Xx (J:=_) (x57.2.2.1, x57.2.2.2.1) (g56.2.1, g56.2.2) rfl rfl (λ_ s=>(SC.i (SC.i (SC.i (SC.i s.l.l.l.l.l s.r) s.l.r) s.l.l.l.r) s.l.l.r)))) λg80 x79=>(Xx (J:=_) ((some v59), x57.2.1, x79.1, x79.2, C63) (a62, g80.1, g80.2) rfl rfl (λ_ s=>(SC.i (SC.i s.l.l.l s.l.r) s.r)))))) λg81 x82=>(Xv (K:=K) (r:=Xa) 2 (EvB.sh (XM (Xc (r:=Xa) 2 rfl (λ_ s=>s.l.r)) (Xe 1))) λa83 v84=>(Zr (K:=K) (o:=(oL (oF Xa))) (f:=λa89=>(Rs.ok (a83, a89))) 1 0 rfl rfl rfl (λ_ s=>s.l.l.l.l.l.l.l.r) (Yk (o:=(oL (oF Xa))) 8 1 rfl rfl (λ_ s=>s.l.l.l.r)) λa87 C88=>(Xx (J:=_) ((some v11), (some v13), (some x82.2.2.2.1), (some x39.2), (x82.1), (some x82.2.1), v84, x9.2.2.2.2.2.2.2.1, C88) (a83, (g8.2 ++ [a87])) rfl rfl (λ_ s=>(SC.i (SC.i (SC.i SC.t s.l.l.l.l.l.l.l.l.l.r) s.l.r) s.r)))))))))))) λg92 x93=>(Xy (Yk (o:=(oL (oL (oF Xa)))) 1 0 rfl rfl (λ_ s=>s.r))))))
theorem KO : FnScope ["_law_walks", "_law_passage", "_law_k"] ["_law_walks", "_law_passage"] (Xi UU):=⟨rfl, rfl, rfl, by decide +kernel, rfl, by decide +kernel, by decide +kernel⟩
theorem Bg (D : Def K mg "_law_spot" UU ["_law_walks", "_law_passage"])  (Z : Blt mg) : Fn P w K mg base 1 "_law_spot" ["_law_walks", "_law_passage"] (sp2 (rV (rV Xa)) Xa (oF (rP2 Xa Xa)) Qg K):=by
  refine Yp D KO (λvs H Q E h=>?_) (λf cdv A outer s H vs Q E hr h=>?_)
  . obtain ⟨v_0, v_1, a_0, a_1, b, rfl, _⟩:=h; rfl
  obtain ⟨v_0, v_1, a_0, a_1, b, rfl, h_0, h_1, hm, q⟩:=h
  have hu:=hu8 hr
  have hu1:=Ym hr
  refine ⟨_, (Xb (X9 PassesOwn.never rfl (X1 rfl Z.b_range (Xd (Xr (Xn K rfl) rfl Z.b_len PySem.boot_len (Xd (pv 0) Xg)) Xg)) (Xm (i:=2) KO.nd rfl (Or.inl rfl))
      (Xb (YC (XH KM (pv 1) (XE (Xk K rfl) (pv 0) (pv 2) (λ_ _=>rfl)) rfl)
        (Xb (Xz (Zs (Xd (pv 2) (Xd (ER (K:=K) rfl PySem.F.plainAttrs_list PySem.F.slot_list_index PySem.F.type_list_index (U6 K rfl) (XE (Xk K rfl) (pv 0) (pv 2) (λ_ _=>rfl)) (Xd (pv 1) Xg)) Xg))))
        Xf)
        Xf)
      Xf))
    (Xb (Xz (Zs (Xd (V2 QN Xh) (Xd (V2 QN Xh) Xg))))
    Xf)), ?_⟩
  refine Yq (S:=(SC.add (SC.add SC.nil K (rV (rV Xa)) v_0 a_0) K Xa v_1 a_1)) (σ:=[some v_0, some v_1, none]) 0 ?_ (SC.i (SC.i SC.t h_0) h_1) hm q rfl
  unfold Qg
  exact (JD (K:=K) (J:=({ oo:=λx3=>[], ss:=λx3=>[some v_0, some v_1, x3], sc:=λg4 x3=>(SC.add (SC.add SC.nil K (rV (rV Xa)) v_0 a_0) K Xa v_1 a_1) } : Jn (Unit) (Option V))) (λ_=>tg1 2) ((none)) () (XL (X2 (Xc (r:=(rV (rV Xa))) 0 rfl (λ_ s=>s.l.r)))) rfl rfl (λ_ s=>s) (λg5 x6 a7 v8=>(ZU (Xs (K:=K) (ET (Xc (r:=Xa) 1 rfl (λ_ s=>s.l.r)) (Xu (Xc (r:=(rV (rV Xa))) 0 rfl (λ_ s=>s.l.l.r)) (Xc (r:=Xa) 2 rfl (λ_ s=>s.r))))) (Xy (EvS.ev (QE (Xl (r:=Xa) 2 rfl (λ_ s=>s.r)) (EvB.sh (Kb (Xu (Xc (r:=(rV (rV Xa))) 0 rfl (λ_ s=>s.l.l.r)) (Xc (r:=Xa) 2 rfl (λ_ s=>s.r))) (Xc (r:=Xa) 1 rfl (λ_ s=>s.l.r))))))) (Q8 (Xx (J:=_) ((some v8)) () rfl rfl (λ_ s=>s.l))))) λg22 x23=>(Xy (EvS.ev (QE (EvB.sh (ZR (Xe 1))) (EvB.sh (ZR (Xe 1)))))))
theorem Yi : FnScope ["_law_drawing", "_law_walks", "_law_signs", "_law_rows", "_law_found", "_law_crossing", "_law_sign", "_law_up", "_law_at", "_law_down", "_law_to", "_law_behind"] ["_law_drawing"] (Xi VG):=⟨rfl, rfl, rfl, by decide +kernel, rfl, by decide +kernel, by decide +kernel⟩
theorem FV (D : Def K mg "_law_meets" VG ["_law_drawing"]) (g_l_arcs : Fn P w K mg base 1 "_law_arcs" ["_law_walks"] (sp1 (rV (rV Xa)) (oL (oL (oF Xa))) QJ K)) (g_l_spot : Fn P w K mg base 1 "_law_spot" ["_law_walks", "_law_passage"] (sp2 (rV (rV Xa)) Xa (oF (rP2 Xa Xa)) Qg K)) (Z : Blt mg) : Fn P w K mg base 2 "_law_meets" ["_law_drawing"] (sp1 (rP2 (rV (rV Xa)) (rV (rP2 Xa Xa))) (oL (oF (rP5 Xa Xa Xa Xa Xa))) ZH K):=by
  refine Yp D Yi (λvs H Q E h=>?_) (λf cdv A outer s H vs Q E hr h=>?_)
  . obtain ⟨v_0, a_0, b, rfl, _⟩:=h; rfl
  obtain ⟨v_0, a_0, b, rfl, h_0, hm, q⟩:=h
  have hu:=hu8 hr
  have hu1:=Ym hr
  refine ⟨_, (Xb (Qm (pv 0) (Z4 rfl (Xt (Xm (i:=1) Yi.nd rfl (Or.inl rfl)) (Xt (Xm (i:=2) Yi.nd rfl (Or.inl rfl)) YZ))))
    (Xb (Xo (i:=3) Yi.nd rfl (Or.inl rfl) (XX g_l_arcs hr (by decide) (Xd (pv 1) Xg)))
    (Xb (Xo (i:=4) Yi.nd rfl (Or.inl rfl) (X8 Xg))
    (Xb (X9 PassesOwn.never rfl (XI (K:=K) rfl (pv 2)) (Z4 rfl (Xt (Xm (i:=5) Yi.nd rfl (Or.inl rfl)) (Xt (Xm (i:=6) Yi.nd rfl (Or.inl rfl)) YZ)))
      (Xb (Qm (XX g_l_spot hr (by decide) (Xd (pv 1) (Xd (pv 5) Xg))) (Z4 rfl (Xt (Xm (i:=7) Yi.nd rfl (Or.inl rfl)) (Xt (Xm (i:=8) Yi.nd rfl (Or.inl rfl)) YZ))))
      (Xb (Qm (XX g_l_spot hr (by decide) (Xd (pv 1) (Xd (V2 QN (pv 5)) Xg))) (Z4 rfl (Xt (Xm (i:=9) Yi.nd rfl (Or.inl rfl)) (Xt (Xm (i:=10) Yi.nd rfl (Or.inl rfl)) YZ))))
      (Xb (Xo (i:=11) Yi.nd rfl (Or.inl rfl) (Xp Yf (Xp XZ (pv 10) Xh) (Xr (Xn K rfl) rfl Z.b_len PySem.boot_len (Xd (XE (Xk K rfl) (pv 1) (pv 9) (λ_ _=>rfl)) Xg))))
      (Xb (Yh (ZJ PySem.F.plainAttrs_list PySem.F.slot_list_append PySem.F.type_list_append XU (pv 4) (Xd (Zs (Xd (pv 5) (Xd (pv 6) (Xd (XE (Xk K rfl) (XE (Xk K rfl) (pv 3) (pv 7) (λ_ _=>rfl)) (pv 8) (λ_ _=>rfl)) (Xd (XE (Xk K rfl) (XE (Xk K rfl) (pv 3) (pv 9) (λ_ _=>rfl)) (pv 10) (λ_ _=>rfl)) (Xd (XE (Xk K rfl) (XE (Xk K rfl) (pv 3) (pv 9) (λ_ _=>rfl)) (pv 11) (λ_ _=>rfl)) Xg)))))) Xg)))
      Xf)))))
    (Xb (Xz (pv 4))
    Xf))))), ?_⟩
  refine Yq (S:=(SC.add SC.nil K (rP2 (rV (rV Xa)) (rV (rP2 Xa Xa))) v_0 a_0)) (σ:=[some v_0, none, none, none, none, none, none, none, none, none, none, none]) 1 ?_ (SC.i SC.t h_0) hm q rfl
  unfold ZH
  exact (Fe 1 2 (Xl (r:=(rP2 (rV (rV Xa)) (rV (rP2 Xa Xa)))) 0 rfl (λ_ s=>s.r)) λa1 v2 v3=>(Xv (K:=K) (r:=(rV (rV Xa))) 3 (Ev.sh (X3 (Xc (r:=(rV (rV Xa))) 1 rfl (λ_ s=>s.l.r)))) λa4 v5=>(XN (K:=K) (o:=(oL (oF (rP5 Xa Xa Xa Xa Xa)))) 4 0 (Qu (o:=(oF (rP5 Xa Xa Xa Xa Xa)))) (Nat.le_of_ble_eq_true rfl) λa8 v9 C10=>(YV (K:=K) (J:=({ oo:=λx11=>[x11.2.2.2.2.2.2.2.2], ss:=λx11=>[some v_0, some v2, some v3, some v5, some x11.2.2.2.2.2.2.2.1, x11.1, x11.2.1, x11.2.2.1, x11.2.2.2.1, x11.2.2.2.2.1, x11.2.2.2.2.2.1, x11.2.2.2.2.2.2.1], sc:=λg12 x11=>(SC.addO (SC.add (SC.add (SC.add (SC.add SC.nil K (rP2 (rV (rV Xa)) (rV (rP2 Xa Xa))) v_0 a_0) K (rV (rV Xa)) v2 a1.1) K (rV (rP2 Xa Xa)) v3 a1.2) K (rV (rV Xa)) v5 a4) K (oL (oF (rP5 Xa Xa Xa Xa Xa))) x11.2.2.2.2.2.2.2.1 g12 x11.2.2.2.2.2.2.2.2) } : Jn ((List (Int × Int × Int × Int × Int))) (Option V × Option V × Option V × Option V × Option V × Option V × Option V × V × List XG))) (λ_=>tg2 5 6) ((none), (none), (none), (none), (none), (none), (none), v9, C10) (a8) (XF (Xl (r:=(rV (rP2 Xa Xa))) 2 rfl (λ_ s=>s.l.l.r))) rfl rfl (λ_ s=>s) (λg13 x14 a15 v16=>(Fe 7 8 (EvB.sh (Ev.toB (Yn (Xc (r:=(rV (rV Xa))) 1 rfl (λ_ s=>s.l.l.l.l.l.r)) (Xc (r:=Xa) 5 rfl (λ_ s=>s.l.r))))) λa20 v21 v22=>(Fe 9 10 (EvB.sh (Ev.toB (Yn (Xc (r:=(rV (rV Xa))) 1 rfl (λ_ s=>s.l.l.l.l.l.l.l.r)) (ZR (Xc (r:=Xa) 5 rfl (λ_ s=>s.l.l.l.r)))))) λa27 v28 v29=>(Xv (K:=K) (r:=Xa) 11 (EvB.sh (XR (XM (Xc (r:=Xa) 10 rfl (λ_ s=>s.r)) (Xe 1)) (X2 (Xu (Xc (r:=(rV (rV Xa))) 1 rfl (λ_ s=>s.l.l.l.l.l.l.l.l.l.r)) (Xc (r:=Xa) 9 rfl (λ_ s=>s.l.r)))))) λa30 v31=>(Zr (K:=K) (o:=(oF (rP5 Xa Xa Xa Xa Xa))) (f:=λa58=>(Rs.ok (a58))) 4 0 rfl rfl rfl (λ_ s=>s.l.l.l.l.l.l.l.r) (EvS.ev (GR (Xl (r:=Xa) 5 rfl (λ_ s=>s.l.l.l.l.l.l.r)) (Xl (r:=Xa) 6 rfl (λ_ s=>s.l.l.l.l.l.r)) (EvB.sh (Xu (Xu (Xc (r:=(rV (rV Xa))) 3 rfl (λ_ s=>s.l.l.l.l.l.l.l.l.r)) (Xc (r:=Xa) 7 rfl (λ_ s=>s.l.l.l.l.r))) (Xc (r:=Xa) 8 rfl (λ_ s=>s.l.l.l.r)))) (EvB.sh (Xu (Xu (Xc (r:=(rV (rV Xa))) 3 rfl (λ_ s=>s.l.l.l.l.l.l.l.l.r)) (Xc (r:=Xa) 9 rfl (λ_ s=>s.l.l.r))) (Xc (r:=Xa) 10 rfl (λ_ s=>s.l.r)))) (EvB.sh (Xu (Xu (Xc (r:=(rV (rV Xa))) 3 rfl (λ_ s=>s.l.l.l.l.l.l.l.l.r)) (Xc (r:=Xa) 9 rfl (λ_ s=>s.l.l.r))) (Xc (r:=Xa) 11 rfl (λ_ s=>s.r)))))) λa56 C57=>(Xx (J:=_) ((some v16.1), (some v16.2), (some v21), (some v22), (some v28), (some v29), (some v31), x14.2.2.2.2.2.2.2.1, C57) ((g13 ++ [a56])) rfl rfl (λ_ s=>(SC.i s.l.l.l.l.l.l.l.l.l s.r)))))))) λg59 x60=>(Xy (Yk (o:=(oL (oF (rP5 Xa Xa Xa Xa Xa)))) 4 0 rfl rfl (λ_ s=>s.r)))))))
theorem J8 : FnScope ["_law_drawing", "_law_count_here", "_law_walk"] ["_law_drawing"] (Xi UF):=⟨rfl, rfl, rfl, by decide +kernel, rfl, by decide +kernel, by decide +kernel⟩
theorem Ea (D : Def K mg "_law_count" UF ["_law_drawing"])  (Z : Blt mg) : Fn P w K mg base 1 "_law_count" ["_law_drawing"] (sp1 (rP2 (rV (rV Xa)) (rV (rP2 Xa Xa))) (oF Xa) Qh K):=by
  refine Yp D J8 (λvs H Q E h=>?_) (λf cdv A outer s H vs Q E hr h=>?_)
  . obtain ⟨v_0, a_0, b, rfl, _⟩:=h; rfl
  obtain ⟨v_0, a_0, b, rfl, h_0, hm, q⟩:=h
  have hu:=hu8 hr
  have hu1:=Ym hr
  refine ⟨_, (Xb (Xo (i:=1) J8.nd rfl (Or.inl rfl) (Xr (Xn K rfl) rfl Z.b_len PySem.boot_len (Xd (XE (YM K rfl) (pv 0) Xh (λ_ _=>rfl)) Xg)))
    (Xb (X9 PassesOwn.never rfl (XI (K:=K) rfl (XE (YM K rfl) (pv 0) Xh (λ_ _=>rfl))) (Xm (i:=2) J8.nd rfl (Or.inl rfl))
      (Xb (YC (XH VY (Xr (Xn K rfl) rfl Z.b_len PySem.boot_len (Xd (YK (sc:=(Xi UF)) (N0:=["_law_drawing", "_law_count_here", "_law_walk"]) (tns:=["_law_one"]) (caps:=[]) rfl (XI (K:=K) rfl (pv 2)) (Y0 (by decide)) (λcl C s H ex E=>⟨Xm (i:=0) (show List.Nodup (["_law_one"] : List Str) by decide +kernel) rfl (Or.inl rfl), (VB (XH JG (pv 0) Xh (XV _))), (pv 0)⟩)) Xg)) Xh (XV _))
        (Xb (Xo (i:=1) J8.nd rfl (Or.inl rfl) (Xp XZ (pv 1) Xh))
        Xf)
        Xf)
      Xf))
    (Xb (Xz (pv 1))
    Xf))), ?_⟩
  refine Yq (S:=(SC.add SC.nil K (rP2 (rV (rV Xa)) (rV (rP2 Xa Xa))) v_0 a_0)) (σ:=[some v_0, none, none]) 0 ?_ (SC.i SC.t h_0) hm q rfl
  unfold Qh
  exact (Xv (K:=K) (r:=Xa) 1 (EvB.sh (X2 (Ve (Xc (r:=(rP2 (rV (rV Xa)) (rV (rP2 Xa Xa)))) 0 rfl (λ_ s=>s.r))))) λa1 v2=>(YV (K:=K) (J:=({ oo:=λx6=>[], ss:=λx6=>[some v_0, some x6.2, x6.1], sc:=λg7 x6=>(SC.add (SC.add SC.nil K (rP2 (rV (rV Xa)) (rV (rP2 Xa Xa))) v_0 a_0) K Xa x6.2 g7) } : Jn (Int) (Option V × V))) (λ_=>tg1 2) ((none), v2) (a1) (XF (JH (Xl (r:=(rP2 (rV (rV Xa)) (rV (rP2 Xa Xa)))) 0 rfl (λ_ s=>s.l.r)))) rfl rfl (λ_ s=>s) (λg8 x9 a10 v11=>(Zf (J:=({ oo:=λx22=>[], ss:=λx22=>[some v_0, some x22, some v11], sc:=λg23 x22=>(SC.add (SC.add (SC.add SC.nil K (rP2 (rV (rV Xa)) (rV (rP2 Xa Xa))) v_0 a_0) K (rV Xa) v11 a10) K Xa x22 g23) } : Jn (Int) (V))) (ZQ (Fd:=FNd ({ oo:=λx22=>[], ss:=λx22=>[some v_0, some x22, some v11], sc:=λg23 x22=>(SC.add (SC.add (SC.add SC.nil K (rP2 (rV (rV Xa)) (rV (rP2 Xa Xa))) v_0 a_0) K (rV Xa) v11 a10) K Xa x22 g23) } : Jn (Int) (V))) (Xs (K:=K) (QO (X2 (Ev.toB (Jg (λ_=>tg1 0) (XF (Xl (r:=(rV Xa)) 2 rfl (λ_ s=>s.r))) (λC12 a13 v14=>(Xs (K:=K) (Qv (Xc (r:=Xa) 0 rfl (λ_ s=>s.r)) (Xe 0)))) (λC12 a13 v14=>(EvS.ev (Xl (r:=Xa) 0 rfl (λ_ s=>s.r))))))) (Xe 0))) (Xv (K:=K) (r:=Xa) 1 (EvB.sh (XM (Xc (r:=Xa) 1 rfl (λ_ s=>s.l.r)) (Xe 1))) λa24 v25=>(Xx (J:=_) (v25) (a24) rfl rfl (λ_ s=>(SC.i (SC.i (SC.i SC.t s.l.l.l.r) s.l.r) s.r)))) (Xx (J:=_) (x9.2) (g8) rfl rfl (λ_ s=>(SC.i (SC.i (SC.i SC.t s.l.l.r) s.r) s.l.r)))) λg29 x28=>(Xx (J:=_) ((some v11), x28) (g29) rfl rfl (λ_ s=>(SC.i (SC.i SC.t s.l.l.r) s.r))))) λg30 x31=>(Xy (EvS.ev (Xl (r:=Xa) 1 rfl (λ_ s=>s.r))))))
theorem Jb : FnScope ["_law_number"] ["_law_number"] (Xi ZM):=⟨rfl, rfl, rfl, by decide +kernel, rfl, by decide +kernel, by decide +kernel⟩
theorem Ut (D : Def K mg "_law_next_prime" ZM ["_law_number"])  (Z : Blt mg) : Fn P w K mg base 1 "_law_next_prime" ["_law_number"] (sp1 Xa (oF Xa) Za K):=by
  refine Yp D Jb (λvs H Q E h=>?_) (λf cdv A outer s H vs Q E hr h=>?_)
  . obtain ⟨v_0, a_0, b, rfl, _⟩:=h; rfl
  obtain ⟨v_0, a_0, b, rfl, h_0, hm, q⟩:=h
  have hu:=hu8 hr
  have hu1:=Ym hr
  refine ⟨_, (Xb (JY PassesOwn.never (Zt (ZK (Xr (DB rfl) rfl Z.b_all PyProof.Rows.boot_all (Xd (YK (sc:=(Xi ZM)) (N0:=["_law_number"]) (tns:=["_law_step"]) (caps:=[(0, "_law_number")]) rfl (DS rfl Z.b_range (Xd Xh (Xd Xh Xg))) (Y0 (by decide)) (λcl C s H ex E=>⟨Xm (i:=0) (show List.Nodup (["_law_step", "_law_number"] : List Str) by decide +kernel) rfl (Or.inl rfl), (VB (XH CD (Xp Yu (pv 0) (pv 0)) (pv 1) (XV _))), (K9 FN (Xp Yf (pv 1) (pv 0)) Xh (XV _))⟩)) Xg))))
      (Xb (Xo (i:=0) Jb.nd rfl (Or.inr rfl) (Xp XZ (pv 0) Xh))
      Xf))
    (Xb (Xz (pv 0))
    Xf)), ?_⟩
  refine Yq (S:=(SC.add SC.nil K Xa v_0 a_0)) (σ:=[some v_0]) 0 ?_ (SC.i SC.t h_0) hm q rfl
  unfold Za
  exact (U3 (J:=({ oo:=λx1=>[], ss:=λx1=>[some x1], sc:=λg2 x1=>(SC.add SC.nil K Xa x1 g2) } : Jn (Int) (V))) (100000) (v_0) (a_0) rfl rfl (λ_ s=>(SC.i SC.t s.r)) (λg3 x4=>(YR (QA (K:=K) (HJ (Ev.toB (Jg (λ_=>tg1 0) (Gs (Xe 2) (Xe 317)) (λC7 a8 v9=>(Xs (K:=K) (Dn (X0 (Xc (r:=Xa) 0 rfl (λ_ s=>s.r)) (Xc (r:=Xa) 0 rfl (λ_ s=>s.r))) (Xc (r:=Xa) 1 rfl (λ_ s=>s.l.r))))) (λC7 a8 v9=>(EvS.ev (EvB.sh (Ur (XR (Xc (r:=Xa) 1 rfl (λ_ s=>s.l.r)) (Xc (r:=Xa) 0 rfl (λ_ s=>s.r))) (Xe 0))))))))))) (λg3 x4=>(Xv (K:=K) (r:=Xa) 0 (EvB.sh (XM (Xc (r:=Xa) 0 rfl (λ_ s=>s.r)) (Xe 1))) λa21 v22=>(Xx (J:=_) (v22) (a21) rfl rfl (λ_ s=>(SC.i SC.t s.r))))) λg25 x26=>(Xy (EvS.ev (Xl (r:=Xa) 0 rfl (λ_ s=>s.r)))))
theorem J4 : FnScope ["_law_some", "_law_primes", "_law_prime_here", "_law_factor"] ["_law_some"] (Xi Gc):=⟨rfl, rfl, rfl, by decide +kernel, rfl, by decide +kernel, by decide +kernel⟩
theorem BJ (D : Def K mg "_law_prime" Gc ["_law_some"]) (g_next_prime : Fn P w K mg base 1 "_law_next_prime" ["_law_number"] (sp1 Xa (oF Xa) Za K)) (Z : Blt mg) : Fn P w K mg base 2 "_law_prime" ["_law_some"] (sp1 (rV Xa) (oF (rP2 Xa Xa)) Jq K):=by
  refine Yp D J4 (λvs H Q E h=>?_) (λf cdv A outer s H vs Q E hr h=>?_)
  . obtain ⟨v_0, a_0, b, rfl, _⟩:=h; rfl
  obtain ⟨v_0, a_0, b, rfl, h_0, hm, q⟩:=h
  have hu:=hu8 hr
  have hu1:=Ym hr
  apply Exists.intro
  apply And.intro
  case left=>
   refine' Xb ?zq1 ?zq2
   case zq1=>
    refine' Xo (i:=1) ?zq3 ?zq4 ?zq5 ?zq6
    case zq3=>exact J4.nd
    case zq4=>exact rfl
    case zq5=>exact (Or.inl rfl)
    case zq6=>
     refine' X8 ?zq7
     case zq7=>
      refine' Xd ?zq8 ?zq9
      case zq8=>exact Xh
      case zq9=>
       refine' Xd ?zq10 ?zq11
       case zq10=>exact Xh
       case zq11=>
        refine' Xd ?zq12 ?zq13
        case zq12=>exact Xh
        case zq13=>
         refine' Xd ?zq14 ?zq15
         case zq14=>exact Xh
         case zq15=>
          refine' Xd ?zq16 ?zq17
          case zq16=>exact Xh
          case zq17=>
           refine' Xd ?zq18 ?zq19
           case zq18=>exact Xh
           case zq19=>
            refine' Xd ?zq20 ?zq21
            case zq20=>exact Xh
            case zq21=>
             refine' Xd ?zq22 ?zq23
             case zq22=>exact Xh
             case zq23=>
              refine' Xd ?zq24 ?zq25
              case zq24=>exact Xh
              case zq25=>
               refine' Xd ?zq26 ?zq27
               case zq26=>exact Xh
               case zq27=>
                exact Xg
   case zq2=>
    exact (Xb (Xo (i:=2) J4.nd rfl (Or.inl rfl) (XE (Xk K rfl) (Xp K1 (pv 1) (Xp VF (X8 (Xd (XX g_next_prime hr (by decide) (Xd (Xp XZ Xh (XE (Xk K rfl) (pv 0) Xh (λ_ _=>rfl))) Xg)) Xg)) Xh)) (XE (Xk K rfl) (pv 0) Xh (λ_ _=>rfl)) (λ_ _=>rfl)))
     (Xb (Xo (i:=3) J4.nd rfl (Or.inl rfl) (Xp XZ Xh (Xp Yf (XE (Xk K rfl) (pv 0) Xh (λ_ _=>rfl)) (Xr (Jc rfl) rfl Z.b_max PyProof.Rows.boot_max (Xd Xh (Xd (Xp Q6 (pv 2) Xh) Xg))))))
     (Xb (Xz (Zs (Xd (pv 2) (Xd (Xp XZ (pv 3) (Xp Yu (pv 2) (XE (Xk K rfl) (X8 (Xd Xh (Xd Xh (Xd (V2 QN Xh) (Xd Xh (Xd (Xp GT Xh Xh) Xg)))))) (XE (Xk K rfl) (pv 0) Xh (λ_ _=>rfl)) (λ_ _=>rfl)))) Xg))))
     Xf)))
  refine Yq (S:=(SC.add SC.nil K (rV Xa) v_0 a_0)) (σ:=[some v_0, none, none, none]) 0 ?_ (SC.i SC.t h_0) hm q rfl
  unfold Jq
  exact (Xv (K:=K) (r:=(rV Xa)) 1 (Ev.sh (ZF (Xq (EvB.sh (Xe 2)) (Xq (EvB.sh (Xe 3)) (Xq (EvB.sh (Xe 5)) (Xq (EvB.sh (Xe 7)) (Xq (EvB.sh (Xe 11)) (Xq (EvB.sh (Xe 13)) (Xq (EvB.sh (Xe 23)) (Xq (EvB.sh (Xe 97)) (Xq (EvB.sh (Xe 65537)) (Xq (EvB.sh (Xe 99991)) Y8)))))))))))) λa1 v2=>(Xv (K:=K) (r:=Xa) 2 (EvB.sh (Xu (Ev.toB (Fm (EvS.ls (Xl (r:=(rV Xa)) 1 rfl (λ_ s=>s.r))) (Ev.ls (VD (Ev.ls (ZF (Xq (EvB.sh (Ev.toB (X3 (XM (Xe 2) (Xu (Xc (r:=(rV Xa)) 0 rfl (λ_ s=>s.l.r)) (Xe 1)))))) Y8))) (Xe 4))))) (Xu (Xc (r:=(rV Xa)) 0 rfl (λ_ s=>s.l.r)) (Xe 0)))) λa24 v25=>(Xv (K:=K) (r:=Xa) 3 (EvB.sh (XM (Xe 1) (XR (Xu (Xc (r:=(rV Xa)) 0 rfl (λ_ s=>s.l.l.r)) (Xe 1)) (UH (Xe 1) (Qi (Xc (r:=Xa) 2 rfl (λ_ s=>s.r)) (Xe 1)))))) λa43 v44=>(Xy (EvS.ev (QE (Xl (r:=Xa) 2 rfl (λ_ s=>s.l.r)) (EvB.sh (XM (Xc (r:=Xa) 3 rfl (λ_ s=>s.r)) (X0 (Xc (r:=Xa) 2 rfl (λ_ s=>s.l.r)) (Xu (Ev.toB (ZF (Xq (EvB.sh (Xe 0)) (Xq (EvB.sh (Xe 0)) (Xq (EvB.sh (ZR (Xe 3))) (Xq (EvB.sh (Xe 1)) (Xq (EvB.sh (U0 (Xe 10) (Xe 50))) Y8))))))) (Xu (Xc (r:=(rV Xa)) 0 rfl (λ_ s=>s.l.l.l.r)) (Xe 2))))))))))))
theorem XT : FnScope ["_law_drawing", "_law_prime_here", "_law_factor", "_law_found", "_law_crossing", "_law_sign", "_law_over", "_law_inward", "_law_outward", "_law_one", "_law_other", "_law_line"] ["_law_drawing", "_law_prime_here", "_law_factor"] (Xi Zx):=⟨rfl, rfl, rfl, by decide +kernel, rfl, by decide +kernel, by decide +kernel⟩
theorem V4 (D : Def K mg "_law_equations" Zx ["_law_drawing", "_law_prime_here", "_law_factor"]) (g_l_meets : Fn P w K mg base 2 "_law_meets" ["_law_drawing"] (sp1 (rP2 (rV (rV Xa)) (rV (rP2 Xa Xa))) (oL (oF (rP5 Xa Xa Xa Xa Xa))) ZH K)) (g_count : Fn P w K mg base 1 "_law_count" ["_law_drawing"] (sp1 (rP2 (rV (rV Xa)) (rV (rP2 Xa Xa))) (oF Xa) Qh K)) (Z : Blt mg) : Fn P w K mg base 3 "_law_equations" ["_law_drawing", "_law_prime_here", "_law_factor"] (sp3 (rP2 (rV (rV Xa)) (rV (rP2 Xa Xa))) Xa Xa (oL (oL (oF Xa))) Yx K):=by
  refine Yp D XT (λvs H Q E h=>?_) (λf cdv A outer s H vs Q E hr h=>?_)
  . obtain ⟨v_0, v_1, v_2, a_0, a_1, a_2, b, rfl, _⟩:=h; rfl
  obtain ⟨v_0, v_1, v_2, a_0, a_1, a_2, b, rfl, h_0, h_1, h_2, hm, q⟩:=h
  have hu:=hu8 hr
  have hu1:=Ym hr
  refine ⟨_, (Xb (Xo (i:=3) XT.nd rfl (Or.inl rfl) (X8 Xg))
    (Xb (X9 PassesOwn.never rfl (XI (K:=K) rfl (XX g_l_meets hr (by decide) (Xd (pv 0) Xg))) (Z4 rfl (Xt (Xm (i:=4) XT.nd rfl (Or.inl rfl)) (Xt (Xm (i:=5) XT.nd rfl (Or.inl rfl)) (Xt (Xm (i:=6) XT.nd rfl (Or.inl rfl)) (Xt (Xm (i:=7) XT.nd rfl (Or.inl rfl)) (Xt (Xm (i:=8) XT.nd rfl (Or.inl rfl)) YZ))))))
      (Xb (E1 (i:=9) (j:=10) rfl XT.nd rfl rfl (by decide) rfl rfl (Xd (pv 7) (Xd (pv 8) Xg)) rfl)
      (Xb (YC (XH JG (pv 5) Xh (XV _))
        (Xb (E1 (i:=9) (j:=10) rfl XT.nd rfl rfl (by decide) rfl rfl (Xd (pv 8) (Xd (pv 7) Xg)) rfl)
        Xf)
        Xf)
      (Xb (Xo (i:=11) XT.nd rfl (Or.inl rfl) (Xp VF (X8 (Xd Xh Xg)) (XX g_count hr (by decide) (Xd (pv 0) Xg))))
      (Xb (Qm (Xp XZ (XE (Xk K rfl) (pv 11) (pv 9) (λ_ _=>rfl)) (pv 2)) (Vf (pv 11) (pv 9) Zq))
      (Xb (Qm (Xp Q6 (Xp XZ (XE (Xk K rfl) (pv 11) (pv 6) (λ_ _=>rfl)) Xh) (pv 2)) (Vf (pv 11) (pv 6) Zq))
      (Xb (Qm (Xp Q6 (XE (Xk K rfl) (pv 11) (pv 10) (λ_ _=>rfl)) Xh) (Vf (pv 11) (pv 10) Zq))
      (Xb (Yh (ZJ PySem.F.plainAttrs_list PySem.F.slot_list_append PySem.F.type_list_append XU (pv 3) (Xd (YK (sc:=(Xi Zx)) (N0:=["_law_drawing", "_law_prime_here", "_law_factor", "_law_found", "_law_crossing", "_law_sign", "_law_over", "_law_inward", "_law_outward", "_law_one", "_law_other", "_law_line"]) (tns:=["_law_number"]) (caps:=[(1, "_law_prime_here")]) rfl (XI (K:=K) rfl (pv 11)) (Y0 (by decide)) (λcl C s H ex E=>⟨Xm (i:=0) (show List.Nodup (["_law_number", "_law_prime_here"] : List Str) by decide +kernel) rfl (Or.inl rfl), Y7, (Xp Yf (pv 0) (pv 1))⟩)) Xg)))
      Xf))))))))
    (Xb (Xz (pv 3))
    Xf))), ?_⟩
  refine Yq (S:=(SC.add (SC.add (SC.add SC.nil K (rP2 (rV (rV Xa)) (rV (rP2 Xa Xa))) v_0 a_0) K Xa v_1 a_1) K Xa v_2 a_2)) (σ:=[some v_0, some v_1, some v_2, none, none, none, none, none, none, none, none, none]) 2 ?_ (SC.i (SC.i (SC.i SC.t h_0) h_1) h_2) hm q rfl
  unfold Yx
  exact (XN (K:=K) (o:=(oL (oL (oF Xa)))) 3 0 (Qu (o:=(oL (oF Xa)))) (Nat.le_of_ble_eq_true rfl) λa1 v2 C3=>(YV (K:=K) (J:=({ oo:=λx6=>[x6.2.2.2.2.2.2.2.2.2, []], ss:=λx6=>[some v_0, some v_1, some v_2, some x6.2.2.2.2.2.2.2.2.1, x6.1, x6.2.1, x6.2.2.1, x6.2.2.2.1, x6.2.2.2.2.1, x6.2.2.2.2.2.1, x6.2.2.2.2.2.2.1, x6.2.2.2.2.2.2.2.1], sc:=λg7 x6=>(SC.addO (SC.add (SC.add (SC.add SC.nil K (rP2 (rV (rV Xa)) (rV (rP2 Xa Xa))) v_0 a_0) K Xa v_1 a_1) K Xa v_2 a_2) K (oL (oL (oF Xa))) x6.2.2.2.2.2.2.2.2.1 g7 x6.2.2.2.2.2.2.2.2.2) } : Jn ((List (List Int))) (Option V × Option V × Option V × Option V × Option V × Option V × Option V × Option V × V × List XG))) (λ_=>tg5 4 5 6 7 8) ((none), (none), (none), (none), (none), (none), (none), (none), v2, C3) (a1) (XF (Ev.sh (X3 (Xc (r:=(rP2 (rV (rV Xa)) (rV (rP2 Xa Xa)))) 0 rfl (λ_ s=>s.l.l.l.r))))) rfl rfl (λ_ s=>s) (λg8 x9 a10 v11=>(EA (K:=K) 9 10 (Xl (r:=Xa) 7 rfl (λ_ s=>s.l.r)) (Xl (r:=Xa) 8 rfl (λ_ s=>s.r)) λa12 a13 v14 v15=>(Zf (J:=({ oo:=λx19=>[x9.2.2.2.2.2.2.2.2.2, []], ss:=λx19=>[some v_0, some v_1, some v_2, some x9.2.2.2.2.2.2.2.2.1, some v11.1, some v11.2.1, some v11.2.2.1, some v11.2.2.2.1, some v11.2.2.2.2, some x19.1, some x19.2, x9.2.2.2.2.2.2.2.1], sc:=λg20 x19=>(SC.add (SC.add (SC.add (SC.add (SC.add (SC.add (SC.add (SC.addO (SC.add (SC.add (SC.add SC.nil K (rP2 (rV (rV Xa)) (rV (rP2 Xa Xa))) v_0 a_0) K Xa v_1 a_1) K Xa v_2 a_2) K (oL (oL (oF Xa))) x9.2.2.2.2.2.2.2.2.1 g8 x9.2.2.2.2.2.2.2.2.2) K Xa v11.1 a10.1) K Xa v11.2.1 a10.2.1) K Xa v11.2.2.1 a10.2.2.1) K Xa v11.2.2.2.1 a10.2.2.2.1) K Xa v11.2.2.2.2 a10.2.2.2.2) K Xa x19.1 g20.1) K Xa x19.2 g20.2) } : Jn (Int × Int) (V × V))) (ZQ (Fd:=FNd ({ oo:=λx19=>[x9.2.2.2.2.2.2.2.2.2, []], ss:=λx19=>[some v_0, some v_1, some v_2, some x9.2.2.2.2.2.2.2.2.1, some v11.1, some v11.2.1, some v11.2.2.1, some v11.2.2.2.1, some v11.2.2.2.2, some x19.1, some x19.2, x9.2.2.2.2.2.2.2.1], sc:=λg20 x19=>(SC.add (SC.add (SC.add (SC.add (SC.add (SC.add (SC.add (SC.addO (SC.add (SC.add (SC.add SC.nil K (rP2 (rV (rV Xa)) (rV (rP2 Xa Xa))) v_0 a_0) K Xa v_1 a_1) K Xa v_2 a_2) K (oL (oL (oF Xa))) x9.2.2.2.2.2.2.2.2.1 g8 x9.2.2.2.2.2.2.2.2.2) K Xa v11.1 a10.1) K Xa v11.2.1 a10.2.1) K Xa v11.2.2.1 a10.2.2.1) K Xa v11.2.2.2.1 a10.2.2.2.1) K Xa v11.2.2.2.2 a10.2.2.2.2) K Xa x19.1 g20.1) K Xa x19.2 g20.2) } : Jn (Int × Int) (V × V))) (Xs (K:=K) (Qv (Xc (r:=Xa) 5 rfl (λ_ s=>s.l.l.l.l.l.r)) (Xe 0))) (EA (K:=K) 9 10 (Xl (r:=Xa) 8 rfl (λ_ s=>s.l.l.r)) (Xl (r:=Xa) 7 rfl (λ_ s=>s.l.l.l.r)) λa21 a22 v23 v24=>(Xx (J:=_) (v23, v24) (a21, a22) rfl rfl (λ_ s=>(SC.i (SC.i s.l.l.l.l s.l.r) s.r)))) (Xx (J:=_) (v14, v15) (a12, a13) rfl rfl (λ_ s=>s))) λg26 x25=>(XN (K:=K) (o:=(oL (oF Xa))) 11 1 (VD (Ev.ls (ZF (Xq (EvB.sh (Xe 0)) Y8))) (Ev.toB (X3 (Xc (r:=(rP2 (rV (rV Xa)) (rV (rP2 Xa Xa)))) 0 rfl (λ_ s=>s.l.l.l.l.l.l.l.l.l.l.r))))) (Nat.le_of_ble_eq_true rfl) λa27 v28 C29=>(Qj (K:=K) (o:=(oF Xa)) 11 1 rfl rfl (λ_ s=>s.r) (EvS.ev (EvB.sh (XM (Xu (Yc (o:=(oL (oF Xa))) 11 1 rfl rfl (λ_ s=>s.r)) (Xc (r:=Xa) 9 rfl (λ_ s=>s.l.l.r))) (Xc (r:=Xa) 2 rfl (λ_ s=>s.l.l.l.l.l.l.l.l.l.r))))) (λ_=>(Xc (r:=Xa) 9 rfl (λ_ s=>s.l.l.r))) λa43 C44=>(Qj (K:=K) (o:=(oF Xa)) 11 1 rfl rfl (λ_ s=>s.r) (EvS.ev (EvB.sh (Qi (XM (Xu (Yc (o:=(oL (oF Xa))) 11 1 rfl rfl (λ_ s=>s.r)) (Xc (r:=Xa) 6 rfl (λ_ s=>s.l.l.l.l.l.l.r))) (Xe 1)) (Xc (r:=Xa) 2 rfl (λ_ s=>s.l.l.l.l.l.l.l.l.l.l.r))))) (λ_=>(Xc (r:=Xa) 6 rfl (λ_ s=>s.l.l.l.l.l.l.r))) λa53 C54=>(Qj (K:=K) (o:=(oF Xa)) 11 1 rfl rfl (λ_ s=>s.r) (EvS.ev (EvB.sh (Qi (Xu (Yc (o:=(oL (oF Xa))) 11 1 rfl rfl (λ_ s=>s.r)) (Xc (r:=Xa) 10 rfl (λ_ s=>s.l.l.l.r))) (Xe 1)))) (λ_=>(Xc (r:=Xa) 10 rfl (λ_ s=>s.l.l.l.r))) λa61 C62=>(Zr (K:=K) (o:=(oL (oF Xa))) (f:=λa71=>(Rs.ok (a71))) 3 0 rfl rfl rfl (λ_ s=>s.l.l.l.l.l.l.l.l.l.l.l.r) (VT (K:=K) (o1:=(oL (oF Xa))) 1 rfl (λ_ s=>s.r) (Y9 (λ_=>tg1 0) (XF (Xl (r:=(rV Xa)) 11 rfl (λ_ s=>s.r))) (λC63 a64 v65=>(EvS.ev (EvB.sh (XR (Xc (r:=Xa) 0 rfl (λ_ s=>s.r)) (Xc (r:=Xa) 1 rfl (λ_ s=>s.l.l.l.l.l.l.l.l.l.l.l.l.l.l.l.r)))))))) λa69 C70=>(CV 1 (Xx (J:=_) ((some v11.1), (some v11.2.1), (some v11.2.2.1), (some v11.2.2.2.1), (some v11.2.2.2.2), (some x25.1), (some x25.2), (some v28), x9.2.2.2.2.2.2.2.2.1, C70) ((g8 ++ [a69])) rfl rfl (λ_ s=>(SC.i s.l.l.l.l.l.l.l.l.l.l.l.l.l s.r)))))))))))) λg72 x73=>(Xy (Yk (o:=(oL (oL (oF Xa)))) 3 0 rfl rfl (λ_ s=>s.r)))))
theorem IX : FnScope ["_law_line", "_law_colours"] ["_law_line", "_law_colours"] (Xi Es):=⟨rfl, rfl, rfl, by decide +kernel, rfl, by decide +kernel, by decide +kernel⟩
theorem IH (D : Def K mg "_law_sum" Es ["_law_line", "_law_colours"])  (Z : Blt mg) : Fn P w K mg base 1 "_law_sum" ["_law_line", "_law_colours"] (sp2 (rV Xa) (rV Xa) (oF Xa) FC K):=by
  refine Yp D IX (λvs H Q E h=>?_) (λf cdv A outer s H vs Q E hr h=>?_)
  . obtain ⟨v_0, v_1, a_0, a_1, b, rfl, _⟩:=h; rfl
  obtain ⟨v_0, v_1, a_0, a_1, b, rfl, h_0, h_1, hm, q⟩:=h
  have hu:=hu8 hr
  have hu1:=Ym hr
  refine ⟨_, (Xb (Xz (Xr (Ky rfl) rfl Z.b_sum PyProof.Rows.boot_sum (Xd (YK (sc:=(Xi Es)) (N0:=["_law_line", "_law_colours"]) (tns:=["_law_k"]) (caps:=[(0, "_law_line"), (1, "_law_colours")]) rfl (X1 rfl Z.b_range (Xd (Xr (Xn K rfl) rfl Z.b_len PySem.boot_len (Xd (pv 0) Xg)) Xg)) (Y0 (by decide)) (λcl C s H ex E=>⟨Xm (i:=0) (show List.Nodup (["_law_k", "_law_line", "_law_colours"] : List Str) by decide +kernel) rfl (Or.inl rfl), Y7, (Xp Yu (XE (Xk K rfl) (pv 1) (pv 0) (λ_ _=>rfl)) (XE (Xk K rfl) (pv 2) (pv 0) (λ_ _=>rfl)))⟩)) Xg)))
    Xf), ?_⟩
  refine Yq (S:=(SC.add (SC.add SC.nil K (rV Xa) v_0 a_0) K (rV Xa) v_1 a_1)) (σ:=[some v_0, some v_1]) 0 ?_ (SC.i (SC.i SC.t h_0) h_1) hm q rfl
  unfold FC
  exact (Xy (EvS.ev (EvB.sh (CJ (Ev.toB (Y9 (λ_=>tg1 0) (XL (X2 (Xc (r:=(rV Xa)) 0 rfl (λ_ s=>s.l.r)))) (λC4 a5 v6=>(EvS.ev (EvB.sh (X0 (Xu (Xc (r:=(rV Xa)) 1 rfl (λ_ s=>s.l.l.r)) (Xc (r:=Xa) 0 rfl (λ_ s=>s.r))) (Xu (Xc (r:=(rV Xa)) 2 rfl (λ_ s=>s.l.r)) (Xc (r:=Xa) 0 rfl (λ_ s=>s.r)))))))))))))
theorem VE : FnScope ["_law_found", "_law_count_here", "_law_prime_here", "_law_one"] ["_law_found", "_law_count_here", "_law_prime_here"] (Xi Jp):=⟨rfl, rfl, rfl, by decide +kernel, rfl, by decide +kernel, by decide +kernel⟩
theorem K7 (D : Def K mg "_law_is_rests" Jp ["_law_found", "_law_count_here", "_law_prime_here"]) (g_is_wholes : Fn P w K mg base 2 "_law_is_wholes" ["_law_found"] (sp1 (rV Xa) (oF XS) YN K)) (Z : Blt mg) : Fn P w K mg base 3 "_law_is_rests" ["_law_found", "_law_count_here", "_law_prime_here"] (sp3 (rV Xa) Xa Xa (oF XS) ZB K):=by
  refine Yp D VE (λvs H Q E h=>?_) (λf cdv A outer s H vs Q E hr h=>?_)
  . obtain ⟨v_0, v_1, v_2, a_0, a_1, a_2, b, rfl, _⟩:=h; rfl
  obtain ⟨v_0, v_1, v_2, a_0, a_1, a_2, b, rfl, h_0, h_1, h_2, hm, q⟩:=h
  have hu:=hu8 hr
  have hu1:=Ym hr
  refine ⟨_, (Xb (YC (PW.pt (FJ (Zt (ZK (XX g_is_wholes hr (by decide) (Xd (pv 0) Xg)))) (Uh (XH Ka (Xr (Xn K rfl) rfl Z.b_len PySem.boot_len (Xd (pv 0) Xg)) (pv 1) (XV _)))))
      (Xb (Xz Zj)
      Xf)
      Xf)
    (Xb (X9 PassesOwn.never rfl (XI (K:=K) rfl (pv 0)) (Xm (i:=3) VE.nd rfl (Or.inl rfl))
      (Xb (YC (Zt (Fg CD JG Xh (pv 3) (pv 2)))
        (Xb (Xz Zj)
        Xf)
        Xf)
      Xf))
    (Xb (Xz Zj)
    Xf))), ?_⟩
  refine Yq (S:=(SC.add (SC.add (SC.add SC.nil K (rV Xa) v_0 a_0) K Xa v_1 a_1) K Xa v_2 a_2)) (σ:=[some v_0, some v_1, some v_2, none]) 0 ?_ (SC.i (SC.i (SC.i SC.t h_0) h_1) h_2) hm q rfl
  unfold ZB
  exact (Qn (Ue (YR (QA (K:=K) (Ev.toB (X3 (Xc (r:=(rV Xa)) 0 rfl (λ_ s=>s.l.l.r)))))) (Xs (K:=K) (JL (X2 (Xc (r:=(rV Xa)) 0 rfl (λ_ s=>s.l.l.r))) (Xc (r:=Xa) 1 rfl (λ_ s=>s.l.r))))) (Xy (EvS.ev (EvB.sh (Yo false)))) (JD (K:=K) (J:=({ oo:=λx8=>[], ss:=λx8=>[some v_0, some v_1, some v_2, x8], sc:=λg9 x8=>(SC.add (SC.add (SC.add SC.nil K (rV Xa) v_0 a_0) K Xa v_1 a_1) K Xa v_2 a_2) } : Jn (Unit) (Option V))) (λ_=>tg1 3) ((none)) () (XF (Xl (r:=(rV Xa)) 0 rfl (λ_ s=>s.l.l.r))) rfl rfl (λ_ s=>s) (λg10 x11 a12 v13=>(ZU (YR (Xs (K:=K) (Ku (Xe 0) (Xc (r:=Xa) 3 rfl (λ_ s=>s.r)) (Xc (r:=Xa) 2 rfl (λ_ s=>s.l.r))))) (Xy (EvS.ev (EvB.sh (Yo false)))) (Q8 (Xx (J:=_) ((some v13)) () rfl rfl (λ_ s=>s.l))))) λg21 x22=>(Xy (EvS.ev (EvB.sh (Yo true))))))
theorem KJ : FnScope ["_law_found", "_law_count_here", "_law_k"] ["_law_found", "_law_count_here"] (Xi UV):=⟨rfl, rfl, rfl, by decide +kernel, rfl, by decide +kernel, by decide +kernel⟩
theorem Db (D : Def K mg "_law_rising" UV ["_law_found", "_law_count_here"]) (g_is_wholes : Fn P w K mg base 2 "_law_is_wholes" ["_law_found"] (sp1 (rV Xa) (oF XS) YN K)) (Z : Blt mg) : Fn P w K mg base 3 "_law_rising" ["_law_found", "_law_count_here"] (sp2 (rV Xa) Xa (oF XS) Qf K):=by
  refine Yp D KJ (λvs H Q E h=>?_) (λf cdv A outer s H vs Q E hr h=>?_)
  . obtain ⟨v_0, v_1, a_0, a_1, b, rfl, _⟩:=h; rfl
  obtain ⟨v_0, v_1, a_0, a_1, b, rfl, h_0, h_1, hm, q⟩:=h
  have hu:=hu8 hr
  have hu1:=Ym hr
  refine ⟨_, (Xb (YC (Zt (ZK (XX g_is_wholes hr (by decide) (Xd (pv 0) Xg))))
      (Xb (Xz Zj)
      Xf)
      Xf)
    (Xb (X9 PassesOwn.never rfl (X1 rfl Z.b_range (Xd (Xr (Xn K rfl) rfl Z.b_len PySem.boot_len (Xd (pv 0) Xg)) Xg)) (Xm (i:=2) KJ.nd rfl (Or.inl rfl))
      (Xb (YC (Zt (Fg CD JG Xh (XE (Xk K rfl) (pv 0) (pv 2) (λ_ _=>rfl)) (pv 1)))
        (Xb (Xz Zj)
        Xf)
        Xf)
      (Xb (YC (PW.pt (EK (XH FN (pv 2) Xh (XV _)) (F7 (XH CD (XE (Xk K rfl) (pv 0) (pv 2) (λ_ _=>rfl)) (XE (Xk K rfl) (pv 0) (Xp Q6 (pv 2) Xh) (λ_ _=>rfl)) (XV _)))))
        (Xb (Xz Zj)
        Xf)
        Xf)
      Xf)))
    (Xb (Xz Zj)
    Xf))), ?_⟩
  refine Yq (S:=(SC.add (SC.add SC.nil K (rV Xa) v_0 a_0) K Xa v_1 a_1)) (σ:=[some v_0, some v_1, none]) 0 ?_ (SC.i (SC.i SC.t h_0) h_1) hm q rfl
  unfold Qf
  exact (Qn (YR (QA (K:=K) (Ev.toB (X3 (Xc (r:=(rV Xa)) 0 rfl (λ_ s=>s.l.r)))))) (Xy (EvS.ev (EvB.sh (Yo false)))) (JD (K:=K) (J:=({ oo:=λx7=>[], ss:=λx7=>[some v_0, some v_1, x7], sc:=λg8 x7=>(SC.add (SC.add SC.nil K (rV Xa) v_0 a_0) K Xa v_1 a_1) } : Jn (Unit) (Option V))) (λ_=>tg1 2) ((none)) () (XL (X2 (Xc (r:=(rV Xa)) 0 rfl (λ_ s=>s.l.r)))) rfl rfl (λ_ s=>s) (λg9 x10 a11 v12=>(ZU (YR (Xs (K:=K) (Ku (Xe 0) (Xu (Xc (r:=(rV Xa)) 0 rfl (λ_ s=>s.l.l.r)) (Xc (r:=Xa) 2 rfl (λ_ s=>s.r))) (Xc (r:=Xa) 1 rfl (λ_ s=>s.l.r))))) (Xy (EvS.ev (EvB.sh (Yo false)))) (ZU (Ca (Xs (K:=K) (Ur (Xc (r:=Xa) 2 rfl (λ_ s=>s.r)) (Xe 0))) (Xs (K:=K) (Dn (Xu (Xc (r:=(rV Xa)) 0 rfl (λ_ s=>s.l.l.r)) (Xc (r:=Xa) 2 rfl (λ_ s=>s.r))) (Xu (Xc (r:=(rV Xa)) 0 rfl (λ_ s=>s.l.l.r)) (Qi (Xc (r:=Xa) 2 rfl (λ_ s=>s.r)) (Xe 1)))))) (Xy (EvS.ev (EvB.sh (Yo false)))) (Q8 (Xx (J:=_) ((some v12)) () rfl rfl (λ_ s=>s.l)))))) λg34 x35=>(Xy (EvS.ev (EvB.sh (Yo true))))))
theorem JZ : FnScope ["_law_frees", "_law_basis", "_law_lines", "_law_count_here", "_law_prime_here", "_law_k", "_law_n", "_law_line"] ["_law_frees", "_law_basis", "_law_lines", "_law_count_here", "_law_prime_here"] (Xi K6):=⟨rfl, rfl, rfl, by decide +kernel, rfl, by decide +kernel, by decide +kernel⟩
theorem Br (D : Def K mg "_law_based" K6 ["_law_frees", "_law_basis", "_law_lines", "_law_count_here", "_law_prime_here"]) (g_is_rests : Fn P w K mg base 3 "_law_is_rests" ["_law_found", "_law_count_here", "_law_prime_here"] (sp3 (rV Xa) Xa Xa (oF XS) ZB K)) (g_sum : Fn P w K mg base 1 "_law_sum" ["_law_line", "_law_colours"] (sp2 (rV Xa) (rV Xa) (oF Xa) FC K)) (Z : Blt mg) : Fn P w K mg base 4 "_law_based" ["_law_frees", "_law_basis", "_law_lines", "_law_count_here", "_law_prime_here"] (sp5 (rV Xa) (rV (rV Xa)) (rV (rV Xa)) Xa Xa (oF XS) Q0 K):=by
  refine Yp D JZ (λvs H Q E h=>?_) (λf cdv A outer s H vs Q E hr h=>?_)
  . obtain ⟨v_0, v_1, v_2, v_3, v_4, a_0, a_1, a_2, a_3, a_4, b, rfl, _⟩:=h; rfl
  obtain ⟨v_0, v_1, v_2, v_3, v_4, a_0, a_1, a_2, a_3, a_4, b, rfl, h_0, h_1, h_2, h_3, h_4, hm, q⟩:=h
  have hu:=hu8 hr
  have hu1:=Ym hr
  refine ⟨_, (Xb (YC (PW.pt (FJ (Zt (ZK (Xr Zk rfl Z.b_isinstance PyProof.Rows.boot_isinstance (Xd (pv 1) (Xd (Jt (v:=V.ty "list") rfl Z.b_list PyProof.Rows.boot_list rfl) Xg))))) (Uh (XH Ka (Xr (Xn K rfl) rfl Z.b_len PySem.boot_len (Xd (pv 1) Xg)) (Xr (Xn K rfl) rfl Z.b_len PySem.boot_len (Xd (pv 0) Xg)) (XV _)))))
      (Xb (Xz Zj)
      Xf)
      Xf)
    (Xb (X9 PassesOwn.never rfl (X1 rfl Z.b_range (Xd (Xr (Xn K rfl) rfl Z.b_len PySem.boot_len (Xd (pv 0) Xg)) Xg)) (Xm (i:=5) JZ.nd rfl (Or.inl rfl))
      (Xb (YC (Zt (ZK (XX g_is_rests hr (by decide) (Xd (XE (Xk K rfl) (pv 1) (pv 5) (λ_ _=>rfl)) (Xd (pv 3) (Xd (pv 4) Xg))))))
        (Xb (Xz Zj)
        Xf)
        Xf)
      (Xb (X9 PassesOwn.never rfl (X1 rfl Z.b_range (Xd (Xr (Xn K rfl) rfl Z.b_len PySem.boot_len (Xd (pv 0) Xg)) Xg)) (Xm (i:=6) JZ.nd rfl (Or.inl rfl))
        (Xb (YC (XH Ka (XE (Xk K rfl) (XE (Xk K rfl) (pv 1) (pv 5) (λ_ _=>rfl)) (XE (Xk K rfl) (pv 0) (pv 6) (λ_ _=>rfl)) (λ_ _=>rfl)) (Qy Dx rfl Z.b_int PyProof.Rows.boot_int (Xd (K9 VY (pv 6) (pv 5) (XV _)) Xg)) (XV _))
          (Xb (Xz Zj)
          Xf)
          Xf)
        Xf))
      (Xb (X9 PassesOwn.never rfl (XI (K:=K) rfl (pv 2)) (Xm (i:=7) JZ.nd rfl (Or.inl rfl))
        (Xb (YC (XH Ka (Xp Yf (XX g_sum hr (by decide) (Xd (pv 7) (Xd (XE (Xk K rfl) (pv 1) (pv 5) (λ_ _=>rfl)) Xg))) (pv 4)) Xh (XV _))
          (Xb (Xz Zj)
          Xf)
          Xf)
        Xf))
      Xf))))
    (Xb (Xz Zj)
    Xf))), ?_⟩
  refine Yq (S:=(SC.add (SC.add (SC.add (SC.add (SC.add SC.nil K (rV Xa) v_0 a_0) K (rV (rV Xa)) v_1 a_1) K (rV (rV Xa)) v_2 a_2) K Xa v_3 a_3) K Xa v_4 a_4)) (σ:=[some v_0, some v_1, some v_2, some v_3, some v_4, none, none, none]) 0 ?_ (SC.i (SC.i (SC.i (SC.i (SC.i SC.t h_0) h_1) h_2) h_3) h_4) hm q rfl
  unfold Q0
  exact (Qn (Ue (YR (QA (K:=K) (ZC "list" true (Je K "list") (Xc (r:=(rV (rV Xa))) 1 rfl (λ_ s=>s.l.l.l.r))))) (Xs (K:=K) (JL (X2 (Xc (r:=(rV (rV Xa))) 1 rfl (λ_ s=>s.l.l.l.r))) (X2 (Xc (r:=(rV Xa)) 0 rfl (λ_ s=>s.l.l.l.l.r)))))) (Xy (EvS.ev (EvB.sh (Yo false)))) (JD (K:=K) (J:=({ oo:=λx10=>[], ss:=λx10=>[some v_0, some v_1, some v_2, some v_3, some v_4, x10.1, x10.2.1, x10.2.2], sc:=λg11 x10=>(SC.add (SC.add (SC.add (SC.add (SC.add SC.nil K (rV Xa) v_0 a_0) K (rV (rV Xa)) v_1 a_1) K (rV (rV Xa)) v_2 a_2) K Xa v_3 a_3) K Xa v_4 a_4) } : Jn (Unit) (Option V × Option V × Option V))) (λ_=>tg1 5) ((none), (none), (none)) () (XL (X2 (Xc (r:=(rV Xa)) 0 rfl (λ_ s=>s.l.l.l.l.r)))) rfl rfl (λ_ s=>s) (λg12 x13 a14 v15=>(ZU (YR (QA (K:=K) (Ev.toB (YL (Xu (Xc (r:=(rV (rV Xa))) 1 rfl (λ_ s=>s.l.l.l.l.r)) (Xc (r:=Xa) 5 rfl (λ_ s=>s.r))) (Xc (r:=Xa) 3 rfl (λ_ s=>s.l.l.r)) (Xc (r:=Xa) 4 rfl (λ_ s=>s.l.r)))))) (Xy (EvS.ev (EvB.sh (Yo false)))) (GV (K:=K) (J:=({ oo:=λx26=>[], ss:=λx26=>[some v_0, some v_1, some v_2, some v_3, some v_4, some v15, x26, x13.2.2], sc:=λg27 x26=>(SC.add (SC.add (SC.add (SC.add (SC.add (SC.add SC.nil K (rV Xa) v_0 a_0) K (rV (rV Xa)) v_1 a_1) K (rV (rV Xa)) v_2 a_2) K Xa v_3 a_3) K Xa v_4 a_4) K Xa v15 a14) } : Jn (Unit) (Option V))) (λ_=>tg1 6) ((x13.2.1)) () (XL (X2 (Xc (r:=(rV Xa)) 0 rfl (λ_ s=>s.l.l.l.l.l.r)))) rfl rfl (λ_ s=>s) (λg28 x29 a30 v31=>(ZU (Xs (K:=K) (JL (Xu (Xu (Xc (r:=(rV (rV Xa))) 1 rfl (λ_ s=>s.l.l.l.l.l.r)) (Xc (r:=Xa) 5 rfl (λ_ s=>s.l.r))) (Xu (Xc (r:=(rV Xa)) 0 rfl (λ_ s=>s.l.l.l.l.l.l.r)) (Xc (r:=Xa) 6 rfl (λ_ s=>s.r)))) (BZ (QO (Xc (r:=Xa) 6 rfl (λ_ s=>s.r)) (Xc (r:=Xa) 5 rfl (λ_ s=>s.l.r)))))) (Xy (EvS.ev (EvB.sh (Yo false)))) (Q8 (Xx (J:=_) ((some v31)) () rfl rfl (λ_ s=>s.l))))) λg46 x47=>(GV (K:=K) (J:=({ oo:=λx48=>[], ss:=λx48=>[some v_0, some v_1, some v_2, some v_3, some v_4, some v15, x47, x48], sc:=λg49 x48=>(SC.add (SC.add (SC.add (SC.add (SC.add (SC.add SC.nil K (rV Xa) v_0 a_0) K (rV (rV Xa)) v_1 a_1) K (rV (rV Xa)) v_2 a_2) K Xa v_3 a_3) K Xa v_4 a_4) K Xa v15 a14) } : Jn (Unit) (Option V))) (λ_=>tg1 7) ((x13.2.2)) () (XF (Xl (r:=(rV (rV Xa))) 2 rfl (λ_ s=>s.l.l.l.r))) rfl rfl (λ_ s=>s) (λg50 x51 a52 v53=>(ZU (Xs (K:=K) (JL (XR (Ev.toB (Yn (Xc (r:=(rV Xa)) 7 rfl (λ_ s=>s.r)) (Xu (Xc (r:=(rV (rV Xa))) 1 rfl (λ_ s=>s.l.l.l.l.l.r)) (Xc (r:=Xa) 5 rfl (λ_ s=>s.l.r))))) (Xc (r:=Xa) 4 rfl (λ_ s=>s.l.l.r))) (Xe 0))) (Xy (EvS.ev (EvB.sh (Yo false)))) (Q8 (Xx (J:=_) ((some v53)) () rfl rfl (λ_ s=>s.l))))) λg66 x67=>(Q8 (Xx (J:=_) ((some v15), (x47), (x67)) () rfl rfl (λ_ s=>s.l))))))) λg72 x73=>(Xy (EvS.ev (EvB.sh (Yo true))))))
theorem Y3 : FnScope ["_law_drawing", "_law_prime_here", "_law_factor", "_law_handed", "_law_found", "_law_count_here", "_law_frees", "_law_basis", "_law_ties", "_law_number", "_law_free", "_law_lines", "_law_one"] ["_law_drawing", "_law_prime_here", "_law_factor"] (Xi Gg):=⟨rfl, rfl, rfl, by decide +kernel, rfl, by decide +kernel, by decide +kernel⟩
theorem By (D : Def K mg "_law_asked" Gg ["_law_drawing", "_law_prime_here", "_law_factor"]) (g_copy : Fn P w K mg base 1 "_law_copy" ["_law_drawing"] (sp1 (rP2 (rV (rV Xa)) (rV (rP2 Xa Xa))) (oT2 (oL (oL (oF Xa))) (oL (oF (rP2 Xa Xa)))) Uo K)) (g_solved : Fn P w K mg base 7 "solved" ["drawing", "prime", "factor"] (sp3 (rP2 (rV (rV Xa)) (rV (rP2 Xa Xa))) Xa Xa (oT3 (oL (oF Xa)) (oL (oL (oF Xa))) (oL (oT2 (oF Xa) (oL (oF Xa))))) ZN K)) (g_count : Fn P w K mg base 1 "_law_count" ["_law_drawing"] (sp1 (rP2 (rV (rV Xa)) (rV (rP2 Xa Xa))) (oF Xa) Qh K)) (g_l_equations : Fn P w K mg base 3 "_law_equations" ["_law_drawing", "_law_prime_here", "_law_factor"] (sp3 (rP2 (rV (rV Xa)) (rV (rP2 Xa Xa))) Xa Xa (oL (oL (oF Xa))) Yx K)) (g_straight_many : Fn P w K mg base 8 "straight_many" ["drawing", "prime", "factor"] (sp3 (rP2 (rV (rV Xa)) (rV (rP2 Xa Xa))) Xa Xa (oF Xa) Yb K)) (g_based : Fn P w K mg base 4 "_law_based" ["_law_frees", "_law_basis", "_law_lines", "_law_count_here", "_law_prime_here"] (sp5 (rV Xa) (rV (rV Xa)) (rV (rV Xa)) Xa Xa (oF XS) Q0 K)) (g_rising : Fn P w K mg base 3 "_law_rising" ["_law_found", "_law_count_here"] (sp2 (rV Xa) Xa (oF XS) Qf K)) (Z : Blt mg) : Fn P w K mg base 9 "_law_asked" ["_law_drawing", "_law_prime_here", "_law_factor"] (sp3 (rP2 (rV (rV Xa)) (rV (rP2 Xa Xa))) Xa Xa (oF XS) Ql K):=by
  refine Yp D Y3 (λvs H Q E h=>?_) (λf cdv A outer s H vs Q E hr h=>?_)
  . obtain ⟨v_0, v_1, v_2, a_0, a_1, a_2, b, rfl, _⟩:=h; rfl
  obtain ⟨v_0, v_1, v_2, a_0, a_1, a_2, b, rfl, h_0, h_1, h_2, hm, q⟩:=h
  have hu:=hu8 hr
  have hu1:=Ym hr
  refine ⟨_, (Xb (Xo (i:=3) Y3.nd rfl (Or.inl rfl) (XX g_copy hr (by decide) (Xd (pv 0) Xg)))
    (Xb (Xo (i:=4) Y3.nd rfl (Or.inl rfl) (XX g_solved hr (by decide) (Xd (pv 3) (Xd (pv 1) (Xd (pv 2) Xg)))))
    (Xb (YC (PW.pt (FJ (XH (Lj (IY (Mq (Mq eq_int)) (Mq (IY eq_int eq_int))) (Md (by decide) hu)) (pv 3) (pv 0) (XV _)) (Uh (Zt (ZK (Xr Zk rfl Z.b_isinstance PyProof.Rows.boot_isinstance (Xd (pv 4) (Xd (Jt (v:=V.ty "tuple") rfl Z.b_tuple PyProof.Rows.boot_tuple rfl) Xg))))))))
      (Xb (Xz Zj)
      Xf)
      Xf)
    (Xb (YC (PW.pt (FJ (XH Ka (Xr (Xn K rfl) rfl Z.b_len PySem.boot_len (Xd (pv 4) Xg)) Xh (XV _)) (Uh (Zt (ZK (Xr Zk rfl Z.b_isinstance PyProof.Rows.boot_isinstance (Xd (XE (YM K rfl) (pv 4) Xh (λ_ _=>rfl)) (Xd (Jt (v:=V.ty "list") rfl Z.b_list PyProof.Rows.boot_list rfl) Xg))))))))
      (Xb (Xz Zj)
      Xf)
      Xf)
    (Xb (Xo (i:=5) Y3.nd rfl (Or.inl rfl) (XX g_count hr (by decide) (Xd (pv 0) Xg)))
    (Xb (Qm (pv 4) (Z4 rfl (Xt (Xm (i:=6) Y3.nd rfl (Or.inl rfl)) (Xt (Xm (i:=7) Y3.nd rfl (Or.inl rfl)) (Xt (Xm (i:=8) Y3.nd rfl (Or.inl rfl)) YZ)))))
    (Xb (Xo (i:=9) Y3.nd rfl (Or.inl rfl) Xh)
    (Xb (X9 PassesOwn.never rfl (XI (K:=K) rfl (pv 6)) (Xm (i:=10) Y3.nd rfl (Or.inl rfl))
      (Xb (Xo (i:=9) Y3.nd rfl (Or.inl rfl) (Xp Yu (pv 9) (pv 1)))
      Xf))
    (Xb (YC (XH Ka (XX g_straight_many hr (by decide) (Xd (pv 3) (Xd (pv 1) (Xd (pv 2) Xg)))) (pv 9) (XV _))
      (Xb (Xz Zj)
      Xf)
      Xf)
    (Xb (YC (PW.pt (FJ (Zt (ZK (XX g_rising hr (by decide) (Xd (pv 6) (Xd (pv 5) Xg))))) (Uh (XH Ka (Xp XZ (Xr (Xn K rfl) rfl Z.b_len PySem.boot_len (Xd (pv 8) Xg)) (Xr (Xn K rfl) rfl Z.b_len PySem.boot_len (Xd (pv 6) Xg))) (pv 5) (XV _)))))
      (Xb (Xz Zj)
      Xf)
      Xf)
    (Xb (Xo (i:=11) Y3.nd rfl (Or.inl rfl) (XX g_l_equations hr (by decide) (Xd (pv 0) (Xd (pv 1) (Xd (pv 2) Xg)))))
    (Xb (YC (Zt (ZK (XX g_based hr (by decide) (Xd (pv 6) (Xd (pv 7) (Xd (pv 11) (Xd (pv 5) (Xd (pv 1) Xg))))))))
      (Xb (Xz Zj)
      Xf)
      Xf)
    (Xb (X9 PassesOwn.never rfl (XI (K:=K) rfl (pv 7)) (Xm (i:=12) Y3.nd rfl (Or.inl rfl))
      (Xb (Yh (IV PySem.F.plainAttrs_list PySem.F.slot_list_clear PySem.F.type_list_clear BD (pv 12)))
      Xf))
    (Xb (Yh (ZJ PySem.F.plainAttrs_list PySem.F.slot_list_append PySem.F.type_list_append XU (pv 6) (Xd (pv 5) Xg)))
    (Xb (Yh (ZJ PySem.F.plainAttrs_list PySem.F.slot_list_append PySem.F.type_list_append XU (pv 8) (Xd (Zs (Xd Xh (Xd (X8 Xg) Xg Vn))) Xg)))
    (Xb (Xz Zj)
    Xf)))))))))))))))), ?_⟩
  refine Yq (S:=(SC.add (SC.add (SC.add SC.nil K (rP2 (rV (rV Xa)) (rV (rP2 Xa Xa))) v_0 a_0) K Xa v_1 a_1) K Xa v_2 a_2)) (σ:=[some v_0, some v_1, some v_2, none, none, none, none, none, none, none, none, none, none]) 5 ?_ (SC.i (SC.i (SC.i SC.t h_0) h_1) h_2) hm q rfl
  unfold Ql
  exact (Xv (K:=K) (r:=(rP2 (rV (rV Xa)) (rV (rP2 Xa Xa)))) 3 (Ev.sh (X3 (Xc (r:=(rP2 (rV (rV Xa)) (rV (rP2 Xa Xa)))) 0 rfl (λ_ s=>s.l.l.r)))) λa1 v2=>(XN (K:=K) (o:=(oT3 (oL (oF Xa)) (oL (oL (oF Xa))) (oL (oT2 (oF Xa) (oL (oF Xa)))))) 4 4 (YL (Xc (r:=(rP2 (rV (rV Xa)) (rV (rP2 Xa Xa)))) 3 rfl (λ_ s=>s.r)) (Xc (r:=Xa) 1 rfl (λ_ s=>s.l.l.r)) (Xc (r:=Xa) 2 rfl (λ_ s=>s.l.r))) (Nat.le_of_ble_eq_true rfl) λa5 v6 C7=>(Qn (Ue (Xs (K:=K) (Hk (Xc (r:=(rP2 (rV (rV Xa)) (rV (rP2 Xa Xa)))) 3 rfl (λ_ s=>s.l.r)) (Xc (r:=(rP2 (rV (rV Xa)) (rV (rP2 Xa Xa)))) 0 rfl (λ_ s=>s.l.l.l.l.r)))) (YR (QA (K:=K) (ZC "tuple" true (Je K "tuple") (Yc (o:=(oT3 (oL (oF Xa)) (oL (oL (oF Xa))) (oL (oT2 (oF Xa) (oL (oF Xa)))))) 4 4 rfl rfl (λ_ s=>s.r)))))) (Xy (EvS.ev (EvB.sh (Yo false)))) (Qn (Ue (Xs (K:=K) (JL (DT (Yc (o:=(oT3 (oL (oF Xa)) (oL (oL (oF Xa))) (oL (oT2 (oF Xa) (oL (oF Xa)))))) 4 4 rfl rfl (λ_ s=>s.r))) (Xe 3))) (YR (QA (K:=K) (ZC "list" true (Je K "list") (Ik (Yc (o:=(oT3 (oL (oF Xa)) (oL (oL (oF Xa))) (oL (oT2 (oF Xa) (oL (oF Xa)))))) 4 4 rfl rfl (λ_ s=>s.r))))))) (Xy (EvS.ev (EvB.sh (Yo false)))) (Xv (K:=K) (r:=Xa) 5 (EvB.sh (Ev.toB (X3 (Xc (r:=(rP2 (rV (rV Xa)) (rV (rP2 Xa Xa)))) 0 rfl (λ_ s=>s.l.l.l.l.r))))) λa24 v25=>(BL (K:=K) (o1:=(oL (oF Xa))) (o2:=(oL (oL (oF Xa)))) (o3:=(oL (oT2 (oF Xa) (oL (oF Xa))))) (a:=a5) (f:=λ_=>(Rs.bind (Rs.ok (1 : Int)) λa34=>(Rs.bind (forN a5.1 a34 (λg37 a36=>(Rs.bind (Rs.ok g37) λx43=>(Rs.bind (Rs.ok a_1) λx44=>(Z5 x43 x44))))) λg40=>(Rs.bind (Rs.bind (Rs.bind (Rs.ok a1) λx46=>(Rs.bind (Rs.ok a_1) λx47=>(Rs.bind (Rs.ok a_2) λx48=>(noE (Yb x46 x47 x48))))) λx49=>(Rs.bind (Rs.ok g40) λx50=>(Rs.ok (!(decide (x49 = x50)))))) λx51=>(if x51 = true then (Rs.ok false) else (Rs.bind (orR (Rs.bind (Rs.bind (Rs.ok a5.1) λx53=>(Rs.bind (Rs.ok a24) λx54=>(noE (Qf x53 x54)))) λx55=>(Rs.ok (!x55))) (Rs.bind (Rs.bind (Rs.bind (Rs.ok a5.2.2) λx56=>(Rs.ok (x56.length : Int))) λx58=>(Rs.bind (Rs.bind (Rs.ok a5.1) λx57=>(Rs.ok (x57.length : Int))) λx59=>(Rs.ok (x58 + x59)))) λx60=>(Rs.bind (Rs.ok a24) λx61=>(Rs.ok (!(decide (x60 = x61))))))) λx62=>(if x62 = true then (Rs.ok false) else (Rs.bind (Rs.bind (Rs.ok a_0) λx66=>(Rs.bind (Rs.ok a_1) λx67=>(Rs.bind (Rs.ok a_2) λx68=>(noE (Yx x66 x67 x68))))) λa63=>(Rs.bind (Rs.bind (Rs.bind (Rs.ok a5.1) λx70=>(Rs.bind (Rs.ok a5.2.1) λx71=>(Rs.bind (Rs.ok a63) λx72=>(Rs.bind (Rs.ok a24) λx73=>(Rs.bind (Rs.ok a_1) λx74=>(noE (Q0 x70 x71 x72 x73 x74))))))) λx75=>(Rs.ok (!x75))) λx76=>(if x76 = true then (Rs.ok false) else ((λ(a79 : List (List Int))=>(Rs.bind (Rs.ok a24) λa80=>(chk (a5.1.length < sizeLine) ((λa82=>(Rs.bind (Rs.bind (Rs.ok (0 : Int)) λx83=>(Rs.bind (Rs.ok []) λx84=>(Rs.ok (x83, x84)))) λa85=>(chk (a5.2.2.length < sizeLine) ((λa87=>(Rs.ok true)) (a5.2.2 ++ [a85]))))) (a5.1 ++ [a80]))))) (a5.2.1.map (λ_=>([] : List Int)))))))))))))) 4 4 0 3 1 6 7 8 rfl rfl (Nat.le_of_ble_eq_true rfl) (Nat.le_of_ble_eq_true rfl) (Nat.le_of_ble_eq_true rfl) (λ_ s=>s.l.r) λv28 v29 v30 C31 C32 C33=>(Xv (K:=K) (r:=Xa) 9 (EvB.sh (Xe 1)) λa34 v35=>(Dl (K:=K) 6 10 9 0 rfl rfl (by decide) (Nat.le_of_ble_eq_true rfl) rfl (λ_ s=>s.r) (λ_ s=>s.l.l.l.r) (λa36 g37 v38 v39=>(X0 (Xc (r:=Xa) 9 rfl (λ_ s=>s.r)) (Xc (r:=Xa) 1 rfl (λ_ s=>s.l.l.l.l.l.l.l.l.l.l.r)))) λg40 w42 v41=>(Qn (Xs (K:=K) (JL (Ev.toB (YL (Xc (r:=(rP2 (rV (rV Xa)) (rV (rP2 Xa Xa)))) 3 rfl (λ_ s=>s.l.l.l.l.l.l.l.r)) (Xc (r:=Xa) 1 rfl (λ_ s=>s.l.l.l.l.l.l.l.l.l.r)) (Xc (r:=Xa) 2 rfl (λ_ s=>s.l.l.l.l.l.l.l.l.r)))) (Xc (r:=Xa) 9 rfl (λ_ s=>s.r)))) (Xy (EvS.ev (EvB.sh (Yo false)))) (Qn (Ue (YR (QA (K:=K) (Ev.toB (Yn (Yc (o:=(oL (oF Xa))) 6 0 rfl rfl (λ_ s=>s.l.l.l.l.r)) (Xc (r:=Xa) 5 rfl (λ_ s=>s.l.l.l.l.l.r)))))) (Xs (K:=K) (JL (XM (X2 (Yc (o:=(oL (oT2 (oF Xa) (oL (oF Xa))))) 8 1 rfl rfl (λ_ s=>s.l.l.r))) (X2 (Yc (o:=(oL (oF Xa))) 6 0 rfl rfl (λ_ s=>s.l.l.l.l.r)))) (Xc (r:=Xa) 5 rfl (λ_ s=>s.l.l.l.l.l.r))))) (Xy (EvS.ev (EvB.sh (Yo false)))) (Xv (K:=K) (r:=(rV (rV Xa))) 11 (Ev.sh (YL (Xc (r:=(rP2 (rV (rV Xa)) (rV (rP2 Xa Xa)))) 0 rfl (λ_ s=>s.l.l.l.l.l.l.l.l.l.l.r)) (Xc (r:=Xa) 1 rfl (λ_ s=>s.l.l.l.l.l.l.l.l.l.r)) (Xc (r:=Xa) 2 rfl (λ_ s=>s.l.l.l.l.l.l.l.l.r)))) λa63 v64=>(Qn (YR (QA (K:=K) (Ev.toB (BN (Yc (o:=(oL (oF Xa))) 6 0 rfl rfl (λ_ s=>s.l.l.l.l.l.r)) (Yc (o:=(oL (oL (oF Xa)))) 7 3 rfl rfl (λ_ s=>s.l.l.l.l.r)) (Xc (r:=(rV (rV Xa))) 11 rfl (λ_ s=>s.r)) (Xc (r:=Xa) 5 rfl (λ_ s=>s.l.l.l.l.l.l.r)) (Xc (r:=Xa) 1 rfl (λ_ s=>s.l.l.l.l.l.l.l.l.l.l.r)))))) (Xy (EvS.ev (EvB.sh (Yo false)))) (Gy (K:=K) (f:=λa79=>(Rs.bind (Rs.ok a24) λa80=>(chk (a5.1.length < sizeLine) ((λa82=>(Rs.bind (Rs.bind (Rs.ok (0 : Int)) λx83=>(Rs.bind (Rs.ok []) λx84=>(Rs.ok (x83, x84)))) λa85=>(chk (a5.2.2.length < sizeLine) ((λa87=>(Rs.ok true)) (a5.2.2 ++ [a85]))))) (a5.1 ++ [a80]))))) 12 3 (λ_ _ _ _ q=>⟨_, rfl, q⟩) (Nat.le_of_ble_eq_true rfl) rfl (λ_ s=>s.l.l.l.l.r) λC77 w78=>(Zr (K:=K) (o:=(oF Xa)) (f:=λa82=>(Rs.bind (Rs.bind (Rs.ok (0 : Int)) λx83=>(Rs.bind (Rs.ok []) λx84=>(Rs.ok (x83, x84)))) λa85=>(chk (a5.2.2.length < sizeLine) ((λa87=>(Rs.ok true)) (a5.2.2 ++ [a85]))))) 6 0 rfl rfl rfl (λ_ s=>s.l.l.l.l.l.l.r) (EvS.ev (Xl (r:=Xa) 5 rfl (λ_ s=>s.l.l.l.l.l.l.l.r))) λa80 C81=>(Zr (K:=K) (o:=(oT2 (oF Xa) (oL (oF Xa)))) (f:=λa87=>(Rs.ok true)) 8 1 rfl rfl rfl (λ_ s=>s.l.l.l.l.l.r) (QC (EvS.ev (EvB.sh (Xe 0))) λ_=>(Qu (o:=(oF Xa)))) λa85 C86=>(Xy (EvS.ev (EvB.sh (Yo true)))))))))))))))))))
theorem Ui : FnScope ["_law_script", "_law_more", "_law_drawing", "_law_prime_here", "_law_factor"] ["_law_script"] (Xi V1):=⟨rfl, rfl, rfl, by decide +kernel, rfl, by decide +kernel, by decide +kernel⟩
theorem IM {f : Addr} {fd : FuncData} (F : Fun K "law" "law" V1 f fd) (g_row : Fn P w K mg base 2 "_law_row" ["_law_script", "_law_place", "_law_sizes"] (sp3 (rL Xa) Xa (rV Xa) (oL (oF Xa)) U8 K)) (g_drawn : Fn P w K mg base 3 "_law_drawn" ["_law_script", "_law_place", "_law_most"] (sp3 (rL Xa) Xa Xa (oT2 (oL (oL (oF Xa))) (oL (oF (rP2 Xa Xa)))) Jz K)) (g_prime : Fn P w K mg base 2 "_law_prime" ["_law_some"] (sp1 (rV Xa) (oF (rP2 Xa Xa)) Jq K)) (g_asked : Fn P w K mg base 9 "_law_asked" ["_law_drawing", "_law_prime_here", "_law_factor"] (sp3 (rP2 (rV (rV Xa)) (rV (rP2 Xa Xa))) Xa Xa (oF XS) Ql K)) (Z : Blt mg) : FnOk P w K mg base CX0 10 f fd ["_law_script"] (sp1 (rL Xa) (oF XS) GP K):=by
  refine F.ok Ui (λvs H Q E h=>?_) (λcdv A outer s H vs Q E hr h=>?_)
  . obtain ⟨v_0, a_0, b, rfl, _⟩:=h; rfl
  obtain ⟨v_0, a_0, b, rfl, h_0, hm, q⟩:=h
  have hu:=hu8 hr
  have hu1:=Ym hr
  refine ⟨_, (Xb (Xo (i:=1) Ui.nd rfl (Or.inl rfl) (XX g_row hr (by decide) (Xd (pv 0) (Xd Xh (Xd (X8 (Xd Xh (Xd Xh (Xd Xh (Xd Xh (Xd Xh (Xd Xh Xg))))))) Xg Vn)))))
    (Xb (Xo (i:=2) Ui.nd rfl (Or.inl rfl) (XX g_drawn hr (by decide) (Xd (pv 0) (Xd Xh (Xd (XE (Xk K rfl) (X8 (Xd Xh (Xd Xh Xg))) (Xp Uu (XE (Xk K rfl) (pv 1) Xh (λ_ _=>rfl)) Xh) (λ_ _=>rfl)) Xg)))))
    (Xb (YC (XH VY (XE (Xk K rfl) (pv 1) Xh (λ_ _=>rfl)) Xh (XV _))
      (Xb (Xo (i:=2) Ui.nd rfl (Or.inl rfl) (Zs (Xd (Xp K1 (XE (YM K rfl) (pv 2) Xh (λ_ _=>rfl)) (YK (sc:=(Xi V1)) (N0:=["_law_script", "_law_more", "_law_drawing", "_law_prime_here", "_law_factor"]) (tns:=["_law_k"]) (caps:=[]) rfl (X1 rfl Z.b_range (Xd (XE (Xk K rfl) (pv 1) Xh (λ_ _=>rfl)) Xg)) (Y0 (by decide)) (λcl C s H ex E=>⟨Xm (i:=0) (show List.Nodup (["_law_k"] : List Str) by decide +kernel) rfl (Or.inl rfl), Y7, (X8 Xg)⟩))) (Xd (XE (YM K rfl) (pv 2) Xh (λ_ _=>rfl)) Xg))))
      Xf)
      Xf)
    (Xb (Qm (XX g_prime hr (by decide) (Xd (pv 1) Xg)) (Z4 rfl (Xt (Xm (i:=3) Ui.nd rfl (Or.inl rfl)) (Xt (Xm (i:=4) Ui.nd rfl (Or.inl rfl)) YZ))))
    (Xb (YC (Zt (ZK (XX g_asked hr (by decide) (Xd (pv 2) (Xd (pv 3) (Xd (pv 4) Xg))))))
      (Xb (Xz Zj)
      Xf)
      Xf)
    (Xb (Xz (Mo (K9 VY (XE (Xk K rfl) (pv 1) Xh (λ_ _=>rfl)) Xh (XV _)) (ES (XX g_asked hr (by decide) (Xd (pv 2) (Xd (pv 3) (Xd (pv 4) Xg)))))))
    Xf)))))), ?_⟩
  refine Yq (S:=(SC.add SC.nil K (rL Xa) v_0 a_0)) (σ:=[some v_0, none, none, none, none]) 0 ?_ (SC.i SC.t h_0) hm q rfl
  unfold GP
  exact (Xv (K:=K) (r:=(rV Xa)) 1 (Ev.sh (YL (Xc (r:=(rL Xa)) 0 rfl (λ_ s=>s.r)) (Xe 1) (Ev.toB (ZF (Xq (EvB.sh (Xe 14)) (Xq (EvB.sh (Xe 99990)) (Xq (EvB.sh (Xe 5)) (Xq (EvB.sh (Xe 8)) (Xq (EvB.sh (Xe 8)) (Xq (EvB.sh (Xe 9)) Y8)))))))))) λa1 v2=>(Xv (K:=K) (r:=(rP2 (rV (rV Xa)) (rV (rP2 Xa Xa)))) 2 (Ev.sh (YL (Xc (r:=(rL Xa)) 0 rfl (λ_ s=>s.l.r)) (Xe 0) (Xu (Ev.toB (ZF (Xq (EvB.sh (Xe 20)) (Xq (EvB.sh (Xe 40)) Y8)))) (Ge (Xu (Xc (r:=(rV Xa)) 1 rfl (λ_ s=>s.r)) (Xe 3)) (Xe 7))))) λa20 v21=>(Zf (J:=({ oo:=λx42=>[], ss:=λx42=>[some v_0, some v2, some x42, none, none], sc:=λg43 x42=>(SC.add (SC.add (SC.add SC.nil K (rL Xa) v_0 a_0) K (rV Xa) v2 a1) K (rP2 (rV (rV Xa)) (rV (rP2 Xa Xa))) x42 g43) } : Jn (((List (List Int)) × (List (Int × Int)))) (V))) (ZQ (Fd:=FNd ({ oo:=λx42=>[], ss:=λx42=>[some v_0, some v2, some x42, none, none], sc:=λg43 x42=>(SC.add (SC.add (SC.add SC.nil K (rL Xa) v_0 a_0) K (rV Xa) v2 a1) K (rP2 (rV (rV Xa)) (rV (rP2 Xa Xa))) x42 g43) } : Jn (((List (List Int)) × (List (Int × Int)))) (V))) (Xs (K:=K) (QO (Xu (Xc (r:=(rV Xa)) 1 rfl (λ_ s=>s.l.r)) (Xe 4)) (Xe 0))) (Xv (K:=K) (r:=(rP2 (rV (rV Xa)) (rV (rP2 Xa Xa)))) 2 (QE (Ev.sh (Fm (EvS.ls (JH (Xl (r:=(rP2 (rV (rV Xa)) (rV (rP2 Xa Xa)))) 2 rfl (λ_ s=>s.r)))) (EvS.ls (Ev.sh (Y9 (λ_=>tg1 0) (XL (Xu (Xc (r:=(rV Xa)) 1 rfl (λ_ s=>s.l.r)) (Xe 5))) (λC60 a61 v62=>(Qu (o:=(oF Xa))))))))) (Cu (Xl (r:=(rP2 (rV (rV Xa)) (rV (rP2 Xa Xa)))) 2 rfl (λ_ s=>s.r)))) λa44 v45=>(Xx (J:=_) (v45) (a44) rfl rfl (λ_ s=>(SC.i s.l.l s.r)))) (Xx (J:=_) (v21) (a20) rfl rfl (λ_ s=>s))) λg68 x67=>(Fe 3 4 (EvB.sh (Ev.toB (X3 (Xc (r:=(rV Xa)) 1 rfl (λ_ s=>s.l.r))))) λa71 v72 v73=>(Qn (YR (QA (K:=K) (Ev.toB (YL (Xc (r:=(rP2 (rV (rV Xa)) (rV (rP2 Xa Xa)))) 2 rfl (λ_ s=>s.l.l.r)) (Xc (r:=Xa) 3 rfl (λ_ s=>s.l.r)) (Xc (r:=Xa) 4 rfl (λ_ s=>s.r)))))) (Xy (EvS.ev (EvB.sh (Yo false)))) (Xy (EvS.ev (EvB.sh (Ha (QO (Xu (Xc (r:=(rV Xa)) 1 rfl (λ_ s=>s.l.l.l.r)) (Xe 3)) (Xe 7)) (Ev.toB (YL (Xc (r:=(rP2 (rV (rV Xa)) (rV (rP2 Xa Xa)))) 2 rfl (λ_ s=>s.l.l.r)) (Xc (r:=Xa) 3 rfl (λ_ s=>s.l.r)) (Xc (r:=Xa) 4 rfl (λ_ s=>s.r)))))))))))))
end
theorem K4 {K : PySem.W.Frag} {mg : Str -> Option Value} {h : Heap} (X : K.In h) (G : h.Ns mainGlobals mg) {x p0 : Str} {st : Stmt} {f : Addr} {oc : Value} {od an : Option Addr} {osl : Array (Option Value)} {kV doc pm cdv ct : Value} (hb : ∀ (kV doc pm : Value) (an : Option Addr) (cdv ct u0 : Value), bindArgs (PySem.W.fnOf x x (YX st) (YJ st) (Xi st) .none kV doc pm an cdv ct) ⟨[u0], []⟩ = pure ([p0].zip [u0])) (a : PySem.W.nsIn K mainGlobals x = some (some (.ref f))) (l : K.lookup f = some ⟨oc, od, .func (PySem.W.fnOf x x (YX st) (YJ st) (Xi st) .none kV doc pm an cdv ct), osl⟩) (c : PySem.W.codeIn K cdv x = true) (k : PySem.W.keepIn K (.ref f) = true) : Def K mg x st [p0]:=⟨f, _, Qx l c k, (Qx l c k).binds λ_ _ _ _ _ _ us hl=>(by obtain ⟨_, rfl⟩:=LW hl; exact hb ..), PySem.W.mg_of X G a⟩
theorem Ce {K : PySem.W.Frag} {mg : Str -> Option Value} {h : Heap} (X : K.In h) (G : h.Ns mainGlobals mg) {x p0 p1 : Str} {st : Stmt} {f : Addr} {oc : Value} {od an : Option Addr} {osl : Array (Option Value)} {kV doc pm cdv ct : Value} (hb : ∀ (kV doc pm : Value) (an : Option Addr) (cdv ct u0 u1 : Value), bindArgs (PySem.W.fnOf x x (YX st) (YJ st) (Xi st) .none kV doc pm an cdv ct) ⟨[u0, u1], []⟩ = pure ([p0, p1].zip [u0, u1])) (a : PySem.W.nsIn K mainGlobals x = some (some (.ref f))) (l : K.lookup f = some ⟨oc, od, .func (PySem.W.fnOf x x (YX st) (YJ st) (Xi st) .none kV doc pm an cdv ct), osl⟩) (c : PySem.W.codeIn K cdv x = true) (k : PySem.W.keepIn K (.ref f) = true) : Def K mg x st [p0, p1]:=⟨f, _, Qx l c k, (Qx l c k).binds λ_ _ _ _ _ _ us hl=>(by obtain ⟨_, _, rfl⟩:=Lc hl; exact hb ..), PySem.W.mg_of X G a⟩
theorem Dk {K : PySem.W.Frag} {mg : Str -> Option Value} {h : Heap} (X : K.In h) (G : h.Ns mainGlobals mg) {x p0 p1 p2 : Str} {st : Stmt} {f : Addr} {oc : Value} {od an : Option Addr} {osl : Array (Option Value)} {kV doc pm cdv ct : Value} (hb : ∀ (kV doc pm : Value) (an : Option Addr) (cdv ct u0 u1 u2 : Value), bindArgs (PySem.W.fnOf x x (YX st) (YJ st) (Xi st) .none kV doc pm an cdv ct) ⟨[u0, u1, u2], []⟩ = pure ([p0, p1, p2].zip [u0, u1, u2])) (a : PySem.W.nsIn K mainGlobals x = some (some (.ref f))) (l : K.lookup f = some ⟨oc, od, .func (PySem.W.fnOf x x (YX st) (YJ st) (Xi st) .none kV doc pm an cdv ct), osl⟩) (c : PySem.W.codeIn K cdv x = true) (k : PySem.W.keepIn K (.ref f) = true) : Def K mg x st [p0, p1, p2]:=⟨f, _, Qx l c k, (Qx l c k).binds λ_ _ _ _ _ _ us hl=>(by obtain ⟨_, _, _, rfl⟩:=Lm hl; exact hb ..), PySem.W.mg_of X G a⟩
theorem Mv {K : PySem.W.Frag} {mg : Str -> Option Value} {h : Heap} (X : K.In h) (G : h.Ns mainGlobals mg) {x p0 p1 p2 p3 : Str} {st : Stmt} {f : Addr} {oc : Value} {od an : Option Addr} {osl : Array (Option Value)} {kV doc pm cdv ct : Value} (hb : ∀ (kV doc pm : Value) (an : Option Addr) (cdv ct u0 u1 u2 u3 : Value), bindArgs (PySem.W.fnOf x x (YX st) (YJ st) (Xi st) .none kV doc pm an cdv ct) ⟨[u0, u1, u2, u3], []⟩ = pure ([p0, p1, p2, p3].zip [u0, u1, u2, u3])) (a : PySem.W.nsIn K mainGlobals x = some (some (.ref f))) (l : K.lookup f = some ⟨oc, od, .func (PySem.W.fnOf x x (YX st) (YJ st) (Xi st) .none kV doc pm an cdv ct), osl⟩) (c : PySem.W.codeIn K cdv x = true) (k : PySem.W.keepIn K (.ref f) = true) : Def K mg x st [p0, p1, p2, p3]:=⟨f, _, Qx l c k, (Qx l c k).binds λ_ _ _ _ _ _ us hl=>(by obtain ⟨_, _, _, _, rfl⟩:=Lk hl; exact hb ..), PySem.W.mg_of X G a⟩
theorem M1 {K : PySem.W.Frag} {mg : Str -> Option Value} {h : Heap} (X : K.In h) (G : h.Ns mainGlobals mg) {x p0 p1 p2 p3 p4 : Str} {st : Stmt} {f : Addr} {oc : Value} {od an : Option Addr} {osl : Array (Option Value)} {kV doc pm cdv ct : Value} (hb : ∀ (kV doc pm : Value) (an : Option Addr) (cdv ct u0 u1 u2 u3 u4 : Value), bindArgs (PySem.W.fnOf x x (YX st) (YJ st) (Xi st) .none kV doc pm an cdv ct) ⟨[u0, u1, u2, u3, u4], []⟩ = pure ([p0, p1, p2, p3, p4].zip [u0, u1, u2, u3, u4])) (a : PySem.W.nsIn K mainGlobals x = some (some (.ref f))) (l : K.lookup f = some ⟨oc, od, .func (PySem.W.fnOf x x (YX st) (YJ st) (Xi st) .none kV doc pm an cdv ct), osl⟩) (c : PySem.W.codeIn K cdv x = true) (k : PySem.W.keepIn K (.ref f) = true) : Def K mg x st [p0, p1, p2, p3, p4]:=⟨f, _, Qx l c k, (Qx l c k).binds λ_ _ _ _ _ _ us hl=>(by obtain ⟨_, _, _, _, _, rfl⟩:=Mx hl; exact hb ..), PySem.W.mg_of X G a⟩
theorem Lx {l : PySem.W.OpenLaw} {w : World} {K : PySem.W.Frag} {h : Heap} {mg : Str -> Option Value} {fa f : Addr} {tk0 : Tok} (X : K.In h) (G : h.Ns mainGlobals mg) (hfa : mg "law" = some (.ref fa)) {od an : Option Addr} {sl : Array (Option Value)} {oc kV dc pm cd ct : Value}
    (D1 : Def K mg "spot" Da ["drawing", "passage"])
    (D2 : Def K mg "arcs" Dm ["drawing"])
    (D3 : Def K mg "arc_count" Z9 ["drawing"])
    (D4 : Def K mg "arcs_of_walk" Zn ["walk"])
    (D5 : Def K mg "arcs_of_ways" ZS ["walk", "first"])
    (D6 : Def K mg "meets" GQ ["drawing"])
    (D7 : Def K mg "ties" De ["drawing"])
    (D8 : Def K mg "refuse_wrong" ZV ["prime", "factor"])
    (D9 : Def K mg "is_prime" JE ["number"])
    (D10 : Def K mg "equations" Qc ["drawing", "prime", "factor"])
    (D11 : Def K mg "solved" QG ["drawing", "prime", "factor"])
    (D12 : Def K mg "with_factors" Zp ["rows"])
    (D13 : Def K mg "unit" DX ["count", "at"])
    (D14 : Def K mg "led_rows" ZD ["rows", "count", "prime"])
    (D15 : Def K mg "times" U2 ["row", "number", "prime"])
    (D16 : Def K mg "cleared" Q7 ["row", "lead", "arc", "prime"])
    (D17 : Def K mg "inverse_rest" ZT ["number", "prime"])
    (D18 : Def K mg "colouring_of" ZW ["free", "tied", "count", "prime"])
    (D19 : Def K mg "straight_many" ZG ["drawing", "prime", "factor"])
    (D20 : Def K mg "_law_cell" Bj ["_law_script", "_law_place"])
    (D21 : Def K mg "_law_mix" HI ["_law_cell_here", "_law_k"])
    (D22 : Def K mg "_law_row" Io ["_law_script", "_law_place", "_law_sizes"])
    (D23 : Def K mg "_law_mixed" Gp ["_law_names", "_law_some"])
    (D24 : Def K mg "_law_any" BH ["_law_names", "_law_some", "_law_rings"])
    (D25 : Def K mg "_law_plaited" Vd ["_law_names", "_law_signs", "_law_some", "_law_strands"])
    (D26 : Def K mg "_law_drawn" UY ["_law_script", "_law_place", "_law_most"])
    (D27 : Def K mg "_law_copy" Fk ["_law_drawing"])
    (D28 : Def K mg "_law_is_whole" JF ["_law_one"])
    (D29 : Def K mg "_law_is_wholes" QS ["_law_found"])
    (D30 : Def K mg "_law_arcs" UK ["_law_walks"])
    (D31 : Def K mg "_law_spot" UU ["_law_walks", "_law_passage"])
    (D32 : Def K mg "_law_meets" VG ["_law_drawing"])
    (D33 : Def K mg "_law_count" UF ["_law_drawing"])
    (D34 : Def K mg "_law_next_prime" ZM ["_law_number"])
    (D35 : Def K mg "_law_prime" Gc ["_law_some"])
    (D36 : Def K mg "_law_equations" Zx ["_law_drawing", "_law_prime_here", "_law_factor"])
    (D37 : Def K mg "_law_sum" Es ["_law_line", "_law_colours"])
    (D38 : Def K mg "_law_is_rests" Jp ["_law_found", "_law_count_here", "_law_prime_here"])
    (D39 : Def K mg "_law_rising" UV ["_law_found", "_law_count_here"])
    (D40 : Def K mg "_law_based" K6 ["_law_frees", "_law_basis", "_law_lines", "_law_count_here", "_law_prime_here"])
    (D41 : Def K mg "_law_asked" Gg ["_law_drawing", "_law_prime_here", "_law_factor"])
    (a : PySem.W.nsIn K mainGlobals "law" = some (some (.ref f))) (l0 : K.lookup f = some ⟨oc, od, .func (PySem.W.fnOf "law" "law" (YX V1) (YJ V1) (Xi V1) .none kV dc pm an cd ct), sl⟩) (c : PySem.W.codeIn K cd "law" = true) (k : PySem.W.keepIn K (.ref f) = true)
    (z1 : PySem.W.nsIn K mainGlobals "all" = some none)
    (z2 : PySem.W.nsIn K mainGlobals "bool" = some none)
    (z3 : PySem.W.nsIn K mainGlobals "dict" = some none)
    (z4 : PySem.W.nsIn K mainGlobals "enumerate" = some none)
    (z5 : PySem.W.nsIn K mainGlobals "int" = some none)
    (z6 : PySem.W.nsIn K mainGlobals "isinstance" = some none)
    (z7 : PySem.W.nsIn K mainGlobals "len" = some none)
    (z8 : PySem.W.nsIn K mainGlobals "list" = some none)
    (z9 : PySem.W.nsIn K mainGlobals "max" = some none)
    (z10 : PySem.W.nsIn K mainGlobals "min" = some none)
    (z11 : PySem.W.nsIn K mainGlobals "range" = some none)
    (z12 : PySem.W.nsIn K mainGlobals "sum" = some none)
    (z13 : PySem.W.nsIn K mainGlobals "tuple" = some none)
    (z14 : PySem.W.nsIn K mainGlobals "zip" = some none)
    (w0 : PySem.W.nsIn K mainGlobals "MOST_PRIME" = some (some (.int 100000 tk0)))
    : ∃ fd : FuncData, (∀ (s : Shared) (v : Value), BindsTo s fd ⟨[v], []⟩ [("_law_script", v)]) /\ ∀ base : Heap, K.In base -> base.Ns mainGlobals mg -> FnOk l.prog w K mg base CX0 10 fa fd ["_law_script"] (sp1 (rL Xa) (oF XS) GP K):=by
  have e:=hfa.symm.trans (PySem.W.mg_of X G a)
  cases e
  have N : ∀ {x : Str}, PySem.W.nsIn K mainGlobals x = some none -> mg x = none:=λz=>PySem.W.mg_none_of X G z
  have Z : Blt mg:=⟨N z1, N z2, N z3, N z4, N z5, N z6, N z7, N z8, N z9, N z10, N z11, N z12, N z13, N z14, ⟨_, PySem.W.mg_of X G w0, _, rfl⟩⟩
  refine ⟨PySem.W.fnOf "law" "law" (YX V1) (YJ V1) (Xi V1) .none kV dc pm an cd ct, λs v=>.of_eq rfl, λbase _ _=>?_⟩
  have g_cell:=Hs (P:=l.prog) (w:=w) (base:=base) D20  Z
  have g_mix:=LG (P:=l.prog) (w:=w) (base:=base) D21  Z
  have g_row:=IW (P:=l.prog) (w:=w) (base:=base) D22 g_cell g_mix Z
  have g_plaited:=FQ (P:=l.prog) (w:=w) (base:=base) D25  Z
  have g_any:=LP (P:=l.prog) (w:=w) (base:=base) D24  Z
  have g_mixed:=BV (P:=l.prog) (w:=w) (base:=base) D23  Z
  have g_drawn:=Eu (P:=l.prog) (w:=w) (base:=base) D26 g_row g_plaited g_any g_mixed Z
  have g_next_prime:=Ut (P:=l.prog) (w:=w) (base:=base) D34  Z
  have g_prime:=BJ (P:=l.prog) (w:=w) (base:=base) D35 g_next_prime Z
  have g_copy:=HQ (P:=l.prog) (w:=w) (base:=base) D27  Z
  have g_arcs_of_walk:=Vq (P:=l.prog) (w:=w) (base:=base) D4  Z
  have g_arc_count:=KK (P:=l.prog) (w:=w) (base:=base) D3 g_arcs_of_walk Z
  have g_times:=Bt (P:=l.prog) (w:=w) (base:=base) D15  Z
  have g_inverse_rest:=Vw (P:=l.prog) (w:=w) (base:=base) D17  Z
  have g_cleared:=FU (P:=l.prog) (w:=w) (base:=base) D16  Z
  have g_led_rows:=Gn (P:=l.prog) (w:=w) (base:=base) D14 g_times g_inverse_rest g_cleared Z
  have g_unit:=HM (P:=l.prog) (w:=w) (base:=base) D13  Z
  have g_with_factors:=VH (P:=l.prog) (w:=w) (base:=base) D12 g_unit Z
  have g_colouring_of:=VN (P:=l.prog) (w:=w) (base:=base) D18 g_unit Z
  have g_is_prime:=Gk (P:=l.prog) (w:=w) (base:=base) D9  Z
  have g_refuse_wrong:=Vo (P:=l.prog) (w:=w) (base:=base) D8 g_is_prime Z
  have g_arcs_of_ways:=Vv (P:=l.prog) (w:=w) (base:=base) D5 g_arcs_of_walk Z
  have g_arcs:=Hx (P:=l.prog) (w:=w) (base:=base) D2 g_arcs_of_walk g_arcs_of_ways Z
  have g_spot:=E6 (P:=l.prog) (w:=w) (base:=base) D1  Z
  have g_meets:=Eo (P:=l.prog) (w:=w) (base:=base) D6 g_arcs g_spot Z
  have g_ties:=Ib (P:=l.prog) (w:=w) (base:=base) D7 g_meets Z
  have g_equations:=Ks (P:=l.prog) (w:=w) (base:=base) D10 g_refuse_wrong g_arc_count g_ties Z
  have g_solved:=Bb (P:=l.prog) (w:=w) (base:=base) D11 g_arc_count g_led_rows g_with_factors g_colouring_of g_equations Z
  have g_count:=Ea (P:=l.prog) (w:=w) (base:=base) D33  Z
  have g_l_arcs:=DV (P:=l.prog) (w:=w) (base:=base) D30  Z
  have g_l_spot:=Bg (P:=l.prog) (w:=w) (base:=base) D31  Z
  have g_l_meets:=FV (P:=l.prog) (w:=w) (base:=base) D32 g_l_arcs g_l_spot Z
  have g_l_equations:=V4 (P:=l.prog) (w:=w) (base:=base) D36 g_l_meets g_count Z
  have g_straight_many:=JT (P:=l.prog) (w:=w) (base:=base) D19 g_solved Z
  have g_is_whole:=GA (P:=l.prog) (w:=w) (base:=base) D28  Z
  have g_is_wholes:=KY (P:=l.prog) (w:=w) (base:=base) D29 g_is_whole Z
  have g_is_rests:=K7 (P:=l.prog) (w:=w) (base:=base) D38 g_is_wholes Z
  have g_sum:=IH (P:=l.prog) (w:=w) (base:=base) D37  Z
  have g_based:=Br (P:=l.prog) (w:=w) (base:=base) D40 g_is_rests g_sum Z
  have g_rising:=Db (P:=l.prog) (w:=w) (base:=base) D39 g_is_wholes Z
  have g_asked:=By (P:=l.prog) (w:=w) (base:=base) D41 g_copy g_solved g_count g_l_equations g_straight_many g_based g_rising Z
  exact IM (P:=l.prog) (w:=w) (base:=base) (Qx (st:=V1) l0 c k) g_row g_drawn g_prime g_asked Z
theorem MY {l : PySem.W.OpenLaw} {q : Program} {loose : List Str} {XP : (Str -> Option Value) -> Heap -> Prop} {YP : World -> Heap -> Prop} {d : DefRec} {K : Params -> PySem.W.Frag} (hn : l.most = some 63) (hdf : d.params.defaults = [])
    (hY : ∀ (w : World) (h : Heap), YP w h -> (K w.params).In h)
    (F : ∀ (w : World) (mg : Str -> Option Value) (fa : Addr) (h : Heap), (K w.params).In h -> h.Ns mainGlobals mg -> mg d.name = some (.ref fa) ->
      ∃ fd : FuncData, (∀ (s : Shared) (u : Value), BindsTo s fd ⟨[u], []⟩ [("_law_script", u)]) /\ ∀ base : Heap, (K w.params).In base -> base.Ns mainGlobals mg -> FnOk l.prog w (K w.params) mg base CX0 10 fa fd ["_law_script"] (sp1 (rL Xa) (oF XS) GP (K w.params))) :
    PySem.W.WalkO q loose XP YP l.row.toRowW d [] (λf vs=>PySem.call f vs):=
  L2.HS (n:=63) (k:=10) (x:="_law_script") (CX:=λ_=>CX0) (sp:=λw=>sp1 (rL Xa) (oF XS) GP (K w.params)) hn (by decide) hdf ⟨rfl, by decide, by decide⟩ hY F (λ_ _ a ns hl _ hS=>⟨.ref a, ns, true, rfl, ⟨a, _, rfl, hS, GG ns⟩, BG ns hl, λv C H' w m ho=>ho.2⟩) λ_ _ _ _ _ z=>z
end My
open PySem PySem.W PyProof.Rows
set_option maxRecDepth 100000 in
set_option maxHeartbeats 0 in
theorem PySem.Challenge.cw_plait_k82_free_arcs_holds : PySem.Challenge.rw_plait_k82_free_arcs.Holds := by
  w_on; o_law; k_head; (case hw => w_witness2)
  k_fill
  refine My.MY (l := PySem.Challenge.rw_plait_k82_free_arcs) rfl rfl (fun w h Y => PySem.W.kIn_of Y) ?F
  case F =>
    intro w mg fa h KX G hmg
    refine' My.Lx KX G hmg (My.Ce KX G (by intros; rfl) ?a1 ?l1 ?c1 ?k1) (My.K4 KX G (by intros; rfl) ?a2 ?l2 ?c2 ?k2) (My.K4 KX G (by intros; rfl) ?a3 ?l3 ?c3 ?k3) (My.K4 KX G (by intros; rfl) ?a4 ?l4 ?c4 ?k4) (My.Ce KX G (by intros; rfl) ?a5 ?l5 ?c5 ?k5) (My.K4 KX G (by intros; rfl) ?a6 ?l6 ?c6 ?k6) (My.K4 KX G (by intros; rfl) ?a7 ?l7 ?c7 ?k7) (My.Ce KX G (by intros; rfl) ?a8 ?l8 ?c8 ?k8) (My.K4 KX G (by intros; rfl) ?a9 ?l9 ?c9 ?k9) (My.Dk KX G (by intros; rfl) ?a10 ?l10 ?c10 ?k10) (My.Dk KX G (by intros; rfl) ?a11 ?l11 ?c11 ?k11) (My.K4 KX G (by intros; rfl) ?a12 ?l12 ?c12 ?k12) (My.Ce KX G (by intros; rfl) ?a13 ?l13 ?c13 ?k13) (My.Dk KX G (by intros; rfl) ?a14 ?l14 ?c14 ?k14) (My.Dk KX G (by intros; rfl) ?a15 ?l15 ?c15 ?k15) (My.Mv KX G (by intros; rfl) ?a16 ?l16 ?c16 ?k16) (My.Ce KX G (by intros; rfl) ?a17 ?l17 ?c17 ?k17) (My.Mv KX G (by intros; rfl) ?a18 ?l18 ?c18 ?k18) (My.Dk KX G (by intros; rfl) ?a19 ?l19 ?c19 ?k19) (My.Ce KX G (by intros; rfl) ?a20 ?l20 ?c20 ?k20) (My.Ce KX G (by intros; rfl) ?a21 ?l21 ?c21 ?k21) (My.Dk KX G (by intros; rfl) ?a22 ?l22 ?c22 ?k22) (My.Ce KX G (by intros; rfl) ?a23 ?l23 ?c23 ?k23) (My.Dk KX G (by intros; rfl) ?a24 ?l24 ?c24 ?k24) (My.Mv KX G (by intros; rfl) ?a25 ?l25 ?c25 ?k25) (My.Dk KX G (by intros; rfl) ?a26 ?l26 ?c26 ?k26) (My.K4 KX G (by intros; rfl) ?a27 ?l27 ?c27 ?k27) (My.K4 KX G (by intros; rfl) ?a28 ?l28 ?c28 ?k28) (My.K4 KX G (by intros; rfl) ?a29 ?l29 ?c29 ?k29) (My.K4 KX G (by intros; rfl) ?a30 ?l30 ?c30 ?k30) (My.Ce KX G (by intros; rfl) ?a31 ?l31 ?c31 ?k31) (My.K4 KX G (by intros; rfl) ?a32 ?l32 ?c32 ?k32) (My.K4 KX G (by intros; rfl) ?a33 ?l33 ?c33 ?k33) (My.K4 KX G (by intros; rfl) ?a34 ?l34 ?c34 ?k34) (My.K4 KX G (by intros; rfl) ?a35 ?l35 ?c35 ?k35) (My.Dk KX G (by intros; rfl) ?a36 ?l36 ?c36 ?k36) (My.Ce KX G (by intros; rfl) ?a37 ?l37 ?c37 ?k37) (My.Dk KX G (by intros; rfl) ?a38 ?l38 ?c38 ?k38) (My.Ce KX G (by intros; rfl) ?a39 ?l39 ?c39 ?k39) (My.M1 KX G (by intros; rfl) ?a40 ?l40 ?c40 ?k40) (My.Dk KX G (by intros; rfl) ?a41 ?l41 ?c41 ?k41) ?a42 ?l42 ?c42 ?k42 ?z1 ?z2 ?z3 ?z4 ?z5 ?z6 ?z7 ?z8 ?z9 ?z10 ?z11 ?z12 ?z13 ?z14 ?w0
    (case a1 => k_is); (case l1 => k_is); (case c1 => k_is); (case k1 => k_is); (case a2 => k_is); (case l2 => k_is); (case c2 => k_is); (case k2 => k_is); (case a3 => k_is); (case l3 => k_is); (case c3 => k_is); (case k3 => k_is); (case a4 => k_is); (case l4 => k_is); (case c4 => k_is); (case k4 => k_is); (case a5 => k_is); (case l5 => k_is); (case c5 => k_is); (case k5 => k_is); (case a6 => k_is); (case l6 => k_is); (case c6 => k_is); (case k6 => k_is); (case a7 => k_is); (case l7 => k_is); (case c7 => k_is); (case k7 => k_is); (case a8 => k_is); (case l8 => k_is); (case c8 => k_is); (case k8 => k_is); (case a9 => k_is); (case l9 => k_is); (case c9 => k_is); (case k9 => k_is); (case a10 => k_is); (case l10 => k_is); (case c10 => k_is); (case k10 => k_is); (case a11 => k_is); (case l11 => k_is); (case c11 => k_is); (case k11 => k_is); (case a12 => k_is); (case l12 => k_is); (case c12 => k_is); (case k12 => k_is); (case a13 => k_is); (case l13 => k_is); (case c13 => k_is); (case k13 => k_is); (case a14 => k_is); (case l14 => k_is); (case c14 => k_is); (case k14 => k_is); (case a15 => k_is); (case l15 => k_is); (case c15 => k_is); (case k15 => k_is); (case a16 => k_is); (case l16 => k_is); (case c16 => k_is); (case k16 => k_is); (case a17 => k_is); (case l17 => k_is); (case c17 => k_is); (case k17 => k_is); (case a18 => k_is); (case l18 => k_is); (case c18 => k_is); (case k18 => k_is); (case a19 => k_is); (case l19 => k_is); (case c19 => k_is); (case k19 => k_is); (case a20 => k_is); (case l20 => k_is); (case c20 => k_is); (case k20 => k_is); (case a21 => k_is); (case l21 => k_is); (case c21 => k_is); (case k21 => k_is); (case a22 => k_is); (case l22 => k_is); (case c22 => k_is); (case k22 => k_is); (case a23 => k_is); (case l23 => k_is); (case c23 => k_is); (case k23 => k_is); (case a24 => k_is); (case l24 => k_is); (case c24 => k_is); (case k24 => k_is); (case a25 => k_is); (case l25 => k_is); (case c25 => k_is); (case k25 => k_is); (case a26 => k_is); (case l26 => k_is); (case c26 => k_is); (case k26 => k_is); (case a27 => k_is); (case l27 => k_is); (case c27 => k_is); (case k27 => k_is); (case a28 => k_is); (case l28 => k_is); (case c28 => k_is); (case k28 => k_is); (case a29 => k_is); (case l29 => k_is); (case c29 => k_is); (case k29 => k_is); (case a30 => k_is); (case l30 => k_is); (case c30 => k_is); (case k30 => k_is); (case a31 => k_is); (case l31 => k_is); (case c31 => k_is); (case k31 => k_is); (case a32 => k_is); (case l32 => k_is); (case c32 => k_is); (case k32 => k_is); (case a33 => k_is); (case l33 => k_is); (case c33 => k_is); (case k33 => k_is); (case a34 => k_is); (case l34 => k_is); (case c34 => k_is); (case k34 => k_is); (case a35 => k_is); (case l35 => k_is); (case c35 => k_is); (case k35 => k_is); (case a36 => k_is); (case l36 => k_is); (case c36 => k_is); (case k36 => k_is); (case a37 => k_is); (case l37 => k_is); (case c37 => k_is); (case k37 => k_is); (case a38 => k_is); (case l38 => k_is); (case c38 => k_is); (case k38 => k_is); (case a39 => k_is); (case l39 => k_is); (case c39 => k_is); (case k39 => k_is); (case a40 => k_is); (case l40 => k_is); (case c40 => k_is); (case k40 => k_is); (case a41 => k_is); (case l41 => k_is); (case c41 => k_is); (case k41 => k_is); (case a42 => k_is); (case l42 => k_is); (case c42 => k_is); (case k42 => k_is); (case z1 => k_is); (case z2 => k_is); (case z3 => k_is); (case z4 => k_is); (case z5 => k_is); (case z6 => k_is); (case z7 => k_is); (case z8 => k_is); (case z9 => k_is); (case z10 => k_is); (case z11 => k_is); (case z12 => k_is); (case z13 => k_is); (case z14 => k_is); (case w0 => k_is)
