import PyProof.Rows.All
import Wide.All
import OpenK.AllK
import Wide.FinOn
import Lean
import PyProof.EqAt
import PyProof.EqKinds
import PyProof.TupleCall
import PyProof.NeKinds
import PyProof.WalksEnum
import PyProof.EnumMake
import PyProof.ZipIter
import PyProof.Draws
import PyProof.DictIter
import PyProof.DictWalks
import PyProof.Rows.DictUnroll
import PyProof.DictCompW
import PyProof.ReprRoads
import PyProof.ReprLen
import PyProof.P3Eq
import PyProof.Rows.FStr
import PyProof.Rows.StrSplitAre
import PyProof.Rows.StrItems
import PyProof.Rows.FStrParts
import KE.KIntText
import PyProof.StrWalks
import PyProof.MeetsStr
import PyProof.StationsW
import PyProof.Rows.TopTwo
import PyProof.RulesAs
import PyProof.RulesDel
import PyProof.ExcArgs
import OpenK.KOwn
import KE.KRevIter
import PyProof.Rows.StrLen
import PyProof.SliceStr2
import PyProof.StrBlockI
import KE.KDictOf
import PyProof.AttrMissSeq
import KE.KRevSl
import PyProof.Rows.ReprOcc
import PyProof.StrLawsTight
import PyProof.Rows.SetFrom
import PyProof.WalksMore
import PyProof.SetRoads
import KE.KEqDict
import PyProof.Rows.SumAny
import PyProof.InstStore
import PyProof.InstStoreFacts
import KE.KDictList
import PyProof.Rows.SortWalk
import PySem.Challenge.RW_fuseboard_k50_blind_pairs
set_option Elab.async false
set_option linter.all false
set_option genSizeOf false
set_option genSizeOfSpec false
set_option maxRecDepth 100000
noncomputable section
namespace PySem.W.Fast
def tw16820772645767901166:Unit:=()
def tw1308291670975921650:Unit:=()
def tw18403733729680092983:Unit:=()
def tw15494659694123666966:Unit:=()
def tw5105700552176402737:Unit:=()
def tw4696389654355306286:Unit:=()
def tw2088639216520007164:Unit:=()
def tw14551704107971249402:Unit:=()
def tw831287453982737249:Unit:=()
def tw13868032175028674578:Unit:=()
def tw378540483701277773:Unit:=()
def tw12640129907396248033:Unit:=()
def tw14384265876469177400:Unit:=()
def tw6565353094669150096:Unit:=()
def tw15933720342338361343:Unit:=()
def tw3301969331550520120:Unit:=()
def tw5804017191920117324:Unit:=()
def tw14232620154034228744:Unit:=()
def tw13497324624427417670:Unit:=()
def tw17126916288696557729:Unit:=()
def tw13257664945391680238:Unit:=()
def tw1602343050420402433:Unit:=()
def tw9211472535492596221:Unit:=()
def tw15823734625600541013:Unit:=()
def tw4360937294450025063:Unit:=()
def tw9339879904613625152:Unit:=()
def tw14231039582783867344:Unit:=()
def tw166717150952382501:Unit:=()
def tw3236483662852309078:Unit:=()
def tw17806531875891664953:Unit:=()
def tw15745159823431823831:Unit:=()
def tw16378617718794214460:Unit:=()
def tw11500123322691759643:Unit:=()
def tw14779573687562263773:Unit:=()
def tw10181166110766307691:Unit:=()
def tw14582956926871313856:Unit:=()
def tw15697583903814662168:Unit:=()
def tw8129326761224290044:Unit:=()
def tw273682881591512475:Unit:=()
def tw4211691638321964446:Unit:=()
def tw6555820014758235494:Unit:=()
def tw9588673598691366577:Unit:=()
def tw8625767994234787004:Unit:=()
def tw8381712526044641490:Unit:=()
def tw4240283139867049087:Unit:=()
def tw12871247342271420085:Unit:=()
def tw10508926576703625446:Unit:=()
def tw15891858062053062318:Unit:=()
def tw11281596398836396881:Unit:=()
def tw6959278009318602580:Unit:=()
def tw3021755603286154063:Unit:=()
def tw17676463893084090539:Unit:=()
def tw12390409041087015047:Unit:=()
def tw17152593803657729027:Unit:=()
def tw18285149751286619942:Unit:=()
def tw7424023201093530675:Unit:=()
def tw1184117657495720183:Unit:=()
def tw5037402161011099535:Unit:=()
def tw11044999011757983182:Unit:=()
def tw16680008569718720516:Unit:=()
def tw17022805921011881056:Unit:=()
def tw272142609467578309:Unit:=()
def tw7042847554477714612:Unit:=()
def tw9564229765770197302:Unit:=()
def tw2577830978760796659:Unit:=()
def tw9147210666967444001:Unit:=()
def tw9049599102467188314:Unit:=()
def tw16368270954914275160:Unit:=()
def tw13536637465142558343:Unit:=()
def tw6839597800072966910:Unit:=()
def tw2361357797789448726:Unit:=()
def tw3246344406412818602:Unit:=()
def tw2926314433271521734:Unit:=()
def tw16999044938864652201:Unit:=()
def tw13018414960363704456:Unit:=()
def tw11816124641266782374:Unit:=()
def tw336735113107063435:Unit:=()
def tw11204251550598399:Unit:=()
def tw10287806564497804660:Unit:=()
def tw1513474960015580155:Unit:=()
def tw2859901557106035545:Unit:=()
def tw2727847437173939534:Unit:=()
def tw4403655236782787883:Unit:=()
def tw16319716407015513268:Unit:=()
def tw2587365326883702650:Unit:=()
def tw5724316038947883000:Unit:=()
def tw16130644955243863079:Unit:=()
def tw11861675653653789581:Unit:=()
def tw1084571190440548546:Unit:=()
def tw8256501001858794018:Unit:=()
def tw7866481324826130256:Unit:=()
def tw7108873855079434491:Unit:=()
def tw15451677502982223701:Unit:=()
def tw10165325367651857457:Unit:=()
def tw13791550542731797701:Unit:=()
def tw14256270826582857161:Unit:=()
def tw2816237375041653453:Unit:=()
def tw13636288546072231131:Unit:=()
def tw9362711228657440290:Unit:=()
def tw9183739408908516657:Unit:=()
def tw14371715428985669961:Unit:=()
def tw5887362207256243525:Unit:=()
def tw6966114453501110062:Unit:=()
def tw2402061243118535695:Unit:=()
def tw13922226414940682283:Unit:=()
def tw16832681851754231615:Unit:=()
def tw16724025269258218817:Unit:=()
def tw2791182079718873731:Unit:=()
def tw16222782201000882391:Unit:=()
def tw11452731504633323761:Unit:=()
def tw529813231596250497:Unit:=()
def tw13897613766441846758:Unit:=()
def tw7570040752540853275:Unit:=()
def tw5575782190797770802:Unit:=()
def tw16581782949074263146:Unit:=()
def tw1341384462014776784:Unit:=()
def tw15566292730082550033:Unit:=()
def tw9573226678572435500:Unit:=()
def tw9509054213401433839:Unit:=()
def tw6628669560420603179:Unit:=()
def tw3453778765739394049:Unit:=()
def tw14527178616342663809:Unit:=()
def tw5679893204294346336:Unit:=()
def tw13497184317378643814:Unit:=()
def tw9650604988802220830:Unit:=()
def tw2413879742279888788:Unit:=()
def tw15327563468831984798:Unit:=()
def tw359789641189276975:Unit:=()
def tw6457665983963305486:Unit:=()
def tw11382957913728905599:Unit:=()
def tw5530771371612847070:Unit:=()
def tw17003862488674465744:Unit:=()
def tw13211167209938349318:Unit:=()
def tw1514440811319481217:Unit:=()
def tw6562239250680153540:Unit:=()
def tw12733461502953742823:Unit:=()
def tw338389410996208086:Unit:=()
def tw17791460797374267214:Unit:=()
def tw12025384065530904295:Unit:=()
def tw12113238514696534922:Unit:=()
def tw14318584694813716344:Unit:=()
def tw11754435892324852176:Unit:=()
def tw12303840543542441026:Unit:=()
def tw3546768684394600978:Unit:=()
def tw3850474810666690607:Unit:=()
def tw8977752018676233623:Unit:=()
def tw119886530671309596:Unit:=()
def tw10356861084402610268:Unit:=()
def tw4167044613541829957:Unit:=()
def tw14113549471471925370:Unit:=()
def tw11203371772440241125:Unit:=()
def tw107630379107175042:Unit:=()
def tw14125459373776392384:Unit:=()
def tw13893570174839619203:Unit:=()
def tw6926677076676831301:Unit:=()
def tw4776169803714739487:Unit:=()
def tw1140998551951984693:Unit:=()
def tw15118705264917897898:Unit:=()
def tw17303385179202307335:Unit:=()
def tw16219472616510032502:Unit:=()
def tw14360551507925722620:Unit:=()
def tw9177646909466180892:Unit:=()
def tw8125082199062079111:Unit:=()
def tw4918116054274726946:Unit:=()
def tw13409373522357209126:Unit:=()
def tw16545106219157031206:Unit:=()
def tw3772854321172756874:Unit:=()
def tw13647395126647598742:Unit:=()
def tw16223376510025670165:Unit:=()
def tw15341995912359258253:Unit:=()
def tw9436031888385656871:Unit:=()
def tw4171961900808344436:Unit:=()
def tw5302695648140738612:Unit:=()
def tw17435028231660927058:Unit:=()
def tw5324537597917476076:Unit:=()
def tw1987469350821287366:Unit:=()
def tw16984588874995490843:Unit:=()
def tw8406598866407744728:Unit:=()
def tw8292148821442048688:Unit:=()
def tw14474870519537985509:Unit:=()
def tw8287311968320781983:Unit:=()
def tw5019409459847054260:Unit:=()
def tw16722597784870763329:Unit:=()
def tw5954546413103802221:Unit:=()
def tw15352175471333279385:Unit:=()
def tw14288571803483344005:Unit:=()
def tw16085551713669021705:Unit:=()
def tw9651906617413000666:Unit:=()
def tw5999640712607525915:Unit:=()
def tw17498453360197357005:Unit:=()
def tw16390197078018061276:Unit:=()
def tw11570943739010938663:Unit:=()
def tw17813593186393201497:Unit:=()
def tw6254329964129318236:Unit:=()
def tw652486201283155852:Unit:=()
def tw5831569896942164606:Unit:=()
def tw11486961020705769310:Unit:=()
def tw6591430035642409409:Unit:=()
def tw528962448254086644:Unit:=()
def tw11432900907208693332:Unit:=()
def tw14838754391623961586:Unit:=()
def tw6521272374058258152:Unit:=()
def tw3810199332721496519:Unit:=()
def tw13705786058740351686:Unit:=()
def tw13348507272969984847:Unit:=()
def tw18062577270197610018:Unit:=()
def tw16689701100939740884:Unit:=()
def tw11572910639166832705:Unit:=()
def tw11476794121907056287:Unit:=()
def tw386754359648785263:Unit:=()
def tw671293642552521070:Unit:=()
def tw15413647856954527182:Unit:=()
def tw12238701981171478076:Unit:=()
def tw7053278008988408434:Unit:=()
def tw3025431833400777395:Unit:=()
def tw17440984603122371023:Unit:=()
def tw7453293408277447618:Unit:=()
def tw5762146233183906308:Unit:=()
def tw4819706279853372510:Unit:=()
def tw8169303567280859999:Unit:=()
def tw14184318640434531137:Unit:=()
def tw5563980595611926303:Unit:=()
def tw10430146947301954256:Unit:=()
def tw4753041986871602126:Unit:=()
def tw3972927460116870053:Unit:=()
def tw1027054497537188185:Unit:=()
def tw10644727664411903716:Unit:=()
def tw5019403768646172601:Unit:=()
def tw16678768330729070253:Unit:=()
def tw10767195122342214862:Unit:=()
def tw17684011238002219186:Unit:=()
def tw310624203427940956:Unit:=()
def tw3203998956970707637:Unit:=()
def tw12737191686414569873:Unit:=()
def tw5439560896057932972:Unit:=()
def tw12538329587473760805:Unit:=()
def tw16834996926887401828:Unit:=()
def tw5118610987344455753:Unit:=()
def tw8119541886702118903:Unit:=()
def tw8942228092783683907:Unit:=()
def tw3237326093060824946:Unit:=()
def tw7421998952588398618:Unit:=()
def tw6890589388938449372:Unit:=()
def tw6249128271535575422:Unit:=()
def tw10486145614579681756:Unit:=()
def tw12447631404200981415:Unit:=()
def tw12725738961421649589:Unit:=()
def tw6645891207394189217:Unit:=()
def tw3371393690374134172:Unit:=()
def tw2518124112510903805:Unit:=()
def tw6609059012947738683:Unit:=()
def tw1442969505865475407:Unit:=()
def tw16049564909438949396:Unit:=()
def tw13601290402767958830:Unit:=()
def tw8676368729368627303:Unit:=()
def tw16886970316713488321:Unit:=()
def tw6786197907793777817:Unit:=()
def tw9733957550674942523:Unit:=()
def tw18160154681634733670:Unit:=()
def tw11764953518916745770:Unit:=()
def tw8340309039244030215:Unit:=()
def tw3376477630660088390:Unit:=()
def tw17549223354808139231:Unit:=()
def tw16231767738297812333:Unit:=()
def tw8099104733136092766:Unit:=()
def tw3487706169030538631:Unit:=()
def tw5644375759632908757:Unit:=()
def tw13153071823863623434:Unit:=()
def tw2195171242153035478:Unit:=()
def tw6853950349065876827:Unit:=()
def tw16275671104668389052:Unit:=()
def tw12758391672269413610:Unit:=()
def tw7917539077193889645:Unit:=()
def tw5353810421949462084:Unit:=()
def tw3362290452629056297:Unit:=()
def tw13576732441704066188:Unit:=()
def tw7776441802091615545:Unit:=()
def tw12810128840989201179:Unit:=()
def tw9471034840560531025:Unit:=()
def tw1750204126180467464:Unit:=()
def tw8045224850062235926:Unit:=()
def tw9669366064168901104:Unit:=()
def tw5815044901820842395:Unit:=()
def tw17736634676546965827:Unit:=()
def tw17721403738932809252:Unit:=()
def tw10037398117716460965:Unit:=()
def tw16814473751108181721:Unit:=()
def tw4242639746657899715:Unit:=()
def tw10891585622338219234:Unit:=()
def tw17044669592576516018:Unit:=()
def tw10928173644884096103:Unit:=()
def tw12372683919974236199:Unit:=()
def tw137133525943518737:Unit:=()
def tw15299035952305213501:Unit:=()
def tw6254044620681783122:Unit:=()
def tw11422787485434229292:Unit:=()
def tw5363883046656186538:Unit:=()
end PySem.W.Fast
namespace L2
open PySem PySem.Spec PyProof.Rows
abbrev Key:=Sum Int Str
def aB:Key->Value->Bool
 | .inl k,v=>Value.isInt k v
 | .inr x,v=>Value.isStrOf x v
def Jl(w:World):Key->Int
 | .inl k=>hashInt k
 | .inr x=>hashStr w x
theorem r8:∀{k:Key} {v:Value},aB k v=true->(∃i t,k=Sum.inl i/\v=Value.int i t)\/(∃x t,k=Sum.inr x/\v=Value.str x t)
 | .inl i,v,h=>by
  obtain⟨t,e⟩:=Value.isInt_shape (k:=i) (v:=v) h
  exact .inl ⟨i,t,rfl,e⟩
 | .inr x,v,h=>by
  obtain⟨t,e⟩:=Value.isStrOf_shape (x:=x) (v:=v) h
  exact .inr ⟨x,t,rfl,e⟩
theorem uE(i:Int)(t:Tok):aB (.inl i) (.int i t)=true:=by simp[aB,Value.isInt]
theorem vG(x:Str)(t:Tok):aB (.inr x) (.str x t)=true:=by simp[aB,Value.isStrOf]
theorem Hb(a b:Int):decide ((Sum.inl a:Key)=Sum.inl b)=(a == b):=by
 by_cases e:a=b
 ·subst e;simp
 ·have h:¬(Sum.inl a:Key)=Sum.inl b:=fun q=>e (Sum.inl.inj q)
  rw[decide_eq_false h]
  exact(beq_eq_false_iff_ne.mpr e).symm
theorem FD(a b:Str):decide ((Sum.inr a:Key)=Sum.inr b)=decide (a=b):=by
 by_cases e:a=b
 ·subst e;simp
 ·have h:¬(Sum.inr a:Key)=Sum.inr b:=fun q=>e (Sum.inr.inj q)
  rw[decide_eq_false h,decide_eq_false e]
theorem Hq(a:Int)(b:Str):decide ((Sum.inl a:Key)=Sum.inr b)=false:=decide_eq_false (fun q=>nomatch q)
theorem Io(a:Str)(b:Int):decide ((Sum.inr a:Key)=Sum.inl b)=false:=decide_eq_false (fun q=>nomatch q)
def o6(prog:Program)(w:World):PySem.KeyKind prog w Key where
 is:=aB
 hash:=Jl w
 inj:=fun v a b ha hb=>by
  rcases r8 ha with⟨i,t,rfl,rfl⟩ | ⟨x,t,rfl,rfl⟩
  ·rcases r8 hb with⟨j,u,rfl,e⟩ | ⟨y,u,rfl,e⟩
   ·injection e with e1 _;rw[e1]
   ·exact nomatch e
  ·rcases r8 hb with⟨j,u,rfl,e⟩ | ⟨y,u,rfl,e⟩
   ·exact nomatch e
   ·injection e with e1 _;rw[e1]
 byValue:=fun k v h=>by
  rcases r8 h with⟨i,t,rfl,rfl⟩ | ⟨x,t,rfl,rfl⟩<;>rfl
 pyHash:=fun hv h=>by
  rcases r8 hv with⟨i,t,rfl,rfl⟩ | ⟨x,t,rfl,rfl⟩
  ·exact wpAny_pyHash_int h
  ·exact wpAny_pyHash_str h
 eqBool:=fun hu hv h=>by
  rcases r8 hu with⟨i,t,rfl,rfl⟩ | ⟨x,t,rfl,rfl⟩
  ·rcases r8 hv with⟨j,u,rfl,rfl⟩ | ⟨y,u,rfl,rfl⟩
   ·rw[Hb] at h;exact wpAny_eqBool_int h
   ·rw[Hq] at h;exact SeqAt.EqAt.int_str i t y u _ _ _ _ h
  ·rcases r8 hv with⟨j,u,rfl,rfl⟩ | ⟨y,u,rfl,rfl⟩
   ·rw[Io] at h;exact SeqAt.EqAt.str_int x t j u _ _ _ _ h
   ·rw[FD] at h;exact wpAny_eqBool_str h
 «strs»:=fun k x t v h=>by
  rcases r8 h with⟨i,u,rfl,e⟩ | ⟨y,u,rfl,e⟩
  ·exact nomatch e
  ·injection e with e1 _
   subst e1
   cases v<;>rfl
theorem mm(prog:Program)(w:World)(i:Int)(t:Tok):(o6 prog w).is (.inl i) (.int i t)=true:=uE i t
theorem lz(prog:Program)(w:World)(x:Str)(t:Tok):(o6 prog w).is (.inr x) (.str x t)=true:=vG x t
theorem og{prog:Program}{w:World}{A:Around}{E:Value->Shared->Prop}{s:Shared}{Q:Int->Shared->Prop}(h:Q 0xFCA86420 { s with toks:=s.toks+1 }):wpAny (model prog w) A (pyHash .none) Q E s:=by
 have hT:s.TypeIs .none "NoneType":=rfl
 unfold pyHash
 have hv:[Value.none].any Value.onHeap=false:=rfl
 refine wpAny_bind ?_
 rw[cRoomFor,if_neg (by rw[hv];exact Bool.false_ne_true)];refine wpAny_pure ?_
 refine wpAny_bind (wpAny_specialOf hT F.slot_NoneType_hash.lookup ?_)
 show wpAny _ _ (if (some (Value.builtin "NoneType.__hash__") == some Value.none)=true then _ else _) Q E s
 rw[if_neg (by rw[beq_builtin_none];exact Bool.false_ne_true)]
 refine wpAny_bind (wpAny_specialOf hT F.slot_NoneType_hash.lookup ?_)
 show wpAny _ _ (callSpecialIfBoundUnlessNone? .none "__hash__" _ >>= _) Q E s
 refine wpAny_bind (wpAny_callSpecialIfBoundUnlessNone?_slot hT F.slot_NoneType_hash
  (wpAny_call_entry F.slot_NoneType_hash hT F.entry_NoneType_hash
   (show wpAny _ _ (do ret (<-mkInt 0xFCA86420)) _ _ s from wpAny_ret_mkInt ?_) (F.args_NoneType_hash_1 _)))
 show wpAny _ _ (if (decide (-(2:Int)^63<=0xFCA86420)&&decide ((0xFCA86420:Int)<2^63))=true then _ else _) Q E _
 rw[if_pos (by decide)]
 exact wpAny_pure h
abbrev K6:=Option Key
def gB:K6->Value->Bool
 | some k,v=>aB k v
 | none,v=>v == .none
def JU(w:World):K6->Int
 | some k=>Jl w k
 | none=>0xFCA86420
theorem B9{v:Value}(h:gB none v=true):v=.none:=eq_of_beq h
def aF(prog:Program)(w:World):PySem.KeyKind prog w K6 where
 is:=gB
 hash:=JU w
 inj:=fun v a b ha hb=>by
  cases a with
  | none=>
   cases b with
   | none=>rfl
   | some k=>
    have e:=B9 ha
    subst e
    rcases r8 hb with⟨i,t,rfl,e⟩ | ⟨x,t,rfl,e⟩<;>cases e
  | some k=>
   cases b with
   | none=>
    have e:=B9 hb
    subst e
    rcases r8 ha with⟨i,t,rfl,e⟩ | ⟨x,t,rfl,e⟩<;>cases e
   | some k'=>rw[(o6 prog w).inj v k k' ha hb]
 byValue:=fun k v h=>by
  cases k with
  | none=>rw[B9 h];rfl
  | some k=>exact(o6 prog w).byValue k v h
 pyHash:=fun {A E s k v Q} hv h=>by
  cases k with
  | none=>rw[B9 hv];exact og h
  | some k=>exact(o6 prog w).pyHash hv h
 eqBool:=fun {A E s a b u v Q} hu hv h=>by
  cases a with
  | none=>
   have e:=B9 hu
   subst e
   cases b with
   | none=>
    have e:=B9 hv
    subst e
    exact SeqAt.EqAt.same _ _ _ _ _ (by simpa using h)
   | some k=>
    have h':Q false s:=by simpa using h
    rcases r8 hv with⟨i,t,rfl,rfl⟩ | ⟨x,t,rfl,rfl⟩
    ·exact SeqAt.EqAt.none_int i t _ _ _ _ h'
    ·exact SeqAt.EqAt.none_str x t _ _ _ _ h'
  | some k=>
   cases b with
   | none=>
    have e:=B9 hv
    subst e
    have h':Q false s:=by simpa using h
    rcases r8 hu with⟨i,t,rfl,rfl⟩ | ⟨x,t,rfl,rfl⟩
    ·exact SeqAt.EqAt.int_none i t _ _ _ _ h'
    ·exact SeqAt.EqAt.str_none x t _ _ _ _ h'
   | some k'=>
    refine(o6 prog w).eqBool hu hv ?_
    have e:decide ((some k:K6)=some k')=decide (k=k'):=by
     by_cases e:k=k'
     ·subst e;simp
     ·rw[decide_eq_false e,decide_eq_false fun q=>e (Option.some.inj q)]
    rwa [e] at h
 «strs»:=fun k x t v h=>by
  cases k with
  | none=>cases B9 h
  | some k=>exact(o6 prog w).strs k x t v h
inductive V where
 | non | bl (b:Bool) | int (i:Int) | str (x:Str) | byt (b:Array UInt8) | flt (b:UInt64) | ref (a:Addr) | ty (n:String)
 deriving DecidableEq
def RelV:V->Value->Prop
 | .non,u=>u=Value.none
 | .bl b,u=>u=Value.bool b
 | .int i,u=>∃t,u=Value.int i t
 | .str x,u=>∃t,u=Value.str x t
 | .byt b,u=>∃t,u=Value.bytes b t
 | .flt b,u=>∃t,u=Value.float b t
 | .ref a,u=>u=Value.ref a
 | .ty n,u=>u=Value.type n
abbrev Vals:List V->List Value->Prop:=Paired RelV
theorem Vals.length{xs:List V}{us:List Value}(r:Vals xs us):xs.length=us.length:=Paired.length r
theorem Vals.get:∀{xs:List V} {us:List Value} {i:Nat} {x:V},Vals xs us->xs[i]?=some x->∃u,us[i]?=some u/\RelV x u
 | _,_,_,_,.nil,e=>by simp at e
 | _,_,0,_,.cons r _,e=>by simp at e;subst e;exact⟨_,rfl,r⟩
 | _,_,i+1,x,.cons _ t,e=>by
  obtain⟨u,h1,h2⟩:=Vals.get (i:=i) (x:=x) t (by simpa using e)
  exact⟨u,by simpa using h1,h2⟩
theorem Vals.set{x:V}{u:Value}(r:RelV x u):∀{xs:List V} {us:List Value} (i:Nat),Vals xs us->Vals (xs.set i x) (us.set i u)
 | _,_,_,.nil=>.nil
 | _,_,0,.cons _ t=>.cons r t
 | _,_,i+1,.cons q t=>.cons q (Vals.set r i t)
theorem Vals.append:∀{xs ys:List V} {us ws:List Value},Vals xs us->Vals ys ws->Vals (xs++ys) (us++ws)
 | _,_,_,_,.nil,s=>s
 | _,_,_,_,.cons r t,s=>.cons r (Vals.append t s)
theorem Vals.take:∀{xs:List V} {us:List Value} (n:Nat),Vals xs us->Vals (xs.take n) (us.take n)
 | _,_,0,_=>.nil
 | _,_,_+1,.nil=>.nil
 | _,_,n+1,.cons r t=>.cons r (Vals.take n t)
theorem Vals.drop:∀{xs:List V} {us:List Value} (n:Nat),Vals xs us->Vals (xs.drop n) (us.drop n)
 | _,_,0,r=>r
 | _,_,_+1,.nil=>.nil
 | _,_,n+1,.cons _ t=>Vals.drop n t
def bW:Option V->Option Value->Prop
 | some v,some u=>RelV v u
 | none,none=>True
 | _,_=>False
def KV{κ:Type}:List (κ×V)->List (κ×Value)->Prop:=Paired fun(p:κ×V) (q:κ×Value)=>p.1=q.1/\RelV p.2 q.2
def kV:Key->V
 | .inl i=>.int i
 | .inr x=>.str x
inductive HO where
 /-- a list -/
 | lst (xs:List V)
 /-- a tuple (never changes) -/
 | tup (xs:List V)
 /-- a dict whose keys are ints and texts;one whose keys are tuples of ints and texts (the empty one is both) -/
 | dK (kvs:List (Key×V)) | dE (kvs:List (Key×V)) (ep:Nat) | dN (kvs:List (K6×V)) | dT (kvs:List (List Key×V))
 /-- a set of ints: its members,its size -/
 | set (S:Key->Bool) (n:Nat)
 /-- an instance of the class at C,its dict at dx,its attributes -/
 | ins (C dx:Addr) (fs:List (Str×V))
 /-- the dict of the instance at x -/
 | own (x:Addr)
 /-- the dict of an exception -/
 | xd (fs:List (Str×V))
 /-- a bound method,f of x -/
 | met (f x:Addr)
 /-- a range object lo,lo+1,.. below hi -/
 | rng (lo hi:Int)
 /-- a thing that is known to the object (the script;a dict while a loop walks it): read,never written while it is so -/
 | frz (o:Obj) (u:HO)
 /-- a code object's table -/
 | tbl (ps:Array Value)
 /-- any other thing,by what is true of its one object (a def of one's own: SetO a S n:=HO.ext fun h=>..) -/
 | ext (φ:Heap->Prop)
abbrev Hp:=Addr->Option HO
def upd(H:Hp)(a:Addr)(o:HO):Hp:=fun b=>if b=a then some o else H b
theorem h9{H:Hp}{a:Addr}{o:HO}:upd H a o a=some o:=by unfold upd;rw[if_pos rfl]
theorem j9{H:Hp}{a b:Addr}{o:HO}(h:b≠a):upd H a o b=H b:=by unfold upd;rw[if_neg h]
theorem X7{H:Hp}{a:Addr}{o u:HO}:upd (upd H a o) a u=upd H a u:=by
 funext b;unfold upd;split<;>rfl
theorem zS{H:Hp}{a b:Addr}{o u:HO}(h:H a=some o)(h':H b=some u)(d:o≠u):a≠b:=by
 intro e;subst e;rw[h] at h';exact d (Option.some.inj h')
theorem C3{H:Hp}{a b:Addr}{o:HO}(h:H a=some o)(h':H b=none):a≠b:=by
 intro e;subst e;rw[h] at h';cases h'
section
variable(P:Program)(w:World)
def u6(H:Hp)(h:Heap)(a:Addr):HO->Prop
 | .lst xs=>xs.length<=sizeLine/\∃(its:List Value) (n:Nat),Vals xs its/\h.get? a=some { cls:=.type "list",data:=.seq its.toArray n }
 | .tup xs=>xs.length<=sizeLine/\∃its:List Value,Vals xs its/\IsTup h a its.toArray
 | .dK kvs=>kvs.length<=sizeLine/\(a == sysModules)=false/\∃vs,KV kvs vs/\h.DictOf (o6 P w) a vs
 | .dE kvs ep=>kvs.length<=sizeLine/\(a == sysModules)=false/\∃vs,KV kvs vs/\h.DictAt (o6 P w) a vs ep
 | .dN kvs=>kvs.length<=sizeLine/\(a == sysModules)=false/\∃vs,KV kvs vs/\h.DictOf (aF P w) a vs
 | .dT kvs=>kvs.length<=sizeLine/\(a == sysModules)=false/\∃xs:List (List Key×Addr×Value),
   Paired (fun(p:List Key×V) (q:List Key×Addr×Value)=>p.1=q.1/\H q.2.1=some (.tup (p.1.map kV))/\RelV p.2 q.2.2) kvs xs /\
   ∃o es ep,h.get? a=some o/\o.ExactDict/\o.data=.dict es ep/\es.toList=xs.map (entryOfKey (tupleKind (o6 P w)))/\(xs.map (·.1)).Nodup
 | .set S n=>h.SetOf (o6 P w) a S n
 | .ins C dx fs=>H dx=some (.own a)/\fs.length<=1000/\dx≠a/\h.get? a=some (PySem.W.instObj C dx) /\
   ∃mA,h.Ns1 dx mA/\(∀f,bW (fs.lookup f) (mA f))/\PySem.Within mA (fs.map (·.1))
 | .own _=>∃o,h.get? a=some o
 | .xd fs=>∃mA,h.Ns1 a mA/\∀f,bW (fs.lookup f) (mA f)
 | .rng lo hi=>∃t u v,h.get? a=some { cls:=.type "range",data:=.fields #[.int lo t,.int hi u,.int 1 v] }
 | .frz o u=>h.get? a=some o/\u6 H h a u
 | .tbl ps=>h.get? a=some { cls:=.none,data:=.fields ps }
 | .met f x=>h.get? a=some (PySem.W.methodObj (.ref f) (.ref x))
 | .ext φ=>φ h/\(∃o,h.get? a=some o)/\∀h1 h2:Heap,φ h1->(∀o,h1.get? a=some o->h2.get? a=some o)->φ h2
def S9(H:Hp)(h:Heap):Prop:=∀a o,H a=some o->u6 P w H h a o
end
section
variable{P:Program}{w:World}{H H':Hp}{h h':Heap}{a:Addr}{o:HO}
theorem u6.lt(x:u6 P w H h a o):a<h.objs.size:=by
 cases o with
 | lst xs=>obtain⟨_,_,_,_,e⟩:=x;exact Heap.lt_size e
 | tup xs=>obtain⟨_,_,_,p⟩:=x;exact p.lt
 | dK kvs=>obtain⟨_,_,_,_,o,_,_,e,_⟩:=x;exact Heap.lt_size e
 | dE kvs ep=>obtain⟨_,_,_,_,o,_,e,_⟩:=x;exact Heap.lt_size e
 | dN kvs=>obtain⟨_,_,_,_,o,_,_,e,_⟩:=x;exact Heap.lt_size e
 | dT kvs=>obtain⟨_,_,_,_,o,_,_,e,_⟩:=x;exact Heap.lt_size e
 | set S n=>obtain⟨o,_,_,_,e,_⟩:=x;exact Heap.lt_size e
 | ins C dx fs=>obtain⟨_,_,_,e,_⟩:=x;exact Heap.lt_size e
 | own y=>obtain⟨_,e⟩:=x;exact Heap.lt_size e
 | xd fs=>obtain⟨_,⟨_,_,_,e,_⟩,_⟩:=x;exact Heap.lt_size e
 | rng lo hi=>obtain⟨_,_,_,e⟩:=x;exact Heap.lt_size e
 | frz ob u=>obtain⟨e,_⟩:=x;exact Heap.lt_size e
 | tbl ps=>exact Heap.lt_size (show h.get? a=some _ from x)
 | met f y=>exact Heap.lt_size (show h.get? a=some _ from x)
 | ext φ=>obtain⟨_,⟨_,e⟩,_⟩:=x;exact Heap.lt_size e
theorem Paired.Ij{α β:Type}{F G:α->β->Prop}:∀{l₁:List α} {l₂:List β},Paired F l₁ l₂->(∀a b,F a b->G a b)->Paired G l₁ l₂
 | _,_,.nil,_=>.nil
 | _,_,.cons r t,f=>.cons (f _ _ r) (Paired.Ij t f)
theorem u6.kb(x:u6 P w H h a o)(k:∀b u,(b=a\/H b=some (.own a))->h.get? b=some u->h'.get? b=some u)
  (ho:∀b,H b=some (.own a)->H' b=some (.own a)) (ht:∀b xs,H b=some (.tup xs)->H' b=some (.tup xs)):u6 P w H' h' a o:=by
 induction o with
 | lst xs=>obtain⟨z,its,n,r,e⟩:=x;exact⟨z,its,n,r,k _ _ (.inl rfl) e⟩
 | tup xs=>obtain⟨z,its,r,ob,e,c⟩:=x;exact⟨z,its,r,ob,k _ _ (.inl rfl) e,c⟩
 | dK kvs=>obtain⟨z,y,vs,r,ob,es,ep,e,c⟩:=x;exact⟨z,y,vs,r,ob,es,ep,k _ _ (.inl rfl) e,c⟩
 | dN kvs=>obtain⟨z,y,vs,r,ob,es,ep,e,c⟩:=x;exact⟨z,y,vs,r,ob,es,ep,k _ _ (.inl rfl) e,c⟩
 | dE kvs ep=>obtain⟨z,y,vs,r,ob,es,e,c⟩:=x;exact⟨z,y,vs,r,ob,es,k _ _ (.inl rfl) e,c⟩
 | dT kvs=>
  obtain⟨z,y,xs,r,ob,es,ep,e,c⟩:=x
  exact⟨z,y,xs,Paired.Ij r fun p q z=>⟨z.1,ht _ _ z.2.1,z.2.2⟩,ob,es,ep,k _ _ (.inl rfl) e,c⟩
 | set S n=>obtain⟨ob,es,ep,t,e,c⟩:=x;exact⟨ob,es,ep,t,k _ _ (.inl rfl) e,c⟩
 | ins C dx fs=>
  obtain⟨d,z,ne,e,mA,⟨od,es,ep,e2,c⟩,r⟩:=x
  exact⟨ho _ d,z,ne,k _ _ (.inl rfl) e,mA,⟨od,es,ep,k _ _ (.inr d) e2,c⟩,r⟩
 | own y=>obtain⟨ob,e⟩:=x;exact⟨ob,k _ _ (.inl rfl) e⟩
 | xd fs=>obtain⟨mA,⟨od,es,ep,e,c⟩,r⟩:=x;exact⟨mA,⟨od,es,ep,k _ _ (.inl rfl) e,c⟩,r⟩
 | rng lo hi=>obtain⟨t,u,v,e⟩:=x;exact⟨t,u,v,k _ _ (.inl rfl) e⟩
 | frz ob u ih=>obtain⟨e,q⟩:=x;exact⟨k _ _ (.inl rfl) e,ih q⟩
 | tbl ps=>
  have e:h.get? a=some { cls:=.none,data:=.fields ps }:=x
  show h'.get? a=some { cls:=.none,data:=.fields ps }
  exact k a _ (.inl rfl) e
 | met f y=>
  have e:h.get? a=some (PySem.W.methodObj (.ref f) (.ref y)):=x
  show h'.get? a=some (PySem.W.methodObj (.ref f) (.ref y))
  exact k a _ (.inl rfl) e
 | ext φ=>obtain⟨p,⟨o,e⟩,st⟩:=x;exact⟨st _ _ p fun o q=>k _ _ (.inl rfl) q,⟨o,k _ _ (.inl rfl) e⟩,st⟩
theorem S9.lt(x:S9 P w H h)(e:H a=some o):a<h.objs.size:=(x a o e).lt
theorem S9.fresh(x:S9 P w H h)(e:h.objs.size<=a):H a=none:=by
 cases q:H a with
 | none=>rfl
 | some u=>exact absurd (Nat.lt_of_lt_of_le (x.lt q) e) (Nat.lt_irrefl _)
theorem S9.kept(x:S9 P w H h)(k:∀b u,h.get? b=some u->h'.get? b=some u):S9 P w H h':=fun a o e=>
 (x a o e).kb (fun b u _ q=>k b u q) (fun _ q=>q) fun _ _ q=>q
theorem S9.laid(x:S9 P w H h)(k:∀b u,h.get? b=some u->h'.get? b=some u)(hp:h.objs.size<=a)(new:u6 P w (upd H a o) h' a o):S9 P w (upd H a o) h':=fun b u e=>by
 have hn:=x.fresh hp
 by_cases hb:b=a
 ·subst hb;rw[h9] at e;cases e;exact new
 ·rw[j9 hb] at e
  exact(x b u e).kb (fun c v _ q=>k c v q) (fun c q=>by rw[j9 (C3 q hn)];exact q) fun c xs q=>by rw[j9 (C3 q hn)];exact q
end
def Dd(H:Hp)(a:Addr)(kvs:List (Key×V)):Prop:=H a=some (.dK kvs)\/∃ep,H a=some (.dE kvs ep)
theorem Dd.ok{P:Program}{w:World}{H:Hp}{h:Heap}{a:Addr}{kvs:List (Key×V)}(r:Dd H a kvs)(x:S9 P w H h):u6 P w H h a (.dK kvs):=by
 rcases r with r | ⟨ep,r⟩
 ·exact x a _ r
 ·obtain⟨z,y,vs,r2,d⟩:=(show u6 P w H h a (.dE kvs ep) from x a _ r)
  exact⟨z,y,vs,r2,d.dictOf⟩
def Rd(H:Hp)(a:Addr)(u:HO):Prop:=H a=some u\/∃o,H a=some (.frz o u)
theorem Rd.ok{P:Program}{w:World}{H:Hp}{h:Heap}{a:Addr}{u:HO}(r:Rd H a u)(x:S9 P w H h):u6 P w H h a u:=by
 rcases r with r | ⟨o,r⟩
 ·exact x a u r
 ·obtain⟨_,q⟩:=x a _ r
  exact q
def fe:Option HO->Prop
 | some (.lst _)=>True
 | some (.dK _)=>True
 | some (.dE _ _)=>True
 | some (.dN _)=>True
 | some (.dT _)=>True
 | some (.set _ _)=>True
 | some (.ins _ _ _)=>True
 | some (.ext _)=>True
 | _=>False
theorem Dd.Ml{H:Hp}{a:Addr}{kvs:List (Key×V)}(r:Dd H a kvs):fe (H a):=by
 rcases r with r | ⟨ep,r⟩<;>(rw[r];exact True.intro)
section
variable{P:Program}{w:World}{H:Hp}{h h':Heap}{x e:Addr}{o':HO}
theorem S9.write(ok:S9 P w H h)(mu:fe (H x))(he:e=x\/H e=some (.own x))(k:∀b u,b≠e->h.get? b=some u->h'.get? b=some u)(heo:∃u,h'.get? e=some u)
  (new:u6 P w (upd H x o') h' x o'):S9 P w (upd H x o') h':=fun b u q=>by
 have nown:∀c y,H c=some (.own y)->c≠x:=fun c y r z=>by subst z;rw[r] at mu;exact mu
 have ntup:∀c xs,H c=some (.tup xs)->c≠x:=fun c xs r z=>by subst z;rw[r] at mu;exact mu
 by_cases hb:b=x
 ·subst hb;rw[h9] at q;cases q;exact new
 ·rw[j9 hb] at q
  by_cases hbe:b=e
  ·have q':H b=some (.own x):=by
    rcases he with z | z
    ·exact absurd (hbe.trans z) hb
    ·rw[hbe];exact z
   rw[q] at q';cases q'
   obtain⟨v,hv⟩:=heo
   exact⟨v,by rw[hbe];exact hv⟩
  ·refine(ok b u q).kb (fun c v hc r=>k c v ?_ r) (fun c r=>by rw[j9 (nown c b r)];exact r) fun c xs r=>by rw[j9 (ntup c xs r)];exact r
   rcases hc with rfl | hc
   ·exact hbe
   ·rintro rfl
    rcases he with z | z
    ·exact nown c b hc z
    ·rw[hc] at z;cases z;exact hb rfl
end
structure Un(fs ex:List Addr)(H H':Hp)(h h':Heap):Prop where
 keep:∀b o,h.get? b=some o->H b=none->b∉fs->b∉ex->h'.get? b=some o
 slot:∀b o,h.get? b=some o->H b=none->b∈fs->b∉ex->∃sl,h'.get? b=some { o with slots:=sl }
 free:∀b o,h.get? b=some o->H b=none->b∉ex->H' b=none
 there:∀b o,h.get? b=some o->b∉ex->∃o',h'.get? b=some o'
 R9:∀b xs,H b=some (.tup xs)->H' b=some (.tup xs)
 frzs:∀b o u,H b=some (.frz o u)->H' b=some (.frz o u)
 tbls:∀b ps,H b=some (.tbl ps)->∃more,H' b=some (.tbl (ps++more))
section
variable{fs fs' ex ex':List Addr}{H H1 H2:Hp}{h h1 h2 h':Heap}{a x e:Addr}{o:HO}
theorem Un.any(u:Un fs ex H H1 h h1){b:Addr}{ob:Obj}(q:h.get? b=some ob)(n:H b=none)(hx:b∉ex):∃sl,h1.get? b=some { ob with slots:=sl }:=by
 by_cases hb:b∈fs
 ·exact u.slot b ob q n hb hx
 ·exact⟨ob.slots,u.keep b ob q n hb hx⟩
theorem Un.trans(a:Un fs ex H H1 h h1)(b:Un fs ex H1 H2 h1 h2):Un fs ex H H2 h h2 where
 keep:=fun c ob q n hc hx=>b.keep c ob (a.keep c ob q n hc hx) (a.free c ob q n hx) hc hx
 slot:=fun c ob q n hc hx=>by
  obtain⟨sl,e1⟩:=a.slot c ob q n hc hx
  obtain⟨sl',e2⟩:=b.slot c _ e1 (a.free c ob q n hx) hc hx
  exact⟨sl',e2⟩
 free:=fun c ob q n hx=>by
  obtain⟨o',e1⟩:=a.there c ob q hx
  exact b.free c o' e1 (a.free c ob q n hx) hx
 there:=fun c ob q hx=>by
  obtain⟨o',e1⟩:=a.there c ob q hx
  exact b.there c o' e1 hx
 R9:=fun c xs q=>b.R9 c xs (a.R9 c xs q)
 frzs:=fun c ob xs q=>b.frzs c ob xs (a.frzs c ob xs q)
 tbls:=fun c ps q=>by
  obtain⟨m1,e1⟩:=a.tbls c ps q
  obtain⟨m2,e2⟩:=b.tbls c _ e1
  exact⟨m1++m2,by rw[e2,Array.append_assoc]⟩
theorem Un.kept(k:∀b u,h.get? b=some u->h'.get? b=some u):Un fs ex H H h h':=
 ⟨fun b ob q _ _ _=>k b ob q,fun b ob q _ _ _=>⟨ob.slots,k b ob q⟩,fun _ _ _ n _=>n,fun b ob q _=>⟨ob,k b ob q⟩,fun _ _ q=>q,fun _ _ _ q=>q,fun _ ps q=>⟨#[],by rw[q];simp⟩⟩
theorem Un.refl:Un fs ex H H h h:=Un.kept fun _ _ q=>q
theorem Un.laid(k:∀b u,h.get? b=some u->h'.get? b=some u)(hp:h.objs.size<=a)(hn:H a=none):Un fs ex H (upd H a o) h h' where
 keep:=fun b u q _ _ _=>k b u q
 slot:=fun b u q _ _ _=>⟨u.slots,k b u q⟩
 free:=fun b u q n _=>by rw[j9 (Nat.ne_of_lt (Nat.lt_of_lt_of_le (Heap.lt_size q) hp))];exact n
 there:=fun b u q _=>⟨u,k b u q⟩
 R9:=fun b xs q=>by rw[j9 (C3 q hn)];exact q
 frzs:=fun b u xs q=>by rw[j9 (C3 q hn)];exact q
 tbls:=fun b ps q=>⟨#[],by rw[j9 (C3 q hn),q];simp⟩
theorem Un.write(mu:fe (H x))(he:e=x\/H e=some (.own x))(k:∀b u,b≠e->h.get? b=some u->h'.get? b=some u)(heo:∃u,h'.get? e=some u):Un fs ex H (upd H x o) h h':=by
 have hx:∀b,H b=none->b≠x:=fun b n z=>by subst z;rw[n] at mu;exact mu
 have hb:∀b,H b=none->b≠e:=fun b n z=>by
  subst z
  rcases he with r | r
  ·exact hx b n r
  ·rw[n] at r;cases r
 have hm:∀b u,H b=some u->¬fe (some u)->b≠x:=fun b u q nm z=>by subst z;rw[q] at mu;exact nm mu
 refine⟨fun b u q n _ _=>k b u (hb b n) q,fun b u q n _ _=>⟨u.slots,k b u (hb b n) q⟩,fun b u q n _=>by rw[j9 (hx b n)];exact n,fun b u q _=>?_,
  fun b xs q=>by rw[j9 (hm b _ q fun z=>z)];exact q,fun b u xs q=>by rw[j9 (hm b _ q fun z=>z)];exact q,fun b ps q=>⟨#[],by rw[j9 (hm b _ q fun z=>z),q];simp⟩⟩
 by_cases hbe:b=e
 ·subst hbe;exact heo
 ·exact⟨u,k b u hbe q⟩
theorem Un.mono(u:Un fs ex H H1 h h1)(hs:∀b∈fs,b∈fs')(hx:∀b∈ex,b∈ex'):Un fs' ex' H H1 h h1:=
 ⟨fun b ob q n hb he=>u.keep b ob q n (fun z=>hb (hs b z)) fun z=>he (hx b z),fun _ _ q n _ he=>u.any q n fun z=>he (hx _ z),fun b ob q n he=>u.free b ob q n fun z=>he (hx b z),fun b ob q he=>u.there b ob q fun z=>he (hx b z),u.R9,u.frzs,u.tbls⟩
end
def Y4(h:Heap)(H:Hp):List Addr:=(List.range h.objs.size).filter fun a=>(H a).isSome
def kH(h:Heap)(H:Hp):Heap:=PySem.W.hideAll h (Y4 h H)
theorem uV(h:Heap)(H:Hp):(kH h H).objs.size=h.objs.size:=PySem.W.hideAll_size _ _
theorem yT{h:Heap}{H:Hp}{b:Addr}{o:Obj}(e:h.get? b=some o)(n:H b=none):(kH h H).get? b=some o:=
 PySem.W.hideAll_get _ e fun hm=>by
  have q:(H b).isSome=true:=(List.mem_filter.mp hm).2
  rw[n] at q;simp at q
theorem DO{h:Heap}{H:Hp}{b:Addr}{o:Obj}(e:(kH h H).get? b=some o):h.get? b=some o/\H b=none:=by
 have e':h.get? b=some o:=PySem.W.of_hideAll (Y4 h H) e
 refine⟨e',?_⟩
 cases q:H b with
 | none=>rfl
 | some x=>
  have hm:b∈Y4 h H:=List.mem_filter.mpr ⟨List.mem_range.mpr (Heap.lt_size e'),by simp[q]⟩
  have z:(kH h H).get? b=none:=PySem.W.hideAll_none (Y4 h H) hm
  rw[z] at e;cases e
structure Mod(K:PySem.W.Frag)(mg:Str->Option Value)(base:Heap):Prop where
 kin:K.In base
 glob:base.Ns mainGlobals mg
 blt:∃mb,base.Ns builtinsNs mb/\∀x:Str,x ≠ "__name__"->mb x=bootBuiltins x
 nolimit:base.NoLimit
structure Cx where
 prog:Program
 w:World
 K:PySem.W.Frag
 mg:Str->Option Value
 base:Heap
 A:Around
 N:List Str
 s₀:Shared
 H₀:Hp
 env:Env
 outer:List Env
 stack:List Env
 ex:List Addr
 fn:Str->Bool
 calm:Bool
 pn:List (Addr×Obj)
 xe:Value->Shared->Prop
def Y2(l:List Env):List Addr:=l.filterMap (·.frame)
abbrev Cx.fs(X:Cx):List Addr:=Y2 X.outer
def KA(sc:Scope)(x:Str):Prop:=sc.names.lookup x=some .local\/sc.names.lookup x=some .cell\/sc.names.lookup x=some .free
def Loc(sc:Scope)(x:Str):Prop:=sc.names.lookup x=some .local\/sc.names.lookup x=some .cell
def Look(env:Env)(h:Heap)(m:Str->Option Value)(x:Str)(u:Value):Prop:=
 (env.kindOf x=some .local/\m x=some u)\/((env.kindOf x=some .cell\/env.kindOf x=some .free)/\∃c,env.cells.lookup x=some c/\h.IsCell c (some u))
structure Cx.Ok(X:Cx):Prop where
 mod:Mod X.K X.mg X.base
 kind:X.env.scope.kind=.function
 glob:X.env.globals=mainGlobals
 blt:X.env.builtins=builtinsNs
 above:X.s₀.heap.objs.size<=X.env.locals
 inj:∀x y c,X.env.cells.lookup x=some c->X.env.cells.lookup y=some c->x=y
 has:∀x,(X.env.kindOf x=some .cell\/X.env.kindOf x=some .free)->∃c,X.env.cells.lookup x=some c
 cab:∀x c,X.fn x=true->X.env.cells.lookup x=some c->X.s₀.heap.objs.size<=c
 hd:X.calm=true->X.A.handled=none
 frames:X.A.frames=some X.stack
 stk:X.stack=X.outer\/(X.stack=X.env::X.outer/\X.env.frame=some X.env.locals)
 exf:∀b∈X.ex,b≠X.env.locals/\∀x c,X.env.cells.lookup x=some c->c≠b
 bs:∀b o,X.base.get? b=some o->X.s₀.heap.get? b=some o/\X.H₀ b=none
 bsz:X.base.objs.size<=X.s₀.heap.objs.size
 noex:∀b o,X.base.get? b=some o->b∉X.ex
 exfs:∀b∈X.ex,b∉X.fs
 eF:X.s₀.heap.FunFrames X.base X.outer
 frf:∀b∈X.fs,X.H₀ b=none
structure Inv(X:Cx)(pins:List (Addr×Obj))(σ:List (Option V))(H:Hp)(s:Shared):Prop where
 ok:X.Ok
 os:s.os=X.s₀.os
 bare:AllBare s.gens
 base:Un X.fs X.ex X.H₀ H X.s₀.heap s.heap
 loc:∃m,s.heap.Ns X.env.locals m/\∀(i:Nat) (x:Str) (v:V),X.N[i]?=some x->σ[i]?=some (some v)->KA X.env.scope x->∃u,RelV v u/\Look X.env s.heap m x u
 cell:∀x c,X.env.cells.lookup x=some c->∃v,s.heap.IsCell c v
 free:H X.env.locals=none
 freeC:∀x c,X.env.cells.lookup x=some c->H c=none
 pin:∀p∈X.pn++pins,s.heap.get? p.1=some p.2/\H p.1=none/\p.1≠X.env.locals/\p.1∉X.fs/\∀v,p.2.data≠.cell v
 hok:S9 X.prog X.w H s.heap
 len:σ.length=X.N.length
section
variable{X:Cx}{pins:List (Addr×Obj)}{σ:List (Option V)}{H H':Hp}{s:Shared}{h':Heap}
theorem Cx.Ok.LI(ok:X.Ok){b:Addr}{o:Obj}(e:X.base.get? b=some o):b∉X.fs:=fun hb=>by
 have:=(ok.eF.mem hb).1
 rw[e] at this;cases this
theorem Inv.bs(I:Inv X pins σ H s):∀b o,X.base.get? b=some o->s.heap.get? b=some o/\H b=none:=fun b o e=>
 ⟨I.base.keep b o (I.ok.bs b o e).1 (I.ok.bs b o e).2 (I.ok.LI e) (I.ok.noex b o e),I.base.free b o (I.ok.bs b o e).1 (I.ok.bs b o e).2 (I.ok.noex b o e)⟩
theorem Inv.bk(I:Inv X pins σ H s):∀b o,X.base.get? b=some o->s.heap.get? b=some o:=fun b o e=>(I.bs b o e).1
theorem Inv.mod(I:Inv X pins σ H s):Mod X.K X.mg X.base:=I.ok.mod
theorem Inv.mE(I:Inv X pins σ H s):X.K.In s.heap:=I.ok.mod.kin.keeps I.bk
theorem Inv.lt(I:Inv X pins σ H s):X.env.locals<s.heap.objs.size:=let ⟨_,hn,_⟩:=I.loc;hn.lt
theorem Inv.sz(I:Inv X pins σ H s):X.s₀.heap.objs.size<=s.heap.objs.size:=Nat.le_trans I.ok.above (Nat.le_of_lt I.lt)
theorem Inv.LM(I:Inv X pins σ H s){a:Addr}(h:s.heap.objs.size<=a):a∉X.fs:=fun hb=>by
 obtain⟨_,o,ho,_⟩:=I.ok.eF.mem hb
 exact absurd (Nat.lt_of_lt_of_le (Heap.lt_size ho) (Nat.le_trans I.sz h)) (Nat.lt_irrefl _)
theorem Inv.Gp(I:Inv X pins σ H s):∀x c,X.env.cells.lookup x=some c->c≠X.env.locals:=fun x c e z=>by
 obtain⟨v,o,ho,hd⟩:=I.cell x c e
 obtain⟨m,⟨o',es,ep,ho',hd',_⟩,_⟩:=I.loc
 rw[z,ho'] at ho;cases ho;rw[hd'] at hd;cases hd
theorem Inv.eF(I:Inv X pins σ H s):s.heap.FunFrames X.base X.outer:=by
 have all:∀(l:List Env),(∀b∈Y2 l,b∈X.fs)->X.s₀.heap.FunFrames X.base l->s.heap.FunFrames X.base l:=by
  intro l
  induction l with
  | nil=>intro _ _;trivial
  | cons env r ih=>
   intro hs hl
   obtain⟨hk,⟨L,o,hf,hn,ho,hd⟩,hr⟩:=hl
   have hL:L∈X.fs:=hs L (by unfold Y2;rw[List.filterMap_cons,hf];exact List.mem_cons_self)
   obtain⟨sl,e⟩:=I.base.slot L o ho (I.ok.frf L hL) hL fun z=>I.ok.exfs L z hL
   exact⟨hk,⟨L,_,hf,hn,e,hd⟩,ih (fun b hb=>hs b (by unfold Y2;rw[List.filterMap_cons,hf];exact List.mem_cons_of_mem _ hb)) hr⟩
 exact all X.outer (fun _ hb=>hb) I.ok.eF
theorem Inv.stack(I:Inv X pins σ H s):s.heap.FunFrames X.base X.stack:=by
 rcases I.ok.stk with e | ⟨e,hf⟩
 ·rw[e];exact I.eF
 ·rw[e]
  obtain⟨m,hn,_⟩:=I.loc
  refine .cons (by rw[I.ok.kind];decide) hf hn ?_ I.eF
  exact Heap.get?_none_of_le (Nat.le_trans I.ok.bsz I.ok.above)
theorem Inv.qS(I:Inv X pins σ H s):∀b∈Y2 X.stack,b∈X.env.locals::X.fs:=fun b hb=>by
 rcases I.ok.stk with e | ⟨e,hf⟩
 ·rw[e] at hb;exact List.mem_cons_of_mem _ hb
 ·rw[e] at hb
  unfold Y2 at hb
  rw[List.filterMap_cons,hf] at hb
  exact hb
theorem Inv.kK(I:Inv X pins σ H s):∀b∈Y2 X.stack,H b=none:=fun b hb=>by
 rcases List.mem_cons.mp (I.qS b hb) with e | hb
 ·rw[e];exact I.free
 ·obtain⟨_,o,ho,_⟩:=I.ok.eF.mem hb
  exact I.base.free b o ho (I.ok.frf b hb) fun z=>I.ok.exfs b z hb
theorem Inv.step{g':Array GenState}{t':Nat}{d':Drawn}{ch:List Addr}(I:Inv X pins σ H s)
  (hch:∀b∈ch,(b∈X.ex\/X.s₀.heap.objs.size<=b)/\b≠X.env.locals/\(∀x c,X.env.cells.lookup x=some c->c≠b)/\∀p∈X.pn++pins,p.1≠b)
  (keep:∀b o,b≠X.env.locals->b∉X.fs->b∉ch->s.heap.get? b=some o->H b=none->h'.get? b=some o)
  (slot:∀b o,b≠X.env.locals->b∈X.fs->b∉ch->s.heap.get? b=some o->H b=none->∃sl,h'.get? b=some { o with slots:=sl }) (free:∀b o,b∉ch->s.heap.get? b=some o->H b=none->H' b=none)
  (there:∀b o,b∉ch->s.heap.get? b=some o->∃o',h'.get? b=some o')
  (R9:∀b xs,H b=some (.tup xs)->H' b=some (.tup xs)) (frzs:∀b o u,H b=some (.frz o u)->H' b=some (.frz o u)) (tbls:∀b ps,H b=some (.tbl ps)->∃more,H' b=some (.tbl (ps++more)))
  (ns:∀m,s.heap.Ns X.env.locals m->h'.Ns X.env.locals m) (hok:S9 X.prog X.w H' h') (hg:AllBare g') :
  Inv X pins σ H' { s with heap:=h',gens:=g',drawn:=d',toks:=t' }:=by
 have neL:∀b o,X.s₀.heap.get? b=some o->b≠X.env.locals:=fun b o e=>Nat.ne_of_lt (Nat.lt_of_lt_of_le (Heap.lt_size e) I.ok.above)
 have neC:∀b o,X.s₀.heap.get? b=some o->b∉X.ex->b∉ch:=fun b o e hx hb=>by
  rcases(hch b hb).1 with z | z
  ·exact hx z
  ·exact absurd (Nat.lt_of_lt_of_le (Heap.lt_size e) z) (Nat.lt_irrefl _)
 have cellK:∀x c,X.env.cells.lookup x=some c->∀v,s.heap.IsCell c v->h'.IsCell c v:=fun x c e v ⟨o,ho,hd⟩=>by
  have nch:c∉ch:=fun z=>(hch c z).2.2.1 x c e rfl
  by_cases hc:c∈X.fs
  ·obtain⟨sl,q⟩:=slot c o (I.Gp x c e) hc nch ho (I.freeC x c e)
   exact⟨_,q,hd⟩
  ·exact⟨o,keep c o (I.Gp x c e) hc nch ho (I.freeC x c e),hd⟩
 refine⟨I.ok,I.os,hg,⟨fun b o e n hb hx=>?_,fun b o e n hb hx=>?_,fun b o e n hx=>?_,fun b o e hx=>?_,fun b xs e=>R9 b xs (I.base.R9 b xs e),fun b o xs e=>frzs b o xs (I.base.frzs b o xs e),fun b ps e=>?_⟩,?_,fun x c e=>?_,?_,fun x c e=>?_,fun p hp=>?_,hok,I.len⟩
 ·exact keep b o (neL b o e) hb (neC b o e hx) (I.base.keep b o e n hb hx) (I.base.free b o e n hx)
 ·obtain⟨sl,e1⟩:=I.base.slot b o e n hb hx
  obtain⟨sl',e2⟩:=slot b _ (neL b o e) hb (neC b o e hx) e1 (I.base.free b o e n hx)
  exact⟨sl',e2⟩
 ·obtain⟨o',e1⟩:=I.base.there b o e hx
  exact free b o' (neC b o e hx) e1 (I.base.free b o e n hx)
 ·obtain⟨o',e1⟩:=I.base.there b o e hx
  exact there b o' (neC b o e hx) e1
 ·obtain⟨m1,e1⟩:=I.base.tbls b ps e
  obtain⟨m2,e2⟩:=tbls b _ e1
  exact⟨m1++m2,by rw[e2,Array.append_assoc]⟩
 ·obtain⟨m,hn,hl⟩:=I.loc
  refine⟨m,ns m hn,fun i x v e1 e2 e3=>?_⟩
  obtain⟨u,r,l⟩:=hl i x v e1 e2 e3
  refine⟨u,r,?_⟩
  rcases l with l | ⟨k,c,e,z⟩
  ·exact .inl l
  ·exact .inr ⟨k,c,e,cellK x c e _ z⟩
 ·obtain⟨v,z⟩:=I.cell x c e
  exact⟨v,cellK x c e v z⟩
 ·obtain⟨m,⟨o,_,_,ho,_⟩,_⟩:=I.loc
  exact free _ o (fun z=>(hch _ z).2.1 rfl) ho I.free
 ·obtain⟨v,o,ho,hd⟩:=I.cell x c e
  exact free c o (fun z=>(hch c z).2.2.1 x c e rfl) ho (I.freeC x c e)
 ·obtain⟨e,n,ne,nf,d⟩:=I.pin p hp
  have nch:p.1∉ch:=fun z=>(hch p.1 z).2.2.2 p hp rfl
  exact⟨keep p.1 p.2 ne nf nch e n,free p.1 p.2 nch e n,ne,nf,d⟩
theorem Inv.un{t':Nat}(I:Inv X pins σ H s)(u:Un X.fs [] H H' s.heap h')(hok:S9 X.prog X.w H' h'):Inv X pins σ H' { s with heap:=h',toks:=t' }:=by
 obtain⟨m,⟨o,es,ep,ho,r⟩,_⟩:=id I.loc
 obtain⟨sl,hL⟩:=u.any ho I.free (by simp)
 exact I.step (g':=s.gens) (d':=s.drawn) (ch:=[]) (fun _ z=>nomatch z) (fun b o _ hb _ e n=>u.keep b o e n hb (by simp)) (fun b o _ hb _ e n=>u.slot b o e n hb (by simp)) (fun b o _ e n=>u.free b o e n (by simp)) (fun b o _ e=>u.there b o e (by simp)) u.R9 u.frzs u.tbls (fun m' hm=>by
  obtain⟨o',es',ep',ho',r'⟩:=hm
  rw[ho] at ho';cases ho'
  exact⟨_,es',ep',hL,r'⟩) hok I.bare
theorem Inv.call{g':Array GenState}{t':Nat}{d':Drawn}{ch:List Addr}(I:Inv X pins σ H s)(u:Un (Y2 X.stack) ch H H' s.heap h')(hok:S9 X.prog X.w H' h')(hg:AllBare g')
  (hch:∀b∈ch,(b∈X.ex\/X.s₀.heap.objs.size<=b)/\b≠X.env.locals/\(∀x c,X.env.cells.lookup x=some c->c≠b)/\∀p∈X.pn++pins,p.1≠b) :
  Inv X pins σ H' { s with heap:=h',gens:=g',drawn:=d',toks:=t' }:=by
 obtain⟨m,⟨o,es,ep,ho,r⟩,_⟩:=id I.loc
 obtain⟨sl,hL⟩:=u.any ho I.free fun z=>(hch _ z).2.1 rfl
 exact I.step (ch:=ch) hch (fun b o hL hb hc e n=>u.keep b o e n (fun z=>(List.mem_cons.mp (I.qS b z)).elim hL hb) hc) (fun b o _ _ hc e n=>u.any e n hc) (fun b o hc e n=>u.free b o e n hc) (fun b o hc e=>u.there b o e hc) u.R9 u.frzs u.tbls (fun m' hm=>by
  obtain⟨o',es',ep',ho',r'⟩:=hm
  rw[ho] at ho';cases ho'
  exact⟨_,es',ep',hL,r'⟩) hok hg
theorem Inv.turned{t':Nat}{it:Addr}(I:Inv X pins σ H s)(k:∀b o,b≠it->s.heap.get? b=some o->h'.get? b=some o)(hn:H it=none)(hL:it≠X.env.locals)
  (h1:it∈X.ex\/X.s₀.heap.objs.size<=it) (h2:∀x c,X.env.cells.lookup x=some c->c≠it) (h3:∀p∈X.pn++pins,p.1≠it):Inv X pins σ H { s with heap:=h',toks:=t' }:=by
 have nit:∀b u,H b=some u->b≠it:=fun b u e z=>by rw[z,hn] at e;cases e
 refine I.step (g':=s.gens) (d':=s.drawn) (ch:=[it]) (fun b hb=>?_) (fun b o _ _ hc e _=>k b o (fun z=>hc (by simp[z])) e) (fun b o _ _ hc e _=>⟨o.slots,k b o (fun z=>hc (by simp[z])) e⟩) (fun _ _ _ _ n=>n)
  (fun b o hc e=>⟨o,k b o (fun z=>hc (by simp[z])) e⟩) (fun _ _ e=>e) (fun _ _ _ e=>e) (fun b ps e=>⟨#[],by rw[e];simp⟩) (fun m hm=>?_) (fun b u e=>?_) I.bare
 ·have e:b=it:=by simpa using hb
  subst e
  exact⟨h1,hL,h2,h3⟩
 ·obtain⟨o,es,ep,ho,r⟩:=hm
  exact⟨o,es,ep,k _ o (Ne.symm hL) ho,r⟩
 ·refine(I.hok b u e).kb (fun c v hc q=>k c v ?_ q) (fun _ q=>q) fun _ _ q=>q
  rcases hc with z | z
  ·rw[z];exact nit b u e
  ·exact nit c _ z
theorem Inv.tok(I:Inv X pins σ H s)(t:Nat):Inv X pins σ H { s with toks:=t }:=I.un (h':=s.heap) (t':=t) Un.refl I.hok
theorem Inv.kept{t':Nat}(I:Inv X pins σ H s)(k:∀b u,s.heap.get? b=some u->h'.get? b=some u):Inv X pins σ H { s with heap:=h',toks:=t' }:=I.un (Un.kept k) (I.hok.kept k)
theorem Inv.laid{a:Addr}{o:HO}{t':Nat}(I:Inv X pins σ H s)(k:∀b u,s.heap.get? b=some u->h'.get? b=some u)(hp:s.heap.objs.size<=a)(new:u6 X.prog X.w (upd H a o) h' a o) :
  Inv X pins σ (upd H a o) { s with heap:=h',toks:=t' }:=I.un (Un.laid k hp (I.hok.fresh hp)) (I.hok.laid k hp new)
theorem Inv.write{x e:Addr}{o:HO}{t':Nat}(I:Inv X pins σ H s)(mu:fe (H x))(he:e=x\/H e=some (.own x))(k:∀b u,b≠e->s.heap.get? b=some u->h'.get? b=some u)(heo:∃u,h'.get? e=some u)
  (new:u6 X.prog X.w (upd H x o) h' x o):Inv X pins σ (upd H x o) { s with heap:=h',toks:=t' }:=I.un (Un.write mu he k heo) (I.hok.write mu he k heo new)
theorem Inv.rH{pins':List (Addr×Obj)}(I:Inv X pins σ H s)(h:∀p∈pins',s.heap.get? p.1=some p.2/\H p.1=none/\p.1≠X.env.locals/\p.1∉X.fs/\∀v,p.2.data≠.cell v):Inv X pins' σ H s:=
 ⟨I.ok,I.os,I.bare,I.base,I.loc,I.cell,I.free,I.freeC,fun p hp=>(List.mem_append.mp hp).elim (fun z=>I.pin p (List.mem_append_left _ z)) (h p),I.hok,I.len⟩
theorem lB{N:List Str}(hN:N.Nodup){i j:Nat}{x:Str}(a:N[i]?=some x)(b:N[j]?=some x):i=j:=by
 obtain⟨h1,e1⟩:=List.getElem?_eq_some_iff.mp a
 obtain⟨h2,e2⟩:=List.getElem?_eq_some_iff.mp b
 exact(List.getElem_inj hN).mp (e1.trans e2.symm)
theorem dq{M:Model}{A:Around}{E:Value->Shared->Prop}{i:Nat}{x:Str}{v:V}{u:Value}{Q:Unit->Shared->Prop}(I:Inv X pins σ H s)(hN:X.N.Nodup)(hi:X.N[i]?=some x)(hx:Loc X.env.scope x)(r:RelV v u)
  (h:∀s',Inv X pins (σ.set i (some v)) H s'->(∃a,Heap.SameBut a s.heap s'.heap/\(a=X.env.locals\/X.env.cells.lookup x=some a))->Q () s') (hf:X.fn x=true\/X.env.scope.names.lookup x=some .local:=by first | exact .inl rfl | exact .inr rfl | assumption):wpAny M A (storeName X.env x u) Q E s:=by
 obtain⟨m,hn,hl⟩:=id I.loc
 have hcls:(X.env.scope.kind == .class||(X.env.scope.kind == .module&&X.env.locals != X.env.globals))=false:=by rw[I.ok.kind];rfl
 have hiσ:i<σ.length:=by rw[I.len];exact(List.getElem?_eq_some_iff.mp hi).1
 have Gp:=I.Gp
 have tracked:∀{a:Addr} {h':Heap},(∃o,s.heap.get? a=some o/\H a=none)->Heap.SameBut a s.heap h'->S9 X.prog X.w H h':=fun {a h'} ha hs b ob e=>by
  obtain⟨_,_,hfree⟩:=ha
  refine(I.hok b ob e).kb (fun c w' hc q=>(hs.2 c ?_).trans q) (fun _ q=>q) fun _ _ q=>q
  rintro rfl
  rcases hc with rfl | hc
  ·rw[hfree] at e;cases e
  ·rw[hfree] at hc;cases hc
 rcases hx with hk | hk
 ·refine wpAny_storeName_local hk hn (fun h' hn' hs=>?_) hcls
  obtain⟨oL,_,_,hoL,_⟩:=id hn
  refine h _ ⟨I.ok,I.os,I.bare,⟨fun b o e n hb hx=>?_,fun b o e n hb hx=>?_,I.base.free,fun b o e hx=>?_,I.base.R9,I.base.frzs,I.base.tbls⟩,⟨_,hn',fun j y v' e1 e2 e3=>?_⟩,fun y c e=>?_,I.free,I.freeC,fun p hp=>?_,tracked ⟨oL,hoL,I.free⟩ hs,by simpa using I.len⟩ ⟨_,hs,.inl rfl⟩
  ·exact(hs.2 b (Nat.ne_of_lt (Nat.lt_of_lt_of_le (Heap.lt_size e) I.ok.above))).trans (I.base.keep b o e n hb hx)
  ·obtain⟨sl,e1⟩:=I.base.slot b o e n hb hx
   exact⟨sl,(hs.2 b (Nat.ne_of_lt (Nat.lt_of_lt_of_le (Heap.lt_size e) I.ok.above))).trans e1⟩
  ·obtain⟨o',e1⟩:=I.base.there b o e hx
   exact⟨o',(hs.2 b (Nat.ne_of_lt (Nat.lt_of_lt_of_le (Heap.lt_size e) I.ok.above))).trans e1⟩
  ·by_cases hj:j=i
   ·subst hj
    rw[hi] at e1;cases e1
    rw[List.getElem?_set_self hiσ] at e2
    cases e2
    exact⟨u,r,.inl ⟨hk,by simp⟩⟩
   ·rw[List.getElem?_set_ne (Ne.symm hj)] at e2
    obtain⟨u',r',q⟩:=hl j y v' e1 e2 e3
    refine⟨u',r',?_⟩
    rcases q with⟨k,e⟩ | ⟨k,c,e,z⟩
    ·refine .inl ⟨k,?_⟩
     have:y≠x:=fun e=>hj (lB hN e1 (e▸hi))
     simp[this,e]
    ·exact .inr ⟨k,c,e,z.sameBut hs (Gp y c e)⟩
  ·obtain⟨w',z⟩:=I.cell y c e
   exact⟨w',z.sameBut hs (Gp y c e)⟩
  ·obtain⟨e,n,ne,nf,d⟩:=I.pin p hp
   exact⟨(hs.2 p.1 ne).trans e,n,ne,nf,d⟩
 ·have hfn:X.fn x=true:=by
   rcases hf with z | z
   ·exact z
   ·rw[z] at hk;cases hk
  obtain⟨c,hc⟩:=I.ok.has x (.inl hk)
  obtain⟨w',z⟩:=I.cell x c hc
  refine wpAny_storeName_cell I.ok.kind hk hc z (fun h' hc' hs=>?_)
  obtain⟨oc,hoc,hocd⟩:=id z
  refine h { s with heap:=h' } ⟨I.ok,I.os,I.bare,⟨fun b o e n hb hx=>?_,fun b o e n hb hx=>?_,I.base.free,fun b o e hx=>?_,I.base.R9,I.base.frzs,I.base.tbls⟩,⟨m,hn.sameBut hs (Ne.symm (Gp x c hc)),fun j y v' e1 e2 e3=>?_⟩,fun y c' e=>?_,I.free,I.freeC,fun p hp=>?_,tracked ⟨oc,hoc,I.freeC x c hc⟩ hs,by simpa using I.len⟩ ⟨c,hs,.inr hc⟩
  ·exact(hs.2 b (Nat.ne_of_lt (Nat.lt_of_lt_of_le (Heap.lt_size e) (I.ok.cab x c hfn hc)))).trans (I.base.keep b o e n hb hx)
  ·obtain⟨sl,e1⟩:=I.base.slot b o e n hb hx
   exact⟨sl,(hs.2 b (Nat.ne_of_lt (Nat.lt_of_lt_of_le (Heap.lt_size e) (I.ok.cab x c hfn hc)))).trans e1⟩
  ·obtain⟨o',e1⟩:=I.base.there b o e hx
   exact⟨o',(hs.2 b (Nat.ne_of_lt (Nat.lt_of_lt_of_le (Heap.lt_size e) (I.ok.cab x c hfn hc)))).trans e1⟩
  ·by_cases hj:j=i
   ·subst hj
    rw[hi] at e1;cases e1
    rw[List.getElem?_set_self hiσ] at e2
    cases e2
    exact⟨u,r,.inr ⟨.inl hk,c,hc,hc'⟩⟩
   ·rw[List.getElem?_set_ne (Ne.symm hj)] at e2
    obtain⟨u',r',q⟩:=hl j y v' e1 e2 e3
    refine⟨u',r',?_⟩
    rcases q with q | ⟨k,c',e,z'⟩
    ·exact .inl q
    ·refine .inr ⟨k,c',e,z'.sameBut hs ?_⟩
     rintro rfl
     exact hj (lB hN e1 (I.ok.inj _ _ _ e hc▸hi))
  ·by_cases hcc:c'=c
   ·subst hcc;exact⟨_,hc'⟩
   ·obtain⟨w2,z2⟩:=I.cell y c' e
    exact⟨w2,z2.sameBut hs hcc⟩
  ·obtain⟨e,n,ne,nf,d⟩:=I.pin p hp
   refine⟨(hs.2 p.1 ?_).trans e,n,ne,nf,d⟩
   intro q
   rw[q,hoc] at e
   have q':oc=p.2:=Option.some.inj e
   exact d w' (by rw[<-q'];exact hocd)
theorem bV{M:Model}{A:Around}{E:Value->Shared->Prop}{i:Nat}{x:Str}{v:V}{u:Value}{Q:Unit->Shared->Prop}(I:Inv X pins σ H s)(hN:X.N.Nodup)(hi:X.N[i]?=some x)(hx:Loc X.env.scope x)(r:RelV v u)
  (h:∀s',Inv X pins (σ.set i (some v)) H s'->Q () s') (hf:X.fn x=true\/X.env.scope.names.lookup x=some .local:=by first | exact .inl rfl | exact .inr rfl | assumption):wpAny M A (storeName X.env x u) Q E s:=
 dq I hN hi hx r (fun s' I' _=>h s' I') hf
theorem Inv.Fg{s':Shared}{ch:List Addr}(I:Inv X pins σ H s)(ho:s'.os=s.os)(u:Un (Y2 X.stack) ch H H' s.heap s'.heap)(hok:S9 X.prog X.w H' s'.heap)(hg:AllBare s'.gens)
  (hch:∀b∈ch,(b∈X.ex\/X.s₀.heap.objs.size<=b)/\b≠X.env.locals/\(∀x c,X.env.cells.lookup x=some c->c≠b)/\∀p∈X.pn++pins,p.1≠b):Inv X pins σ H' s':=by
 obtain⟨h',g',d',t',o'⟩:=s'
 have e:o'=s.os:=ho
 subst e
 exact I.call (g':=g') (t':=t') (d':=d') u hok hg hch
end
abbrev XK:=Value->Option Addr->Hp->Prop
abbrev St:=List (Option V)
abbrev VK:=V->Hp->Prop
abbrev TE:=St->Hp->VK->Prop
abbrev TT:=St->Hp->(Bool->Hp->Prop)->Prop
abbrev TA:=St->Hp->(List V->Hp->Prop)->Prop
structure Ends where
 nx:St->Hp->Prop
 rt:VK
 bk:St->Hp->Prop:=fun _ _=>False
 ct:St->Hp->Prop:=fun _ _=>False
abbrev TS:=Ends->St->Hp->Prop
def EP(X:Cx)(pins:List (Addr×Obj))(σ:St)(Q:VK)(u:Value)(s':Shared):Prop:=∃v H',Inv X pins σ H' s'/\RelV v u/\Q v H'
def TP(X:Cx)(pins:List (Addr×Obj))(σ:St)(Q:Bool->Hp->Prop)(b:Bool)(s':Shared):Prop:=∃H',Inv X pins σ H' s'/\Q b H'
def AP(X:Cx)(pins:List (Addr×Obj))(σ:St)(Q:List V->Hp->Prop)(us:List Value)(s':Shared):Prop:=∃vs H',Inv X pins σ H' s'/\Vals vs us/\Q vs H'
def SP(X:Cx)(pins:List (Addr×Obj))(D:Ends)(f:Flow)(s':Shared):Prop:=
 match f with
 | .next=>∃σ' H',Inv X pins σ' H' s'/\D.nx σ' H'
 | .brk=>∃σ' H',Inv X pins σ' H' s'/\D.bk σ' H'
 | .cont=>∃σ' H',Inv X pins σ' H' s'/\D.ct σ' H'
 | .ret u=>∃v σ' H',Inv X pins σ' H' s'/\RelV v u/\D.rt v H'
structure PE(X:Cx)(e:Expr)(t:TE) : Prop where
 of ::
 run :
 ∀(pins:List (Addr×Obj)) (s:Shared) (σ:St) (H:Hp) (Q:VK),Inv X pins σ H s->t σ H Q->wpAny (model X.prog X.w) X.A (eval e X.env) (EP X pins σ Q) X.xe s
instance {X:Cx} {e:Expr} {t:TE} : CoeFun (PE X e t) fun _=>
 ∀(pins:List (Addr×Obj)) (s:Shared) (σ:St) (H:Hp) (Q:VK),Inv X pins σ H s->t σ H Q->wpAny (model X.prog X.w) X.A (eval e X.env) (EP X pins σ Q) X.xe s:=⟨PE.run⟩
structure PT(X:Cx)(e:Expr)(t:TT) : Prop where
 of ::
 run :
 ∀(pins:List (Addr×Obj)) (s:Shared) (σ:St) (H:Hp) (Q:Bool->Hp->Prop),Inv X pins σ H s->t σ H Q->wpAny (model X.prog X.w) X.A (isTrue e X.env (eval e X.env)) (TP X pins σ Q) X.xe s
instance {X:Cx} {e:Expr} {t:TT} : CoeFun (PT X e t) fun _=>
 ∀(pins:List (Addr×Obj)) (s:Shared) (σ:St) (H:Hp) (Q:Bool->Hp->Prop),Inv X pins σ H s->t σ H Q->wpAny (model X.prog X.w) X.A (isTrue e X.env (eval e X.env)) (TP X pins σ Q) X.xe s:=⟨PT.run⟩
structure PW(X:Cx)(e:Expr)(t:TT) : Prop where
 of ::
 run :
 ∀(whole:Sem Value) (pins:List (Addr×Obj)) (s:Shared) (σ:St) (H:Hp) (Q:Bool->Hp->Prop),Inv X pins σ H s->t σ H Q->wpAny (model X.prog X.w) X.A (isTrue e X.env whole) (TP X pins σ Q) X.xe s
instance {X:Cx} {e:Expr} {t:TT} : CoeFun (PW X e t) fun _=>
 ∀(whole:Sem Value) (pins:List (Addr×Obj)) (s:Shared) (σ:St) (H:Hp) (Q:Bool->Hp->Prop),Inv X pins σ H s->t σ H Q->wpAny (model X.prog X.w) X.A (isTrue e X.env whole) (TP X pins σ Q) X.xe s:=⟨PW.run⟩
theorem PW.pt{X:Cx}{e:Expr}{t:TT}(h:PW X e t):PT X e t:=.of (h _)
structure PA(X:Cx)(es:List Expr)(t:TA) : Prop where
 of ::
 run :
 ∀(pos:Pos) (pins:List (Addr×Obj)) (s:Shared) (σ:St) (H:Hp) (Q:List V->Hp->Prop),Inv X pins σ H s->t σ H Q->wpAny (model X.prog X.w) X.A (spliced (backTo pos (starEach es X.env))) (AP X pins σ Q) X.xe s
instance {X:Cx} {es:List Expr} {t:TA} : CoeFun (PA X es t) fun _=>
 ∀(pos:Pos) (pins:List (Addr×Obj)) (s:Shared) (σ:St) (H:Hp) (Q:List V->Hp->Prop),Inv X pins σ H s->t σ H Q->wpAny (model X.prog X.w) X.A (spliced (backTo pos (starEach es X.env))) (AP X pins σ Q) X.xe s:=⟨PA.run⟩
structure PS(X:Cx)(st:Stmt)(t:TS) : Prop where
 of ::
 run :
 ∀(pins:List (Addr×Obj)) (s:Shared) (σ:St) (H:Hp) (D:Ends),Inv X pins σ H s->t D σ H->wpAny (model X.prog X.w) X.A (exec st X.env) (SP X pins D) X.xe s
instance {X:Cx} {st:Stmt} {t:TS} : CoeFun (PS X st t) fun _=>
 ∀(pins:List (Addr×Obj)) (s:Shared) (σ:St) (H:Hp) (D:Ends),Inv X pins σ H s->t D σ H->wpAny (model X.prog X.w) X.A (exec st X.env) (SP X pins D) X.xe s:=⟨PS.run⟩
structure oy(X:Cx)(st:List Stmt)(t:TS) : Prop where
 of ::
 run :
 ∀(pins:List (Addr×Obj)) (s:Shared) (σ:St) (H:Hp) (D:Ends),Inv X pins σ H s->t D σ H->wpAny (model X.prog X.w) X.A (execs st X.env) (SP X pins D) X.xe s
instance {X:Cx} {st:List Stmt} {t:TS} : CoeFun (oy X st t) fun _=>
 ∀(pins:List (Addr×Obj)) (s:Shared) (σ:St) (H:Hp) (D:Ends),Inv X pins σ H s->t D σ H->wpAny (model X.prog X.w) X.A (execs st X.env) (SP X pins D) X.xe s:=⟨oy.run⟩
theorem A4{α:Type}{t:Sem α}{Q Q':α->Shared->Prop}{M:Model}{A:Around}{E:Value->Shared->Prop}{s:Shared}(h:wpAny M A t Q E s)(hQ:∀a s,Q a s->Q' a s):wpAny M A t Q' E s:=wpAny_mono h hQ fun _ _ x=>x
section
variable{X:Cx}
def dC(i:Nat):TE:=fun σ H Q=>∃v,σ[i]?=some (some v)/\Q v H
def tC(v:V):TE:=fun _ H Q=>Q v H
theorem FJ {i:Nat} {x:Str} {pos:Pos} (hN:X.N[i]?=some x) (hv:KA X.env.scope x) (hd:(x == ("__debug__" : Str))=false:=by decide) (hcd:(x == ("__classdict__" : Str))=false:=by decide):PE X (.Name x pos) (dC i):=by
 refine .of ?_
 intro pins s σ H Q I h
 obtain⟨v,e,h⟩:=h
 obtain⟨m,hn,hl⟩:=I.loc
 obtain⟨u,r,l⟩:=hl i x v hN e hv
 have fin:EP X pins σ Q u s:=⟨v,H,I,r,h⟩
 rcases l with⟨hk,hm⟩ | ⟨hk,c,hc,hcell⟩
 ·exact wpAny_Name (wpAny_loadName_local I.ok.kind hk hn hm fin) hd
 ·rcases hk with hk | hk
  ·exact wpAny_Name (wpAny_loadName_cell I.ok.kind hk hc hcell fin) hd
  ·exact wpAny_Name (wpAny_loadName_free I.ok.kind hk hc hcell fin hcd) hd
theorem Fw{i j pos}:PE X (.Constant (.int i) j pos) (tC (.int i)):=.of <| fun _ _ _ H _ I h=>wpAny_Constant_int ⟨.int i,H,I.tok _,⟨_,rfl⟩,h⟩
theorem IH{b j pos}:PE X (.Constant (.bool b) j pos) (tC (.bl b)):=.of <| fun _ _ _ H _ I h=>Constant_bool ⟨.bl b,H,I,rfl,h⟩
theorem GP{j pos}:PE X (.Constant .none j pos) (tC .non):=.of <| fun _ _ _ H _ I h=>Constant_none ⟨.non,H,I,rfl,h⟩
theorem Ib{x j pos}:PE X (.Constant (.str x) j pos) (tC (.str x)):=.of <| fun _ _ _ H _ I h=>Calls.Constant_str ⟨.str x,H,I.tok _,⟨_,rfl⟩,h⟩
def Gl(X:Cx)(x:Str):Prop:=X.env.kindOf x=some .globalImplicit
theorem sE{E:Value->Shared->Prop}{pins:List (Addr×Obj)}{s:Shared}{σ:St}{H:Hp}{x:Str}{u:Value}{pos:Pos}{Q:Value->Shared->Prop}(I:Inv X pins σ H s)(hg:Gl X x)(hm:X.mg x=some u)(h:Q u s)
  (hd:(x == ("__debug__" : Str))=false:=by decide):wpAny (model X.prog X.w) X.A (eval (.Name x pos) X.env) Q E s:=
 Calls.Name_function_global I.ok.kind hg (Calls.loadGlobal_global (by rw[I.ok.glob];exact I.mod.glob.keeps I.bk) hm h) hd
theorem dH{E:Value->Shared->Prop}{pins:List (Addr×Obj)}{s:Shared}{σ:St}{H:Hp}{x:Str}{u:Value}{pos:Pos}{Q:Value->Shared->Prop}(I:Inv X pins σ H s)(hg:Gl X x)(hm:X.mg x=none)(hv:bootBuiltins x=some u)(h:Q u s)
  (hn:x ≠ "__name__":=by decide) (hd:(x == ("__debug__" : Str))=false:=by decide):wpAny (model X.prog X.w) X.A (eval (.Name x pos) X.env) Q E s:=by
 obtain⟨mb,h1,h2⟩:=I.mod.blt
 exact Calls.Name_function_global I.ok.kind hg (Calls.loadGlobal_builtin (by rw[I.ok.glob];exact I.mod.glob.keeps I.bk) hm (by rw[I.ok.blt];exact h1.keeps I.bk) ((h2 x hn).trans hv) h) hd
theorem rF {x:Str} {v:V} {u:Value} {pos:Pos} (hg:Gl X x) (hm:X.mg x=none) (hv:bootBuiltins x=some u) (r:RelV v u) (hn:x ≠ "__name__":=by decide) (hd:(x == ("__debug__" : Str))=false:=by decide):PE X (.Name x pos) (tC v):=.of <| 
 fun _ _ _ H _ I h=>dH I hg hm hv ⟨v,H,I,r,h⟩ hn hd
variable{a b:Expr}{ta tb:TE}{pos:Pos}
variable{tA tB':TT}{rest:List Expr}
def LV(t u:TT):TT:=fun σ H Q=>t σ H fun c H1=>if c=true then u σ H1 Q else Q false H1
def MA(t u:TT):TT:=fun σ H Q=>t σ H fun c H1=>if c=true then Q true H1 else u σ H1 Q
def Lr(t:TT):TT:=fun σ H Q=>t σ H fun c H1=>Q (!c) H1
theorem DI(ha:PT X a tA):PW X (.BoolOp .And [a] pos) tA:=by
 refine .of ?_
 intro wh pins s σ H Q I h
 refine isTrue_and (A4 (ha pins s σ H Q I h) fun c s1 e=>?_)
 cases c with
 | true=>exact isTrue_and_nil e
 | false=>exact e
theorem HN(ha:PT X a tA):PW X (.BoolOp .Or [a] pos) tA:=by
 refine .of ?_
 intro wh pins s σ H Q I h
 refine isTrue_or (A4 (ha pins s σ H Q I h) fun c s1 e=>?_)
 cases c with
 | false=>exact isTrue_or_nil e
 | true=>exact e
theorem GN(ha:PT X a tA)(hb:PW X (.BoolOp .And (b::rest) pos) tB'):PW X (.BoolOp .And (a::b::rest) pos) (LV tA tB'):=by
 refine .of ?_
 intro wh pins s σ H Q I h
 refine isTrue_and (A4 (ha pins s σ H _ I h) fun c s1 ⟨H1,I1,q1⟩=>?_)
 cases c with
 | true=>exact hb wh pins s1 σ H1 Q I1 q1
 | false=>exact⟨H1,I1,q1⟩
theorem Kf(ha:PT X a tA)(hb:PW X (.BoolOp .Or (b::rest) pos) tB'):PW X (.BoolOp .Or (a::b::rest) pos) (MA tA tB'):=by
 refine .of ?_
 intro wh pins s σ H Q I h
 refine isTrue_or (A4 (ha pins s σ H _ I h) fun c s1 ⟨H1,I1,q1⟩=>?_)
 cases c with
 | true=>exact⟨H1,I1,q1⟩
 | false=>exact hb wh pins s1 σ H1 Q I1 q1
theorem Hk(ha:PT X a tA):PT X (.UnaryOp .Not a pos) (Lr tA):=by
 refine .of ?_
 intro pins s σ H Q I h
 exact isTrue_not (ha pins s σ H (fun c H1=>Q (!c) H1) I h)
def Jd(ta tb:TE):TE:=fun σ H Q=>ta σ H fun x H1=>∃c,x=.bl c/\if c=true then tb σ H1 Q else Q (.bl false) H1
def LU(ta tb:TE):TE:=fun σ H Q=>ta σ H fun x H1=>∃c,x=.bl c/\if c=true then Q (.bl true) H1 else tb σ H1 Q
theorem HE{op}{t:TE}(h:PE X a t):PE X (.BoolOp op [a] pos) t:=.of <| fun pins s σ H Q I hw=>BoolOp_one (h pins s σ H Q I hw)
theorem HI(ha:PE X a ta)(hb:PE X (.BoolOp .And (b::rest) pos) tb):PE X (.BoolOp .And (a::b::rest) pos) (Jd ta tb):=by
 refine .of ?_
 intro pins s σ H Q I h
 refine BoolOp_and (A4 (ha pins s σ H _ I h) fun v s1 ⟨x,H1,I1,r1,q1⟩=>?_)
 obtain⟨c,rfl,q1⟩:=q1
 cases r1
 refine wpAny_truthy_bool ?_
 cases c with
 | true=>exact hb pins s1 σ H1 Q I1 q1
 | false=>exact⟨.bl false,H1,I1,rfl,q1⟩
theorem Jt(ha:PE X a ta)(hb:PE X (.BoolOp .Or (b::rest) pos) tb):PE X (.BoolOp .Or (a::b::rest) pos) (LU ta tb):=by
 refine .of ?_
 intro pins s σ H Q I h
 refine BoolOp_or (A4 (ha pins s σ H _ I h) fun v s1 ⟨x,H1,I1,r1,q1⟩=>?_)
 obtain⟨c,rfl,q1⟩:=q1
 cases r1
 refine wpAny_truthy_bool ?_
 cases c with
 | false=>exact hb pins s1 σ H1 Q I1 q1
 | true=>exact⟨.bl true,H1,I1,rfl,q1⟩
def ME(t:TT)(ta tb:TE):TE:=fun σ H Q=>t σ H fun c H1=>if c=true then ta σ H1 Q else tb σ H1 Q
theorem zU{c:Expr}(hc:PT X c tA)(ha:PE X a ta)(hb:PE X b tb):PE X (.IfExp c a b pos) (ME tA ta tb):=by
 refine .of ?_
 intro pins s σ H Q I h
 refine wpAny_IfExp (A4 (hc pins s σ H _ I h) fun d s1 ⟨H1,I1,q1⟩=>?_)
 cases d with
 | true=>exact ha pins s1 σ H1 Q I1 q1
 | false=>exact hb pins s1 σ H1 Q I1 q1
end
def N7(K:PySem.W.Frag)(H:Hp)(a:Addr)(xs:List V):Prop:=
 Rd H a (.lst xs) \/
  ∃(o:Obj) (its:Array Value) (n:Nat),K.lookup a=some o/\o.cls=.type "list" /\ o.dict=none/\o.data=.seq its n/\its.size<=sizeLine/\Vals xs its.toList
def R8(K:PySem.W.Frag)(H:Hp)(a:Addr)(xs:List V):Prop:=
 Rd H a (.tup xs) \/
  ∃(o:Obj) (its:Array Value) (n:Nat),K.lookup a=some o/\o.cls=.type "tuple" /\ o.data=.seq its n/\its.size<=sizeLine/\Vals xs its.toList
def LS:Value->Option V
 | .none=>some .non
 | .bool b=>some (.bl b)
 | .int i _=>some (.int i)
 | .str x _=>some (.str x)
 | .bytes b _=>some (.byt b)
 | .float b _=>some (.flt b)
 | .ref a=>some (.ref a)
 | .type n=>some (.ty n)
 | _=>none
theorem RelV.abs{x:V}{u:Value}(r:RelV x u):LS u=some x:=by
 cases x with
 | non=>cases r;rfl
 | bl _=>cases r;rfl
 | int _=>obtain⟨t,rfl⟩:=r;rfl
 | str _=>obtain⟨t,rfl⟩:=r;rfl
 | byt _=>obtain⟨t,rfl⟩:=r;rfl
 | flt _=>obtain⟨t,rfl⟩:=r;rfl
 | ref _=>cases r;rfl
 | ty _=>cases r;rfl
theorem RelV.inj{x y:V}{u:Value}(r:RelV x u)(q:RelV y u):x=y:=Option.some.inj (r.abs.symm.trans q.abs)
theorem Vals.inj:∀{xs ys:List V} {us:List Value},Vals xs us->Vals ys us->xs=ys
 | _,_,_,.nil,.nil=>rfl
 | _,_,_,.cons r t,.cons r' t'=>by rw[r.inj r',Vals.inj t t']
section
variable{X:Cx}{pins:List (Addr×Obj)}{σ:St}{H:Hp}{s:Shared}{a:Addr}{xs ys:List V}
theorem N7.of{K:PySem.W.Frag}(h:H a=some (.lst xs)):N7 K H a xs:=.inl (.inl h)
theorem R8.of{K:PySem.W.Frag}(h:H a=some (.tup xs)):R8 K H a xs:=.inl (.inl h)
theorem Inv.list(I:Inv X pins σ H s)(h:N7 X.K H a xs):∃its:List Value,Vals xs its/\PlainL s.heap a its.toArray/\xs.length<=sizeLine:=by
 rcases h with h | ⟨o,its,n,hk,hc,hd,hs,hz,r⟩
 ·obtain⟨z,its,n,r,e⟩:=h.ok I.hok
  exact⟨its,r,⟨_,n,e,rfl,rfl,rfl⟩,z⟩
 ·refine⟨its.toList,r,⟨o,n,I.mE a o hk,hc,hd,by simpa using hs⟩,?_⟩
  have e:=r.length
  simp only[Array.length_toList] at e
  omega
theorem Inv.tuple(I:Inv X pins σ H s)(h:R8 X.K H a xs):∃its:List Value,Vals xs its/\IsTup s.heap a its.toArray/\xs.length<=sizeLine:=by
 rcases h with h | ⟨o,its,n,hk,hc,hs,hz,r⟩
 ·obtain⟨z,its,r,p⟩:=h.ok I.hok
  exact⟨its,r,p,z⟩
 ·refine⟨its.toList,r,⟨o,I.mE a o hk,hc,n,by simpa using hs⟩,?_⟩
  have e:=r.length
  simp only[Array.length_toList] at e
  omega
theorem Inv.xu(I:Inv X pins σ H s)(h:N7 X.K H a xs)(h':N7 X.K H a ys):xs=ys:=by
 obtain⟨its,r,⟨o,n,e,_,_,d⟩,_⟩:=I.list h
 obtain⟨its',r',⟨o',n',e',_,_,d'⟩,_⟩:=I.list h'
 rw[e] at e';cases e'
 rw[d] at d'
 injection d' with d1 _
 have:its=its':=by simpa using congrArg Array.toList d1
 subst this
 exact r.inj r'
theorem Inv.jA(I:Inv X pins σ H s)(h:R8 X.K H a xs)(h':R8 X.K H a ys):xs=ys:=by
 obtain⟨its,r,⟨o,e,_,n,d⟩,_⟩:=I.tuple h
 obtain⟨its',r',⟨o',e',_,n',d'⟩,_⟩:=I.tuple h'
 rw[e] at e';cases e'
 rw[d] at d'
 injection d' with d1 _
 have:its=its':=by simpa using congrArg Array.toList d1
 subst this
 exact r.inj r'
end
abbrev Cx.hZ(X:Cx)(E:Value->Shared->Prop):Cx:={ X with xe:=E }
abbrev Cx.Iy(X:Cx):Cx:=X.hZ fun _ _=>False
theorem Cx.Ok.hZ{X:Cx}(ok:X.Ok)(E:Value->Shared->Prop):(X.hZ E).Ok:=
 ⟨ok.mod,ok.kind,ok.glob,ok.blt,ok.above,ok.inj,ok.has,ok.cab,ok.hd,ok.frames,ok.stk,ok.exf,ok.bs,ok.bsz,ok.noex,ok.exfs,ok.eF,ok.frf⟩
theorem Cx.Ok.aD{X:Cx}{E:Value->Shared->Prop}(ok:(X.hZ E).Ok):X.Ok:=
 ⟨ok.mod,ok.kind,ok.glob,ok.blt,ok.above,ok.inj,ok.has,ok.cab,ok.hd,ok.frames,ok.stk,ok.exf,ok.bs,ok.bsz,ok.noex,ok.exfs,ok.eF,ok.frf⟩
section
variable{X:Cx}{pins:List (Addr×Obj)}{σ:St}{H:Hp}{s:Shared}{E:Value->Shared->Prop}
theorem Inv.hZ(I:Inv X pins σ H s)(E:Value->Shared->Prop):Inv (X.hZ E) pins σ H s:=⟨I.ok.hZ E,I.os,I.bare,I.base,I.loc,I.cell,I.free,I.freeC,I.pin,I.hok,I.len⟩
theorem Inv.aD(I:Inv (X.hZ E) pins σ H s):Inv X pins σ H s:=⟨I.ok.aD,I.os,I.bare,I.base,I.loc,I.cell,I.free,I.freeC,I.pin,I.hok,I.len⟩
theorem SP.aD{D:Ends}{f:Flow}{s':Shared}(h:SP (X.hZ E) pins D f s'):SP X pins D f s':=by
 cases f with
 | next=>obtain⟨σ',H',I,q⟩:=h;exact⟨σ',H',I.aD,q⟩
 | brk=>obtain⟨σ',H',I,q⟩:=h;exact⟨σ',H',I.aD,q⟩
 | cont=>obtain⟨σ',H',I,q⟩:=h;exact⟨σ',H',I.aD,q⟩
 | ret u=>obtain⟨v,σ',H',I,r,q⟩:=h;exact⟨v,σ',H',I.aD,r,q⟩
theorem oy.Iy{st:List Stmt}{t:TS}(h:oy X.Iy st t):oy X st t:=.of <| fun pins s σ H D I hw=>
 wpAny_mono (h pins s σ H D (I.hZ _) hw) (fun _ _ q=>q.aD) fun _ _ z=>False.elim z
end
section
variable{X:Cx}{st:Stmt}{rest:List Stmt}{t u:TS}{e:Expr}{te:TE}{pos:Pos}
def Kp:TS:=fun D σ H=>D.nx σ H
def LN(t u:TS):TS:=fun D σ H=>t { D with nx:=u D } σ H
theorem CY:oy X [] Kp:=.of <| fun _ _ σ H _ I h=>wpAny_execs_nil ⟨σ,H,I,h⟩
theorem yH(h1:PS X st t)(h2:oy X rest u):oy X (st::rest) (LN t u):=by
 refine .of ?_
 intro pins s σ H D I h
 refine wpAny_execs_cons (A4 (h1 pins s σ H { D with nx:=u D } I h) fun f s1 q=>?_)
 cases f with
 | next=>
  obtain⟨σ',H',I',q⟩:=q
  exact h2 pins s1 σ' H' D I' q
 | ret v=>exact q
 | brk=>exact q
 | cont=>exact q
theorem DX(h1:PS X st t):oy X [st] t:=by
 refine .of ?_
 intro pins s σ H D I h
 refine wpAny_execs_cons (A4 (h1 pins s σ H D I h) fun f s1 q=>?_)
 cases f with
 | next=>exact wpAny_execs_nil q
 | ret v=>exact q
 | brk=>exact q
 | cont=>exact q
theorem Inv.quiet{pins:List (Addr×Obj)}{σ:St}{H:Hp}{s:Shared}(I:Inv X pins σ H s):interactive X.env=false:=by simp[interactive,I.ok.kind]
def Ks(te:TE):TS:=fun D σ H=>te σ H fun _ H1=>D.nx σ H1
theorem DA(he:PE X e te)(hs:swapsWith e none pos.line X.env=pure false:=by rfl):PS X (.Expr e pos) (Ks te):=by
 refine .of ?_
 intro pins s σ H D I h
 exact wpAny_Expr_any (A4 (he pins s σ H _ I h) fun v s1 ⟨x,H1,I1,r1,q1⟩=>⟨σ,H1,I1,q1⟩) I.quiet hs
def KZ(te:TE):TS:=fun D σ H=>te σ H D.rt
theorem jU(he:PE X e te):PS X (.Return (some e) pos) (KZ te):=by
 refine .of ?_
 intro pins s σ H D I h
 exact wpAny_Return_some (A4 (he pins s σ H _ I h) fun v s1 ⟨x,H1,I1,r1,q1⟩=>⟨x,σ,H1,I1,r1,q1⟩)
def Lv(c:TT)(t u:TS):TS:=fun D σ H=>c σ H fun b H1=>if b=true then t D σ H1 else u D σ H1
theorem IS{c:Expr}{a b:List Stmt}{tc:TT}(hc:PT X c tc)(ha:oy X a t)(hb:oy X b u):PS X (.If c a b pos) (Lv tc t u):=by
 refine .of ?_
 intro pins s σ H D I h
 refine wpAny_If (A4 (hc pins s σ H _ I h) fun d s1 ⟨H1,I1,q1⟩=>?_)
 cases d with
 | true=>exact ha pins s1 σ H1 D I1 q1
 | false=>exact hb pins s1 σ H1 D I1 q1
def HP:TS:=fun _ _ _=>False
theorem Az:PS X st HP:=.of <| fun _ _ _ _ _ _ h=>h.elim
end
abbrev TG:=V->St->Hp->(St->Hp->Prop)->Prop
abbrev Dz:=List V->St->Hp->(St->Hp->Prop)->Prop
structure PG(X:Cx)(target:Expr)(t:TG) : Prop where
 of ::
 run :
 ∀(pins:List (Addr×Obj)) (s:Shared) (σ:St) (H:Hp) (v:V) (u:Value) (Q:St->Hp->Prop),Inv X pins σ H s->RelV v u->t v σ H Q ->
  wpAny (model X.prog X.w) X.A (assign target X.env u) (fun _ s'=>∃σ' H',Inv X pins σ' H' s'/\Q σ' H') X.xe s
instance {X:Cx} {target:Expr} {t:TG} : CoeFun (PG X target t) fun _=>
 ∀(pins:List (Addr×Obj)) (s:Shared) (σ:St) (H:Hp) (v:V) (u:Value) (Q:St->Hp->Prop),Inv X pins σ H s->RelV v u->t v σ H Q ->
  wpAny (model X.prog X.w) X.A (assign target X.env u) (fun _ s'=>∃σ' H',Inv X pins σ' H' s'/\Q σ' H') X.xe s:=⟨PG.run⟩
structure AE(X:Cx)(ts:List Expr)(t:Dz) : Prop where
 of ::
 run :
 ∀(pins:List (Addr×Obj)) (s:Shared) (σ:St) (H:Hp) (vs:List V) (us:List Value) (Q:St->Hp->Prop),Inv X pins σ H s->Vals vs us->t vs σ H Q ->
  wpAny (model X.prog X.w) X.A (assignInOrder ((assignEach ts X.env).map (·.2)) us) (fun _ s'=>∃σ' H',Inv X pins σ' H' s'/\Q σ' H') X.xe s
instance {X:Cx} {ts:List Expr} {t:Dz} : CoeFun (AE X ts t) fun _=>
 ∀(pins:List (Addr×Obj)) (s:Shared) (σ:St) (H:Hp) (vs:List V) (us:List Value) (Q:St->Hp->Prop),Inv X pins σ H s->Vals vs us->t vs σ H Q ->
  wpAny (model X.prog X.w) X.A (assignInOrder ((assignEach ts X.env).map (·.2)) us) (fun _ s'=>∃σ' H',Inv X pins σ' H' s'/\Q σ' H') X.xe s:=⟨AE.run⟩
abbrev GS:=V->V->V->Hp->(Hp->Prop)->Prop
def Kb(X:Cx)(t:GS):Prop:=
 ∀(pins:List (Addr×Obj)) (s:Shared) (σ:St) (H:Hp) (o i v:V) (ov iv u:Value) (Q:Hp->Prop),Inv X pins σ H s->RelV o ov->RelV i iv->RelV v u->t o i v H Q ->
  wpAny (model X.prog X.w) X.A (setItem ov iv u) (fun _ s'=>∃H',Inv X pins σ H' s'/\Q H') X.xe s
abbrev Mo:=V->V->Hp->VK->Prop
def MC(X:Cx)(op:Operator)(t:Mo):Prop:=
 ∀(pins:List (Addr×Obj)) (s:Shared) (σ:St) (H:Hp) (x y:V) (v u:Value) (Q:VK),Inv X pins σ H s->RelV x v->RelV y u->t x y H Q ->
  wpAny (model X.prog X.w) X.A (inplaceOp op v u) (EP X pins σ Q) X.xe s
section
variable{X:Cx}{pos:Pos}
def nX(i:Nat):TG:=fun v σ H Q=>Q (σ.set i (some v)) H
theorem i7{i:Nat}{x:Str}(hN:X.N.Nodup)(hi:X.N[i]?=some x)(hx:Loc X.env.scope x)(hf:X.fn x=true\/X.env.scope.names.lookup x=some .local:=by first | exact .inl rfl | exact .inr rfl | assumption):PG X (.Name x pos) (nX i):=by
 refine .of ?_
 intro pins s σ H v u Q I r h
 exact wpAny_assign_Name (bV I hN hi hx r (fun s' I'=>⟨_,H,I',h⟩) hf)
def LQ:Dz:=fun vs σ H Q=>vs=[]/\Q σ H
def JE(t:TG)(u:Dz):Dz:=fun vs σ H Q=>∃v r,vs=v::r/\t v σ H fun σ' H'=>u r σ' H' Q
theorem CL:AE X [] LQ:=by
 refine .of ?_
 intro pins s σ H vs us Q I r h
 obtain⟨e,h⟩:=h
 subst e
 cases r
 exact assignInOrder_nil ⟨σ,H,I,h⟩
theorem xh{e:Expr}{es:List Expr}{t:TG}{u:Dz}(h1:PG X e t)(h2:AE X es u)
  (hs:(assignEach (e::es) X.env).map (·.2)=assign e X.env::(assignEach es X.env).map (·.2):=by rfl):AE X (e::es) (JE t u):=by
 refine .of ?_
 intro pins s σ H vs us Q I r h
 obtain⟨v,vr,e1,h⟩:=h
 subst e1
 cases r with
 | cons r rr=>
  rw[hs]
  refine assignInOrder_cons (A4 (h1 pins s σ H _ _ _ I r h) fun _ s1 ⟨σ1,H1,I1,q1⟩=>?_)
  exact h2 pins s1 σ1 H1 _ _ Q I1 rr q1
def Kh(K:PySem.W.Frag)(n:Nat)(t:Dz):TG:=fun v σ H Q=>∃a xs,v=.ref a/\R8 K H a xs/\xs.length=n/\t xs σ H Q
theorem dh{es:List Expr}{k:Nat}{t:Dz}{n:Nat}(hc:X.calm=true)(h:AE X es t)
  (hn:(assignEach es X.env).length=n:=by rfl) (hst:(assignEach es X.env).findIdx? (·.1)=none:=by rfl):PG X (.Tuple es k pos) (Kh X.K n t):=by
 refine .of ?_
 intro pins s σ H v u Q I r hw
 obtain⟨a,xs,e1,hq,hl,hw⟩:=hw
 subst e1
 cases r
 obtain⟨its,rv,ht,hz⟩:=I.tuple hq
 refine assign_Tuple_tuple (I.ok.hd hc) ht (by simp[hn,<-hl,rv.length]) hst fun h' hx=>?_
 have I1:Inv X pins σ H { s with heap:=h' }:=I.kept (t':=s.toks) fun b o e=>hx b o (Nat.ne_of_lt (Heap.lt_size e)) e
 exact h pins _ σ H xs _ Q I1 (by simpa using rv) hw
def bP(to ti:TE)(t:GS):TG:=fun v σ H Q=>to σ H fun o H1=>ti σ H1 fun i H2=>t o i v H2 fun H3=>Q σ H3
theorem gO{o i:Expr}{to ti:TE}{t:GS}(ho:PE X o to)(hi:PE X i ti)(hs:Kb X t)
  (ha:∀v,assign (.Subscript o i pos) X.env v=(do
   let ov <-holding [v] (eval o X.env)
   let iv <-holding [v,ov] (eval i X.env)
   standAt pos
   holding [v,ov,iv] (setItem ov iv v)
   release [v,ov,iv] []):=by intro _;rfl):PG X (.Subscript o i pos) (bP to ti t):=by
 refine .of ?_
 intro pins s σ H v u Q I r h
 rw[ha]
 refine wpAny_bind (wpAny_holding (A4 (ho pins s σ H _ I h) fun ov s1 ⟨x,H1,I1,r1,q1⟩=>?_))
 refine wpAny_bind (wpAny_holding (A4 (hi pins s1 σ H1 _ I1 q1) fun iv s2 ⟨y,H2,I2,r2,q2⟩=>?_))
 refine wpAny_bind (wpAny_standAt (wpAny_bind (wpAny_holding (A4 (hs pins s2 σ H2 x y v ov iv u _ I2 r1 r2 r q2) fun _ s3 ⟨H3,I3,q3⟩=>?_))))
 exact wpAny_release ⟨σ,H3,I3,q3⟩
def pU(te:TE)(g:TG):TS:=fun D σ H=>te σ H fun x H1=>g x σ H1 D.nx
theorem T4{tg e:Expr}{te:TE}{g:TG}(he:PE X e te)(hg:PG X tg g)(hs:swapsWithSole [tg] e pos.line X.env=pure false:=by rfl)(hw:swappedStores [tg] e X.env=pure none:=by rfl)
  (h1:(assignEach [tg] X.env).map (·.2)=[assign tg X.env]:=by rfl):PS X (.Assign [tg] e pos) (pU te g):=by
 refine .of ?_
 intro pins s σ H D I h
 refine wpAny_Assign_stores (A4 (he pins s σ H _ I h) fun v s1 ⟨x,H1,I1,r1,q1⟩=>?_) hs hw
 rw[h1]
 exact A4 (hg pins s1 σ H1 x v _ I1 r1 q1) fun _ s2 q=>q
theorem xI{i:Nat}{x:Str}{e:Expr}{te:TE}{pos':Pos}(hN:X.N.Nodup)(hi:X.N[i]?=some x)(hx:Loc X.env.scope x)(he:PE X e te)(hs:swapsWith e (some (.Name x pos')) pos.line X.env=pure false:=by rfl)(hf:X.fn x=true\/X.env.scope.names.lookup x=some .local:=by first | exact .inl rfl | exact .inr rfl | assumption) :
  PS X (.Assign [.Name x pos'] e pos) (pU te (nX i)):=by
 refine .of ?_
 intro pins s σ H D I h
 refine wpAny_Assign_Name (A4 (he pins s σ H _ I h) fun v s1 ⟨y,H1,I1,r1,q1⟩=>?_) hs
 exact bV I1 hN hi hx r1 (fun s2 I2=>⟨_,H1,I2,q1⟩) hf
def Lw(i j:Nat)(ta:TA):TS:=fun D σ H=>ta σ H fun vs H1=>∃v w,vs=[v,w]/\D.nx ((σ.set i (some v)).set j (some w)) H1
theorem FF{i j:Nat}{x y:Str}{a b:Expr}{ta:TA}{px py pt:Pos}{kt k2 pt2}(hc:X.calm=true)(hN:X.N.Nodup)(hi:X.N[i]?=some x)(hj:X.N[j]?=some y)(hij:i≠j)
  (hx:X.env.scope.names.lookup x=some .local) (hy:X.env.scope.names.lookup y=some .local) (ha:PA X [a,b] ta)
  (hw:swappedStores [.Tuple [.Name x px,.Name y py] kt pt] (.Tuple [a,b] k2 pt2) X.env=pure (some [x,y]))
  (hs:swapsWithSole [.Tuple [.Name x px,.Name y py] kt pt] (.Tuple [a,b] k2 pt2) pos.line X.env=pure false:=by rfl) :
  PS X (.Assign [.Tuple [.Name x px,.Name y py] kt pt] (.Tuple [a,b] k2 pt2) pos) (Lw i j ta):=by
 refine .of ?_
 intro pins s σ H D I h
 rw[exec_Assign_arm]
 refine wpAny_bind (wpAny_standAt ?_)
 rw[hs]
 refine wpAny_bind (wpAny_pure ?_)
 rw[if_neg (by decide)]
 refine wpAny_bind (Tuple_ (A4 (ha _ pins s σ H _ I h) fun us s1 ⟨vs,H1,I1,r1,q1⟩=>?_))
 obtain⟨v,w,e1,q1⟩:=q1
 subst e1
 obtain⟨u1,u2,rfl,rv,rw'⟩:∃u1 u2,us=[u1,u2]/\RelV v u1/\RelV w u2:=by
  cases r1 with
  | cons p q=>
   cases q with
   | cons p' q'=>
    cases q'
    exact⟨_,_,rfl,p,p'⟩
 refine wpAny_newObj_type ?_ (by show 2<=sizeLine;decide)
 have I2:Inv X pins σ H1 { s1 with heap:=s1.heap.push { cls:=.type "tuple",data:=.seq [u1,u2].toArray } }:=I1.kept (t':=s1.toks) fun b o e=>Heap.get?_push_of_some _ e
 rw[hw]
 refine wpAny_bind (wpAny_pure ?_)
 show wpAny (model X.prog X.w) X.A (do rule "assign.swapped-stores";let items <-unpackItems (.ref s1.heap.objs.size) 2 none;assignInOrder [fun v=>bindName X.env y v,fun v=>bindName X.env x v] items.reverse;pure Flow.next) _ _ _
 refine wpAny_bind (wpAny_rule (wpAny_bind (unpackItems_tuple (items:=#[u1,u2]) (I.ok.hd hc) (IsTup.new s1.heap _) fun h' hx'=>?_)))
 have I3:=I2.kept (h':=h') (t':=s1.toks) fun b o e=>hx' b o (Nat.ne_of_lt (Heap.lt_size e)) e
 show wpAny _ _ (assignInOrder [fun v=>bindName X.env y v,fun v=>bindName X.env x v] [u2,u1] >>= fun _=>pure Flow.next) _ _ _
 refine wpAny_bind (assignInOrder_cons (wpAny_bindName (bV I3 hN hj (.inl hy) rw' (fun s2 I4=>?_) (.inr hy))))
 refine assignInOrder_cons (wpAny_bindName (bV I4 hN hi (.inl hx) rv (fun s3 I5=>assignInOrder_nil (wpAny_pure ?_)) (.inr hx)))
 rw[List.set_comm _ _ (Ne.symm hij)] at I5
 exact⟨_,H1,I5,q1⟩
def MK(f:Int->Int->Int):Mo:=fun x y H Q=>∃i j,x=.int i/\y=.int j/\Q (.int (f i j)) H
theorem Gq:MC X .Add (MK fun i j=>i+j):=by
 intro pins s σ H x y v u Q I r1 r2 h
 obtain⟨i,j,e1,e2,q⟩:=h
 subst e1;subst e2
 obtain⟨t,rfl⟩:=r1
 obtain⟨t',rfl⟩:=r2
 exact iadd_int ⟨.int _,H,I.tok _,⟨_,rfl⟩,q⟩
end
section
variable{X:Cx}{pos:Pos}
def FT(c:TT)(tb:TS):TS:=fun D σ H=>∃W:Nat->St->Hp->Prop,(∃m,W m σ H)/\∀m σ H,W m σ H ->
 c σ H fun b H1=>if b=true then ∃N:St->Hp->Prop,(∀σ' H',N σ' H'->∃m',m'<m/\W m' σ' H')/\tb { D with nx:=N,ct:=N,bk:=D.nx } σ H1 else D.nx σ H1
theorem wZ{c:Expr}{body:List Stmt}{tc:TT}{tb:TS}(hp:PassesOwn (model X.prog X.w) X.A X.env X.xe)(hc:PT X c tc)(hb:oy X body tb):PS X (.While c body [] pos) (FT tc tb):=by
 refine .of ?_
 intro pins s σ H D I h
 obtain⟨W,⟨m0,w0⟩,turn⟩:=h
 refine wpAny_While (codeAny_whileLoop (fun n s'=>∃σ' H',Inv X pins σ' H' s'/\W n σ' H') ?_ m0 ⟨σ,H,I,w0⟩)
 rintro n s1 ⟨σ1,H1,I1,w1⟩
 refine wpAny_passesOwn hp (A4 (hc pins s1 σ1 H1 _ I1 (turn n σ1 H1 w1)) fun b s2 ⟨H2,I2,q2⟩=>?_)
 cases b with
 | true=>
  obtain⟨N,hN,q2⟩:=q2
  rw[if_pos rfl]
  refine wpAny_passesOwn hp (A4 (hb pins s2 σ1 H2 _ I2 q2) fun f s3 q3=>?_)
  cases f with
  | next=>
   obtain⟨σ3,H3,I3,n3⟩:=q3
   obtain⟨m',hm,w3⟩:=hN σ3 H3 n3
   exact⟨m',hm,σ3,H3,I3,w3⟩
  | cont=>
   obtain⟨σ3,H3,I3,n3⟩:=q3
   obtain⟨m',hm,w3⟩:=hN σ3 H3 n3
   exact⟨m',hm,σ3,H3,I3,w3⟩
  | brk=>exact q3
  | ret v=>exact q3
 | false=>
  rw[if_neg Bool.false_ne_true]
  exact wpAny_execs_nil ⟨σ1,H2,I2,q2⟩
end
structure It where
 go:Nat->Hp->Prop
 yld:Nat->Hp->V->Hp->Prop
 stop:Nat->Hp->Prop
def U8(X:Cx)(pins:List (Addr×Obj))(H:Hp)(b:Addr):Prop:=
 H b=none/\b≠X.env.locals/\b∉X.fs/\(b∈X.ex\/X.s₀.heap.objs.size<=b)/\(∀x c,X.env.cells.lookup x=some c->c≠b)/\∀p∈X.pn++pins,p.1≠b
theorem Inv.oF{X:Cx}{pins:List (Addr×Obj)}{σ:St}{H H':Hp}{s:Shared}{b:Addr}(I:Inv X pins σ H s)(hb:s.heap.objs.size<=b)(hn:H' b=none):U8 X pins H' b:=by
 refine⟨hn,Nat.ne_of_gt (Nat.lt_of_lt_of_le I.lt hb),I.LM hb,.inr (Nat.le_trans I.sz hb),fun x c e z=>?_,fun p hp z=>?_⟩
 ·obtain⟨v,q⟩:=I.cell x c e
  exact absurd (Nat.lt_of_lt_of_le q.lt (by rw[z];exact hb)) (Nat.lt_irrefl _)
 ·exact absurd (Nat.lt_of_lt_of_le (Heap.lt_size (I.pin p hp).1) (by rw[z];exact hb)) (Nat.lt_irrefl _)
structure Turn(P:Program)(w:World)(K:PySem.W.Frag)(tg:Expr)(J:It)(fp:List Addr)(it:Addr)(tn:Nat->Heap->Prop):Prop where
 mem:it∈fp
 obj:∀i h,tn i h->∀b∈fp,∃o,h.get? b=some o/\∀v,o.data≠.cell v
 keep:∀i h h',tn i h->(∀b∈fp,∀o,h.get? b=some o->h'.get? b=some o)->tn i h'
 item:∀(X:Cx),X.prog=P->X.w=w->X.K=K->X.calm=true->∀(i:Nat) (pins:List (Addr×Obj)) (s:Shared) (σ:St) (H:Hp) (E:Value->Shared->Prop),Inv X pins σ H s->(∀b∈fp,U8 X pins H b)->tn i s.heap->J.go i H ->
  wpAny (model P w) X.A (pyNext (.ref it)) (fun r s1=>∃u,r=some u /\
   wpAny (model P w) X.A (letOwnedTupleGo tg (.ref it) u) (fun _ s2=>∃x H',Inv X pins σ H' s2/\RelV x u/\J.yld i H x H'/\tn (i+1) s2.heap/\∀b∈fp,H' b=none) E s1) E s
 done:∀(X:Cx),X.prog=P->X.w=w->X.K=K->X.calm=true->∀(i:Nat) (pins:List (Addr×Obj)) (s:Shared) (σ:St) (H:Hp) (E:Value->Shared->Prop),Inv X pins σ H s->(∀b∈fp,U8 X pins H b)->tn i s.heap->J.stop i H ->
  wpAny (model P w) X.A (pyNext (.ref it)) (fun r s1=>r=none/\Inv X pins σ H s1) E s
 self:∀(A:Around) (i:Nat) (s:Shared) (Q:Value->Shared->Prop) (E:Value->Shared->Prop),tn i s.heap->Q (.ref it) s->wpAny (model P w) A (pyIter (.ref it)) Q E s
abbrev TI:=St->Hp->(It->Hp->Prop)->Prop
def KY(X:Cx)(pins:List (Addr×Obj))(σ:St)(tg:Expr)(R:It->Hp->Prop)(itv:Value)(s2:Shared):Prop:=
 ∃(it:Addr) (fp:List Addr) (tn:Nat->Heap->Prop) (J:It) (H':Hp),itv=.ref it/\Inv X pins σ H' s2/\Turn X.prog X.w X.K tg J fp it tn/\tn 0 s2.heap/\(∀b∈fp,U8 X pins H' b)/\R J H'
structure PI(X:Cx)(tg iter:Expr)(wi:TI) : Prop where
 of ::
 run :
 ∀(pins:List (Addr×Obj)) (s:Shared) (σ:St) (H:Hp) (R:It->Hp->Prop),Inv X pins σ H s->wi σ H R ->
  wpAny (model X.prog X.w) X.A (eval iter X.env) (fun v s1=>wpAny (model X.prog X.w) X.A (pyIter v) (KY X pins σ tg R) X.xe s1) X.xe s
instance {X:Cx} {tg iter:Expr} {wi:TI} : CoeFun (PI X tg iter wi) fun _=>
 ∀(pins:List (Addr×Obj)) (s:Shared) (σ:St) (H:Hp) (R:It->Hp->Prop),Inv X pins σ H s->wi σ H R ->
  wpAny (model X.prog X.w) X.A (eval iter X.env) (fun v s1=>wpAny (model X.prog X.w) X.A (pyIter v) (KY X pins σ tg R) X.xe s1) X.xe s:=⟨PI.run⟩
theorem oo{M:Model}{A:Around}{E:Value->Shared->Prop}{s:Shared}{tg:Expr}{it:Addr}{u:Value}{o:Obj}{n:String}{vs:Array Value}{Q:Unit->Shared->Prop}(ho:s.heap.get? it=some o)(hc:o.cls=.type n)(hd:o.data=.fields vs)
    (hn:["enumerate","zip","dict_itemiterator","dict_reverseitemiterator","odict_iterator","itertools.zip_longest","itertools.pairwise"].contains n=false) (hQ:Q () s):wpAny M A (letOwnedTupleGo tg (.ref it) u) Q E s:=by
  unfold letOwnedTupleGo
  cases tg<;>first
    | exact wpAny_pure hQ
    | (cases u<;>first
        | exact wpAny_pure hQ
        | (refine wpAny_bind (wpAny_load ho ?_)
           rw[hc,hd]
           show wpAny M A (if (["enumerate","zip","dict_itemiterator","dict_reverseitemiterator","odict_iterator","itertools.zip_longest","itertools.pairwise"].contains n&&vs[0]? == some (rawInt _))=true then _ else _) Q E s
           rw[if_neg (by intro h;rw[hn,Bool.false_and] at h;cases h)]
           exact wpAny_pure hQ))
def KH(K:PySem.W.Frag)(a:Addr):It:=
 ⟨fun i H=>∃xs x,N7 K H a xs/\xs[i]?=some x,fun i H x H'=>H'=H/\∀xs,N7 K H a xs->xs[i]?=some x,fun i H=>∃xs,N7 K H a xs/\xs.length<=i⟩
def Lc(K:PySem.W.Frag)(a:Addr):It:=
 ⟨fun i H=>∃xs x,R8 K H a xs/\xs[i]?=some x,fun i H x H'=>H'=H/\∀xs,R8 K H a xs->xs[i]?=some x,fun i H=>∃xs,R8 K H a xs/\xs.length<=i⟩
def Jg(lo:Int)(n:Nat):It:=⟨fun i _=>i<n,fun i H x H'=>H'=H/\x=.int (lo+i),fun i _=>n<=i⟩
theorem ur{P:Program}{w:World}{K:PySem.W.Frag}{tg:Expr}(a it:Addr):Turn P w K tg (KH K a) [it] it (fun i h=>h.IsListIter it a i) where
 mem:=by simp
 obj:=fun i h st b hb=>by
  have e:b=it:=by simpa using hb
  subst e
  obtain⟨o,e,c,d⟩:=st
  exact⟨o,e,fun v z=>by rw[d] at z;cases z⟩
 keep:=fun i h h' st k=>st.at fun o e=>k it (by simp) o e
 item:=by
  intro X hP hw hK hc i pins s σ H E I hf st hg
  subst hP hw hK
  obtain⟨xs,x,hq,hx⟩:=hg
  obtain⟨its,rv,p,hz⟩:=I.list hq
  obtain⟨u,hu,ru⟩:=rv.get hx
  obtain⟨f0,f1,f2,f3,f4,f5⟩:=hf it (by simp)
  refine wpAny_pyNext_list_item st p.isList (x:=u) (by simpa using hu) fun h' st' sb=>?_
  have I1:Inv X pins σ H { s with heap:=h' }:=I.turned (t':=s.toks) (fun b o hb e=>(sb.2 b hb).trans e) f0 f1 f3 f4 f5
  obtain⟨o,e,c,d⟩:=id st'
  exact⟨u,rfl,oo (s:={ s with heap:=h' }) e c d (by decide) ⟨x,H,I1,ru,⟨rfl,fun ys hy=>by rw[I.xu hy hq];exact hx⟩,st',fun b hb=>(hf b hb).1⟩⟩
 done:=by
  intro X hP hw hK hc i pins s σ H E I hf st hg
  subst hP hw hK
  obtain⟨xs,hq,hx⟩:=hg
  obtain⟨its,rv,p,hz⟩:=I.list hq
  obtain⟨f0,f1,f2,f3,f4,f5⟩:=hf it (by simp)
  have hl:=rv.length
  exact wpAny_pyNext_list_end (I.ok.hd hc) st p.isList (by simp;omega) fun h' eb=>⟨rfl,I.turned (t':=s.toks) (fun b o hb e=>eb b o hb e) f0 f1 f3 f4 f5⟩
 self:=fun _ _ _ _ _ st h=>wpAny_pyIter_listiter st h
theorem qC{P:Program}{w:World}{K:PySem.W.Frag}{tg:Expr}(a it:Addr):Turn P w K tg (Lc K a) [it] it (fun i h=>h.IsTupleIter it a i) where
 mem:=by simp
 obj:=fun i h st b hb=>by
  have e:b=it:=by simpa using hb
  subst e
  obtain⟨o,e,c,d⟩:=st
  exact⟨o,e,fun v z=>by rw[d] at z;cases z⟩
 keep:=fun i h h' st k=>st.at fun o e=>k it (by simp) o e
 item:=by
  intro X hP hw hK hc i pins s σ H E I hf st hg
  subst hP hw hK
  obtain⟨xs,x,hq,hx⟩:=hg
  obtain⟨its,rv,p,hz⟩:=I.tuple hq
  obtain⟨u,hu,ru⟩:=rv.get hx
  obtain⟨f0,f1,f2,f3,f4,f5⟩:=hf it (by simp)
  refine wpAny_pyNext_tuple_item st (show s.heap.IsTuple a its.toArray from p) (x:=u) (by simpa using hu) fun h' st' sb=>?_
  have I1:Inv X pins σ H { s with heap:=h' }:=I.turned (t':=s.toks) (fun b o hb e=>(sb.2 b hb).trans e) f0 f1 f3 f4 f5
  obtain⟨o,e,c,d⟩:=id st'
  exact⟨u,rfl,oo (s:={ s with heap:=h' }) e c d (by decide) ⟨x,H,I1,ru,⟨rfl,fun ys hy=>by rw[I.jA hy hq];exact hx⟩,st',fun b hb=>(hf b hb).1⟩⟩
 done:=by
  intro X hP hw hK hc i pins s σ H E I hf st hg
  subst hP hw hK
  obtain⟨xs,hq,hx⟩:=hg
  obtain⟨its,rv,p,hz⟩:=I.tuple hq
  obtain⟨f0,f1,f2,f3,f4,f5⟩:=hf it (by simp)
  have hl:=rv.length
  exact wpAny_pyNext_tuple_end (I.ok.hd hc) st (show s.heap.IsTuple a its.toArray from p) (by simp;omega) fun h' eb=>⟨rfl,I.turned (t':=s.toks) (fun b o hb e=>eb b o hb e) f0 f1 f3 f4 f5⟩
 self:=fun _ _ _ _ _ st h=>wpAny_pyIter_tupleiter st h
theorem qx{P:Program}{w:World}{K:PySem.W.Frag}{tg:Expr}(it:Addr)(lo:Int)(n:Nat):Turn P w K tg (Jg lo n) [it] it (fun i h=>IsRangeIter h it (lo+(i:Nat)*1) ((n:Int)-(i:Nat)) 1) where
 mem:=by simp
 obj:=fun i h st b hb=>by
  have e:b=it:=by simpa using hb
  subst e
  exact⟨_,st,fun v z=>by
   have z':Data.fields _=Data.cell v:=z
   cases z'⟩
 keep:=fun i h h' st k=>k it (by simp) _ st
 item:=by
  intro X hP hw hK hc i pins s σ H E I hf st hg
  subst hP hw hK
  obtain⟨f0,f1,f2,f3,f4,f5⟩:=hf it (by simp)
  have W:=Walks.range (prog:=X.prog) (w:=X.w) (I.ok.hd hc) it lo 1 n
  refine W.item i s _ _ hg st fun v h' tk hv st' kk=>?_
  obtain⟨t,rfl⟩:=hv
  have I1:Inv X pins σ H { s with heap:=h',toks:=tk }:=I.turned (fun b o hb e=>kk b o (by simpa using hb) e) f0 f1 f3 f4 f5
  refine⟨_,rfl,oo (s:={ s with heap:=h',toks:=tk }) (n:="range_iterator") st' rfl rfl (by decide) ⟨.int (lo+i),H,I1,⟨t,?_⟩,⟨rfl,rfl⟩,st',fun b hb=>(hf b hb).1⟩⟩
  rw[Int.mul_one]
 done:=by
  intro X hP hw hK hc i pins s σ H E I hf st hg
  subst hP hw hK
  obtain⟨f0,f1,f2,f3,f4,f5⟩:=hf it (by simp)
  exact wpAny_pyNext_range_end (I.ok.hd hc) st (by have:n<=i:=hg;omega) fun h' eb=>⟨rfl,I.turned (t':=s.toks) (fun b o hb e=>eb b o hb e) f0 f1 f3 f4 f5⟩
 self:=fun _ _ _ _ _ st h=>wpAny_pyIter_rangeiter st h
section
variable{X:Cx}{tg:Expr}
theorem nr{pins:List (Addr×Obj)}{σ:St}{H:Hp}{s:Shared}{R:It->Hp->Prop}{E:Value->Shared->Prop}{lo hi:Int}{t u v:Tok}{tk:Nat}(I:Inv X pins σ H s)(h1:-(2^62)<=lo)(h2:lo<2^62)(h3:-(2^62)<=hi)(h4:hi<2^62)
  (q:R (Jg lo (hi-lo).toNat) H):wpAny (model X.prog X.w) X.A (pyIter (.ref s.heap.objs.size)) (KY X pins σ tg R) E { s with heap:=s.heap.push { cls:=.type "range",data:=.fields #[.int lo t,.int hi u,.int 1 v] },toks:=tk }:=by
 refine wpAny_pyIter_range (IsRange.new ..) (small_one h1 h2 h3 h4) ?_
 have I1:Inv X pins σ H { s with heap:=s.heap.push { cls:=.type "range",data:=.fields #[.int lo t,.int hi u,.int 1 v] },toks:=tk }:=I.kept fun b o e=>Heap.get?_push_of_some _ e
 refine⟨(s.heap.push { cls:=.type "range",data:=.fields #[.int lo t,.int hi u,.int 1 v] }).objs.size,[(s.heap.push { cls:=.type "range",data:=.fields #[.int lo t,.int hi u,.int 1 v] }).objs.size],_,_,H,rfl,
  I1.kept (t':=tk) fun b o e=>Heap.get?_push_of_some _ e,qx _ lo (hi-lo).toNat,?_,fun b hb=>?_,q⟩
 ·have e1:lo+((0:Nat):Int)*1=lo:=by simp
  have e2:(((hi-lo).toNat:Nat):Int)-((0:Nat):Int)=Builtin.Range.rangeSize lo hi 1:=by rw[rangeSize_one];split<;>omega
  show IsRangeIter _ _ (lo+((0:Nat):Int)*1) ((((hi-lo).toNat:Nat):Int)-((0:Nat):Int)) 1
  rw[e1,e2]
  exact Heap.get?_push_size _ rfl
 ·have e:b=(s.heap.push { cls:=.type "range",data:=.fields #[.int lo t,.int hi u,.int 1 v] }).objs.size:=by simpa using hb
  subst e
  exact I1.oF (Nat.le_refl _) (I1.hok.fresh (Nat.le_refl _))
def xo(ta:TA):TI:=fun σ H R=>ta σ H fun vs H1=>∃j:Int,vs=[.int j]/\-(2^62)<=j/\j<2^62/\R (Jg 0 j.toNat) H1
def En(ta:TA):TI:=fun σ H R=>ta σ H fun vs H1=>∃i j:Int,vs=[.int i,.int j]/\(-(2^62)<=i/\i<2^62/\-(2^62)<=j/\j<2^62)/\R (Jg i (j-i).toNat) H1
theorem K4 {a:Expr} {ta:TA} {p pos:Pos} (hg:Gl X "range") (hm:X.mg "range"=none) (ha:PA X [a] ta) (hs:starEach [a] X.env=[(false,eval a X.env)]:=by rfl):PI X tg (.Call (.Name "range" p) [a] [] pos) (xo ta):=by
 refine .of ?_
 intro pins s σ H R I h
 refine Call_ (dH I hg hm boot_range (PyProof.Rows.callWith_type1 (A4 (ha pos pins s σ H _ I h) fun us s1 ⟨vs,H1,I1,r1,q1⟩=>?_) hs rfl))
 obtain⟨j,e,q1,q2,q⟩:=q1
 subst e
 cases r1 with
 | cons r rr=>
  cases rr
  obtain⟨t,rfl⟩:=r
  exact call_range_1 (nr I1 (by omega) (by omega) q1 q2 (by simpa using q))
theorem uq {a b:Expr} {ta:TA} {p pos:Pos} (hg:Gl X "range") (hm:X.mg "range"=none) (ha:PA X [a,b] ta) (hs:starEach [a,b] X.env=[(false,eval a X.env),(false,eval b X.env)]:=by rfl) (hs2:starEach [b] X.env=[(false,eval b X.env)]:=by rfl) :
  PI X tg (.Call (.Name "range" p) [a,b] [] pos) (En ta):=by
 refine .of ?_
 intro pins s σ H R I h
 refine Call_ (dH I hg hm boot_range (PyProof.Rows.callWith_type1 (A4 (ha pos pins s σ H _ I h) fun us s1 ⟨vs,H1,I1,r1,q1⟩=>?_) (by rw[hs,hs2]) (by rw[hs2];rfl)))
 obtain⟨i,j,e,⟨q1,q2,q3,q4⟩,q⟩:=q1
 subst e
 cases r1 with
 | cons r rr=>
  cases rr with
  | cons r' rr=>
   cases rr
   obtain⟨t,rfl⟩:=r
   obtain⟨t',rfl⟩:=r'
   exact call_range_2 (nr I1 q1 q2 q3 q4 q)
def Kt(wi:TI)(g:TG)(tb:TS):TS:=fun D σ H=>wi σ H fun J H1=>∃W:Nat->Nat->St->Hp->Prop,(∃m,W 0 m σ H1)/\∀i m σ H,W i m σ H ->
 (J.stop i H/\D.nx σ H)\/(J.go i H/\∃N:St->Hp->Prop,(∀σ' H',N σ' H'->∃m',m'<m/\W (i+1) m' σ' H')/\∀x H',J.yld i H x H'->g x σ H' fun σ2 H2=>tb { D with nx:=N,ct:=N,bk:=D.nx } σ2 H2)
def cR(fp:List Addr)(h:Heap):List (Addr×Obj):=fp.filterMap fun b=>(h.get? b).map fun o=>(b,o)
theorem M3{fp:List Addr}{h:Heap}{b:Addr}{o:Obj}(hb:b∈fp)(e:h.get? b=some o):(b,o)∈cR fp h:=List.mem_filterMap.mpr ⟨b,hb,by rw[e];rfl⟩
theorem uS{fp:List Addr}{h:Heap}{p:Addr×Obj}(hp:p∈cR fp h):p.1∈fp/\h.get? p.1=some p.2:=by
 obtain⟨b,hb,e⟩:=List.mem_filterMap.mp hp
 cases q:h.get? b with
 | none=>rw[q] at e;cases e
 | some o=>
  rw[q] at e
  have e':(b,o)=p:=Option.some.inj e
  subst e'
  exact⟨hb,q⟩
theorem Inv.pinned{pins:List (Addr×Obj)}{σ:St}{H:Hp}{s:Shared}{fp:List Addr}(I:Inv X pins σ H s)(hf:∀b∈fp,U8 X pins H b)(ho:∀b∈fp,∃o,s.heap.get? b=some o/\∀v,o.data≠.cell v):Inv X (pins++cR fp s.heap) σ H s:=
 I.rH fun p hp=>(List.mem_append.mp hp).elim (fun z=>I.pin p (List.mem_append_right _ z)) fun z=>by
  obtain⟨hb,e⟩:=uS z
  obtain⟨f0,f1,f2,_⟩:=hf p.1 hb
  obtain⟨o,e',d⟩:=ho p.1 hb
  rw[e] at e';cases e'
  exact⟨e,f0,f1,f2,d⟩
theorem Inv.au{pins pl:List (Addr×Obj)}{σ:St}{H:Hp}{s:Shared}(I:Inv X (pins++pl) σ H s):Inv X pins σ H s:=I.rH fun p hp=>I.pin p (List.mem_append_right _ (List.mem_append_left _ hp))
theorem B7{iter:Expr}{body:List Stmt}{wi:TI}{g:TG}{tb:TS}{pos:Pos}(hp:PassesOwn (model X.prog X.w) X.A X.env X.xe)(hc:X.calm=true)(hi:PI X tg iter wi)(hg:PG X tg g)(hb:oy X body tb)
  (hs:∀x,foldedSetIterable iter X.env x=pure x:=by intro _;rfl):PS X (.For tg iter body [] pos) (Kt wi g tb):=by
 refine .of ?_
 intro pins s σ H D I h
 refine wpAny_For (A4 (hi pins s σ H _ I h) fun v s1 h1=>A4 h1 fun itv s2 h2=>?_) hs
 obtain⟨it,fp,tn,J,H2,e,I2,T,st2,f2,W,⟨m0,w0⟩,turn⟩:=h2
 subst e
 have stat:∀{H':Hp},(∀b∈fp,H' b=none)->∀b∈fp,U8 X pins H' b:=fun hn b hb=>⟨hn b hb,(f2 b hb).2⟩
 refine codeAny_forLoop_any (fun n s'=>∃i σ' H',Inv X pins σ' H' s'/\tn i s'.heap/\(∀b∈fp,H' b=none)/\W i n σ' H') ?_ m0 ⟨0,σ,H2,I2,st2,fun b hb=>(f2 b hb).1,w0⟩
 rintro n s3 ⟨i,σ3,H3,I3,st3,fr3,w3⟩
 rcases turn i n σ3 H3 w3 with⟨stop,qn⟩ | ⟨go,N,hN,step⟩
 ·refine wpAny_passesOwn hp (A4 (T.done X rfl rfl rfl hc i pins s3 σ3 H3 X.xe I3 (stat fr3) st3 stop) fun r s4 ⟨hr,I4⟩=>?_)
  subst hr
  exact wpAny_execs_nil ⟨σ3,H3,I4,qn⟩
 ·refine wpAny_passesOwn hp (A4 (T.item X rfl rfl rfl hc i pins s3 σ3 H3 X.xe I3 (stat fr3) st3 go) fun r s4 ⟨u,hr,h4⟩=>?_)
  subst hr
  refine wpAny_passesOwn hp (A4 h4 fun _ s5 ⟨x,H5,I5,r5,y5,st5,fr5⟩=>?_)
  have I5':=I5.pinned (stat fr5) (T.obj _ _ st5)
  refine wpAny_passesOwn hp (A4 (hg _ s5 σ3 H5 x u _ I5' r5 (step x H5 y5)) fun _ s6 ⟨σ6,H6,I6,q6⟩=>?_)
  refine wpAny_passesOwn hp (A4 (hb _ s6 σ6 H6 _ I6 q6) fun f s7 q7=>?_)
  have again:∀{σ7:St} {H7:Hp},Inv X (pins++cR fp s5.heap) σ7 H7 s7->N σ7 H7->∃m,m<n/\∃i σ' H',Inv X pins σ' H' s7/\tn i s7.heap/\(∀b∈fp,H' b=none)/\W i m σ' H':=fun {σ7 H7} I7 n7=>by
   obtain⟨m',hm,w7⟩:=hN σ7 H7 n7
   refine⟨m',hm,i+1,σ7,H7,I7.au,T.keep _ _ _ st5 fun b hb o e=>(I7.pin (b,o) (List.mem_append_right _ (List.mem_append_right _ (M3 hb e)))).1,fun b hb=>?_,w7⟩
   obtain⟨o,e,d⟩:=T.obj _ _ st5 b hb
   exact(I7.pin (b,o) (List.mem_append_right _ (List.mem_append_right _ (M3 hb e)))).2.1
  cases f with
  | next=>obtain⟨σ7,H7,I7,n7⟩:=q7;exact again I7 n7
  | cont=>obtain⟨σ7,H7,I7,n7⟩:=q7;exact again I7 n7
  | brk=>obtain⟨σ7,H7,I7,q7⟩:=q7;exact⟨σ7,H7,I7.au,q7⟩
  | ret v=>obtain⟨x7,σ7,H7,I7,r7,q7⟩:=q7;exact⟨x7,σ7,H7,I7.au,r7,q7⟩
end
abbrev R2:=V->V->Hp->VK->Prop
def N0(X:Cx)(f:Value->Value->Sem Value)(r:R2):Prop:=
 ∀(pins:List (Addr×Obj)) (s:Shared) (σ:St) (H:Hp) (x y:V) (v u:Value) (Q:VK),Inv X pins σ H s->RelV x v->RelV y u->r x y H Q ->
  wpAny (model X.prog X.w) X.A (f v u) (EP X pins σ Q) X.xe s
def LY(X:Cx)(f:Value->Sem Value)(r:V->Hp->VK->Prop):Prop:=
 ∀(pins:List (Addr×Obj)) (s:Shared) (σ:St) (H:Hp) (x:V) (v:Value) (Q:VK),Inv X pins σ H s->RelV x v->r x H Q ->
  wpAny (model X.prog X.w) X.A (f v) (EP X pins σ Q) X.xe s
def E7(X:Cx)(f:Value)(r:List V->Hp->VK->Prop):Prop:=
 ∀(pins:List (Addr×Obj)) (s:Shared) (σ:St) (H:Hp) (xs:List V) (us:List Value) (Q:VK),Inv X pins σ H s->Vals xs us->r xs H Q ->
  wpAny (model X.prog X.w) X.A (call f us) (EP X pins σ Q) X.xe s
def LR(X:Cx)(r:V->Hp->(Bool->Hp->Prop)->Prop):Prop:=
 ∀(pins:List (Addr×Obj)) (s:Shared) (σ:St) (H:Hp) (x:V) (v:Value) (Q:Bool->Hp->Prop),Inv X pins σ H s->RelV x v->r x H Q ->
  wpAny (model X.prog X.w) X.A (truthy v) (TP X pins σ Q) X.xe s
def Ip(r:R2)(ta tb:TE):TE:=fun σ H Q=>ta σ H fun x H1=>tb σ H1 fun y H2=>r x y H2 Q
def ML(r:V->Hp->VK->Prop)(ta:TE):TE:=fun σ H Q=>ta σ H fun x H1=>r x H1 Q
def rI(C:Int->Int->Prop)(g:Int->Int->V):R2:=fun x y H Q=>∃i j,x=.int i/\y=.int j/\C i j/\Q (g i j) H
def vJ(g:Int->Int->V):R2:=fun x y H Q=>∃i j,x=.int i/\y=.int j/\Q (g i j) H
def rU(g:Int->V):V->Hp->VK->Prop:=fun x H Q=>∃i,x=.int i/\Q (g i) H
section
variable{X:Cx}{a b c:Expr}{ta tb tc:TE}{pos:Pos}
theorem Gm(ha:PE X a ta)(hb:PE X b tb){pins:List (Addr×Obj)}{s:Shared}{σ:St}{H:Hp}{R:V->V->Hp->Prop}(I:Inv X pins σ H s)
  (h:ta σ H fun x H1=>tb σ H1 fun y H2=>R x y H2) {Q:Value->Shared->Prop} {f:Value->Value->Sem Value}
  (hf:∀v u s2 x y H2,Inv X pins σ H2 s2->RelV x v->RelV y u->R x y H2->wpAny (model X.prog X.w) X.A (f v u) Q X.xe s2) :
  wpAny (model X.prog X.w) X.A (eval a X.env) (fun v s₁=>wpAny (model X.prog X.w) X.A (eval b X.env) (fun u s₂=>wpAny (model X.prog X.w) X.A (f v u) Q X.xe s₂) X.xe s₁) X.xe s:=by
 refine A4 (ha pins s σ H _ I h) fun v s1 ⟨x,H1,I1,r1,q1⟩=>?_
 refine A4 (hb pins s1 σ H1 _ I1 q1) fun u s2 ⟨y,H2,I2,r2,q2⟩=>?_
 exact hf v u s2 x y H2 I2 r1 r2 q2
theorem Fd{op:Operator}{r:R2}(ho:N0 X (binaryOp op) r)(ha:PE X a ta)(hb:PE X b tb):PE X (.BinOp a op b pos) (Ip r ta tb):=by
 refine .of ?_
 intro pins s σ H Q I h
 exact wpAny_BinOp (Gm ha hb I h fun v u s2 x y H2 I2 rx ry q=>ho pins s2 σ H2 x y v u Q I2 rx ry q)
theorem JK{op:UnaryOp}{r:V->Hp->VK->Prop}(ho:LY X (unaryOp op) r)(ha:PE X a ta):PE X (.UnaryOp op a pos) (ML r ta):=by
 refine .of ?_
 intro pins s σ H Q I h
 exact UnaryOp_ (A4 (ha pins s σ H _ I h) fun v s1 ⟨x,H1,I1,r1,q1⟩=>ho pins s1 σ H1 x v Q I1 r1 q1)
theorem KS{f:Value->Value->Sem Value}{C:Int->Int->Prop}{g:Int->Int->Int}
  (rule:∀(i j:Int) (t u:Tok) (s:Shared) (Q:Value->Shared->Prop) (E:Value->Shared->Prop),C i j->Q (.int (g i j) s.toks) { s with toks:=s.toks+1 }->wpAny (model X.prog X.w) X.A (f (.int i t) (.int j u)) Q E s) :
  N0 X f (rI C fun i j=>.int (g i j)):=by
 intro pins s σ H x y v u Q I rx ry h
 obtain⟨i,j,rfl,rfl,hc,q⟩:=h
 obtain⟨t,rfl⟩:=rx
 obtain⟨t',rfl⟩:=ry
 exact rule i j t t' s _ _ hc ⟨.int (g i j),H,I.tok _,⟨_,rfl⟩,q⟩
theorem IW{f:Value->Value->Sem Value}{g:Int->Int->Int}
  (rule:∀(i j:Int) (t u:Tok) (s:Shared) (Q:Value->Shared->Prop) (E:Value->Shared->Prop),Q (.int (g i j) s.toks) { s with toks:=s.toks+1 }->wpAny (model X.prog X.w) X.A (f (.int i t) (.int j u)) Q E s) :
  N0 X f (vJ fun i j=>.int (g i j)):=by
 intro pins s σ H x y v u Q I rx ry h
 obtain⟨i,j,rfl,rfl,q⟩:=h
 obtain⟨t,rfl⟩:=rx
 obtain⟨t',rfl⟩:=ry
 exact rule i j t t' s _ _ ⟨.int (g i j),H,I.tok _,⟨_,rfl⟩,q⟩
theorem BK{f:Value->Value->Sem Value}{g:Int->Int->Bool}
  (rule:∀(i j:Int) (t u:Tok) (s:Shared) (Q:Value->Shared->Prop) (E:Value->Shared->Prop),Q (.bool (g i j)) s->wpAny (model X.prog X.w) X.A (f (.int i t) (.int j u)) Q E s) :
  N0 X f (vJ fun i j=>.bl (g i j)):=by
 intro pins s σ H x y v u Q I rx ry h
 obtain⟨i,j,rfl,rfl,q⟩:=h
 obtain⟨t,rfl⟩:=rx
 obtain⟨t',rfl⟩:=ry
 exact rule i j t t' s _ _ ⟨.bl (g i j),H,I,rfl,q⟩
def aZ(i j:Int):Prop:=0<=j/\j<=1000000/\i.natAbs<2^64
def P0(i j:Int):Prop:=(-(2^64)<i/\i<2^64)\/(-(2^64)<j/\j<2^64)
theorem P0.ok{i j:Int}(h:P0 i j):IntMulOk i j:=by
 rcases h with⟨h1,h2⟩ | ⟨h1,h2⟩
 ·exact .of_left (intBits_le_64 h1 h2)
 ·exact .of_right (intBits_le_64 h1 h2)
theorem GL:N0 X (binaryOp .Add) (vJ fun i j=>.int (i+j)):=IW fun _ _ _ _ _ _ _ q=>add_int q
theorem FQ:N0 X (binaryOp .Sub) (vJ fun i j=>.int (i-j)):=IW fun _ _ _ _ _ _ _ q=>sub_int q
theorem GV:N0 X (binaryOp .Mult) (rI P0 fun i j=>.int (i*j)):=KS fun _ _ _ _ _ _ _ hc q=>mul_int q hc.ok
theorem Au:N0 X (binaryOp .Mod) (rI (fun _ j=>0<j) fun i j=>.int (i%j)):=KS fun i j _ _ _ _ _ hc q=>by
 have h1:(0:Int)<j:=hc
 exact mod_int' (by omega) (by rw[Int.fmod_eq_emod_of_nonneg i (by omega)];exact q)
theorem Ga:N0 X (binaryOp .Pow) (rI aZ fun i j=>.int (i^j.toNat)):=KS fun _ _ _ _ _ _ _ hc q=>pow_int_small hc.1 hc.2.1 hc.2.2 q
theorem MJ{f:Value->Sem Value}{g:Int->Int}
  (rule:∀(i:Int) (t:Tok) (s:Shared) (Q:Value->Shared->Prop) (E:Value->Shared->Prop),Q (.int (g i) s.toks) { s with toks:=s.toks+1 }->wpAny (model X.prog X.w) X.A (f (.int i t)) Q E s) :
  LY X f (rU fun i=>.int (g i)):=by
 intro pins s σ H x v Q I rx h
 obtain⟨i,rfl,q⟩:=h
 obtain⟨t,rfl⟩:=rx
 exact rule i t s _ _ ⟨.int (g i),H,I.tok _,⟨_,rfl⟩,q⟩
theorem Hi:LY X (unaryOp .USub) (rU fun i=>.int (-i)):=MJ fun _ _ _ _ _ q=>neg_int q
end
def Gh:V->V->Bool
 | .non,.non=>true | .non,.int _=>true | .int _,.non=>true | .non,.bl _=>true | .bl _,.non=>true | .non,.str _=>true | .str _,.non=>true
 | .int _,.int _=>true | .bl _,.bl _=>true | .str _,.str _=>true | .byt _,.byt _=>true
 | .int _,.str _=>true | .str _,.int _=>true | .bl _,.str _=>true | .str _,.bl _=>true
 | _,_=>false
def Mf:R2:=fun x y H Q=>Gh x y=true/\Q (.bl (decide (x=y))) H
def Mz:R2:=fun x y H Q=>Gh x y=true/\Q (.bl (!decide (x=y))) H
theorem sA{i j:Int}:decide (V.int i=V.int j)=(i == j):=by
 rw[Bool.eq_iff_iff]
 simp
theorem vQ{i j:Bool}:decide (V.bl i=V.bl j)=(i == j):=by
 rw[Bool.eq_iff_iff]
 simp
theorem sZ{i j:Str}:decide (V.str i=V.str j)=(i == j):=by
 rw[Bool.eq_iff_iff]
 simp
theorem sv{i j:Array UInt8}:decide (V.byt i=V.byt j)=(i.toList == j.toList):=by
 rw[Bool.eq_iff_iff]
 cases i
 cases j
 simp
section
variable{X:Cx}{a b c:Expr}{ta tb tc:TE}{pos:Pos}
theorem t9{pins:List (Addr×Obj)}{σ:St}{H:Hp}{s:Shared}{Q:VK}{k k':Bool}(I:Inv X pins σ H s)(q:Q (.bl k) H)(e:k=k'):EP X pins σ Q (.bool k') s:=by
 subst e
 exact⟨.bl k,H,I,rfl,q⟩
theorem xS:N0 X (compareOp .Eq) Mf:=by
 intro pins s σ H x y v u Q I rx ry h
 obtain⟨hs,q⟩:=h
 cases x with
 | non=>
  cases rx
  cases y with
  | non=>cases ry;exact PySem.EqNone.eq_none_none (t9 I q (by simp))
  | bl j=>cases ry;exact PySem.EqNone.eq_none_bool (t9 I q (by simp))
  | int j=>obtain⟨t',rfl⟩:=ry;exact PySem.EqNone.eq_none_int (t9 I q (by simp))
  | str j=>obtain⟨t',rfl⟩:=ry;exact PySem.EqNone.eq_none_str (t9 I q (by simp))
  | _=>exact absurd (show false=true from hs) Bool.false_ne_true
 | bl i=>
  cases rx
  cases y with
  | non=>cases ry;exact PySem.EqNone.eq_bool_none (t9 I q (by simp))
  | bl j=>cases ry;exact eq_bool (t9 I q vQ)
  | str j=>obtain⟨t',rfl⟩:=ry;exact PySem.EqMixed.eq_bool_str (t9 I q (by simp))
  | _=>exact absurd (show false=true from hs) Bool.false_ne_true
 | int i=>
  obtain⟨t,rfl⟩:=rx
  cases y with
  | non=>cases ry;exact PySem.EqNone.eq_int_none (t9 I q (by simp))
  | int j=>obtain⟨t',rfl⟩:=ry;exact eq_int (t9 I q sA)
  | str j=>obtain⟨t',rfl⟩:=ry;exact PySem.EqMixed.eq_int_str (t9 I q (by simp))
  | _=>exact absurd (show false=true from hs) Bool.false_ne_true
 | str i=>
  obtain⟨t,rfl⟩:=rx
  cases y with
  | non=>cases ry;exact PySem.EqNone.eq_str_none (t9 I q (by simp))
  | bl j=>cases ry;exact PySem.EqMixed.eq_str_bool (t9 I q (by simp))
  | int j=>obtain⟨t',rfl⟩:=ry;exact PySem.EqMixed.eq_str_int (t9 I q (by simp))
  | str j=>obtain⟨t',rfl⟩:=ry;exact eq_str (t9 I q sZ)
  | _=>exact absurd (show false=true from hs) Bool.false_ne_true
 | byt i=>
  obtain⟨t,rfl⟩:=rx
  cases y with
  | byt j=>obtain⟨t',rfl⟩:=ry;exact PySem.W.eq_bytes (t9 I q sv)
  | _=>exact absurd (show false=true from hs) Bool.false_ne_true
 | _=>cases y<;>exact absurd (show false=true from hs) Bool.false_ne_true
theorem IZ:N0 X (compareOp .NotEq) Mz:=by
 intro pins s σ H x y v u Q I rx ry h
 obtain⟨hs,q⟩:=h
 cases x with
 | non=>
  cases rx
  cases y with
  | non=>cases ry;exact PySem.EqNone.ne_none_none (t9 I q (by simp))
  | bl j=>cases ry;exact PySem.EqNone.ne_none_bool (t9 I q (by simp))
  | int j=>obtain⟨t',rfl⟩:=ry;exact PySem.EqNone.ne_none_int (t9 I q (by simp))
  | str j=>obtain⟨t',rfl⟩:=ry;exact PySem.EqNone.ne_none_str (t9 I q (by simp))
  | _=>exact absurd (show false=true from hs) Bool.false_ne_true
 | bl i=>
  cases rx
  cases y with
  | non=>cases ry;exact PySem.EqNone.ne_bool_none (t9 I q (by simp))
  | bl j=>cases ry;exact ne_bool (t9 I q (congrArg not vQ))
  | str j=>obtain⟨t',rfl⟩:=ry;exact PySem.EqMixed.ne_bool_str (t9 I q (by simp))
  | _=>exact absurd (show false=true from hs) Bool.false_ne_true
 | int i=>
  obtain⟨t,rfl⟩:=rx
  cases y with
  | non=>cases ry;exact PySem.EqNone.ne_int_none (t9 I q (by simp))
  | int j=>obtain⟨t',rfl⟩:=ry;exact ne_int (t9 I q (congrArg not sA))
  | str j=>obtain⟨t',rfl⟩:=ry;exact PySem.EqMixed.ne_int_str (t9 I q (by simp))
  | _=>exact absurd (show false=true from hs) Bool.false_ne_true
 | str i=>
  obtain⟨t,rfl⟩:=rx
  cases y with
  | non=>cases ry;exact PySem.EqNone.ne_str_none (t9 I q (by simp))
  | bl j=>cases ry;exact PySem.EqMixed.ne_str_bool (t9 I q (by simp))
  | int j=>obtain⟨t',rfl⟩:=ry;exact PySem.EqMixed.ne_str_int (t9 I q (by simp))
  | str j=>obtain⟨t',rfl⟩:=ry;exact ne_str (t9 I q (congrArg not sZ))
  | _=>exact absurd (show false=true from hs) Bool.false_ne_true
 | byt i=>
  obtain⟨t,rfl⟩:=rx
  cases y with
  | byt j=>obtain⟨t',rfl⟩:=ry;exact PySem.W.ne_bytes (t9 I q (congrArg not sv))
  | _=>exact absurd (show false=true from hs) Bool.false_ne_true
 | _=>cases y<;>exact absurd (show false=true from hs) Bool.false_ne_true
theorem Fm:N0 X (compareOp .Lt) (vJ fun i j=>.bl (decide (i<j))):=BK fun _ _ _ _ _ _ _ q=>lt_int q
theorem IM:N0 X (compareOp .LtE) (vJ fun i j=>.bl (decide (i<=j))):=BK fun _ _ _ _ _ _ _ q=>le_int q
theorem yw:N0 X (compareOp .Gt) (vJ fun i j=>.bl (decide (j<i))):=BK fun _ _ _ _ _ _ _ q=>gt_int q
theorem Jp:N0 X (compareOp .GtE) (vJ fun i j=>.bl (decide (j<=i))):=BK fun _ _ _ _ _ _ _ q=>ge_int q
theorem vI:N0 X (compareOp .In) (fun x y H Q=>∃i j,x=.str i/\y=.str j/\Q (.bl (!(Builtin.Str.occurrences j i 0 j.length 1).isEmpty)) H):=by
 intro pins s σ H x y v u Q I rx ry h
 obtain⟨i,j,rfl,rfl,q⟩:=h
 obtain⟨t,rfl⟩:=rx
 obtain⟨t',rfl⟩:=ry
 exact in_str (t9 I q rfl)
theorem yi:N0 X (compareOp .Is) (fun x y H Q=>y=.non/\Q (.bl (decide (x=.non))) H):=by
 intro pins s σ H x y v u Q I rx ry h
 obtain⟨rfl,q⟩:=h
 cases ry
 refine is_none_gen (t9 I q ?_)
 cases x<;>first
  | (cases rx;rfl)
  | (obtain⟨t,rfl⟩:=rx;rfl)
theorem BM:N0 X (compareOp .IsNot) (fun x y H Q=>y=.non/\Q (.bl (!decide (x=.non))) H):=by
 intro pins s σ H x y v u Q I rx ry h
 obtain⟨rfl,q⟩:=h
 cases ry
 refine isnot_none_gen (t9 I q ?_)
 cases x<;>first
  | (cases rx;rfl)
  | (obtain⟨t,rfl⟩:=rx;rfl)
theorem jL:N0 X (compareOp .NotIn) (fun x y H Q=>∃i j,x=.str i/\y=.str j/\Q (.bl (!(!(Builtin.Str.occurrences j i 0 j.length 1).isEmpty))) H):=by
 intro pins s σ H x y v u Q I rx ry h
 obtain⟨i,j,rfl,rfl,q⟩:=h
 obtain⟨t,rfl⟩:=rx
 obtain⟨t',rfl⟩:=ry
 exact notIn_str (t9 I q rfl)
theorem N0.or{f:Value->Value->Sem Value}{r r':R2}(h:N0 X f r)(h':N0 X f r'):N0 X f (fun x y H Q=>r x y H Q\/r' x y H Q):=by
 intro pins s σ H x y v u Q I rx ry q
 rcases q with q | q
 ·exact h pins s σ H x y v u Q I rx ry q
 ·exact h' pins s σ H x y v u Q I rx ry q
theorem u9(b:Expr){op:CmpOp}(h:op≠.In:=by decide)(h2:op≠.NotIn:=by decide):behindInMarks op b=false:=by
 have e1:(op == CmpOp.In)=false:=by cases op<;>first | rfl | exact absurd rfl h
 have e2:(op == CmpOp.NotIn)=false:=by cases op<;>first | rfl | exact absurd rfl h2
 cases b<;>simp[behindInMarks,e1,e2]
theorem sS{op:CmpOp}{r:R2}(ho:N0 X (compareOp op) r)(ha:PE X a ta)(hb:PE X b tb)(hm:behindInMarks op b=false):PE X (.Compare a [op] [b] pos) (Ip r ta tb):=by
 refine .of ?_
 intro pins s σ H Q I h
 exact wpAny_Compare1 (Gm ha hb I h fun v u s2 x y H2 I2 rx ry q=>ho pins s2 σ H2 x y v u Q I2 rx ry q) hm
def Jr(t:TE):TT:=fun σ H Q=>t σ H fun x H'=>∃k,x=.bl k/\Q k H'
theorem sf{op:CmpOp}{r:R2}(ho:N0 X (compareOp op) r)(ha:PE X a ta)(hb:PE X b tb)(hm:behindInMarks op b=false):PT X (.Compare a [op] [b] pos) (Jr (Ip r ta tb)):=by
 refine .of ?_
 intro pins s σ H Q I h
 refine wpAny_isTrue_Compare1 (A4 (ha pins s σ H _ I h) fun v s1 ⟨x,H1,I1,r1,q1⟩=>A4 (hb pins s1 σ H1 _ I1 q1) fun u s2 ⟨y,H2,I2,r2,q2⟩=>
  A4 (ho pins s2 σ H2 x y v u _ I2 r1 r2 q2) fun c s3 ⟨z,H3,I3,r3,k,e,q3⟩=>?_) hm
 subst e
 cases r3
 exact wpAny_truthy_bool ⟨H3,I3,q3⟩
def II(K:PySem.W.Frag)(x:V)(H:Hp)(k:Bool):Prop:=
 match x with
 | .non=>k=false
 | .bl b=>k=b
 | .int i=>k=(i != 0)
 | .str y=>y.length<=sizeLine/\k=((y.length:Int) != 0)
 | .byt y=>y.size<=sizeLine/\k=((y.size:Int) != 0)
 | .ref p=>(∃xs,N7 K H p xs/\k=!xs.isEmpty)\/(∃xs,R8 K H p xs/\k=!xs.isEmpty)\/∃kvs,Dd H p kvs/\k=!kvs.isEmpty
 | _=>False
theorem qN{κ:Type}{kvs:List (κ×V)}{vs:List (κ×Value)}(r:KV kvs vs):(!vs.isEmpty)=!kvs.isEmpty:=by
 cases r<;>rfl
theorem fQ{xs:List V}{its:List Value}(r:Vals xs its):(!its.toArray.isEmpty)=!xs.isEmpty:=by
 cases r<;>simp
theorem cW:(sizeLine:Nat)<2^63:=by rw[sizeLine_eq];decide
theorem HR:LR X (fun x H Q=>∃k,II X.K x H k/\Q k H):=by
 intro pins s σ H x v Q I rx h
 obtain⟨k,e,q⟩:=h
 have hl:=cW
 have hs:sizeLine=16777216:=sizeLine_eq
 cases x with
 | non=>
  cases rx
  have e':k=false:=e
  subst e'
  exact truthy_none ⟨H,I,q⟩
 | bl b=>
  cases rx
  have e':k=b:=e
  subst e'
  exact wpAny_truthy_bool ⟨H,I,q⟩
 | int i=>
  obtain⟨t,rfl⟩:=rx
  have e':k=(i != 0):=e
  subst e'
  exact PySem.P.truthy_int ⟨H,I,q⟩
 | str y=>
  obtain⟨t,rfl⟩:=rx
  obtain⟨hy,e'⟩:y.length<=sizeLine/\k=((y.length:Int) != 0):=e
  subst e'
  exact PySem.P.truthy_str (by omega) ⟨H,I.tok _,q⟩
 | byt y=>
  obtain⟨t,rfl⟩:=rx
  obtain⟨hy,e'⟩:y.size<=sizeLine/\k=((y.size:Int) != 0):=e
  subst e'
  exact PySem.W.truthy_bytes (by omega) ⟨H,I.tok _,q⟩
 | ref p=>
  cases rx
  have e':(∃xs,N7 X.K H p xs/\k=!xs.isEmpty)\/(∃xs,R8 X.K H p xs/\k=!xs.isEmpty)\/∃kvs,Dd H p kvs/\k=!kvs.isEmpty:=e
  rcases e' with⟨xs,hx,e'⟩ | ⟨xs,hx,e'⟩ | ⟨kvs,hx,e'⟩
  ·subst e'
   obtain⟨its,r,pl,hz⟩:=I.list hx
   have hlen:=r.length
   exact wpAny_truthy_list pl.isList (by simp only[List.size_toArray];omega) ⟨H,I.tok _,by rw[fQ r];exact q⟩
  ·subst e'
   obtain⟨its,r,pl,hz⟩:=I.tuple hx
   have hlen:=r.length
   exact truthy_tuple pl (by simp only[List.size_toArray];omega) ⟨H,I.tok _,by rw[fQ r];exact q⟩
  ·subst e'
   obtain⟨hz,hS,vs,r,m⟩:kvs.length<=sizeLine/\(p == sysModules)=false/\∃vs,KV kvs vs/\s.heap.DictOf (o6 X.prog X.w) p vs:=(show u6 X.prog X.w H s.heap p (.dK kvs) from hx.ok I.hok)
   have hlen:kvs.length=vs.length:=Paired.length r
   exact wpAny_truthy_dict hS m (by omega) ⟨H,I.tok _,by rw[qN r];exact q⟩
 | _=>exact(show False from e).elim
theorem yY(ha:PE X a ta)(he:∀whole,isTrue a X.env whole=(do let v <-whole;standAt a.pos;holding [v] (truthy v))) :
  PT X a (fun σ H Q=>ta σ H fun x H'=>∃k,II X.K x H' k/\Q k H'):=by
 refine .of ?_
 intro pins s σ H Q I h
 exact isTrue_plain (A4 (ha pins s σ H _ I h) fun v s1 ⟨x,H1,I1,r1,q1⟩=>HR pins s1 σ H1 x v Q I1 r1 q1) (he _)
theorem pX:N0 X (binaryOp .Add) (fun x y H Q=>∃i j,x=.str i/\y=.str j/\i.length+j.length<=sizeLine/\Q (.str (i++j)) H):=by
 intro pins s σ H x y v u Q I rx ry h
 obtain⟨i,j,rfl,rfl,hz,q⟩:=h
 obtain⟨t,rfl⟩:=rx
 obtain⟨t',rfl⟩:=ry
 exact add_str (fun t' tk=>⟨.str (i++j),H,I.tok _,⟨_,rfl⟩,q⟩) hz
theorem vals1{x:V}{us:List Value}(r:Vals [x] us):∃u,us=[u]/\RelV x u:=by
 cases r with
 | cons r1 r2=>cases r2;exact⟨_,rfl,r1⟩
theorem vals2{x y:V}{us:List Value}(r:Vals [x,y] us):∃u w',us=[u,w']/\RelV x u/\RelV y w':=by
 cases r with
 | cons r1 r2=>
  cases r2 with
  | cons r3 r4=>cases r4;exact⟨_,_,rfl,r1,r3⟩
theorem cS(hc:X.calm=true):E7 X (.builtin "max") (fun xs H Q=>∃i j,xs=[.int i,.int j]/\Q (.int (if j>i then j else i)) H):=by
 intro pins s σ H xs us Q I r h
 obtain⟨i,j,rfl,q⟩:=h
 obtain⟨u,w',rfl,⟨t,rfl⟩,⟨t',rfl⟩⟩:=vals2 r
 refine max_two_ints (I.ok.hd hc) fun h' tk k=>⟨_,H,I.kept k,?_,q⟩
 by_cases hj:j>i
 ·rw[if_pos hj,if_pos hj];exact⟨_,rfl⟩
 ·rw[if_neg hj,if_neg hj];exact⟨_,rfl⟩
theorem uB:E7 X (.type "int") (fun xs H Q=>(∃i,xs=[.int i]/\Q (.int i) H)\/∃k,xs=[.bl k]/\Q (.int (if k then 1 else 0)) H):=by
 intro pins s σ H xs us Q I r h
 rcases h with⟨i,rfl,q⟩ | ⟨k,rfl,q⟩
 ·obtain⟨u,rfl,t,rfl⟩:=vals1 r
  exact call_int_int ⟨.int i,H,I,⟨_,rfl⟩,q⟩
 ·obtain⟨u,rfl,r1⟩:=vals1 r
  cases r1
  exact call_int_bool ⟨.int (if k then 1 else 0),H,I.tok _,⟨_,rfl⟩,q⟩
def GK(K:PySem.W.Frag)(x:V)(H:Hp)(n:Nat):Prop:=
 match x with
 | .str y=>y.length<=sizeLine/\n=y.length
 | .byt y=>y.size<=sizeLine/\n=y.size
 | .ref p=>(∃xs,N7 K H p xs/\n=xs.length)\/∃xs,R8 K H p xs/\n=xs.length
 | _=>False
theorem G5:E7 X (.builtin "len") (fun xs H Q=>∃x n,xs=[x]/\GK X.K x H n/\Q (.int n) H):=by
 intro pins s σ H xs us Q I r h
 obtain⟨x,n,rfl,e,q⟩:=h
 obtain⟨u,rfl,rx⟩:=vals1 r
 have hl:=cW
 have hs:sizeLine=16777216:=sizeLine_eq
 cases x with
 | str y=>
  obtain⟨t,rfl⟩:=rx
  obtain⟨hy,e'⟩:y.length<=sizeLine/\n=y.length:=e
  subst e'
  exact len_str (by omega) ⟨.int _,H,I.tok _,⟨_,rfl⟩,q⟩
 | byt y=>
  obtain⟨t,rfl⟩:=rx
  obtain⟨hy,e'⟩:y.size<=sizeLine/\n=y.size:=e
  subst e'
  exact PySem.W.len_bytes (by omega) ⟨.int _,H,I.tok _,⟨_,rfl⟩,q⟩
 | ref p=>
  cases rx
  have e':(∃xs,N7 X.K H p xs/\n=xs.length)\/∃xs,R8 X.K H p xs/\n=xs.length:=e
  rcases e' with⟨xs,hx,e'⟩ | ⟨xs,hx,e'⟩
  ·subst e'
   obtain⟨its,r',pl,hz⟩:=I.list hx
   have hlen:=r'.length
   exact Calls.call_len_list pl.isList (by simp only[List.size_toArray];omega) ⟨.int xs.length,H,I.tok _,⟨_,by simp only[List.size_toArray];rw[hlen]⟩,q⟩
  ·subst e'
   obtain⟨its,r',pl,hz⟩:=I.tuple hx
   have hlen:=r'.length
   exact len_tuple pl (by simp only[List.size_toArray];omega) ⟨.int xs.length,H,I.tok _,⟨_,by simp only[List.size_toArray];rw[hlen]⟩,q⟩
 | _=>exact(show False from e).elim
end
structure CG(h:Heap)(x dx C:Addr)(mA:Str->Option Value):Prop where
 obj:h.get? x=some (PySem.W.instObj C dx)
 ns:h.Ns1 dx mA
 ne:dx≠x
theorem tG{h:Heap}{dx:Addr}{mA:Str->Option Value}(n:h.Ns1 dx mA):∃od,h.get? dx=some od/\∀name,PySem.W.lookIn name od=some (mA name):=by
 obtain⟨o,es,ep,ho,hd,hk,_,hm⟩:=n
 refine⟨o,ho,fun name=>?_⟩
 have e:=hm name
 unfold nsFind findBy at e
 rw[<-Array.find?_toList] at e
 unfold PySem.W.lookIn
 rw[hd]
 dsimp only
 split
 ·rename_i y q
  rw[q] at e
  exact congrArg some e
 ·rename_i q
  rw[q] at e
  have a:es.toList.any (·.refKey)=false:=by
   rw[List.any_eq_false]
   intro y hy
   obtain⟨z,t,hkey⟩:=hk y (Array.mem_toList_iff.mp hy)
   simp[DictEntry.refKey,hkey]
  have a':¬es.toList.any (·.refKey)=true:=by rw[a];exact Bool.false_ne_true
  rw[if_neg a']
  exact congrArg some e
theorem CG.look{h:Heap}{x dx C:Addr}{mA:Str->Option Value}(I:CG h x dx C mA):∃od,PySem.W.InstAt h x (PySem.W.instObj C dx) C (some od)/\∀name,PySem.W.lookIn name od=some (mA name):=
 let ⟨od,ho,hl⟩:=tG I.ns
 ⟨od,⟨I.obj,rfl,rfl,ho⟩,hl⟩
section
variable{prog:Program}{w:World}{A:Around}{E:Value->Shared->Prop}{s:Shared}{K:PySem.W.Frag}{x dx C f:Addr}{mA:Str->Option Value}{name:Str}{v:Value}
theorem get_map{expr:Bool}{Q:Value->Shared->Prop}(X:K.In s.heap)(I:CG s.heap x dx C mA)(hg:PySem.W.plainGet K C name=true)(hh:PySem.W.hasDictIn K C=true)
  (ha:PySem.W.findIn K (.ref C) name=some none) (hv:mA name=some v) (hv':PySem.W.handedIn v=true) (h:Q v { s with toks:=s.toks+1 }) :
  wpAny (model prog w) A (getAttr (.ref x) name expr) Q E s:=by
 obtain⟨od,J,hl⟩:=I.look
 exact PySem.W.get_value X J (PySem.W.plainGet_of hg).1 (PySem.W.findObj_own hh ha rfl (by rw[hl,hv])) hv' h
end
theorem bW.some_of{v:V}{o:Option Value}(r:bW (some v) o):∃u,o=some u/\RelV v u:=by
 cases o with
 | none=>exact(show False from r).elim
 | some u=>exact⟨u,rfl,r⟩
section
variable{P:Program}{w:World}{H H':Hp}{h h':Heap}{a C dx:Addr}{fs fs':List (Str×V)}
theorem Ct(hok:S9 P w H h)(e:H a=some (.ins C dx fs)):∃mA,CG h a dx C mA/\(∀f,bW (fs.lookup f) (mA f))/\PySem.Within mA (fs.map (·.1))/\fs.length<=1000/\H dx=some (.own a):=by
 obtain⟨d,z,ne,ob,mA,n,r,q⟩:=(show u6 P w H h a (.ins C dx fs) from hok a _ e)
 exact⟨mA,⟨ob,n,ne⟩,r,q,z,d⟩
end
structure LB(K:PySem.W.Frag)(C:Addr):Prop where
 pg:PySem.W.plainGet K C Str.empty=true
 hd:PySem.W.hasDictIn K C=true
 po:PySem.W.plainOver K C=true
 sa:PySem.W.findIn K (.ref C) "__setattr__"=some (some (.builtin "object.__setattr__"))
theorem LB.get{K:PySem.W.Frag}{C:Addr}(c:LB K C)(f:Str):PySem.W.plainGet K C f=true:=c.pg
section
variable{X:Cx}{pins:List (Addr×Obj)}{σ:St}{H:Hp}{s:Shared}{a C dx:Addr}{fs:List (Str×V)}{f:Str}{v:V}{A:Around}{E:Value->Shared->Prop}
end
def Mc(X:Cx)(op:Operator)(rd:V->V->Hp->VK->Prop):Prop:=
 ∀(pins:List (Addr×Obj)) (s:Shared) (σ:St) (H:Hp) (x y:V) (u v:Value) (Q:VK),Inv X pins σ H s->RelV x u->RelV y v->rd x y H Q->wpAny (model X.prog X.w) X.A (inplaceOp op u v) (EP X pins σ Q) X.xe s
section
variable{X:Cx}{o e value:Expr}{f:Str}{pos pos' tpos:Pos}{ta tv:TE}
end
section
variable{X:Cx}{pins:List (Addr×Obj)}{σ:St}{H:Hp}{s:Shared}{A:Around}{E Q:Value->Shared->Prop}{c:Value}{b:Bool}
inductive bM(K:PySem.W.Frag)(H:Hp):V->Value->Prop where
 | non:bM K H .non (.type "NoneType")
 | bl (x:Bool):bM K H (.bl x) (.type "bool")
 | int (i:Int):bM K H (.int i) (.type "int")
 | str (x:Str):bM K H (.str x) (.type "str")
 | flt (x:UInt64):bM K H (.flt x) (.type "float")
 | lst {a:Addr} {xs:List V} (e:H a=some (.lst xs)):bM K H (.ref a) (.type "list")
 | frz {a:Addr} {o:Obj} {xs:List V} (e:H a=some (.frz o (.lst xs))):bM K H (.ref a) (.type "list")
 | tup {a:Addr} {xs:List V} (e:H a=some (.tup xs)):bM K H (.ref a) (.type "tuple")
 | dK {a:Addr} {kvs:List (Key×V)} (e:Dd H a kvs):bM K H (.ref a) (.type "dict")
 | dT {a:Addr} {kvs:List (List Key×V)} (e:H a=some (.dT kvs)):bM K H (.ref a) (.type "dict")
 | ins {a C dx:Addr} {fs:List (Str×V)} (e:H a=some (.ins C dx fs)) (cl:LB K C) (ha:PySem.W.findIn K (.ref C) "__class__"=some (some (.builtin "object.__class__")))
   (hn:PySem.W.specialIn K (.builtin "object.__class__") "__get__"=some (some (.builtin "getset_descriptor.__get__"))) (htk:PySem.W.takesIn K (.builtin "object.__class__")=some true)
   (hm:PySem.W.mroIn K C (.type "object")=some true):bM K H (.ref a) (.ref C)
theorem vf{x:V}{u t:Value}(I:Inv X pins σ H s)(rx:RelV x u)(ty:bM X.K H x t)(e:PySem.W.kitOne X.K t c=some b)(h:∀tk,Q (.bool b) { s with toks:=tk }) :
  wpAny (model X.prog X.w) A (call (.builtin "isinstance") [u,c]) Q E s:=by
 cases ty with
 | non=>cases(show u=Value.none from rx);exact PySem.W.kia_one PySem.W.kitx_none I.mE True.intro e (fun z=>nomatch z) h
 | bl y=>cases(show u=Value.bool y from rx);exact PySem.W.kia_one PySem.W.kitx_bool I.mE True.intro e (fun z=>nomatch z) h
 | int i=>obtain⟨t,q⟩:=(show ∃t,u=Value.int i t from rx);cases q;exact PySem.W.kia_one PySem.W.kitx_int I.mE True.intro e (fun z=>nomatch z) h
 | str y=>obtain⟨t,q⟩:=(show ∃t,u=Value.str y t from rx);cases q;exact PySem.W.kia_one PySem.W.kitx_str I.mE True.intro e (fun z=>nomatch z) h
 | flt y=>obtain⟨t,q⟩:=(show ∃t,u=Value.float y t from rx);cases q;exact PySem.W.kia_one PySem.W.kitx_float I.mE True.intro e (fun z=>nomatch z) h
 | @lst a xs ea=>
  cases(show u=Value.ref a from rx)
  obtain⟨_,_,n,_,h1⟩:=(show u6 X.prog X.w H s.heap a (.lst xs) from I.hok a _ ea)
  exact PySem.W.kia_one PySem.W.kitx_list I.mE ⟨_,h1,rfl⟩ e (fun z=>nomatch z) h
 | @frz a ob xs ea=>
  cases(show u=Value.ref a from rx)
  obtain⟨_,_,_,n,_,h1⟩:=(show u6 X.prog X.w H s.heap a (.frz ob (.lst xs)) from I.hok a _ ea)
  exact PySem.W.kia_one PySem.W.kitx_list I.mE ⟨_,h1,rfl⟩ e (fun z=>nomatch z) h
 | @tup a xs ea=>
  cases(show u=Value.ref a from rx)
  obtain⟨_,_,_,p⟩:=(show u6 X.prog X.w H s.heap a (.tup xs) from I.hok a _ ea)
  obtain⟨o,h1,h2,_⟩:=p
  exact PySem.W.kia_one PySem.W.kitx_tuple I.mE ⟨o,h1,h2⟩ e (fun z=>nomatch z) h
 | @dK a kvs ea=>
  cases(show u=Value.ref a from rx)
  obtain⟨_,_,vs,_,p⟩:=(show u6 X.prog X.w H s.heap a (.dK kvs) from ea.ok I.hok)
  obtain⟨o,es,ep,h1,h2,_⟩:=p
  exact PySem.W.kia_one PySem.W.kitx_dict I.mE ⟨o,h1,h2.1⟩ e (fun z=>nomatch z) h
 | @dT a kvs ea=>
  cases(show u=Value.ref a from rx)
  obtain⟨_,_,xs,_,o,es,ep,h1,h2,_⟩:=(show u6 X.prog X.w H s.heap a (.dT kvs) from I.hok a _ ea)
  exact PySem.W.kia_one PySem.W.kitx_dict I.mE ⟨o,h1,h2.1⟩ e (fun z=>nomatch z) h
 | @ins a C dx fs ea cl ha hn htk hm=>
  cases(show u=Value.ref a from rx)
  obtain⟨mA,O,_⟩:=Ct I.hok ea
  obtain⟨od,J,_⟩:=O.look
  exact PySem.W.kia_one (PySem.W.kitx_own (cl.get _) cl.hd ha hn htk hm) I.mE J e (fun z=>nomatch z) h
end
structure J1(k:Nat)(A:Around):Prop where
 hd:A.handled=none
 dp:A.depth+3*k+5<recursionLimit
 un:A.units+16*k+200<cLine
 gd:A.guards=some []
theorem J1.mono{j k:Nat}{A:Around}(r:J1 k A)(h:j<=k):J1 j A:=⟨r.hd,by have:=r.dp;omega,by have:=r.un;omega,r.gd⟩
theorem J1.deeper{k:Nat}{A:Around}(r:J1 (k+1) A)(env:Env):J1 k (A.deeper env):=
 ⟨r.hd,by have:=r.dp;show A.depth+1+3*k+5<_;omega,by have:=r.un;show A.units+3+16*k+200<_;omega,r.gd⟩
theorem J1.depth{k:Nat}{A:Around}(r:J1 k A):A.depth<recursionLimit:=by have:=r.dp;omega
theorem J1.units{k:Nat}{A:Around}(r:J1 k A):A.units+64<cLine:=by have:=r.un;omega
def Lz:TA:=fun _ H Q=>Q [] H
def Ff(ta:TE)(tr:TA):TA:=fun σ H Q=>ta σ H fun x H1=>tr σ H1 fun xs H2=>Q (x::xs) H2
section
variable{X:Cx}{e:Expr}{es:List Expr}{te:TE}{t:TA}{pos:Pos}
theorem Q4:PA X [] Lz:=.of <| fun _ _ _ _ H Q I h=>Calls.spliced_nil ⟨[],H,I,.nil,h⟩
theorem DP(ha:PE X e te)(hr:PA X es t)(hs:starEach (e::es) X.env=(false,eval e X.env)::starEach es X.env:=by rfl):PA X (e::es) (Ff te t):=by
 refine .of ?_
 intro pos pins s σ H Q I h
 rw[hs]
 show wpAny _ _ (spliced ((false,eval e X.env)::backTo pos (starEach es X.env))) _ _ s
 refine Calls.spliced_cons (A4 (ha pins s σ H _ I h) fun u s1 ⟨x,H1,I1,r1,q1⟩=>?_)
 exact A4 (hr pos pins s1 σ H1 _ I1 q1) fun us s2 ⟨xs,H2,I2,r2,q2⟩=>⟨x::xs,H2,I2,.cons r1 r2,q2⟩
def LL(t:TA):TE:=fun σ H Q=>t σ H fun xs H1=>xs.length<=sizeLine/\∀p,H1 p=none->Q (.ref p) (upd H1 p (.tup xs))
def LO(t:TA):TE:=fun σ H Q=>t σ H fun xs H1=>xs.length<=sizeLine/\∀p,H1 p=none->Q (.ref p) (upd H1 p (.lst xs))
theorem jJ{x1}(h:PA X es t):PE X (.Tuple es x1 pos) (LL t):=by
 refine .of ?_
 intro pins s σ H Q I hq
 refine wpAny_Tuple_spliced (A4 (h pos pins s σ H _ I hq) fun us s1 ⟨xs,H1,I1,r,z,q⟩=>⟨by rw[<-r.length];exact z,?_⟩)
 have hf:H1 s1.heap.objs.size=none:=I1.hok.fresh (Nat.le_refl _)
 refine⟨.ref s1.heap.objs.size,upd H1 s1.heap.objs.size (.tup xs),I1.laid (t':=s1.toks) (fun b u e=>Heap.get?_push_of_some _ e) (Nat.le_refl _) ?_,rfl,q _ hf⟩
 exact⟨z,us,r,⟨_,Heap.get?_push_size _ rfl,rfl,_,rfl⟩⟩
theorem yx(h:PA X es t):PE X (.List es pos) (LO t):=by
 refine .of ?_
 intro pins s σ H Q I hq
 refine wpAny_List_spliced (A4 (h pos pins s σ H _ I hq) fun us s1 ⟨xs,H1,I1,r,z,q⟩=>⟨by rw[<-r.length];exact z,?_⟩)
 have hf:H1 s1.heap.objs.size=none:=I1.hok.fresh (Nat.le_refl _)
 refine⟨.ref s1.heap.objs.size,upd H1 s1.heap.objs.size (.lst xs),I1.laid (t':=s1.toks) (fun b u e=>Heap.get?_push_of_some _ e) (Nat.le_refl _) ?_,rfl,q _ hf⟩
 exact⟨z,us,0,r,Heap.get?_push_size _ rfl⟩
end
abbrev Sp:=List V->Hp->VK->XK->Prop
abbrev oV:=List Env->Hp->Shared->XK->Value->Shared->Prop
structure BA(P:Program)(w:World)(K:PySem.W.Frag)(mg:Str->Option Value)(base:Heap)(A:Around)(outer:List Env)(s:Shared)(H:Hp):Prop where
 frames:A.frames=some outer
 mod:Mod K mg base
 bs:∀b o,base.get? b=some o->s.heap.get? b=some o/\H b=none
 bsz:base.objs.size<=s.heap.objs.size
 eF:s.heap.FunFrames base outer
 frf:∀b∈Y2 outer,H b=none
 hok:S9 P w H s.heap
 bare:AllBare s.gens
def CE(outer:List Env)(P:Program)(w:World)(H:Hp)(s:Shared)(Q:VK)(u:Value)(s':Shared):Prop:=
 ∃v H',s'.os=s.os/\AllBare s'.gens/\Un (Y2 outer) [] H H' s.heap s'.heap/\S9 P w H' s'.heap/\RelV v u/\Q v H'
def CR(CX:oV)(outer:List Env)(P:Program)(w:World)(H:Hp)(s:Shared)(Q:VK)(E:XK)(r:Result)(s':Shared):Prop:=
 match r with
 | .ok (.ret u)=>CE outer P w H s Q u s'
 | .ok _=>False
 | .error e=>CX outer H s E e s'
structure x5(P:Program)(w:World)(K:PySem.W.Frag)(mg:Str->Option Value)(base:Heap)(CX:oV)(k:Nat)(f:Addr)(fd:FuncData)(ps:List Str)(sp:Sp):Prop where
 len:∀vs H Q E,sp vs H Q E->vs.length=ps.length
 run:∀(A:Around) (outer:List Env) (s:Shared) (H:Hp) (args:Args) (us:List Value) (vs:List V) (Q:VK) (E:XK),J1 k A->BA P w K mg base A outer s H->BindsTo s fd args (ps.zip us)->Vals vs us->sp vs H Q E ->
  codeAny (model P w) A (.call (.ref f) args) (CR CX outer P w H s Q E) s
theorem x5.mono{P:Program}{w:World}{K:PySem.W.Frag}{mg:Str->Option Value}{base:Heap}{CX:oV}{j k:Nat}{f:Addr}{fd:FuncData}{ps:List Str}{sp:Sp}(F:x5 P w K mg base CX j f fd ps sp)(h:j<=k) :
  x5 P w K mg base CX k f fd ps sp:=⟨F.len,fun A outer s H args us vs Q E hr=>F.run A outer s H args us vs Q E (hr.mono h)⟩
theorem x5.imp{P:Program}{w:World}{K:PySem.W.Frag}{mg:Str->Option Value}{base:Heap}{CX:oV}{k:Nat}{f:Addr}{fd:FuncData}{ps:List Str}{sp sp':Sp}(F:x5 P w K mg base CX k f fd ps sp)
  (h:∀vs H Q E,sp' vs H Q E->sp vs H Q E):x5 P w K mg base CX k f fd ps sp':=
 ⟨fun vs H Q E q=>F.len vs H Q E (h _ _ _ _ q),fun A outer s H args us vs Q E hr he hb hv hs=>F.run A outer s H args us vs Q E hr he hb hv (h _ _ _ _ hs)⟩
section
variable{X:Cx}{pins:List (Addr×Obj)}{σ:St}{H:Hp}{s s':Shared}
theorem Inv.Lk(I:Inv X pins σ H s):BA X.prog X.w X.K X.mg X.base X.A X.stack s H:=
 ⟨I.ok.frames,I.ok.mod,I.bs,Nat.le_trans I.ok.bsz I.sz,I.stack,I.kK,I.hok,I.bare⟩
theorem Inv.after{Q:VK}{u:Value}(I:Inv X pins σ H s)(h:CE X.stack X.prog X.w H s Q u s'):EP X pins σ Q u s':=by
 obtain⟨v,H',os,bare,un,hok,r,q⟩:=h
 obtain⟨hh,g,d,t,os'⟩:=s'
 obtain rfl:os'=s.os:=os
 exact⟨v,H',I.call (h':=hh) (g':=g) (d':=d) (t':=t) (ch:=[]) un hok bare (fun b z=>absurd z (by simp)),r,q⟩
end
def JB(sp:Sp)(dvs:List V)(E:XK)(t:TA):TE:=fun σ H Q=>t σ H fun vs H1=>sp (vs++dvs) H1 Q E
def Binds(K:PySem.W.Frag)(fd:FuncData)(ps:List Str)(ds:List Value):Prop:=
 ∀(s:Shared) (us:List Value),K.In s.heap->(us++ds).length=ps.length->BindsTo s fd ⟨us,[]⟩ (ps.zip (us++ds))
theorem Binds.all{K:PySem.W.Frag}{fd:FuncData}{ps:List Str}(h:∀us:List Value,us.length=ps.length->bindArgs fd ⟨us,[]⟩=pure (ps.zip us)):Binds K fd ps []:=fun s us _ hl=>by
 rw[List.append_nil] at hl ⊢
 exact .of_eq (h us hl)
def Passes(CX:oV)(X:Cx)(E:XK):Prop:=∀(pins:List (Addr×Obj)) (σ:St) (H:Hp) (s:Shared) (e:Value) (s':Shared),Inv X pins σ H s->CX X.stack H s E e s'->X.xe e s'
section
variable{X:Cx}{CX:oV}{k:Nat}{f C:Addr}{fd:FuncData}{ps:List Str}{sp:Sp}{dvs:List V}{ds:List Value}{E:XK}{x m:Str}{p pos apos:Pos}{e o:Expr}{es:List Expr}{ta:TE}{t:TA}
theorem GY{pins:List (Addr×Obj)}{σ:St}{H:Hp}{s:Shared}{Q:VK}{us:List Value}{vs:List V}(F:x5 X.prog X.w X.K X.mg X.base CX k f fd ps sp)(hr:J1 k X.A)(hb:Binds X.K fd ps ds)(hd:Vals dvs ds)(hx:Passes CX X E)
  (I:Inv X pins σ H s) (r:Vals vs us) (h:sp (vs++dvs) H Q E):wpAny (model X.prog X.w) X.A (call (.ref f) us) (EP X pins σ Q) X.xe s:=by
 have r2:Vals (vs++dvs) (us++ds):=r.append hd
 have hl:(us++ds).length=ps.length:=by rw[<-r2.length];exact F.len _ _ _ _ h
 refine wpAny_call (codeAny_mono (F.run X.A X.stack s H ⟨us,[]⟩ (us++ds) (vs++dvs) Q E hr I.Lk (hb s us I.mE hl) r2 h) fun r s' hq=>?_)
 cases r with
 | error e=>exact hx pins σ H s e s' I hq
 | ok fl=>
  cases fl with
  | ret u=>exact I.after hq
  | next=>exact False.elim hq
  | brk=>exact False.elim hq
  | cont=>exact False.elim hq
theorem cJ(F:x5 X.prog X.w X.K X.mg X.base CX k f fd ps sp)(hr:J1 k X.A)(hg:Gl X x)(hm:X.mg x=some (.ref f))(hk:PySem.W.keepIn X.K (.ref f)=true)(hb:Binds X.K fd ps ds)(hd:Vals dvs ds)(hx:Passes CX X E)
  (ha:PA X (e::es) t) (hdb:(x == ("__debug__" : Str))=false:=by decide) (he:starEach (e::es) X.env=(false,eval e X.env)::starEach es X.env:=by rfl) (hpl:(backTo pos (starEach es X.env)).any (·.1)=false:=by rfl) :
  PE X (.Call (.Name x p) (e::es) [] pos) (JB sp dvs E t):=by
 refine .of ?_
 intro pins s σ H Q I h
 refine wpAny_Call_Name_kw (sE I hg hm ?_ hdb)
 refine PySem.W.callWith_K (h₀:=X.base) I.ok.mod.kin hk (A4 (ha pos pins s σ H _ I h) fun us s1 ⟨vs,H1,I1,r,q⟩=>⟨I1.mE,?_⟩) he hpl
 exact GY F hr hb hd hx I1 r q
end
section
variable{X:Cx}{CX:oV}{k:Nat}{f C:Addr}{fd:FuncData}{ps ks:List Str}{sp:Sp}{E:XK}{x m:Str}{p pos apos kpos:Pos}{e o:Expr}{es:List Expr}{kws:List Keyword}{te ta:TE}{t tk:TA}{nm:Option Str}
variable{g:List Value->List Value->List Value}{gV:List V->List V->List V}
end
structure j6(N P:List Str)(sc:Scope):Prop where
 kind:sc.kind=.function
 co:sc.isCoroutine=false
 gen:sc.isGenerator=false
 nd:N.Nodup
 pre:N.take P.length=P
 par:∀x∈P,sc.names.lookup x=some .local\/sc.names.lookup x=some .cell
 nofree:∀y∈sc.names,y.2≠.free
theorem iM{kindOf:Str->Option NameKind}{x:Str}:∀{binds:List (Str×Value)} {m:Str->Option Value},(∀v,(x,v)∉binds)->bindL kindOf binds m x=m x
 | [],_,_=>rfl
 | (n,v)::r,m,h=>by
  unfold bindL
  rw[iM fun w hw=>h w (List.mem_cons_of_mem _ hw)]
  split
  ·have:x≠n:=by rintro rfl;exact h v List.mem_cons_self
   simp[this]
  ·rfl
theorem iV{kindOf:Str->Option NameKind}{x:Str}:∀{binds:List (Str×Value)} {m:Str->Option Value},(∀v,(x,v)∉binds)->bindC kindOf binds m x=m x
 | [],_,_=>rfl
 | (n,v)::r,m,h=>by
  unfold bindC
  rw[iV fun w hw=>h w (List.mem_cons_of_mem _ hw)]
  split
  ·rfl
  ·have:x≠n:=by rintro rfl;exact h v List.mem_cons_self
   simp[this]
theorem jg{kindOf:Str->Option NameKind}{x:Str}{v:Value}:∀{P:List Str} {vs:List Value} {i:Nat} {m:Str->Option Value},P.Nodup->P[i]?=some x->vs[i]?=some v->kindOf x=some .local ->
  bindL kindOf (P.zip vs) m x=some v
 | [],_,_,_,_,h,_,_=>by simp at h
 | _::_,[],_,_,_,_,h,_=>by simp at h
 | p::P,w::vs,0,m,nd,h1,h2,hk=>by
  simp at h1 h2;subst h1;subst h2
  show bindL kindOf ((p,w)::P.zip vs) m p=_
  unfold bindL
  rw[iM fun v hv=>(List.nodup_cons.mp nd).1 (List.of_mem_zip hv).1,if_pos hk]
  simp
 | p::P,w::vs,i+1,m,nd,h1,h2,hk=>by
  show bindL kindOf ((p,w)::P.zip vs) m x=_
  unfold bindL
  exact jg (i:=i) (List.nodup_cons.mp nd).2 (by simpa using h1) (by simpa using h2) hk
theorem iL{kindOf:Str->Option NameKind}{x:Str}{v:Value}:∀{P:List Str} {vs:List Value} {i:Nat} {m:Str->Option Value},P.Nodup->P[i]?=some x->vs[i]?=some v->kindOf x≠some .local ->
  bindC kindOf (P.zip vs) m x=some v
 | [],_,_,_,_,h,_,_=>by simp at h
 | _::_,[],_,_,_,_,h,_=>by simp at h
 | p::P,w::vs,0,m,nd,h1,h2,hk=>by
  simp at h1 h2;subst h1;subst h2
  show bindC kindOf ((p,w)::P.zip vs) m p=_
  unfold bindC
  rw[iV fun v hv=>(List.nodup_cons.mp nd).1 (List.of_mem_zip hv).1,if_neg hk]
  simp
 | p::P,w::vs,i+1,m,nd,h1,h2,hk=>by
  show bindC kindOf ((p,w)::P.zip vs) m x=_
  unfold bindC
  exact iL (i:=i) (List.nodup_cons.mp nd).2 (by simpa using h1) (by simpa using h2) hk
def start(N:List Str)(vs:List V):St:=vs.map some++List.replicate (N.length-vs.length) none
def dJ(CX:oV)(P:Program)(w:World)(K:PySem.W.Frag)(mg:Str->Option Value)(base:Heap)(N:List Str)(qual:Str)(scope:Scope)(f:Addr)(cd:Value)(A:Around)(outer:List Env)(s:Shared)(H:Hp)(E:XK):Cx where
 prog:=P
 w:=w
 K:=K
 mg:=mg
 base:=base
 A:=A.deeper (envOfC qual scope s.heap.objs.size f cd)
 N:=N
 s₀:=s
 H₀:=H
 env:=envOfC qual scope s.heap.objs.size f cd
 outer:=outer
 stack:=envOfC qual scope s.heap.objs.size f cd::outer
 ex:=[]
 calm:=true
 fn:=fun _=>true
 pn:=[]
 xe:=fun e s'=>wpAny (model P w) (A.deeper (envOfC qual scope s.heap.objs.size f cd)) (leaving (envOfC qual scope s.heap.objs.size f cd) e) (fun _ s''=>CX outer H s E e s'') (fun e' s''=>CX outer H s E e' s'') s'
theorem mK{sc:Scope}{n:Nat}{x:Str}(h:sc.names.lookup x=some .cell):∃c,(cellsFrom n sc.names []).lookup x=some c:=by
 have q:=PySem.W.cellsFrom_some sc.names n [] (.inl h)
 exact Option.isSome_iff_exists.mp q
theorem uo{CX:oV}{P:Program}{w:World}{K:PySem.W.Frag}{mg:Str->Option Value}{base:Heap}{N ps:List Str}{qual:Str}{scope:Scope}{f:Addr}{cd:Value}{A:Around}{outer:List Env}{s s1:Shared}{H:Hp}{E:XK}{us:List Value}{vs:List V}
  (S:j6 N ps scope) (hd:A.handled=none) (e0:BA P w K mg base A outer s H) (hl:vs.length=ps.length) (r:Vals vs us)
  (x:InCallC s s.heap.objs.size (bindL (envOfC qual scope s.heap.objs.size f cd).kindOf (ps.zip us) fun _=>none) (cellsFrom (s.heap.objs.size+1) scope.names []) (bindC (envOfC qual scope s.heap.objs.size f cd).kindOf (ps.zip us) fun _=>none) s1) :
  Inv (dJ CX P w K mg base N qual scope f cd A outer s H E) [] (start N vs) H s1:=by
 have hpl:ps.length<=N.length:=by have:=congrArg List.length S.pre;rw[List.length_take] at this;omega
 obtain⟨h1,tk,rfl,hk⟩:=x.done
 have noA:∀b:Addr,b∉(dJ CX P w K mg base N qual scope f cd A outer s H E).ex:=fun b z=>absurd (show b∈([]:List Addr) from z) (by simp)
 refine⟨⟨e0.mod,S.kind,rfl,rfl,Nat.le_refl _,fun y z c h1 h2=>?_,fun y hy=>?_,fun y c _ h=>?_,fun _=>hd,Around.frames_deeper e0.frames,.inr ⟨rfl,rfl⟩,fun b z=>absurd z (noA b),e0.bs,e0.bsz,fun b _ _=>noA b,fun b z=>absurd z (noA b),e0.eF,e0.frf⟩,
  rfl,e0.bare,Un.kept hk,⟨_,x.toInCall.ns,fun i y v h1 h2 h3=>?_⟩,fun y c h=>⟨_,x.cell y c h⟩,e0.hok.fresh (Nat.le_refl _),fun y c h=>?_,fun p hp=>absurd (show p∈([]:List (Addr×Obj)) from hp) (by simp),e0.hok.kept hk,?_⟩
 ·exact name_of_addr x.apart (PySem.mem_of_lookup h1) (PySem.mem_of_lookup h2)
 ·have hy:scope.names.lookup y=some .cell\/scope.names.lookup y=some .free:=hy
  rcases hy with hy | hy
  ·exact mK hy
  ·exact absurd rfl (S.nofree _ (PySem.mem_of_lookup hy))
 ·exact Nat.le_of_lt (x.above y c (PySem.mem_of_lookup h))
 ·have hi:i<vs.length:=by
   unfold start at h2
   by_cases hi:i<vs.length
   ·exact hi
   ·rw[List.getElem?_append_right (by simpa using hi)] at h2
    rw[List.getElem?_replicate] at h2
    split at h2<;>cases h2
  have ha:vs[i]?=some v:=by
   unfold start at h2
   rw[List.getElem?_append_left (by simpa using hi),List.getElem?_map] at h2
   cases e:vs[i]? with
   | none=>rw[e] at h2;cases h2
   | some a=>rw[e] at h2;cases h2;rfl
  obtain⟨u,hu,rv⟩:=r.get ha
  have hp:ps[i]?=some y:=by
   rw[<-S.pre,List.getElem?_take_of_lt (by omega)];exact h1
  have ndP:ps.Nodup:=by rw[<-S.pre];exact S.nd.sublist (List.take_sublist _ _)
  refine⟨u,rv,?_⟩
  rcases S.par y (List.mem_of_getElem? hp) with k | k
  ·exact .inl ⟨k,jg ndP hp hu k⟩
  ·obtain⟨c,e⟩:=mK (n:=s.heap.objs.size+1) k
   refine .inr ⟨.inl k,c,e,?_⟩
   have q:=x.cell y c e
   rw[iL ndP hp hu (by show scope.names.lookup y≠_;rw[k];decide)] at q
   exact q
 ·exact e0.hok.fresh (Nat.le_of_lt (x.above y c (PySem.mem_of_lookup h)))
 ·unfold start
  show _=N.length
  rw[List.length_append,List.length_map,List.length_replicate]
  omega
theorem Fj{CX:oV}{P:Program}{w:World}{K:PySem.W.Frag}{mg:Str->Option Value}{base:Heap}{k:Nat}{f:Addr}{name qual:Str}{params:Arguments}{body:List Stmt}{scope:Scope}{dV kV doc pm cdv ct oc:Value}{an od:Option Addr}
  {osl:Array (Option Value)} {N ps:List Str} {sp:Sp} (lk:K.lookup f=some ⟨oc,od,.func (PySem.W.fnOf name qual params body scope dV kV doc pm an cdv ct),osl⟩) (hcd:PySem.W.codeIn K cdv qual=true) (S:j6 N ps scope)
  (len:∀vs H Q E,sp vs H Q E->vs.length=ps.length)
  (hbody:∀(A:Around) (outer:List Env) (s:Shared) (H:Hp) (vs:List V) (Q:VK) (E:XK),J1 k (A.deeper (envOfC qual scope s.heap.objs.size f cdv))->sp vs H Q E ->
   ∃t,oy (dJ CX P w K mg base N qual scope f cdv A outer s H E) body t/\t { nx:=fun _ H'=>Q .non H',rt:=Q } (start N vs) H) :
  x5 P w K mg base CX (k+1) f (PySem.W.fnOf name qual params body scope dV kV doc pm an cdv ct) ps sp:=by
 refine⟨len,fun A outer s H args us vs Q E hr e0 hb r hsp=>?_⟩
 have hl:=len _ _ _ _ hsp
 have KX:K.In s.heap:=e0.mod.kin.keeps fun b o e=>(e0.bs b o e).1
 have lim:s.heap.NoLimit:=e0.mod.nolimit.keeps fun b o e=>(e0.bs b o e).1
 have hkind:∀y∈ps.zip us,scope.names.lookup y.1=some .local\/(scope.names.lookup y.1=some .cell/\((cellsFrom (s.heap.objs.size+1) scope.names []).lookup y.1).isSome=true):=fun⟨n,v⟩ hy=>by
  rcases S.par n (List.of_mem_zip hy).1 with q | q
  ·exact .inl q
  ·exact .inr ⟨q,PySem.W.cellsFrom_some _ _ _ (.inl q)⟩
 refine codeAny_call_function hr.depth (KX _ _ lk) rfl S.co S.gen rfl (PySem.W.codeRec_of KX hcd) (hb _ _ _ _ ?_)
 refine wpAny_newFunctionEnv_cells S.kind hkind fun env he s1 x=>?_
 subst he
 refine⟨lim.keeps x.toInCall.keep,codeAny_func ?_⟩
 obtain⟨t,ht,hq⟩:=hbody A outer s H vs Q E (hr.deeper _) hsp
 have I:Inv (dJ CX P w K mg base N qual scope f cdv A outer s H E) [] (start N vs) H s1:=uo S hr.hd e0 hl r x
 refine wpAny_mono (ht [] s1 (start N vs) H _ I hq) (fun fl s' hs=>?_) fun e s' hs=>hs
 have fin:∀{σ':St} {H':Hp} {v:V} {u:Value},Inv (dJ CX P w K mg base N qual scope f cdv A outer s H E) [] σ' H' s'->RelV v u->Q v H'->CE outer P w H s Q u s':=
  fun {σ' H' v u} J rv q=>⟨v,H',J.os,J.bare,J.base,J.hok,rv,q⟩
 cases fl with
 | ret u=>
  obtain⟨v,σ',H',J,rv,q⟩:=hs
  exact fin J rv q
 | next=>
  obtain⟨σ',H',J,q⟩:=hs
  exact fin (v:=V.non) (u:=Value.none) J rfl q
 | brk=>
  obtain⟨_,_,_,q⟩:=hs
  exact False.elim q
 | cont=>
  obtain⟨_,_,_,q⟩:=hs
  exact False.elim q
section
variable{X:Cx}{x:Str}{p pos:Pos}{e:Expr}{es:List Expr}{t:TA}{id T:String}{r:List V->Hp->VK->Prop}
def KQ(r:List V->Hp->VK->Prop)(t:TA):TE:=fun σ H Q=>t σ H fun vs H1=>r vs H1 Q
theorem oz (hc:E7 X (.builtin id) r) (hg:Gl X x) (hm:X.mg x=none) (hv:bootBuiltins x=some (.builtin id)) (ha:PA X (e::es) t) (hn:x ≠ "__name__":=by decide) (hdb:(x == ("__debug__" : Str))=false:=by decide)
  (he:starEach (e::es) X.env=(false,eval e X.env)::starEach es X.env:=by rfl) (hpl:(backTo pos (starEach es X.env)).any (·.1)=false:=by rfl):PE X (.Call (.Name x p) (e::es) [] pos) (KQ r t):=by
 refine .of ?_
 intro pins s σ H Q I h
 refine wpAny_Call_Name_kw (dH I hg hm hv ?_ hn hdb)
 exact PyProof.Rows.callWith_builtin1 (A4 (ha pos pins s σ H _ I h) fun us s1 ⟨vs,H1,I1,r1,q1⟩=>hc pins s1 σ H1 vs us Q I1 r1 q1) he hpl
theorem iH (hc:E7 X (.type T) r) (hg:Gl X x) (hm:X.mg x=none) (hv:bootBuiltins x=some (.type T)) (ha:PA X (e::es) t) (hn:x ≠ "__name__":=by decide) (hdb:(x == ("__debug__" : Str))=false:=by decide)
  (he:starEach (e::es) X.env=(false,eval e X.env)::starEach es X.env:=by rfl) (hpl:(backTo pos (starEach es X.env)).any (·.1)=false:=by rfl):PE X (.Call (.Name x p) (e::es) [] pos) (KQ r t):=by
 refine .of ?_
 intro pins s σ H Q I h
 refine wpAny_Call_Name_kw (dH I hg hm hv ?_ hn hdb)
 exact PyProof.Rows.callWith_type1 (A4 (ha pos pins s σ H _ I h) fun us s1 ⟨vs,H1,I1,r1,q1⟩=>hc pins s1 σ H1 vs us Q I1 r1 q1) he hpl
end
end L2
namespace HT
open PySem PyProof.Rows
section
open PySem.SeqAt
open PySem.AutoSeq1 (wpAny_loadPart')
open PySem.MeetsSeq PySem.MeetsSeq2 PySem.MeetsSeq3
end
section
variable{prog:Program}{w:World}{A:Around}{E:Value->Shared->Prop}{s:Shared}
theorem AX{t b:Addr}{vs ws:List Value}{Q:Value->Shared->Prop}(ht:IsTup s.heap t vs.toArray)(hb:IsTup s.heap b ws.toArray)(hv:vs≠[])
  (h1:ws=[]->Q (.ref t) s) (h2:ws≠[]->Q (.ref s.heap.objs.size) { s with heap:=s.heap.push { cls:=.type "tuple",data:=.seq (vs++ws).toArray } })
  (hsz:vs.length+ws.length<=sizeLine):wpAny (model prog w) A (binaryOp .Add (.ref t) (.ref b)) Q E s:=by
 obtain⟨⟨cls,dd,data,sl⟩,ho,hc,n,hd⟩:=id ht
 obtain⟨⟨cls2,dd2,data2,sl2⟩,ho2,hc2,n2,hd2⟩:=id hb
 simp only at hc hd hc2 hd2
 subst hc hd hc2 hd2
 have e:vs.toArray++ws.toArray=(vs++ws).toArray:=by simp
 by_cases hw:ws=[]
 ·exact concat_meets ⟨_,ho,rfl⟩ ⟨_,ho2,rfl⟩ noFill_tuple_add seq_tuple_add PySem.F.slot_tuple_add PySem.F.entry_tuple_add (PySem.F.args_tuple_add_2 _ _)
   (tuple_addW1 t b vs.toArray ws.toArray n n2 dd dd2 sl sl2 (by simpa using hv) (by simp[hw])) ⟨ho,ho2,h1 hw⟩
 ·refine concat_meets ⟨_,ho,rfl⟩ ⟨_,ho2,rfl⟩ noFill_tuple_add seq_tuple_add PySem.F.slot_tuple_add PySem.F.entry_tuple_add (PySem.F.args_tuple_add_2 _ _)
   (tuple_addW2 t b vs.toArray ws.toArray n n2 dd dd2 sl sl2 (by simpa using hv) (by simpa using hw) (by rw[List.size_toArray,List.size_toArray];exact hsz)) ⟨ho,ho2,?_⟩
  rw[e]
  exact h2 hw
def D1(n d:Nat):Option Int->Nat
 | none=>d
 | some v=>if v<0 then(v+(n:Int)).toNat else min v.toNat n
theorem FO(n d:Nat)(hd:d<=n)(o:Option Int):D1 n d o<=n:=by
 cases o with
 | none=>exact hd
 | some v=>
  show(if v<0 then(v+(n:Int)).toNat else min v.toNat n)<=n
  by_cases hv:v<0
  ·rw[if_pos hv];omega
  ·rw[if_neg hv];exact Nat.min_le_right _ _
theorem rN(v:Int)(n d:Nat):(if v<0 then max (v+(n:Int)) 0 else min v (n:Int))=((D1 n d (some v):Nat):Int):=by
 show(if v<0 then max (v+(n:Int)) 0 else min v (n:Int))=(((if v<0 then(v+(n:Int)).toNat else min v.toNat n):Nat):Int)
 by_cases hv:v<0
 ·simp only[if_pos hv];omega
 ·simp only[if_neg hv];omega
theorem oR(lo hi:Option Int)(n:Nat):Builtin.Slice.sliceAdjust lo hi 1 (n:Int)=(((D1 n 0 lo:Nat):Int),((D1 n n hi:Nat):Int)):=by
 have h1:¬((1:Int)<0):=by omega
 unfold Builtin.Slice.sliceAdjust
 simp only[h1,if_false]
 refine Prod.ext ?_ ?_
 ·cases lo with
  | none=>rfl
  | some v=>exact rN v n 0
 ·cases hi with
  | none=>rfl
  | some v=>exact rN v n n
theorem pw(i j:Nat):Builtin.Slice.slicePlaces (i:Int) (j:Int) 1=j-i:=by
 unfold Builtin.Slice.slicePlaces
 have h1:(1:Int)>0:=by omega
 simp only[h1,if_true,Int.ediv_one]
 split<;>omega
theorem R6{v:Value}{o:Option Int}{Q:Option Int->Shared->Prop}(p:IsPart v o)(h:Q o s):wpAny (model prog w) A (Builtin.Slice.slicePartIndex v) Q E s:=by
 cases p with
 | none=>exact slicePart_none h
 | int i t=>exact slicePart_int h
theorem V6{sl:Addr}{vl vu:Value}{lo hi:Option Int}{n:Nat}{Q:Int×Int×Nat->Shared->Prop}(hs:s.heap.IsSliceOf sl vl vu .none)(pl:IsPart vl lo)(pu:IsPart vu hi)
  (h:Q (((D1 n 0 lo:Nat):Int),1,D1 n n hi-D1 n 0 lo) s):wpAny (model prog w) A (Builtin.Slice.sliceApplied (.ref sl) (pure (n:Int))) Q E s:=by
 obtain⟨os,hos,hcs,hds⟩:=id hs
 unfold Builtin.Slice.sliceApplied Builtin.Slice.sliceFields
 refine wpAny_bind (wpAny_bind (wpAny_field hos hds (x:=vl) rfl (wpAny_bind (wpAny_field hos hds (x:=vu) rfl (wpAny_bind (wpAny_field hos hds (x:=.none) rfl (wpAny_pure ?_)))))))
 refine wpAny_bind (slicePart_none ?_)
 show wpAny _ _ (if ((1:Int) == 0)=true then _ else _) _ _ s
 rw[if_neg (by decide)]
 refine wpAny_bind (R6 pl (wpAny_bind (R6 pu (wpAny_bind (wpAny_pure ?_)))))
 show wpAny _ _ (match Builtin.Slice.sliceAdjust lo hi 1 (n:Int) with | (lo,hi)=>pure (lo,(1:Int),Builtin.Slice.slicePlaces lo hi 1)) _ _ s
 rw[oR lo hi n]
 show wpAny _ _ (pure (((D1 n 0 lo:Nat):Int),(1:Int),Builtin.Slice.slicePlaces ((D1 n 0 lo:Nat):Int) ((D1 n n hi:Nat):Int) 1)) _ _ s
 rw[pw]
 exact wpAny_pure h
theorem xM(xs:Array Value)(i k:Nat):((List.range k).filterMap fun(m:Nat)=>xs[((i:Int)+(m:Int)*1).toNat]?).toArray=((xs.toList.drop i).take k).toArray:=by
 have e:(fun(m:Nat)=>xs[((i:Int)+(m:Int)*1).toNat]?)=fun m=>xs[i+m]?:=by
  funext m
  have:((i:Int)+(m:Int)*1).toNat=i+m:=by omega
  rw[this]
 rw[e]
 have:=pick_run xs i k
 rw[List.filterMap_map] at this
 have e2:((fun x=>xs[x]?)∘fun x=>i+x)=fun m=>xs[i+m]?:=rfl
 rw[e2] at this
 rw[this]
theorem cH{t sl:Addr}{items:Array Value}{vl vu:Value}{lo hi:Option Int}{Q:Value->Shared->Prop}(ht:IsTup s.heap t items)(hs:s.heap.IsSliceOf sl vl vu .none)(pl:IsPart vl lo)(pu:IsPart vu hi)
  (hw:¬(D1 items.size 0 lo=0/\D1 items.size items.size hi=items.size))
  (h:Q (.ref s.heap.objs.size) { s with heap:=s.heap.push { cls:=.type "tuple",data:=.seq ((items.toList.drop (D1 items.size 0 lo)).take (D1 items.size items.size hi-D1 items.size 0 lo)).toArray } })
  (hsz:items.size<=sizeLine):wpAny (model prog w) A (getItem (.ref t) (.ref sl)) Q E s:=by
 have htake:sizeOk (.seq ((items.toList.drop (D1 items.size 0 lo)).take (D1 items.size items.size hi-D1 items.size 0 lo)).toArray):=by
  show((items.toList.drop (D1 items.size 0 lo)).take (D1 items.size items.size hi-D1 items.size 0 lo)).toArray.size<=sizeLine
  rw[List.size_toArray,List.length_take,List.length_drop,Array.length_toList]
  omega
 have hj:D1 items.size items.size hi<=items.size:=FO _ _ (Nat.le_refl _) hi
 obtain⟨os,hos,hcs,hds⟩:=id hs
 have hTs:s.TypeIs (.ref sl) "slice":=⟨os,hos,hcs⟩
 unfold getItem
 try with_reducible refine wpAny_holding ?_
 first | refine wpAny_bind (wpAny_pure ?_) | skip
 refine wpAny_bind (wpAny_sequenceKey ht.typeIs (by decide) ?_)
 refine wpAny_bind (wpAny_callSpecial?_slot (name:=Str.ofString "__getitem__") ht.typeIs PyProof.Rows.slot_tuple_getitem
  (wpAny_call_entry PyProof.Rows.slot_tuple_getitem ht.typeIs entry_tuple_getitem ?_ (args_tuple_getitem _ _)))
 show wpAny _ _ (Builtin.Tuple.tupleItemsOf (.ref t) >>= _) _ _ s
 refine wpAny_bind (tupleItemsOf_ ht ?_)
 refine wpAny_bind (wpAny_typeOf hTs ?_)
 rw[if_pos (by decide)]
 refine wpAny_bind (V6 hs pl pu ?_)
 have hno:¬((((D1 items.size 0 lo:Nat):Int) == 0&&(1:Int) == 1&&(D1 items.size items.size hi-D1 items.size 0 lo) == items.size)=true):=by
  intro q
  rw[Bool.and_eq_true,Bool.and_eq_true] at q
  have q1:((D1 items.size 0 lo:Nat):Int)=0:=eq_of_beq q.1.1
  have q2:D1 items.size items.size hi-D1 items.size 0 lo=items.size:=eq_of_beq q.2
  exact hw ⟨by omega,by omega⟩
 show wpAny _ _ (if (((D1 items.size 0 lo:Nat):Int) == 0&&(1:Int) == 1&&(D1 items.size items.size hi-D1 items.size 0 lo) == items.size)=true then _ else _) _ _ s
 rw[if_neg hno,xM]
 first
  | exact wpAny_bind (m:=Builtin.Tuple.tupleExact _) (wpAny_newObj_type (wpAny_pure ⟨_,rfl,wpAny_pure h⟩) htake)
  | exact wpAny_bind (m:=Builtin.Tuple.tupleExact _) (wpAny_newObj_type (wpAny_bind (wpAny_pure (wpAny_pure ⟨_,rfl,wpAny_pure h⟩))) htake)
  | exact wpAny_bind (wpAny_bind (m:=Builtin.Tuple.tupleExact _) (wpAny_newObj_type (wpAny_pure (wpAny_pure ⟨_,rfl,wpAny_pure h⟩)) htake))
  | exact wpAny_bind (wpAny_bind (m:=Builtin.Tuple.tupleExact _) (wpAny_newObj_type (wpAny_pure ⟨_,rfl,wpAny_pure h⟩) htake))
end
end HT
namespace L2
open PySem PySem.Spec PyProof.Rows
abbrev TO:=St->Hp->(Option Int->Hp->Prop)->Prop
structure PO(X:Cx)(e:Option Expr)(t:TO) : Prop where
 of ::
 run :
 ∀(pins:List (Addr×Obj)) (s:Shared) (σ:St) (H:Hp) (Q:Option Int->Hp->Prop),Inv X pins σ H s->t σ H Q ->
  wpAny (model X.prog X.w) X.A (evalPart e X.env) (fun u s'=>∃o H',Inv X pins σ H' s'/\IsPart u o/\Q o H') X.xe s
instance {X:Cx} {e:Option Expr} {t:TO} : CoeFun (PO X e t) fun _=>
 ∀(pins:List (Addr×Obj)) (s:Shared) (σ:St) (H:Hp) (Q:Option Int->Hp->Prop),Inv X pins σ H s->t σ H Q ->
  wpAny (model X.prog X.w) X.A (evalPart e X.env) (fun u s'=>∃o H',Inv X pins σ H' s'/\IsPart u o/\Q o H') X.xe s:=⟨PO.run⟩
def Dk:TO:=fun _ H Q=>Q none H
def Jf(t:TE):TO:=fun σ H Q=>t σ H fun x H1=>∃i,x=.int i/\Q (some i) H1
section
variable{X:Cx}{e:Expr}{te:TE}{lo hi:Option Expr}{tl th:TO}{pos p2:Pos}
theorem BI:PO X none Dk:=by
 refine .of ?_
 intro pins s σ H Q I h
 rw[evalPart_none]
 exact wpAny_pure ⟨none,H,I,.none,h⟩
theorem Cj(h:PE X e te):PO X (some e) (Jf te):=by
 refine .of ?_
 intro pins s σ H Q I hw
 rw[evalPart_some]
 refine A4 (h pins s σ H _ I hw) fun u s1 ⟨x,H1,I1,r1,q1⟩=>?_
 obtain⟨i,rfl,q⟩:=q1
 obtain⟨t,rfl⟩:=r1
 exact⟨some i,H1,I1,.int i t,q⟩
def Es(X:Cx)(r:V->Option Int->Option Int->Hp->VK->Prop):Prop:=
 ∀(pins:List (Addr×Obj)) (s:Shared) (σ:St) (H:Hp) (x:V) (v vl vu:Value) (lo hi:Option Int) (sl:Addr) (Q:VK),Inv X pins σ H s->RelV x v->s.heap.IsSliceOf sl vl vu .none->IsPart vl lo->IsPart vu hi->r x lo hi H Q ->
  ∃T id,typeLookup (.type T) "__getitem__"=pure (some (.builtin id))/\s.TypeIs v T/\wpAny (model X.prog X.w) X.A (getItem v (.ref sl)) (EP X pins σ Q) X.xe s
theorem Es.or{r r':V->Option Int->Option Int->Hp->VK->Prop}(h:Es X r)(h':Es X r'):Es X (fun x lo hi H Q=>r x lo hi H Q\/r' x lo hi H Q):=by
 intro pins s σ H x v vl vu lo hi sl Q I rx hs pl pu q
 rcases q with q | q
 ·exact h pins s σ H x v vl vu lo hi sl Q I rx hs pl pu q
 ·exact h' pins s σ H x v vl vu lo hi sl Q I rx hs pl pu q
def MB(r:V->Option Int->Option Int->Hp->VK->Prop)(te:TE)(tl th:TO):TE:=fun σ H Q=>te σ H fun x H1=>tl σ H1 fun l H2=>th σ H2 fun u H3=>r x l u H3 Q
theorem yh{r:V->Option Int->Option Int->Hp->VK->Prop}(hr:Es X r)(he:PE X e te)(hl:PO X lo tl)(hu:PO X hi th):PE X (.Subscript e (.Slice lo hi none p2) pos) (MB r te tl th):=by
 refine .of ?_
 intro pins s σ H Q I h
 refine Subscript_ (A4 (he pins s σ H _ I h) fun v s1 ⟨x,H1,I1,r1,q1⟩=>?_)
 refine wpAny_Slice (A4 (hl pins s1 σ H1 _ I1 q1) fun vl s2 ⟨l,H2,I2,pl,q2⟩=>A4 (hu pins s2 σ H2 _ I2 q2) fun vu s3 ⟨u,H3,I3,pu,q3⟩=>?_)
 rw[evalPart_none]
 refine wpAny_pure ?_
 have I4:Inv X pins σ H3 { s3 with heap:=s3.heap.push { cls:=.type "slice",data:=.fields #[vl,vu,.none] } }:=I3.kept (t':=s3.toks) fun b ob q=>Heap.get?_push_of_some _ q
 obtain⟨T,id,hT,ht,hg⟩:=hr pins { s3 with heap:=s3.heap.push { cls:=.type "slice",data:=.fields #[vl,vu,.none] } } σ H3 x v vl vu l u s3.heap.objs.size Q I4 r1 (Heap.IsSliceOf.new ..) pl pu q3
 show wpAny (model X.prog X.w) X.A (subscriptTail e (.Slice lo hi none p2) v (.ref s3.heap.objs.size)) (EP X pins σ Q) X.xe { s3 with heap:=s3.heap.push { cls:=.type "slice",data:=.fields #[vl,vu,.none] } }
 exact tail_any (ops:=[.ref s3.heap.objs.size,v]) ht hT hg (by with_unfolding_all rfl)
def fE(xs:List V)(lo hi:Option Int):List V:=(xs.drop (HT.D1 xs.length 0 lo)).take (HT.D1 xs.length xs.length hi-HT.D1 xs.length 0 lo)
theorem dR(xs:List V)(lo hi:Option Int):(fE xs lo hi).length<=xs.length:=by
 unfold fE
 rw[List.length_take,List.length_drop]
 omega
def Ma(K:PySem.W.Frag):V->Option Int->Option Int->Hp->VK->Prop:=fun x lo hi H Q=>∃a xs,x=.ref a/\R8 K H a xs /\
 ¬(HT.D1 xs.length 0 lo=0/\HT.D1 xs.length xs.length hi=xs.length)/\∀p,H p=none->Q (.ref p) (upd H p (.tup (fE xs lo hi)))
theorem Ih:Es X (Ma X.K):=by
 intro pins s σ H x v vl vu lo hi sl Q I rx hs pl pu h
 obtain⟨a,xs,rfl,hx,hw,q⟩:=h
 cases rx
 obtain⟨its,r,ht,hz⟩:=I.tuple hx
 have hlen:its.toArray.size=xs.length:=by rw[List.size_toArray];exact r.length.symm
 refine⟨"tuple",_,PyProof.Rows.slot_tuple_getitem.lookup,ht.typeIs,?_⟩
 refine HT.cH ht hs pl pu (by rw[hlen];exact hw) ?_ (by rw[hlen];exact hz)
 rw[hlen]
 refine⟨.ref s.heap.objs.size,_,I.laid (t':=s.toks) (o:=.tup (fE xs lo hi)) (fun b ob q=>Heap.get?_push_of_some _ q) (Nat.le_refl _) ?_,rfl,q _ (I.hok.fresh (Nat.le_refl _))⟩
 exact⟨Nat.le_trans (dR xs lo hi) hz,_,(r.drop (HT.D1 xs.length 0 lo)).take (HT.D1 xs.length xs.length hi-HT.D1 xs.length 0 lo),IsTup.new _ _⟩
def Kj(K:PySem.W.Frag):R2:=fun x y H Q=>∃a b xs ys,x=.ref a/\y=.ref b/\R8 K H a xs/\R8 K H b ys/\xs≠[]/\xs.length+ys.length<=sizeLine /\
 (ys=[]->Q (.ref a) H)/\(ys≠[]->∀p,H p=none->Q (.ref p) (upd H p (.tup (xs++ys))))
theorem Vals.eS{xs:List V}{us:List Value}(r:Vals xs us):us=[] ↔ xs=[]:=by
 cases r with
 | nil=>simp
 | cons _ _=>simp
theorem BW:N0 X (binaryOp .Add) (Kj X.K):=by
 intro pins s σ H x y v u Q I rx ry h
 obtain⟨a,b,xs,ys,rfl,rfl,ha,hb,hx,hz,q1,q2⟩:=h
 cases rx
 cases ry
 obtain⟨its,r1,p1,_⟩:=I.tuple ha
 obtain⟨its2,r2,p2,_⟩:=I.tuple hb
 refine HT.AX p1 p2 (fun z=>hx (r1.eS.mp z)) (fun z=>⟨.ref a,H,I,rfl,q1 (r2.eS.mp z)⟩) (fun z=>?_) (by rw[<-r1.length,<-r2.length];exact hz)
 refine⟨.ref s.heap.objs.size,_,I.laid (t':=s.toks) (o:=.tup (xs++ys)) (fun b ob q=>Heap.get?_push_of_some _ q) (Nat.le_refl _) ?_,rfl,q2 (fun w=>z (r2.eS.mpr w)) _ (I.hok.fresh (Nat.le_refl _))⟩
 exact⟨by rw[List.length_append];exact hz,_,r1.append r2,IsTup.new _ _⟩
end
def kO(n:Nat)(i:Int):Option Nat:=if 0<=i then(if i<n then some i.toNat else none) else if -(n:Int)<=i then some (i+n).toNat else none
def P4{α:Type}(xs:List α)(i:Int):Option α:=(kO xs.length i).bind fun j=>xs[j]?
theorem sJ{n:Nat}{i:Int}{j:Nat}(h:kO n i=some j):seqIndex? i n=some j/\j<n/\-(n:Int)<=i/\i<n:=by
 unfold kO at h
 by_cases h0:0<=i
 ·rw[if_pos h0] at h
  by_cases h1:i<n
  ·rw[if_pos h1] at h
   have e:i.toNat=j:=Option.some.inj h
   exact⟨by rw[seqIndex_of h0 h1,e],by omega,by omega,h1⟩
  ·rw[if_neg h1] at h;cases h
 ·rw[if_neg h0] at h
  by_cases h1:-(n:Int)<=i
  ·rw[if_pos h1] at h
   have e:(i+n).toNat=j:=Option.some.inj h
   exact⟨by rw[seqIndex_neg (by omega) h1,e],by omega,h1,by omega⟩
  ·rw[if_neg h1] at h;cases h
theorem kd{α:Type}{xs:List α}{i:Int}{v:α}(h:P4 xs i=some v):∃j,seqIndex? i xs.length=some j/\xs[j]?=some v/\j<xs.length/\-(xs.length:Int)<=i/\i<xs.length:=by
 unfold P4 at h
 cases e:kO xs.length i with
 | none=>rw[e] at h;cases h
 | some j=>
  rw[e] at h
  obtain⟨h1,h2,h3,h4⟩:=sJ e
  exact⟨j,h1,h,h2,h3,h4⟩
def km(b:Expr):Prop:=∀o i,subscripted b false o i=operate [o,i] (getItem o i)
def AD(X:Cx)(r:R2):Prop:=
 ∀(value slice:Expr) (pins:List (Addr×Obj)) (s:Shared) (σ:St) (H:Hp) (x y:V) (v u:Value) (Q:VK),Inv X pins σ H s->RelV x v->RelV y u->r x y H Q ->
  subscripted slice false v u=operate [v,u] (getItem v u)->wpAny (model X.prog X.w) X.A (subscriptTail value slice v u) (EP X pins σ Q) X.xe s
def Mp(X:Cx)(id:String)(r:V->List V->Hp->VK->Prop):Prop:=
 ∀(pins:List (Addr×Obj)) (s:Shared) (σ:St) (H:Hp) (x:V) (xs:List V) (v:Value) (us:List Value) (Q:VK),Inv X pins σ H s->RelV x v->Vals xs us->r x xs H Q ->
  wpAny (model X.prog X.w) X.A (call (.builtin id) (v::us)) (EP X pins σ Q) X.xe s
section
variable{X:Cx}{a b:Expr}{ta tb:TE}{pos:Pos}
theorem AD.or{r r':R2}(h:AD X r)(h':AD X r'):AD X (fun x y H Q=>r x y H Q\/r' x y H Q):=by
 intro value slice pins s σ H x y v u Q I rx ry q hs
 rcases q with q | q
 ·exact h value slice pins s σ H x y v u Q I rx ry q hs
 ·exact h' value slice pins s σ H x y v u Q I rx ry q hs
theorem EU{r:R2}(hr:AD X r)(ha:PE X a ta)(hb:PE X b tb)(hs:km b):PE X (.Subscript a b pos) (Ip r ta tb):=by
 refine .of ?_
 intro pins s σ H Q I h
 exact Subscript_ (Gm ha hb I h fun v u s2 x y H2 I2 rx ry q=>hr a b pins s2 σ H2 x y v u Q I2 rx ry q (hs _ _))
def Jw(K:PySem.W.Frag):R2:=fun x y H Q=>∃p xs i v,x=.ref p/\y=.int i/\N7 K H p xs/\P4 xs i=some v/\Q v H
def Kk(K:PySem.W.Frag):R2:=fun x y H Q=>∃p xs i v,x=.ref p/\y=.int i/\R8 K H p xs/\P4 xs i=some v/\Q v H
def IG:R2:=fun x y H Q=>∃z i c,x=.str z/\y=.int i/\z.length<=sizeLine/\P4 z.cps.toList i=some c/\Q (.str ⟨#[c]⟩) H
theorem CI:AD X (Jw X.K):=by
 intro value slice pins s σ H x y v u Q I rx ry h hs
 obtain⟨p,xs,i,z,rfl,rfl,hq,he,q⟩:=h
 cases rx
 obtain⟨t,rfl⟩:=ry
 obtain⟨its,r,pl,hz⟩:=I.list hq
 obtain⟨j,h1,h2,h3,h4,h5⟩:=kd he
 obtain⟨w,ew,rw'⟩:=r.get h2
 have hl:=r.length
 have hn:=cW
 have fin:EP X pins σ Q w s:=⟨z,H,I,rw',q⟩
 by_cases h0:0<=i
 ·have hj:i.toNat=j:=by
   rw[seqIndex_of h0 h5] at h1
   exact Option.some.inj h1
  exact item_listR pl.isList h0 (by omega) (by rw[hj];simpa using ew) fin hs
 ·have hj:(i+(its.toArray.size:Int)).toNat=j:=by
   rw[seqIndex_neg (by omega) h4] at h1
   rw[List.size_toArray,<-hl]
   exact Option.some.inj h1
  exact subscriptTail_builtinR (x:=w) pl.isList.typeIs slot_list_getitem.lookup
   (wpAny_getItem_list_neg (Q:=fun r s'=>r=w/\EP X pins σ Q r s') pl.isList (by omega) (by rw[List.size_toArray]<;>omega) (by omega) (by rw[hj];simpa using ew) ⟨rfl,fin⟩) hs
theorem Gn:AD X (Kk X.K):=by
 intro value slice pins s σ H x y v u Q I rx ry h hs
 obtain⟨p,xs,i,z,rfl,rfl,hq,he,q⟩:=h
 cases rx
 obtain⟨t,rfl⟩:=ry
 obtain⟨its,r,pl,hz⟩:=I.tuple hq
 obtain⟨j,h1,h2,h3,h4,h5⟩:=kd he
 obtain⟨w,ew,rw'⟩:=r.get h2
 have hl:=r.length
 have hn:=cW
 have fin:EP X pins σ Q w s:=⟨z,H,I,rw',q⟩
 exact subscriptTail_builtinR (x:=w) pl.typeIs slot_tuple_getitem.lookup
  (getItem_tuple (j:=j) (Q:=fun r s'=>r=w/\EP X pins σ Q r s') pl (by omega) (by omega) (by rw[List.size_toArray,<-hl];exact h1) (by simpa using ew) ⟨rfl,fin⟩) hs
theorem GJ:AD X IG:=by
 intro value slice pins s σ H x y v u Q I rx ry h hs
 obtain⟨z,i,c,rfl,rfl,hz,he,q⟩:=h
 obtain⟨t,rfl⟩:=rx
 obtain⟨t',rfl⟩:=ry
 obtain⟨j,h1,h2,h3,h4,h5⟩:=kd he
 have hl:z.cps.toList.length=z.length:=by simp[Str.length]
 rw[hl] at h1 h4 h5
 have hn:=cW
 exact tail_any (typeIs_str s z t) slot_str_getitem.lookup (getItem_str (c:=c) (by
  have e1:decide (i < -(2^63:Int))=false:=decide_eq_false (by omega)
  have e2:decide (i ≥ 2^63)=false:=decide_eq_false (by omega)
  rw[e1,e2,Bool.or_false]) (by rw[h1];simpa using h2) ⟨.str ⟨#[c]⟩,H,I.tok _,⟨_,rfl⟩,q⟩) hs
def KN(K:PySem.W.Frag):R2:=fun x y H Q=>Jw K x y H Q\/Kk K x y H Q\/IG x y H Q
theorem yK:AD X (KN X.K):=CI.or (Gn.or GJ)
theorem qr(its:List Value)(n j:Nat)(u:Value):Obj.mapSeq (·.setIfInBounds j u) { cls:=.type "list",data:=.seq its.toArray n }={ cls:=.type "list",data:=.seq (its.set j u).toArray n }:=by
 simp[Obj.mapSeq]
theorem Inv.lst{pins:List (Addr×Obj)}{σ:St}{H:Hp}{s:Shared}{p:Addr}{xs:List V}(I:Inv X pins σ H s)(h:H p=some (.lst xs)) :
  ∃(its:List Value) (n:Nat),Vals xs its/\s.heap.get? p=some { cls:=.type "list",data:=.seq its.toArray n }/\xs.length<=sizeLine:=by
 obtain⟨z,its,n,r,e⟩:=I.hok p _ h
 exact⟨its,n,r,e,z⟩
theorem Inv.HW{pins:List (Addr×Obj)}{σ:St}{H:Hp}{s:Shared}{p:Addr}{xs ys:List V}{its its':List Value}{n n':Nat}{f:Obj->Obj}(I:Inv X pins σ H s)(h:H p=some (.lst xs))
  (ho:s.heap.get? p=some { cls:=.type "list",data:=.seq its.toArray n }) (hf:f { cls:=.type "list",data:=.seq its.toArray n }={ cls:=.type "list",data:=.seq its'.toArray n' }) (r:Vals ys its') (hz:ys.length<=sizeLine) (t:Nat) :
  Inv X pins σ (upd H p (.lst ys)) { s with heap:=s.heap.update p f,toks:=t }:=by
 have e:(s.heap.update p f).get? p=some { cls:=.type "list",data:=.seq its'.toArray n' }:=by
  rw[Heap.get?_update_self f ho (by rw[hf]<;>rfl),hf]
 refine I.write (x:=p) (e:=p) (by rw[h];trivial) (.inl rfl) (fun b u hb q=>(Heap.get?_update_other _ _ (Ne.symm hb)).trans q) ⟨_,e⟩ ?_
 exact⟨hz,its',n',r,e⟩
def Fc:V->V->V->Hp->(Hp->Prop)->Prop:=fun o i v H Q=>∃p xs k j,o=.ref p/\i=.int k/\H p=some (.lst xs)/\kO xs.length k=some j/\Q (upd H p (.lst (xs.set j v)))
theorem set_list:Kb X Fc:=by
 intro pins s σ H o i v ov iv u Q I ro ri rv h
 obtain⟨p,xs,k,j,rfl,rfl,hp,hj,q⟩:=h
 cases ro
 obtain⟨t,rfl⟩:=ri
 obtain⟨its,n,r,ho,hz⟩:=I.lst hp
 obtain⟨h1,h2,h3,h4⟩:=sJ hj
 have hl:=r.length
 have hn:=cW
 have I':Inv X pins σ (upd H p (.lst (xs.set j v))) { s with heap:=s.heap.update p (Obj.mapSeq (·.setIfInBounds j u)) }:=
  I.HW hp ho (qr its n j u) (r.set rv j) (by rw[List.length_set];exact hz) s.toks
 by_cases h0:0<=k
 ·have hk:k.toNat=j:=by
   rw[seqIndex_of h0 h4] at h1
   exact Option.some.inj h1
  exact PySem.W.ki_setAt ho h0 (by omega) (by rw[List.size_toArray,<-hl];exact h4) (by rw[hk];exact⟨_,I',q⟩)
 ·have hk:(k+(its.toArray.size:Int)).toNat=j:=by
   rw[seqIndex_neg (by omega) h3] at h1
   rw[List.size_toArray,<-hl]
   exact Option.some.inj h1
  exact PySem.W.ki_setBack ho (by omega) (by rw[List.size_toArray,<-hl];exact h3) (by omega) (by rw[hk];exact⟨_,I',q⟩)
theorem jY(lo hi:Option Int)(n:Nat):(sliceBounds lo hi none n).1=((HT.D1 n 0 lo:Nat):Int)/\(sliceBounds lo hi none n).2.1=((HT.D1 n n hi:Nat):Int)/\(sliceBounds lo hi none n).2.2=1:=by
 refine⟨?_,?_,rfl⟩
 ·cases lo with
  | none=>simp[sliceBounds,HT.D1]
  | some i=>
   simp only[sliceBounds,HT.D1,Option.getD_none,show(1:Int)>0 by decide,if_true]
   by_cases h:i<0
   ·simp only[h,if_true]<;>omega
   ·simp only[h,if_false]<;>omega
 ·cases hi with
  | none=>simp[sliceBounds,HT.D1]
  | some i=>
   simp only[sliceBounds,HT.D1,Option.getD_none,show(1:Int)>0 by decide,if_true]
   by_cases h:i<0
   ·simp only[h,if_true]<;>omega
   ·simp only[h,if_false]<;>omega
theorem ie(its:List Value)(lo hi:Option Int):slicePick its.toArray lo hi none=((its.drop (HT.D1 its.length 0 lo)).take (HT.D1 its.length its.length hi-HT.D1 its.length 0 lo)).toArray:=by
 obtain⟨h1,h2,h3⟩:=jY lo hi its.toArray.size
 unfold slicePick
 rw[h1,h2,h3]
 simp only[sliceRange_one,pick_run,List.size_toArray]<;>rfl
def JQ(K:PySem.W.Frag):V->Option Int->Option Int->Hp->VK->Prop:=fun x lo hi H Q=>∃a xs,x=.ref a/\N7 K H a xs/\∀p,H p=none->Q (.ref p) (upd H p (.lst (fE xs lo hi)))
theorem Cw:Es X (JQ X.K):=by
 intro pins s σ H x v vl vu lo hi sl Q I rx hs pl pu h
 obtain⟨a,xs,rfl,hx,q⟩:=h
 cases rx
 obtain⟨its,r,ht,hz⟩:=I.list hx
 have hlen:=r.length
 refine⟨"list",_,slot_list_getitem.lookup,ht.isList.typeIs,?_⟩
 refine wpAny_getItem_list_slice ht.isList hs pl pu .none (by simp) ?_ (by rw[List.size_toArray]<;>omega)
 rw[ie,<-hlen]
 refine⟨.ref s.heap.objs.size,_,I.laid (t':=s.toks) (o:=.lst (fE xs lo hi)) (fun b ob q=>Heap.get?_push_of_some _ q) (Nat.le_refl _) ?_,rfl,q _ (I.hok.fresh (Nat.le_refl _))⟩
 exact⟨Nat.le_trans (dR xs lo hi) hz,_,0,(r.drop (HT.D1 xs.length 0 lo)).take (HT.D1 xs.length xs.length hi-HT.D1 xs.length 0 lo),Heap.get?_push_size _ rfl⟩
def bu:V->Bool
 | .non=>true
 | .bl _=>true
 | .int _=>true
 | .str _=>true
 | _=>false
def DR:V->V->Bool
 | .non,.non=>true
 | .bl a,.bl b=>a == b
 | .bl a,.int b=>(if a then 1 else 0) == b
 | .int a,.bl b=>a == (if b then 1 else 0)
 | .int a,.int b=>a == b
 | .str a,.str b=>a == b
 | _,_=>false
theorem He{A:Around}{s:Shared}{y x:V}{u v:Value}(ry:RelV y u)(rx:RelV x v)(fy:bu y=true)(fx:bu x=true):SeqAt.EqAt A s u v (DR y x):=by
 cases y with
 | non=>
  cases ry
  cases x with
  | non=>cases rx;exact SeqAt.EqAt.same _
  | bl b=>cases rx;exact SeqAt.EqAt.none_bool b
  | int b=>obtain⟨t,rfl⟩:=rx;exact SeqAt.EqAt.none_int b t
  | str b=>obtain⟨t,rfl⟩:=rx;exact SeqAt.EqAt.none_str b t
  | _=>exact absurd (show false=true from fx) Bool.false_ne_true
 | bl a=>
  cases ry
  cases x with
  | non=>cases rx;exact SeqAt.EqAt.bool_none a
  | bl b=>cases rx;exact SeqAt.EqAt.bool_bool a b
  | int b=>obtain⟨t,rfl⟩:=rx;exact SeqAt.EqAt.bool_int a b t
  | str b=>obtain⟨t,rfl⟩:=rx;exact SeqAt.EqAt.bool_str a b t
  | _=>exact absurd (show false=true from fx) Bool.false_ne_true
 | int a=>
  obtain⟨t',rfl⟩:=ry
  cases x with
  | non=>cases rx;exact SeqAt.EqAt.int_none a t'
  | bl b=>cases rx;exact SeqAt.EqAt.int_bool a t' b
  | int b=>obtain⟨t,rfl⟩:=rx;exact SeqAt.EqAt.int_int a t' b t
  | str b=>obtain⟨t,rfl⟩:=rx;exact SeqAt.EqAt.int_str a t' b t
  | _=>exact absurd (show false=true from fx) Bool.false_ne_true
 | str a=>
  obtain⟨t',rfl⟩:=ry
  cases x with
  | non=>cases rx;exact SeqAt.EqAt.str_none a t'
  | bl b=>cases rx;exact SeqAt.EqAt.str_bool a t' b
  | int b=>obtain⟨t,rfl⟩:=rx;exact SeqAt.EqAt.str_int a t' b t
  | str b=>obtain⟨t,rfl⟩:=rx;exact SeqAt.EqAt.str_str a t' b t
  | _=>exact absurd (show false=true from fx) Bool.false_ne_true
 | _=>exact absurd (show false=true from fy) Bool.false_ne_true
def qR(x:V)(u:Value):Bool:=match u with
 | .none=>DR .non x
 | .bool b=>DR (.bl b) x
 | .int i _=>DR (.int i) x
 | .str z _=>DR (.str z) x
 | _=>false
theorem yv{x y:V}{u:Value}(r:RelV y u)(f:bu y=true):qR x u=DR y x:=by
 cases y with
 | non=>cases r;rfl
 | bl b=>cases r;rfl
 | int i=>obtain⟨t,rfl⟩:=r;rfl
 | str z=>obtain⟨t,rfl⟩:=r;rfl
 | _=>exact absurd (show false=true from f) Bool.false_ne_true
theorem cB{x:V}:∀{xs:List V} {us:List Value},Vals xs us->xs.all bu=true->us.any (qR x)=xs.any fun y=>DR y x
 | _,_,.nil,_=>rfl
 | y::xs,u::us,.cons r t,f=>by
  rw[List.all_cons,Bool.and_eq_true] at f
  rw[List.any_cons,List.any_cons,yv r f.1,cB t f.2]
theorem aw{A:Around}{s:Shared}{x:V}{v:Value}(rx:RelV x v)(fx:bu x=true):∀{xs:List V} {us:List Value},Vals xs us->xs.all bu=true->∀u∈us,SeqAt.EqAt A s u v (qR x u)
 | _,_,.nil,_=>fun u hu=>by cases hu
 | y::xs,u::us,.cons r t,f=>fun u' hu=>by
  rw[List.all_cons,Bool.and_eq_true] at f
  rcases List.mem_cons.mp hu with rfl | hu
  ·rw[yv r f.1];exact He r rx f.1 fx
  ·exact aw rx fx t f.2 u' hu
def Ky(x:V)(xs:List V):Bool:=xs.any fun y=>DR y x
def JV(K:PySem.W.Frag)(neg:Bool):R2:=fun x y H Q=>∃p xs,y=.ref p/\(N7 K H p xs\/R8 K H p xs)/\bu x=true/\xs.all bu=true/\Q (.bl (if neg then !Ky x xs else Ky x xs)) H
theorem iO:N0 X (compareOp .In) (JV X.K false):=by
 intro pins s σ H x y v u Q I rx ry h
 obtain⟨p,xs,rfl,hq,fx,fs,q⟩:=h
 cases ry
 rcases hq with hq | hq
 ·obtain⟨its,r,pl,hz⟩:=I.list hq
  refine SeqAt.in_listAt (qR x) pl.isList (fun w hw=>aw rx fx r fs w (by simpa using hw)) ⟨.bl _,H,I,rfl,?_⟩
  rw[show its.toArray.any (qR x)=its.any (qR x) by simp,cB r fs]
  exact q
 ·obtain⟨its,r,pl,hz⟩:=I.tuple hq
  refine SeqAt.in_tupleAt (qR x) pl (fun w hw=>aw rx fx r fs w (by simpa using hw)) ⟨.bl _,H,I,rfl,?_⟩
  rw[show its.toArray.any (qR x)=its.any (qR x) by simp,cB r fs]
  exact q
theorem jP:N0 X (compareOp .NotIn) (JV X.K true):=by
 intro pins s σ H x y v u Q I rx ry h
 obtain⟨p,xs,rfl,hq,fx,fs,q⟩:=h
 cases ry
 rcases hq with hq | hq
 ·obtain⟨its,r,pl,hz⟩:=I.list hq
  refine SeqAt.notIn_listAt (qR x) pl.isList (fun w hw=>aw rx fx r fs w (by simpa using hw)) ⟨.bl _,H,I,rfl,?_⟩
  rw[show its.toArray.any (qR x)=its.any (qR x) by simp,cB r fs]
  exact q
 ·obtain⟨its,r,pl,hz⟩:=I.tuple hq
  refine SeqAt.notIn_tupleAt (qR x) pl (fun w hw=>aw rx fx r fs w (by simpa using hw)) ⟨.bl _,H,I,rfl,?_⟩
  rw[show its.toArray.any (qR x)=its.any (qR x) by simp,cB r fs]
  exact q
theorem kE:E7 X (.type "list") (fun xs H Q=>∃p ys,xs=[.ref p]/\(N7 X.K H p ys\/R8 X.K H p ys)/\∀l,H l=none->Q (.ref l) (upd H l (.lst ys))):=by
 intro pins s σ H xs us Q I r h
 obtain⟨p,ys,rfl,hq,q⟩:=h
 obtain⟨u,rfl,rx⟩:=vals1 r
 cases rx
 have fin:∀(its:List Value),Vals ys its->ys.length<=sizeLine->∀(h':Heap) (c':Nat),(∀b o',s.heap.get? b=some o'->h'.get? b=some o') ->
   h'.get? s.heap.objs.size=some { cls:=.type "list",dict:=none,data:=.seq its.toArray c',slots:=#[] }->EP X pins σ Q (.ref s.heap.objs.size) { s with heap:=h' }:=fun its r' hz h' c' kp e=>
  ⟨.ref s.heap.objs.size,_,I.laid (t':=s.toks) kp (Nat.le_refl _) (show u6 X.prog X.w _ h' _ (.lst ys) from⟨hz,its,c',r',e⟩),rfl,q _ (I.hok.fresh (Nat.le_refl _))⟩
 rcases hq with hq | hq
 ·obtain⟨its,r',pl,hz⟩:=I.list hq
  have hlen:=r'.length
  obtain⟨o,ho,hc,n,hd⟩:=pl.isList
  exact call_list_seq p (.inl rfl) ho hc hd (fun h' c' kp e=>fin its r' hz h' c' kp e) (by simp only[List.size_toArray]<;>omega)
 ·obtain⟨its,r',pl,hz⟩:=I.tuple hq
  have hlen:=r'.length
  obtain⟨o,ho,hc,n,hd⟩:=pl
  exact call_list_seq p (.inr rfl) ho hc hd (fun h' c' kp e=>fin its r' hz h' c' kp e) (by simp only[List.size_toArray]<;>omega)
theorem C9:E7 X (.type "tuple") (fun xs H Q=>∃p ys,xs=[.ref p]/\((N7 X.K H p ys/\∀l,H l=none->Q (.ref l) (upd H l (.tup ys)))\/(R8 X.K H p ys/\Q (.ref p) H))):=by
 intro pins s σ H xs us Q I r h
 obtain⟨p,ys,rfl,h⟩:=h
 obtain⟨u,rfl,rx⟩:=vals1 r
 cases rx
 rcases h with⟨hq,q⟩ | ⟨hq,q⟩
 ·obtain⟨its,r',pl,hz⟩:=I.list hq
  have hlen:=r'.length
  refine call_tuple_list pl.isList (fun h' kp=>?_) (by simp only[List.size_toArray]<;>omega)
  have I1:Inv X pins σ H { s with heap:=h' }:=I.kept (t':=s.toks) kp
  have I2:Inv X pins σ (upd H h'.objs.size (.tup ys)) { s with heap:=h'.push { cls:=.type "tuple",data:=.seq its.toArray } }:=
   I1.laid (t':=s.toks) (fun b o e=>Heap.get?_push_of_some _ e) (Nat.le_refl _) (show u6 X.prog X.w _ _ _ (.tup ys) from⟨hz,its,r',IsTup.new _ _⟩)
  exact⟨.ref h'.objs.size,_,I2,rfl,q _ (I1.hok.fresh (Nat.le_refl _))⟩
 ·obtain⟨its,r',pl,hz⟩:=I.tuple hq
  exact call_tuple_same pl ⟨.ref p,H,I,rfl,q⟩
def Mn(K:PySem.W.Frag)(T:String)(x:V)(H:Hp):Prop:=match x with
 | .str _=>T="str"
 | .int _=>T="int"
 | .ref p=>(T="list" /\ ∃xs,N7 K H p xs)\/(T="tuple" /\ ∃o,K.lookup p=some o/\o.cls=.type "tuple" /\ o.dict=none) \/
   (T="dict" /\ ((∃kvs,Dd H p kvs)\/∃kvs,H p=some (.dT kvs)))\/(T="set" /\ ∃S n,H p=some (.set S n))
 | _=>False
theorem HK{pins:List (Addr×Obj)}{σ:St}{H:Hp}{s:Shared}{T:String}{x:V}{v:Value}(I:Inv X pins σ H s)(r:RelV x v)(ty:Mn X.K T x H) :
  s.TypeIs v T/\∀a,v=.ref a->∃ob,s.heap.get? a=some ob/\ob.dict=none:=by
 cases x with
 | str z=>
  obtain⟨t,rfl⟩:=r
  cases(show T="str" from ty)
  exact⟨typeIs_str s z t,fun _ e=>nomatch e⟩
 | int i=>
  obtain⟨t,rfl⟩:=r
  cases(show T="int" from ty)
  exact⟨typeIs_int s i t,fun _ e=>nomatch e⟩
 | ref p=>
  cases r
  rcases ty with⟨rfl,xs,hq⟩ | ⟨rfl,o,hk,hc,hd⟩ | ⟨rfl,hk⟩ | ⟨rfl,S,n,hk⟩
  ·obtain⟨its,_,pl,_⟩:=I.list hq
   refine⟨pl.isList.typeIs,fun a e=>?_⟩
   cases e
   obtain⟨o,n,e,c,hd,_⟩:=pl
   exact⟨o,e,hd⟩
  ·refine⟨⟨o,I.mE p o hk,hc⟩,fun a e=>?_⟩
   cases e
   exact⟨o,I.mE _ o hk,hd⟩
  ·have z:∃o,s.heap.get? p=some o/\o.ExactDict:=by
    rcases hk with⟨kvs,hk⟩ | ⟨kvs,hk⟩
    ·obtain⟨_,_,_,_,o,_,_,e,ex,_⟩:=(show u6 X.prog X.w H s.heap p (.dK kvs) from hk.ok I.hok)
     exact⟨o,e,ex⟩
    ·obtain⟨_,_,_,_,o,_,_,e,ex,_⟩:=I.hok p _ hk
     exact⟨o,e,ex⟩
   obtain⟨o,e,ex⟩:=z
   refine⟨⟨o,e,ex.1⟩,fun a e2=>?_⟩
   cases e2
   exact⟨o,e,ex.2.1⟩
  ·obtain⟨o,_,_,_,e,ex,_⟩:=I.hok p _ hk
   refine⟨⟨o,e,ex.1⟩,fun a e2=>?_⟩
   cases e2
   exact⟨o,e,ex.2.1⟩
 | _=>exact False.elim ty
def LH(K:PySem.W.Frag)(T:String)(r:V->List V->Hp->VK->Prop)(to:TE)(t:TA):TE:=fun σ H Q=>to σ H fun x H1=>Mn K T x H1/\t σ H1 fun xs H2=>r x xs H2 Q
variable{o e:Expr}{es:List Expr}{to:TE}{t:TA}{name:Str}{apos cpos:Pos}{T id:String}{r:V->List V->Hp->VK->Prop}
theorem bQ (pa:PlainAttrs T) (slot:Slot T name id) (hty:typeOf (.builtin id)=pure (.type "method_descriptor")) (hm:Mp X id r) (ho:PE X o to) (ha:PA X (e::es) t)
  (hbase:attributeBase o name X.env (eval o X.env)=eval o X.env:=by rfl)
  (hfew:((backTo cpos (starEach (e::es) X.env)).all (fun x=>!x.1)&&(backToKw cpos (keywordEach [] X.env)).all (fun x=>x.1.isSome)
   && decide ((e::es).length+([]:List Keyword).length+(if ([]:List Keyword).isEmpty then 0 else 1)<30))=true:=by rfl)
  (hline:(apos.endLine == cpos.line)=true:=by rfl) (hs:starEach (e::es) X.env=(false,eval e X.env)::starEach es X.env:=by rfl) (hplain:(backTo cpos (starEach es X.env)).any (·.1)=false:=by rfl) :
  PE X (.Call (.Attribute o name apos) (e::es) [] cpos) (LH X.K T r to t):=by
 refine .of ?_
 intro pins s σ H Q I h
 refine wpAny_Call_method_late hbase hfew hline rfl (A4 (ho pins s σ H _ I h) fun v s1 ⟨x,H1,I1,r1,ty,q1⟩=>?_)
 obtain⟨h1,h2⟩:=HK I1 r1 ty
 refine⟨T,id,pa,slot,hty,h1,h2,?_⟩
 have hA:=ha cpos pins s1 σ H1 _ I1 q1
 rw[hs] at hA ⊢
 refine Calls.callWith_builtin (by show(false||(backTo cpos (starEach es X.env)).any (·.1))=false;rw[hplain]<;>rfl) (Calls.evalArgs_plain ?_)
 exact A4 hA fun us s2 ⟨vs,H2,I2,r2,q2⟩=>hm pins s2 σ H2 x vs v us Q I2 r1 r2 q2
end
def MR(X:Cx)(id:String)(r:V->List V->Hp->VK->Prop):Prop:=
 ∀(pins:List (Addr×Obj)) (s:Shared) (σ:St) (H:Hp) (x:V) (xs:List V) (v:Value) (us:List Value) (Q:VK),Inv X pins σ H s->RelV x v->Vals xs us->r x xs H Q ->
  wpAny (model X.prog X.w) X.A (call (.builtin id) (v::us)) (EP X pins σ Q) X.xe s
theorem Vals.one:∀{x:V} {us:List Value},Vals [x] us->∃u,us=[u]/\RelV x u
 | _,_,.cons r .nil=>⟨_,rfl,r⟩
theorem Vals.reverse{xs:List V}{us:List Value}(h:Vals xs us):Vals xs.reverse us.reverse:=by
 induction h with
 | nil=>exact .nil
 | cons r t ih=>rw[List.reverse_cons,List.reverse_cons];exact Vals.append ih (.cons r .nil)
theorem Vals.rep{xs:List V}{us:List Value}(h:Vals xs us):∀k:Nat,Vals (List.replicate k xs).flatten (List.replicate k us).flatten
 | 0=>.nil
 | k+1=>by
  rw[List.replicate_succ,List.replicate_succ,List.flatten_cons,List.flatten_cons]
  exact Vals.append h (Vals.rep h k)
theorem foldl_rep(its:List Value):∀(k:Nat) (acc:List Value),
  List.foldl (fun x1 x2=>x1++x2) acc.toArray (List.replicate k its.toArray)=(acc++(List.replicate k its).flatten).toArray
 | 0,acc=>by simp
 | k+1,acc=>by
  have e:acc.toArray++its.toArray=(acc++its).toArray:=by simp
  have e2:(acc++its)++(List.replicate k its).flatten=acc++(List.replicate (k+1) its).flatten:=by
   rw[List.replicate_succ,List.flatten_cons,List.append_assoc]
  rw[<-e2,<-foldl_rep its k (acc++its),<-e,List.replicate_succ,List.foldl_cons]
section
variable{X:Cx}{pins:List (Addr×Obj)}{σ:St}{H:Hp}{s:Shared}{l b:Addr}{xs ys zs:List V}
theorem Inv.Le{its its':List Value}{n:Nat}{f:Array Value->Array Value}{t':Nat}(I:Inv X pins σ H s)(hH:H l=some (.lst xs))
  (e:s.heap.get? l=some { cls:=.type "list",data:=.seq its.toArray n }) (hf:f its.toArray=its'.toArray) (hv:Vals ys its') (hz:ys.length<=sizeLine) :
  Inv X pins σ (upd H l (.lst ys)) { s with heap:=s.heap.update l (Obj.mapSeq f),toks:=t' }:=by
 have q:=PySem.IsL.update e f
 rw[hf] at q
 refine I.write (x:=l) (e:=l) (by rw[hH];exact trivial) (.inl rfl) (fun b' u hb hu=>(Heap.get?_update_other s.heap (Obj.mapSeq f) (Ne.symm hb)).trans hu) ⟨_,q⟩ ?_
 exact⟨hz,its',_,hv,q⟩
theorem Inv.BE{its:List Value}{t':Nat}(I:Inv X pins σ H s)(hv:Vals ys its)(hz:ys.length<=sizeLine) :
  Inv X pins σ (upd H s.heap.objs.size (.lst ys)) { s with heap:=s.heap.push { cls:=.type "list",data:=.seq its.toArray },toks:=t' }:=
 I.laid (fun _ _ q=>Heap.get?_push_of_some _ q) (Nat.le_refl _) ⟨hz,its,0,hv,Heap.get?_push_size _ rfl⟩
theorem Inv.fresh(I:Inv X pins σ H s):H s.heap.objs.size=none:=I.hok.fresh (Nat.le_refl _)
theorem Inv.DK(I:Inv X pins σ H s)(hH:H l=some (.lst xs)):xs.length<=sizeLine/\∃(its:List Value) (n:Nat),Vals xs its/\xs.length=its.length/\s.heap.get? l=some { cls:=.type "list",data:=.seq its.toArray n }:=by
 obtain⟨z,its,n,r,e⟩:=I.hok l _ hH
 exact⟨z,its,n,r,r.length,e⟩
theorem ya{n:Nat}(h:n<=sizeLine):Builtin.List.listTooLong n=false:=by
 unfold Builtin.List.listTooLong
 exact decide_eq_false (by omega)
end
section
variable{X:Cx}
def M8:V->List V->Hp->VK->Prop:=fun x vs H Q=>∃l xs y,x=.ref l/\vs=[y]/\H l=some (.lst xs)/\xs.length<sizeLine/\Q .non (upd H l (.lst (xs++[y])))
theorem E6:MR X "list.append" M8:=by
 intro pins s σ H x vs v us Q I rx rv h
 obtain⟨l,xs,y,rfl,rfl,hH,hz,q⟩:=h
 cases rx
 obtain⟨u,rfl,ru⟩:=rv.one
 obtain⟨z,its,n,r,hl,e⟩:=I.DK hH
 refine call_meets F.slot_list_append ⟨_,e,rfl⟩ F.entry_list_append (F.args_list_append_2 _ _) (PySem.list_append l its.toArray n u (by rw[List.size_toArray];omega)) ⟨e,?_⟩
 refine⟨.non,_,I.Le (its':=its++[u]) hH e (by simp) (r.append (.cons ru .nil)) ?_,rfl,q⟩
 rw[List.length_append,List.length_singleton]
 omega
def Im:R2:=fun x y H Q=>∃l b xs zs,x=.ref l/\y=.ref b/\H l=some (.lst xs)/\H b=some (.lst zs)/\xs.length+zs.length<=sizeLine/\∀p,H p=none->Q (.ref p) (upd H p (.lst (xs++zs)))
theorem FI:N0 X (binaryOp .Add) Im:=by
 intro pins s σ H x y v u Q I rx ry h
 obtain⟨l,b,xs,zs,rfl,rfl,hH,hB,hz,q⟩:=h
 cases rx
 cases ry
 obtain⟨z,its,n,r,hl,e⟩:=I.DK hH
 obtain⟨z2,its2,n2,r2,hl2,e2⟩:=I.DK hB
 refine PySem.P.add_list e e2 ?_ (by rw[List.size_toArray,List.size_toArray];omega)
 have ea:its.toArray++its2.toArray=(its++its2).toArray:=by simp
 rw[ea]
 exact⟨.ref _,_,I.BE (t':=s.toks) (r.append r2) (by rw[List.length_append];omega),rfl,q _ I.fresh⟩
def IY:R2:=fun x y H Q=>∃l k xs,x=.ref l/\y=.int k/\H l=some (.lst xs)/\-(2^63)<=k/\k<2^63/\xs.length*k.toNat<=sizeLine /\
 ∀p,H p=none->Q (.ref p) (upd H p (.lst (List.replicate k.toNat xs).flatten))
theorem len_rep{α:Type}(xs:List α)(k:Nat):(List.replicate k xs).flatten.length=k*xs.length:=by
 induction k with
 | zero=>simp
 | succ k ih=>rw[List.replicate_succ,List.flatten_cons,List.length_append,ih,Nat.succ_mul,Nat.add_comm]
theorem Gg:N0 X (binaryOp .Mult) IY:=by
 intro pins s σ H x y v u Q I rx ry h
 obtain⟨l,k,xs,rfl,rfl,hH,h1,h2,hz,q⟩:=h
 cases rx
 obtain⟨t,rfl⟩:=ry
 obtain⟨z,its,n,r,hl,e⟩:=I.DK hH
 have hlen:its.toArray.size*k.toNat<=sizeLine:=by rw[List.size_toArray,<-hl];exact hz
 have hcap:¬its.toArray.size*k.toNat>(2^63-1)/8:=by
  have:(sizeLine:Nat)<=(2^63-1)/8:=by decide
  omega
 have hfit:¬(!Builtin.List.listFitsIndex k)=true:=by
  rw[fitsIndex_both h1 h2]
  exact Bool.false_ne_true
 have hlong:¬Builtin.List.listTooLong (its.toArray.size*k.toNat)=true:=by
  rw[ya hlen]
  exact Bool.false_ne_true
 have hnew:List.foldl (fun x1 x2=>x1++x2) #[] (List.replicate (if its.toArray.isEmpty=true then 0 else k.toNat) its.toArray)=(List.replicate k.toNat its).flatten.toArray:=by
  have f0:∀m:Nat,List.foldl (fun x1 x2=>x1++x2) #[] (List.replicate m its.toArray)=(List.replicate m its).flatten.toArray:=fun m=>by
   have:=foldl_rep its m []
   rw[List.nil_append] at this
   exact this
  rw[f0]
  cases its with
  | nil=>simp
  | cons a r'=>rw[if_neg (by simp)]
 refine wpAny_binaryOp_repeat_ref (T:="list") (U:="int") (by decide) ⟨_,e,rfl⟩ (fun s'=>typeIs_int s' k t) noFill_list_mul F.fills_int_mul F.slot_int_rmul repeat_list F.slot_int_index.lookup
  (call_meets F.slot_int_rmul (typeIs_int s k t) F.entry_int_rmul (F.args_int_rmul_2 _ _) (int___rmul___int_list k t l its.toArray n)
   ⟨e,rfl,⟨_,e,rfl⟩,call_meets F.slot_list_mul ⟨_,e,rfl⟩ F.entry_list_mul (F.args_list_mul_2 _ _) (AutoListH.list___mul___list_int_3 l its.toArray n k t hfit hcap hlong) ⟨e,?_⟩⟩)
 rw[hnew]
 exact⟨.ref _,_,I.BE (t':=s.toks) (r.rep k.toNat) (by rw[len_rep,Nat.mul_comm];exact hz),rfl,q _ I.fresh⟩
end
section
variable{prog:Program}{w:World}{A:Around}{E:Value->Shared->Prop}{s:Shared}
set_option maxRecDepth 100000 in
end
section
variable{X:Cx}
end
end L2
namespace Att
open PySem PySem.W PySem.Calls PyProof.Rows
theorem eP{P:Params}{h:Heap}:∀(ns:List Int) (vs:List Value),WellAll P h vs (ns.map WData.int)->IntsAre vs ns:=by
 intro ns
 induction ns with
 | nil=>
  intro vs w
  rw[List.map_nil] at w
  cases w
  exact .nil
 | cons n ns ih=>
  intro vs w
  rw[List.map_cons] at w
  cases w with
  | cons a b=>
   cases a
   exact .cons _ _ (ih _ b)
theorem tN{l:OpenLaw}{n:Nat}(hn:l.most=some n){P:Params}{h:Heap}{args:List WData}{vals:List Value}
  (hpre:l.row.toRowW.claim.pre args=true) (hwl:WellAll P h vals args) :
  ∃a vs ns,vals=[Value.ref a]/\args=[WData.list (ns.map WData.int)]/\h.get? a=some { cls:=.type "list",data:=.seq vs.toArray }/\IntsAre vs ns/\ns.length<=n:=by
 have hsh:WShape.hasAll [] args [.list .int]=true:=(pre_splitW hpre).1
 have hc:l.pre.holds [] { args:=args }=true:=(pre_splitW hpre).2
 obtain⟨d,r,rfl,h1,h2⟩:=hasAllW_cons hsh
 obtain rfl:=hasAllW_nil h2
 obtain⟨xs,rfl,h3⟩:=hasW_list h1
 obtain⟨ns,rfl⟩:=items_int h3
 have hlen:ns.length<=n:=by
  unfold OpenLaw.pre at hc
  have h4:(WTm.not (.lt (.lit (.int (n:Int))) (.len (.arg 0)))).holds [] { args:=[.list (ns.map .int)] }=true:=by
   have h4:=(holds_andW hc).1
   rw[hn] at h4
   exact h4
  have h5:=condW_of h4 (w_not (w_lt w_lit (w_len_list (w_arg rfl))))
  rw[List.length_map] at h5
  refine Nat.le_of_not_lt fun q=>?_
  have q':(n:Int)<((ns.length:Nat):Int):=by omega
  first
   | (rw[decide_eq_true q'] at h5;exact absurd h5 (by decide))
   | (simp at h5;omega)
 cases hwl with
 | cons w1 w2=>
  cases w2
  cases w1 with
  | list ho hall=>exact⟨_,_,ns,rfl,rfl,ho,eP ns _ hall,hlen⟩
theorem tS(l:OpenLaw)(args:List WData):l.row.toRowW.claim.post args (.bool true) args=true:=
 postW_of (r:=l.row.toRowW) (X:=(true == true))
  (show WShape.has [] (.bool true) .bool=true by first | rfl | decide | simp[WShape.has,WShape.arms,WShape.armsAll])
  (show(WTm.eq .res (.lit (.bool true))).value [] { args:=args,res:=some (.bool true),after:=args }=some (.bool (true == true)) from w_eq_bool (w_res rfl) w_lit) rfl
theorem lq{l:OpenLaw}{n:Nat}{q:Program}{loose:List Str}{XP:(Str->Option Value)->Heap->Prop}{YP:World->Heap->Prop}{d:DefRec}
  (hn:l.most=some n) (hdf:d.params.defaults=[])
  (call:∀(w:World) (s₀ s₁:Shared) (mg mb:Str->Option Value) (fa:Addr) (o:Obj) (pm cd doc:Value) (a:Addr) (vs:List Value) (ns:List Int),
   Ground q loose [] XP w s₀ mg mb s₁.heap->YP w s₁.heap ->
   s₁.heap.get? fa=some o->o.data=.func (docDef d.name d.params d.body d.scope pm cd doc)->s₁.heap.CodeRec cd d.name->mg d.name=some (.ref fa) ->
   s₁.heap.get? a=some { cls:=.type "list",data:=.seq vs.toArray }->IntsAre vs ns->ns.length<=n->s₁.gens=#[] ->
   codeAny (model l.prog w) callerA (.call (.ref fa) ⟨[.ref a],[]⟩) (fun r s'=>r=.ok (.ret (.bool true))/\OldK s₁.heap s'.heap/\s'.os=s₁.os/\AllBare s'.gens) s₁) :
  WalkO q loose XP YP l.row.toRowW d [] (fun f vs=>PySem.call f vs):=by
 intro w s₀ s₁ mg mb G Y fa o pm cd doc dV kV ho hd hcd hD hmg hg args vals as hpre hlay hrd hwl hlo
 obtain rfl:dV=.none:=Dflts.none hD hdf
 obtain rfl:kV=.none:=Dflts.noKw hD
 obtain⟨a,vs,ns,rfl,rfl,hobj,hints,hlen⟩:=tN hn hpre hwl
 refine enter_call (codeAny_mono (call w s₀ s₁ mg mb fa o pm cd doc a vs ns G Y ho (fd_plain hd) hcd hmg hobj hints hlen hg) fun r s' hq=>?_)
 obtain⟨rfl,h2,h3,h4⟩:=hq
 exact⟨.inl ⟨.bool true,.bool true,[],rfl,fun _=>rfl,.bool true,tS l _,fun _=>⟨List.Pairwise.nil,fun _ hm=>(nomatch hm)⟩⟩,h2,h3,h4⟩
section
variable{prog:Program}{w:World}{A:Around}{E:Value->Shared->Prop}{s:Shared}{K:Frag}
end
end Att
namespace L2
open PySem PySem.Spec PyProof.Rows
theorem ju:∀{vs:List Value} {ns:List Int},IntsAre vs ns->Vals (ns.map V.int) vs
 | _,_,.nil=>.nil
 | _,_,.cons n t h=>.cons ⟨t,rfl⟩ (ju h)
def GH(H:Hp):Prop:=∀b,H b=none\/∃o xs,H b=some (.frz o (.lst xs))
theorem wu{P:Program}{w:World}{K:PySem.W.Frag}{mg mb:Str->Option Value}{CX:oV}{k:Nat}{fa a:Addr}{fd:FuncData}{x:Str}{sp:Sp}{s₁:Shared}{vs:List Value}{ns:List Int}
  (KX:K.In s₁.heap) (hns:s₁.heap.Ns mainGlobals mg) (hb:s₁.heap.Ns builtinsNs mb) (hbb:∀x:Str,x ≠ "__name__"->mb x=bootBuiltins x) (hlim:s₁.heap.NoLimit) (hg:s₁.gens=#[])
  (ha:s₁.heap.get? a=some { cls:=.type "list",data:=.seq vs.toArray }) (hi:IntsAre vs ns) (hl:ns.length<=sizeLine) (hr:J1 k callerA)
  (F:∀base:Heap,K.In base->base.Ns mainGlobals mg->x5 P w K mg base CX k fa fd [x] sp) (hbind:∀(s:Shared) (u:Value),BindsTo s fd ⟨[u],[]⟩ [(x,u)])
  (hsp:∀H:Hp,GH H->N7 K H a (ns.map V.int)->sp [.ref a] H (fun v _=>v=.bl true) fun _ _ _=>False)
  (hCX:∀H e s',CX [] H s₁ (fun _ _ _=>False) e s'->False) :
  codeAny (model P w) callerA (.call (.ref fa) ⟨[.ref a],[]⟩) (fun r s'=>r=.ok (.ret (.bool true))/\OldK s₁.heap s'.heap/\s'.os=s₁.os/\AllBare s'.gens) s₁:=by
 have rv:=ju hi
 have lenV:=hi.length
 have core:∀H:Hp,GH H->N7 K H a (ns.map V.int)->S9 P w H s₁.heap->(∀b,H b≠none->b=a)->(H a≠none->K.lookup a=none) ->
   codeAny (model P w) callerA (.call (.ref fa) ⟨[.ref a],[]⟩) (fun r s'=>r=.ok (.ret (.bool true))/\OldK s₁.heap s'.heap/\s'.os=s₁.os/\AllBare s'.gens) s₁:=by
  intro H hO hS hok hA hK
  have base_of:∀{b:Addr} {o:Obj},s₁.heap.get? b=some o->H b=none->(kH s₁.heap H).get? b=some o:=fun e n=>yT e n
  have noA:∀{b:Addr} {o:Obj} {es:Array DictEntry} {ep:Nat},s₁.heap.get? b=some o->o.data=.dict es ep->H b=none:=fun {b o es ep} e d=>by
   cases q:H b with
   | none=>rfl
   | some u=>
    have e':b=a:=hA b (by rw[q];simp)
    subst e'
    rw[ha] at e;cases e
    have d':Data.seq vs.toArray _=Data.dict es ep:=d
    cases d'
  have nsK:∀{b:Addr} {m:Str->Option Value},s₁.heap.Ns b m->(kH s₁.heap H).Ns b m:=fun {b m} ⟨o,es,ep,e,d,r⟩=>⟨o,es,ep,base_of e (noA e d),d,r⟩
  have hKb:K.In (kH s₁.heap H):=fun b o e=>base_of (KX b o e) (by
   cases q:H b with
   | none=>rfl
   | some u=>
    have e':b=a:=hA b (by rw[q];simp)
    subst e'
    rw[hK (by rw[q];simp)] at e;cases e)
  have hM:Mod K mg (kH s₁.heap H):=⟨hKb,nsK hns,⟨mb,nsK hb,hbb⟩,let ⟨mc,h1,h2⟩:=hlim;⟨mc,nsK h1,h2⟩⟩
  have e0:BA P w K mg (kH s₁.heap H) callerA [] s₁ H:=⟨rfl,hM,fun b o e=>DO e,Nat.le_of_eq (uV _ _),trivial,fun b hb=>absurd (show b∈([]:List Addr) from hb) (by simp),hok,.of_eq hg⟩
  refine codeAny_mono ((F _ hKb (nsK hns)).run callerA [] s₁ H ⟨[.ref a],[]⟩ [.ref a] [.ref a] _ _ hr e0 (hbind s₁ (.ref a)) (.cons rfl .nil) (hsp H hO hS)) fun r s' h=>?_
  cases r with
  | error e=>exact(hCX H e s' h).elim
  | ok fl=>
   cases fl with
   | next=>exact False.elim h
   | brk=>exact False.elim h
   | cont=>exact False.elim h
   | ret u=>
    obtain⟨v,H',os,bare,un,hok',r',q⟩:=h
    have q':v=.bl true:=q
    subst q'
    obtain rfl:u=Value.bool true:=r'
    refine⟨rfl,OldK.of_keep fun b o e=>?_,os,bare⟩
    cases q:H b with
    | none=>exact un.keep b o e q (by intro z;exact absurd (show b∈([]:List Addr) from z) (by simp)) (by simp)
    | some u=>
     rcases hO b with z | ⟨ob,xs,z⟩
     ·rw[q] at z;cases z
     ·have z2:=un.frzs b ob _ z
      obtain⟨e1,_⟩:=hok b _ z
      obtain⟨e2,_⟩:=hok' b _ z2
      rw[e] at e1;cases e1
      exact e2
 cases hk:K.lookup a with
 | some o=>
  have e:=KX a o hk
  rw[ha] at e
  cases e
  refine core (fun _=>none) (fun _=>.inl rfl) (.inr ⟨_,vs.toArray,_,hk,rfl,rfl,rfl,by rw[List.size_toArray,lenV];exact hl,by simpa using rv⟩) (fun b u z=>by have z':(none:Option HO)=some u:=z;cases z') (fun b z=>absurd rfl z) fun z=>absurd rfl z
 | none=>
  refine core (fun b=>if b=a then some (.frz { cls:=.type "list",data:=.seq vs.toArray } (.lst (ns.map V.int))) else none) (fun b=>?_) (.inl (.inr ⟨{ cls:=.type "list",data:=.seq vs.toArray },if_pos rfl⟩)) (fun b u z=>?_) (fun b z=>?_) fun _=>hk
  ·by_cases hb:b=a
   ·exact .inr ⟨_,_,if_pos hb⟩
   ·exact .inl (if_neg hb)
  ·by_cases hb:b=a
   ·have z':=(if_pos hb).symm.trans z
    cases z'
    subst hb
    exact⟨ha,by rw[List.length_map];exact hl,vs,_,rv,ha⟩
   ·have z':=(if_neg hb).symm.trans z
    cases z'
  ·by_cases hb:b=a
   ·exact hb
   ·exact absurd (if_neg hb) z
abbrev MS{K:PySem.W.Frag}{h:Heap}(_:K.In h):PySem.W.Frag:=K
theorem CP{l:PySem.W.OpenLaw}{n k:Nat}{q:Program}{loose:List Str}{XP:(Str->Option Value)->Heap->Prop}{YP:World->Heap->Prop}{d:DefRec}{K:Params->PySem.W.Frag}{CX:World->oV}{sp:World->Sp}{x:Str}
  (hn:l.most=some n) (hn2:n<=sizeLine) (hdf:d.params.defaults=[]) (hr:J1 k callerA)
  (hY:∀(w:World) (h:Heap),YP w h->(K w.params).In h)
  (F:∀(w:World) (mg:Str->Option Value) (fa:Addr) (h:Heap),(K w.params).In h->h.Ns mainGlobals mg->mg d.name=some (.ref fa) ->
   ∃fd:FuncData,(∀(s:Shared) (u:Value),BindsTo s fd ⟨[u],[]⟩ [(x,u)]) /\
    ∀base:Heap,(K w.params).In base->base.Ns mainGlobals mg->x5 l.prog w (K w.params) mg base (CX w) k fa fd [x] (sp w))
  (hsp:∀(w:World) (H:Hp) (a:Addr) (ns:List Int),ns.length<=n->GH H->N7 (K w.params) H a (ns.map V.int)->sp w [.ref a] H (fun v _=>v=.bl true) fun _ _ _=>False)
  (hCX:∀(w:World) (H:Hp) (s:Shared) (e:Value) (s':Shared),CX w [] H s (fun _ _ _=>False) e s'->False) :
  PySem.W.WalkO q loose XP YP l.row.toRowW d [] (fun f vs=>PySem.call f vs):=by
 refine Att.lq hn hdf fun w s₀ s₁ mg mb fa o pm cd doc a vs ns G Y ho hd hcd hmg hobj hints hlen hg=>?_
 have KX:=hY w _ Y
 obtain⟨fd,hb,hF⟩:=F w mg fa _ KX G.T.g hmg
 exact wu KX G.T.g G.T.b G.T.builtins G.T.nolimit hg hobj hints (Nat.le_trans hlen hn2) hr hF hb (fun H hO hS=>hsp w H a ns hlen hO hS) fun H e s'=>hCX w H s₁ e s'
def n9(s:Stmt):Arguments:=match s with
 | .FunctionDef _ a _ _ _ _ _ _ _ _=>a
 | _=>{ posonlyargs:=[],args:=[],vararg:=none,kwonlyargs:=[],kw_defaults:=[],kwarg:=none,defaults:=[] }
def i9(s:Stmt):List Stmt:=match s with
 | .FunctionDef _ _ b _ _ _ _ _ _ _=>b
 | _=>[]
def e6(s:Stmt):Scope:=match s with
 | .FunctionDef _ _ _ _ _ _ sc _ _ _=>sc
 | _=>{ kind:=.function,names:=[],isGenerator:=false,isCoroutine:=false }
abbrev O9:oV:=fun _ _ _ _ _ _=>False
abbrev E0:XK:=fun _ _ _=>False
theorem rY{X:Cx}:Passes O9 X E0:=fun _ _ _ _ _ _ _ h=>h.elim
structure P6(K:PySem.W.Frag)(x qual:Str)(st:Stmt)(f:Addr)(fd:FuncData):Prop where
 ex:∃(oc:Value) (od:Option Addr) (kV doc pm:Value) (an:Option Addr) (cdv ct:Value) (osl:Array (Option Value)),
  fd=PySem.W.fnOf x qual (n9 st) (i9 st) (e6 st) .none kV doc pm an cdv ct/\K.lookup f=some ⟨oc,od,.func fd,osl⟩/\PySem.W.codeIn K cdv qual=true
 kp:PySem.W.keepIn K (.ref f)=true
section
variable{P:Program}{w:World}{K:PySem.W.Frag}{mg:Str->Option Value}{base:Heap}
theorem P6.ok{x qual:Str}{st:Stmt}{f:Addr}{fd:FuncData}{N ps:List Str}{k:Nat}{sp:Sp}(F:P6 K x qual st f fd)(S:j6 N ps (e6 st))(len:∀vs H Q E,sp vs H Q E->vs.length=ps.length)
  (hbody:∀(cdv:Value) (A:Around) (outer:List Env) (s:Shared) (H:Hp) (vs:List V) (Q:VK) (E:XK),J1 k (A.deeper (envOfC qual (e6 st) s.heap.objs.size f cdv))->sp vs H Q E ->
   ∃t,oy (dJ O9 P w K mg base N qual (e6 st) f cdv A outer s H E).Iy (i9 st) t/\t { nx:=fun _ H'=>Q .non H',rt:=Q } (start N vs) H):x5 P w K mg base O9 (k+1) f fd ps sp:=by
 obtain⟨oc,od,kV,doc,pm,an,cdv,ct,osl,rfl,lk,hcd⟩:=F.ex
 refine Fj lk hcd S len fun A outer s H vs Q E hr hsp=>?_
 obtain⟨t,h,q⟩:=hbody cdv A outer s H vs Q E hr hsp
 exact⟨t,h.Iy,q⟩
theorem P6.binds{x qual:Str}{st:Stmt}{f:Addr}{fd:FuncData}{ps:List Str}(F:P6 K x qual st f fd)
  (h:∀(kV doc pm:Value) (an:Option Addr) (cdv ct:Value) (us:List Value),us.length=ps.length->bindArgs (PySem.W.fnOf x qual (n9 st) (i9 st) (e6 st) .none kV doc pm an cdv ct) ⟨us,[]⟩=pure (ps.zip us)):Binds K fd ps []:=by
 obtain⟨oc,od,kV,doc,pm,an,cdv,ct,osl,rfl,lk,hcd⟩:=F.ex
 exact .all (h kV doc pm an cdv ct)
theorem p7{x qual:Str}{st:Stmt}{f:Addr}{oc:Value}{od an:Option Addr}{osl:Array (Option Value)}{kV doc pm cdv ct:Value}(l:K.lookup f=some ⟨oc,od,.func (PySem.W.fnOf x qual (n9 st) (i9 st) (e6 st) .none kV doc pm an cdv ct),osl⟩)
  (c:PySem.W.codeIn K cdv qual=true) (k:PySem.W.keepIn K (.ref f)=true):P6 K x qual st f (PySem.W.fnOf x qual (n9 st) (i9 st) (e6 st) .none kV doc pm an cdv ct):=⟨⟨oc,od,kV,doc,pm,an,cdv,ct,osl,rfl,l,c⟩,k⟩
end
theorem g6{A:Around}{k:Nat}(hr:J1 k A):A.units+1<cLine:=Nat.lt_of_le_of_lt (Nat.add_le_add_left (by decide:1<=64) _) hr.units
theorem vd{n:Nat}(h:n<=1000):n<sizeLine:=Nat.lt_of_le_of_lt h (by decide)
section
variable{X:Cx}
theorem pv (i:Nat) {x:Str} {pos:Pos} (hN:X.N[i]?=some x:=by rfl) (hv:KA X.env.scope x:=by first | exact Or.inl rfl | exact Or.inr (Or.inl rfl) | exact Or.inr (Or.inr rfl)) (hd:(x == ("__debug__" : Str))=false:=by decide)
  (hcd:(x == ("__classdict__" : Str))=false:=by decide):PE X (.Name x pos) (dC i):=FJ hN hv hd hcd
end
def i3(H H':Hp):Prop:=∀b o,H b=some o->H' b=some o
theorem i3.refl(H:Hp):i3 H H:=fun _ _ h=>h
theorem i3.trans{H H1 H2:Hp}(a:i3 H H1)(b:i3 H1 H2):i3 H H2:=fun c o h=>b c o (a c o h)
theorem i3.free{H H':Hp}(e:i3 H H'){l:Addr}(h:H' l=Option.none):H l=Option.none:=by
 cases q:H l with
 | none=>rfl
 | some o=>
  rw[e l o q] at h
  cases h
theorem i3.seq{K:PySem.W.Frag}{H H':Hp}{a:Addr}{xs:List V}(e:i3 H H')(h:N7 K H a xs):N7 K H' a xs:=by
 rcases h with(h | ⟨o,h⟩) | h
 ·exact .inl (.inl (e _ _ h))
 ·exact .inl (.inr ⟨o,e _ _ h⟩)
 ·exact .inr h
end L2
set_option maxHeartbeats 4000000
namespace L2
open PySem PySem.Spec PyProof.Rows
theorem jH{prog:Program}{w:World}{A:Around}{R:Result->Shared->Prop}{s:Shared}{elt target iter:Expr}{ifs:List Expr}{scope:Scope}{pos:Pos}{it acc:Value}{env:Env}(I:Nat->Shared->Prop)
  (turn:∀n s,I n s->wpAny (model prog w) A (pyNext it) (fun r s1=>match r with
   | none=>R (.ok .next) s1
   | some v=>wpAny (model prog w) A (letOwnedTupleGo target it v) (fun _ s2=>wpAny (model prog w) A (assign target env v) (fun _ s3=>
     wpAny (model prog w) A (forIn ifs true fun c r=>if r=true then do let ok <-isTrue c env (eval c env);pure (ForInStep.yield ok) else pure (ForInStep.yield r)) (fun ok s4=>
      if ok=true then wpAny (model prog w) A (eval elt env) (fun x s5=>
       wpAny (model prog w) A (call (.builtin "list.append") [acc,x]) (fun _ s6=>∃m,m<n/\I m s6) (fun _ _=>False) s5) (fun _ _=>False) s4
      else ∃m,m<n/\I m s4) (fun _ _=>False) s3) (fun _ _=>False) s2) (fun _ _=>False) s1) (fun _ _=>False) s)
  (n:Nat) (h:I n s) :
  codeAny (model prog w) A (.compLoop (.ListComp elt [⟨target,iter,ifs,0⟩] scope pos) 0 it acc env) R s:=by
 refine codeAny_loop rfl I (fun n s hI=>?_) n h
 show wpAny _ A ((compTurn (.ListComp elt [⟨target,iter,ifs,0⟩] scope pos) 0 it acc env).onRaise (fun x=>do noteFrame x env;theTreesLotGoes x)) _ _ s
 refine wpAny_noted ?_
 rw[compTurn_list]
 refine wpAny_bind (wpAny_standAt (wpAny_bind (wpAny_mono (turn n s hI) (fun r s1 h1=>?_) fun _ _ h'=>h'.elim)))
 cases r with
 | none=>exact wpAny_pure h1
 | some v=>
  refine wpAny_bind (wpAny_mono h1 (fun _ s2 h2=>?_) fun _ _ h'=>h'.elim)
  refine wpAny_bind (wpAny_mono h2 (fun _ s3 h3=>wpAny_bind (wpAny_mono h3 (fun ok s4 h4=>?_) fun _ _ h'=>h'.elim)) fun _ _ h'=>h'.elim)
  cases ok with
  | false=>exact wpAny_pure ⟨rfl,h4⟩
  | true=>
   exact wpAny_bind (wpAny_bind (wpAny_mono h4 (fun x s5 h5=>wpAny_bind (wpAny_mono h5 (fun _ s6 h6=>wpAny_pure (wpAny_pure ⟨rfl,h6⟩)) fun _ _ h'=>h'.elim)) fun _ _ h'=>h'.elim))
def D0(env:Env):List (Str×NameKind)->List (Str×Addr)->List (Str×Addr)
 | [],acc=>acc
 | (n,k)::r,acc=>if (k == .free)=true then(match env.cells.lookup n with
   | some a=>D0 env r ((n,a)::acc)
   | none=>D0 env r acc) else D0 env r acc
theorem fY{env:Env}:∀(names:List (Str×NameKind)) (acc:List (Str×Addr)),(∀x∈names,x.2=.free->∃a,env.cells.lookup x.1=some a) ->
  (forIn names acc fun(x:Str×NameKind) (cs:List (Str×Addr))=>(if (x.2 == NameKind.free)=true then(do let c <-cellOf env x.1;pure (ForInStep.yield ((x.1,c)::cs))) else pure (ForInStep.yield cs):Sem (ForInStep (List (Str×Addr)))))=(pure (D0 env names acc):Sem (List (Str×Addr)))
 | [],acc,_=>rfl
 | (n,k)::r,acc,h=>by
  have ih:=fun acc'=>fY (env:=env) r acc' fun x hx=>h x (List.mem_cons_of_mem _ hx)
  rw[List.forIn_cons]
  unfold D0
  by_cases hk:(k == NameKind.free)=true
  ·obtain⟨a,ha⟩:=h (n,k) List.mem_cons_self (by simpa using hk)
   have ha':env.cells.lookup n=some a:=ha
   simp only[hk,if_true,cellOf,ha',pure_bind]
   exact ih _
  ·have hk':(k == NameKind.free)=false:=by simpa using hk
   simp only[hk',if_false,Bool.false_eq_true,pure_bind]
   exact ih _
theorem X9{env:Env}{scope:Scope}(h:∀x∈scope.names,x.2=.free->∃a,env.cells.lookup x.1=some a):closureFor scope env=pure (D0 env scope.names []):=by
 have e:=fY (env:=env) scope.names [] h
 simp only[closureFor]
 exact(congrArg (fun z=>z >>= fun cs=>pure cs) e).trans (by simp)
theorem cx{env:Env}:∀{names:List (Str×NameKind)} {acc:List (Str×Addr)} {x:Str} {c:Addr},(D0 env names acc).lookup x=some c->acc.lookup x=some c\/env.cells.lookup x=some c
 | [],acc,x,c,h=>.inl h
 | (n,k)::r,acc,x,c,h=>by
  unfold D0 at h
  by_cases hk:(k == NameKind.free)=true
  ·rw[if_pos hk] at h
   cases e:env.cells.lookup n with
   | none=>rw[e] at h;exact cx h
   | some a=>
    rw[e] at h
    rcases cx h with z | z
    ·by_cases hx:x=n
     ·subst hx
      rw[List.lookup_cons] at z
      simp at z
      subst z
      exact .inr e
     ·rw[List.lookup_cons] at z
      have:(x == n)=false:=by simpa using hx
      rw[this] at z
      exact .inl z
    ·exact .inr z
  ·rw[if_neg hk] at h
   exact cx h
theorem W2{env:Env}:∀{names:List (Str×NameKind)} {acc:List (Str×Addr)} {x:Str} {c:Addr},acc.lookup x=some c->∃c',(D0 env names acc).lookup x=some c'
 | [],acc,x,c,h=>⟨c,h⟩
 | (n,k)::r,acc,x,c,h=>by
  unfold D0
  by_cases hk:(k == NameKind.free)=true
  ·rw[if_pos hk]
   cases e:env.cells.lookup n with
   | none=>exact W2 h
   | some a=>
    by_cases hx:x=n
    ·subst hx
     exact W2 (c:=a) (by rw[List.lookup_cons];simp)
    ·refine W2 (c:=c) ?_
     rw[List.lookup_cons]
     have:(x == n)=false:=by simpa using hx
     rw[this]
     exact h
  ·rw[if_neg hk]
   exact W2 h
theorem fD{env:Env}:∀{names:List (Str×NameKind)} {acc:List (Str×Addr)} {x:Str},(∀y∈names,y.2=.free->∃a,env.cells.lookup y.1=some a)->(x,NameKind.free)∈names->∃c,(D0 env names acc).lookup x=some c
 | [],acc,x,_,h=>by cases h
 | (n,k)::r,acc,x,ha,h=>by
  unfold D0
  rcases List.mem_cons.mp h with z | z
  ·injection z with e1 e2
   subst e1
   subst e2
   rw[if_pos (by simp)]
   obtain⟨a,e⟩:=ha (x,.free) List.mem_cons_self rfl
   have e':env.cells.lookup x=some a:=e
   rw[e']
   exact W2 (c:=a) (by rw[List.lookup_cons];simp)
  ·have ih:=fun acc'=>fD (acc:=acc') (fun y hy=>ha y (List.mem_cons_of_mem _ hy)) z
   by_cases hk:(k == NameKind.free)=true
   ·rw[if_pos hk]
    cases e:env.cells.lookup n with
    | none=>exact ih _
    | some a=>exact ih _
   ·rw[if_neg hk]
    exact ih _
theorem W3{env:Env}:∀{names:List (Str×NameKind)} {x:Str} {k:NameKind},
  (names.map fun(n,k)=>if (k == NameKind.free&&env.scope.kind == .function&&env.kindOf n == some .cell) then(n,NameKind.cell) else(n,k)).lookup x=some k->(k=.cell\/k=.free)->(∀y∈names,y.2≠.cell)->(x,NameKind.free)∈names
 | [],_,_,h,_,_=>by cases h
 | (n,q)::r,x,k,h,hk,hc=>by
  have ih:=@W3 env r x k
  rw[List.map_cons] at h
  by_cases hq:(q == NameKind.free&&env.scope.kind == .function&&env.kindOf n == some .cell)=true
  ·have hqf:q=.free:=by
    have:=(Bool.and_eq_true_iff.mp (Bool.and_eq_true_iff.mp hq).1).1
    simpa using this
   simp only[hq,if_true] at h
   by_cases hx:x=n
   ·subst hx;rw[hqf];exact List.mem_cons_self
   ·rw[List.lookup_cons] at h
    have:(x == n)=false:=by simpa using hx
    rw[this] at h
    exact List.mem_cons_of_mem _ (ih h hk fun y hy=>hc y (List.mem_cons_of_mem _ hy))
  ·have hq':(q == NameKind.free&&env.scope.kind == .function&&env.kindOf n == some .cell)=false:=by simpa using hq
   simp only[hq',Bool.false_eq_true,if_false] at h
   by_cases hx:x=n
   ·subst hx
    rw[List.lookup_cons] at h
    simp at h
    subst h
    rcases hk with z | z
    ·exact absurd z (hc (x,q) List.mem_cons_self)
    ·rw[z];exact List.mem_cons_self
   ·rw[List.lookup_cons] at h
    have:(x == n)=false:=by simpa using hx
    rw[this] at h
    exact List.mem_cons_of_mem _ (ih h hk fun y hy=>hc y (List.mem_cons_of_mem _ hy))
def M4(X:Cx)(N:List Str)(scope:Scope)(cl:List (Str×Addr))(fp:List Addr)(s:Shared)(H:Hp):Cx where
 prog:=X.prog
 w:=X.w
 K:=X.K
 mg:=X.mg
 base:=X.base
 A:=X.A
 N:=N
 s₀:=s
 H₀:=H
 env:=compEnvC scope cl s.heap.objs.size X.env
 outer:=X.stack
 stack:=X.stack
 ex:=fp
 fn:=fun _=>false
 calm:=X.calm
 pn:=[]
 xe:=fun _ _=>False
def P1(cap:List (Option Nat))(σ:St):St:=cap.map fun o=>match o with
 | some j=>(σ[j]?).join
 | none=>none
def ax(XN N:List Str)(XS scope:Scope)(cap:List (Option Nat)):Bool:=
 (cap.length == N.length)&&(List.range N.length).all (fun i=>match N[i]?,cap[i]? with
  | some x,some (some j)=>(XN[j]? == some x)&&((XS.names.lookup x == some .cell)||(XS.names.lookup x == some .free))&&(scope.names.lookup x == some .free)
  | some _,some none=>true
  | _,_=>false)
 && scope.names.all (fun y=>y.2 != .cell)&&scope.names.all (fun y=>y.2 != .free||(XS.names.lookup y.1 == some .cell)||(XS.names.lookup y.1 == some .free))
 && scope.names.all (fun y=>y.2 != .local||(scope.names.lookup y.1 == some .local))
theorem bU{env:Env}:∀{names:List (Str×NameKind)} {x:Str},names.lookup x=some .free ->
  (names.map fun(n,k)=>if (k == NameKind.free&&env.scope.kind == .function&&env.kindOf n == some .cell) then(n,NameKind.cell) else(n,k)).lookup x=some .cell \/
  (names.map fun(n,k)=>if (k == NameKind.free&&env.scope.kind == .function&&env.kindOf n == some .cell) then(n,NameKind.cell) else(n,k)).lookup x=some .free
 | [],_,h=>by cases h
 | (n,q)::r,x,h=>by
  have ih:=@bU env r x
  rw[List.map_cons]
  by_cases hx:x=n
  ·subst hx
   rw[List.lookup_cons] at h
   simp at h
   subst h
   by_cases hq:(NameKind.free == NameKind.free&&env.scope.kind == .function&&env.kindOf x == some .cell)=true
   ·left
    simp only[hq,if_true]
    rw[List.lookup_cons];simp
   ·right
    have hq':(NameKind.free == NameKind.free&&env.scope.kind == .function&&env.kindOf x == some .cell)=false:=by simpa using hq
    simp only[hq',Bool.false_eq_true,if_false]
    rw[List.lookup_cons];simp
  ·have hn:(x == n)=false:=by simpa using hx
   rw[List.lookup_cons,hn] at h
   have ih':=ih h
   by_cases hq:(q == NameKind.free&&env.scope.kind == .function&&env.kindOf n == some .cell)=true
   ·simp only[hq,if_true]
    rw[List.lookup_cons,hn]
    exact ih'
   ·have hq':(q == NameKind.free&&env.scope.kind == .function&&env.kindOf n == some .cell)=false:=by simpa using hq
    simp only[hq',Bool.false_eq_true,if_false]
    rw[List.lookup_cons,hn]
    exact ih'
structure O4(X:Cx)(N:List Str)(scope:Scope)(cap:List (Option Nat)):Prop where
 len:cap.length=N.length
 slot:∀(i:Nat) (x:Str) (j:Nat),N[i]?=some x->cap[i]?=some (some j)->X.N[j]?=some x/\(X.env.kindOf x=some .cell\/X.env.kindOf x=some .free)/\scope.names.lookup x=some .free
 nocell:∀y∈scope.names,y.2≠.cell
 free:∀y∈scope.names,y.2=.free->(X.env.kindOf y.1=some .cell\/X.env.kindOf y.1=some .free)
 loc:∀y∈scope.names,y.2=.local->scope.names.lookup y.1=some .local
theorem S2{X:Cx}{XN N:List Str}{XS scope:Scope}{cap:List (Option Nat)}(hN:X.N=XN)(hS:X.env.scope=XS)(h:ax XN N XS scope cap=true):O4 X N scope cap:=by
 subst hN
 subst hS
 unfold ax at h
 rw[Bool.and_eq_true,Bool.and_eq_true,Bool.and_eq_true,Bool.and_eq_true] at h
 obtain⟨⟨⟨⟨h1,h2⟩,h3⟩,h4⟩,h5⟩:=h
 rw[List.all_eq_true] at h2 h3 h4 h5
 have hlen:cap.length=N.length:=by simpa using h1
 refine⟨hlen,fun i x j e1 e2=>?_,fun y hy z=>?_,fun y hy z=>?_,fun y hy z=>?_⟩
 ·have hi:i<N.length:=(List.getElem?_eq_some_iff.mp e1).1
  have q:=h2 i (List.mem_range.mpr hi)
  rw[e1,e2] at q
  dsimp only at q
  rw[Bool.and_eq_true,Bool.and_eq_true,Bool.or_eq_true] at q
  obtain⟨⟨q1,q2⟩,q3⟩:=q
  refine⟨by simpa using q1,?_,by simpa using q3⟩
  rcases q2 with q2 | q2
  ·exact .inl (beq_iff_eq.mp q2)
  ·exact .inr (beq_iff_eq.mp q2)
 ·have q:=h3 y hy
  rw[z] at q
  exact absurd q (by decide)
 ·have q:=h4 y hy
  rw[z,Bool.or_eq_true,Bool.or_eq_true] at q
  rcases q with(q | q) | q
  ·exact absurd q (by decide)
  ·exact .inl (beq_iff_eq.mp q)
  ·exact .inr (beq_iff_eq.mp q)
 ·have q:=h5 y hy
  rw[z,Bool.or_eq_true] at q
  rcases q with q | q
  ·exact absurd q (by decide)
  ·simpa using q
section
variable{X:Cx}{N:List Str}{scope:Scope}{cap:List (Option Nat)}{fp:List Addr}{pins:List (Addr×Obj)}{σ:St}{H:Hp}{s:Shared}
theorem Inv.U7(I:Inv X pins σ H s)(cf:O4 X N scope cap):∀y∈scope.names,y.2=.free->∃a,X.env.cells.lookup y.1=some a:=fun y hy z=>I.ok.has y.1 (cf.free y hy z)
theorem Z8{x:Str}{c:Addr}(h:(D0 X.env scope.names []).lookup x=some c):X.env.cells.lookup x=some c:=by
 rcases cx h with z | z
 ·cases z
 ·exact z
theorem oO(I:Inv X pins σ H s)(cf:O4 X N scope cap)(hf:∀b∈fp,∀x c,X.env.cells.lookup x=some c->c≠b){C:Addr}{H':Hp}{h':Heap}(u:Un (Y2 X.stack) fp H H' s.heap h') :
  ∀(i:Nat) (x:Str) (v:V),N[i]?=some x->(P1 cap σ)[i]?=some (some v)->∃w,RelV v w/\∀m,Look (compEnvC scope (D0 X.env scope.names []) C X.env) h' m x w:=by
 intro i x v e1 e2
 unfold P1 at e2
 rw[List.getElem?_map] at e2
 cases ec:cap[i]? with
 | none=>rw[ec] at e2;cases e2
 | some o=>
  rw[ec] at e2
  cases o with
  | none=>cases e2
  | some j=>
   have e3:(σ[j]?).join=some v:=Option.some.inj e2
   have e4:σ[j]?=some (some v):=by
    cases q:σ[j]? with
    | none=>rw[q] at e3;cases e3
    | some o'=>rw[q] at e3;exact congrArg some e3
   obtain⟨k1,k2,k3⟩:=cf.slot i x j e1 ec
   obtain⟨m,hn,hl⟩:=I.loc
   have vis:KA X.env.scope x:=by
    rcases k2 with k | k
    ·exact .inr (.inl k)
    ·exact .inr (.inr k)
   obtain⟨w,r,l⟩:=hl j x v k1 e4 vis
   refine⟨w,r,fun m'=>?_⟩
   rcases l with⟨hk,_⟩ | ⟨_,c,hc,o,ho,hd⟩
   ·rcases k2 with k | k
    ·rw[k] at hk;cases hk
    ·rw[k] at hk;cases hk
   ·obtain⟨c',hc'⟩:=fD (acc:=[]) (I.U7 cf) (PySem.mem_of_lookup k3)
    have hcc:=Z8 hc'
    rw[hc] at hcc
    cases hcc
    obtain⟨sl,e⟩:=u.any ho (I.freeC x c hc) (fun z=>hf c z x c hc rfl)
    exact .inr ⟨bU k3,c,hc',⟨_,e,hd⟩⟩
theorem Cx.Ok.comp(I:Inv X pins σ H s)(cf:O4 X N scope cap)(hk:scope.kind=.function)(hf:∀b∈fp,U8 X pins H b)(hb:∀b∈fp,b<s.heap.objs.size):(M4 X N scope (D0 X.env scope.names []) fp s H).Ok:=by
 refine⟨I.ok.mod,hk,I.ok.glob,I.ok.blt,Nat.le_refl _,fun x y c h1 h2=>I.ok.inj x y c (Z8 h1) (Z8 h2),fun x hx=>?_,fun x c z=>absurd (show false=true from z) Bool.false_ne_true,I.ok.hd,I.ok.frames,.inl rfl,fun b z=>⟨Nat.ne_of_lt (hb b z),fun x c h=>(hf b z).2.2.2.2.1 x c (Z8 h)⟩,I.bs,Nat.le_trans I.ok.bsz I.sz,fun b o e z=>?_,fun b z q=>?_,I.stack,I.kK⟩
 ·have hx':(x,NameKind.free)∈scope.names:=by
   rcases hx with hx | hx
   ·exact W3 hx (.inl rfl) cf.nocell
   ·exact W3 hx (.inr rfl) cf.nocell
  exact fD (acc:=[]) (I.U7 cf) hx'
 ·rcases(hf b z).2.2.2.1 with q | q
  ·exact I.ok.noex b o e q
  ·exact absurd (Nat.lt_of_lt_of_le (Heap.lt_size e) (Nat.le_trans I.ok.bsz q)) (Nat.lt_irrefl _)
 ·rcases List.mem_cons.mp (I.qS b q) with e | e
  ·exact(hf b z).2.1 e
  ·exact(hf b z).2.2.1 e
theorem lh(I:Inv X pins σ H s)(cf:O4 X N scope cap)(hk:scope.kind=.function)(hf:∀b∈fp,U8 X pins H b)(hb:∀b∈fp,b<s.heap.objs.size){h1:Heap}{m:Str->Option Value}{tk:Nat}
  (hn:h1.Ns s.heap.objs.size m) (keep:∀b o,s.heap.get? b=some o->h1.get? b=some o):Inv (M4 X N scope (D0 X.env scope.names []) fp s H) [] (P1 cap σ) H { s with heap:=h1,toks:=tk }:=by
 refine⟨Cx.Ok.comp I cf hk hf hb,rfl,I.bare,Un.kept keep,⟨m,hn,fun i x v e1 e2 _=>?_⟩,fun x c h=>?_,I.hok.fresh (Nat.le_refl _),fun x c h=>I.freeC x c (Z8 h),fun p hp=>absurd (show p∈([]:List (Addr×Obj)) from hp) (by simp),I.hok.kept keep,?_⟩
 ·obtain⟨w,r,l⟩:=oO (C:=s.heap.objs.size) I cf (fun b z=>(hf b z).2.2.2.2.1) (Un.kept keep) i x v e1 e2
  exact⟨w,r,l m⟩
 ·obtain⟨v,o,ho,hd⟩:=I.cell x c (Z8 h)
  exact⟨v,o,keep c o ho,hd⟩
 ·unfold P1
  rw[List.length_map]
  exact cf.len
theorem jq(I:Inv X pins σ H s)(cf:O4 X N scope cap)(hf:∀b∈fp,U8 X pins H b){pins':List (Addr×Obj)}{σ':St}{H':Hp}{s':Shared}(J:Inv (M4 X N scope (D0 X.env scope.names []) fp s H) pins' σ' H' s') :
  Inv (M4 X N scope (D0 X.env scope.names []) fp s H) pins' (P1 cap σ) H' s':=by
 refine⟨J.ok,J.os,J.bare,J.base,?_,J.cell,J.free,J.freeC,J.pin,J.hok,?_⟩
 ·obtain⟨m,hn,_⟩:=J.loc
  refine⟨m,hn,fun i x v e1 e2 _=>?_⟩
  obtain⟨w,r,l⟩:=oO (C:=s.heap.objs.size) I cf (fun b z=>(hf b z).2.2.2.2.1) J.base i x v e1 e2
  exact⟨w,r,l m⟩
 ·unfold P1
  rw[List.length_map]
  exact cf.len
theorem Inv.sR{C:Addr}{h':Heap}(I:Inv X pins σ H s)(hC:U8 X pins H C)(sb:Heap.SameBut C s.heap h'):Inv X pins σ H { s with heap:=h' }:=
 I.turned (t':=s.toks) (fun b o hb e=>(sb.2 b hb).trans e) hC.1 hC.2.1 hC.2.2.2.1 hC.2.2.2.2.1 hC.2.2.2.2.2
end
def AG(X:Cx)(ifs:List Expr)(t:TT):Prop:=
 ∀(pins:List (Addr×Obj)) (s:Shared) (σ:St) (H:Hp) (Q:Bool->Hp->Prop),Inv X pins σ H s->t σ H Q ->
  wpAny (model X.prog X.w) X.A (forIn ifs true fun c r=>if r=true then do let ok <-isTrue c X.env (eval c X.env);pure (ForInStep.yield ok) else pure (ForInStep.yield r)) (TP X pins σ Q) X.xe s
def Ls:TT:=fun _ H Q=>Q true H
theorem rR{X:Cx}:AG X [] Ls:=fun _ _ _ H _ I h=>wpAny_tests_nil ⟨H,I,h⟩
theorem Ds{X:Cx}{c:Expr}{t:TT}(h:PT X c t):AG X [c] t:=fun pins s σ H Q I q=>wpAny_tests_one (h pins s σ H Q I q)
def KP(J:It)(g:TG)(tc:TT)(te:TE)(σ0:St)(Q:VK)(H1:Hp):Prop:=∀d,H1 d=none ->
 ∃W:Nat->Nat->Hp->Prop,(∃m,W 0 m (upd H1 d (.lst [])))/\∀i m H,W i m H ->
  (J.stop i H/\Q (.ref d) H) \/
  (J.go i H/\∀x H',J.yld i H x H'->g x σ0 H' fun σ2 H2=>tc σ2 H2 fun b H3=>
   if b=true then te σ2 H3 fun v H4=>∃acc,H4 d=some (.lst acc)/\acc.length<sizeLine/\∃m',m'<m/\W (i+1) m' (upd H4 d (.lst (acc++[v])))
   else ∃m',m'<m/\W (i+1) m' H3)
def Lf(H H':Hp):Prop:=∀b xs,H b=some (.tup xs)->H' b=some (.tup xs)
theorem i3.R9{H H':Hp}(h:i3 H H'):Lf H H':=fun b xs e=>h b _ e
theorem i3.i8{H:Hp}{d:Addr}{o:HO}(h:H d=none):i3 H (upd H d o):=fun b u e=>by
 rw[j9 (C3 e h)];exact e
section
variable{X:Cx}
def Kl:V->Option Value
 | .ty n=>some (.type n)
 | .ref a=>some (.ref a)
 | _=>none
theorem dZ:E7 X (.builtin "isinstance") (fun xs H Q=>∃x c t cv b,xs=[x,c]/\Kl c=some cv/\bM X.K H x t/\PySem.W.kitOne X.K t cv=some b/\Q (.bl b) H):=by
 intro pins s σ H xs us Q I r h
 obtain⟨x,c,t,cv,b,rfl,hc,ht,hk,q⟩:=h
 obtain⟨u,w',rfl,rx,rc⟩:=vals2 r
 have ec:w'=cv:=by
  cases c with
  | ty n=>cases hc;exact rc
  | ref a=>cases hc;exact rc
  | _=>cases hc
 subst ec
 exact vf I rx ht hk fun tk=>⟨.bl b,H,I.tok tk,rfl,q⟩
def V0(i j:Int):Prop:=0<j/\j.natAbs.log2<9000
theorem yd:N0 X (binaryOp .FloorDiv) (rI V0 fun i j=>.int (i/j)):=KS fun i j _ _ _ _ _ hc q=>by
 have h1:(0:Int)<j:=hc.1
 exact floordiv_int (by omega) (by rw[Int.fdiv_eq_ediv_of_nonneg i (by omega)];exact q) (.inl (PyProof.noPylong_of_log2 hc.2))
end
section
variable{X:Cx}{pins:List (Addr×Obj)}{σ:St}{H:Hp}{s:Shared}{h':Heap}
end
section
variable{prog:Program}{w:World}{A:Around}{E:Value->Shared->Prop}{s:Shared}
end
def LW(b:Bool)(h:Heap)(it l:Addr)(i:Nat):Prop:=match b with
 | true=>h.IsTupleIter it l i
 | false=>h.IsListIter it l i
def Lx(b:Bool)(h:Heap)(l:Addr)(items:Array Value):Prop:=match b with
 | true=>h.IsTuple l items
 | false=>h.IsList l items
theorem LW.at{b:Bool}{h h':Heap}{it l:Addr}{i:Nat}(x:LW b h it l i)(k:∀o,h.get? it=some o->h'.get? it=some o):LW b h' it l i:=by
 cases b with
 | true=>obtain⟨o,ho,r⟩:=x;exact⟨o,k o ho,r⟩
 | false=>obtain⟨o,ho,r⟩:=x;exact⟨o,k o ho,r⟩
theorem Lx.at{b:Bool}{h h':Heap}{l:Addr}{items:Array Value}(x:Lx b h l items)(k:∀o,h.get? l=some o->h'.get? l=some o):Lx b h' l items:=by
 cases b with
 | true=>obtain⟨o,ho,r⟩:=x;exact⟨o,k o ho,r⟩
 | false=>obtain⟨o,ho,r⟩:=x;exact⟨o,k o ho,r⟩
section
variable{prog:Program}{w:World}{A:Around}{E:Value->Shared->Prop}{s:Shared}{z TI TO i1 i2 l1 l2:Addr}{b1 b2:Bool}{k:Nat}{xs ys:Array Value}{x y a b:Value}
def Mh(b:Bool):String:=if b then "tuple_iterator" else "list_iterator"
end
end L2
namespace HT
open PySem PySem.Spec PyProof.Rows
section
variable{prog:Program}{w:World}{A:Around}{E:Value->Shared->Prop}{s:Shared}
theorem yI{t b:Addr}{ws:List Value}{Q:Value->Shared->Prop}(ht:IsTup s.heap t ([]:List Value).toArray)(hb:IsTup s.heap b ws.toArray)(h:Q (.ref b) s) :
  wpAny (model prog w) A (binaryOp .Add (.ref t) (.ref b)) Q E s:=by
 obtain⟨⟨c1,d1,x1,l1⟩,g1,e1,n1,f1⟩:=id ht
 obtain⟨⟨c2,d2,x2,l2⟩,g2,e2,n2,f2⟩:=id hb
 simp only at e1 f1 e2 f2
 subst e1 f1 e2 f2
 exact concat_meets ⟨_,g1,rfl⟩ ⟨_,g2,rfl⟩ noFill_tuple_add seq_tuple_add PySem.F.slot_tuple_add PySem.F.entry_tuple_add (PySem.F.args_tuple_add_2 _ _) (tuple_addW0 t b _ ws.toArray n1 n2 d1 d2 l1 l2 rfl) ⟨g1,g2,h⟩
theorem oX{t sl:Addr}{items:Array Value}{vl vu:Value}{lo hi:Option Int}{Q:Value->Shared->Prop}(ht:IsTup s.heap t items)(hs:s.heap.IsSliceOf sl vl vu .none)(pl:IsPart vl lo)(pu:IsPart vu hi)
  (w0:D1 items.size 0 lo=0) (w1:D1 items.size items.size hi=items.size) (h:Q (.ref t) s):wpAny (model prog w) A (getItem (.ref t) (.ref sl)) Q E s:=by
 obtain⟨os,hos,hcs,hds⟩:=id hs
 have hTs:s.TypeIs (.ref sl) "slice":=⟨os,hos,hcs⟩
 unfold getItem
 try with_reducible refine wpAny_holding ?_
 first | refine wpAny_bind (wpAny_pure ?_) | skip
 refine wpAny_bind (wpAny_sequenceKey ht.typeIs (by decide) ?_)
 refine wpAny_bind (wpAny_callSpecial?_slot (name:=Str.ofString "__getitem__") ht.typeIs PyProof.Rows.slot_tuple_getitem
  (wpAny_call_entry PyProof.Rows.slot_tuple_getitem ht.typeIs entry_tuple_getitem ?_ (args_tuple_getitem _ _)))
 show wpAny _ _ (Builtin.Tuple.tupleItemsOf (.ref t) >>= _) _ _ s
 refine wpAny_bind (tupleItemsOf_ ht ?_)
 refine wpAny_bind (wpAny_typeOf hTs ?_)
 rw[if_pos (by decide)]
 refine wpAny_bind (V6 hs pl pu ?_)
 have yes:(((D1 items.size 0 lo:Nat):Int) == 0&&(1:Int) == 1&&(D1 items.size items.size hi-D1 items.size 0 lo) == items.size)=true:=by
  rw[w0,w1]
  simp
 show wpAny _ _ (if (((D1 items.size 0 lo:Nat):Int) == 0&&(1:Int) == 1&&(D1 items.size items.size hi-D1 items.size 0 lo) == items.size)=true then _ else _) _ _ s
 rw[if_pos yes]
 obtain⟨⟨c1,d1,x1,l1⟩,g1,e1,n1,f1⟩:=id ht
 simp only at e1 f1
 subst e1 f1
 wp_walk using wpAny_loadPart' g1
 exact⟨_,rfl,wpAny_pure h⟩
end
end HT
namespace L2
open PySem PySem.Spec PyProof.Rows
section
variable{X:Cx}{pos:Pos}
def zK:R2:=fun x y H Q=>∃a b xs ys,x=.ref a/\y=.ref b/\H a=some (.tup xs)/\H b=some (.tup ys)/\xs.length+ys.length<=sizeLine/\∀r H',i3 H H'->H' r=some (.tup (xs++ys))->Q (.ref r) H'
theorem Dn:N0 X (binaryOp .Add) zK:=by
 intro pins s σ H x y v u Q I rx ry h
 obtain⟨a,b,xs,ys,rfl,rfl,ha,hb,hz,q⟩:=h
 by_cases hx:xs=[]
 ·subst hx
  cases rx
  cases ry
  obtain⟨i1,r1,p1,_⟩:=I.tuple (R8.of ha)
  obtain⟨i2,r2,p2,_⟩:=I.tuple (R8.of hb)
  obtain rfl:i1=[]:=r1.eS.mpr rfl
  exact HT.yI p1 p2 ⟨.ref b,H,I,rfl,q b H (i3.refl _) hb⟩
 ·refine BW pins s σ H _ _ v u Q I rx ry ⟨a,b,xs,ys,rfl,rfl,R8.of ha,R8.of hb,hx,hz,fun z=>q a H (i3.refl _) (by rw[z,List.append_nil];exact ha),fun z p hp=>q p _ (i3.i8 hp) h9⟩
def LA:V->Option Int->Option Int->Hp->VK->Prop:=fun x lo hi H Q=>∃a xs,x=.ref a/\H a=some (.tup xs)/\∀r H',i3 H H'->H' r=some (.tup (fE xs lo hi))->Q (.ref r) H'
theorem Fu:Es X LA:=by
 intro pins s σ H x v vl vu lo hi sl Q I rx hs pl pu h
 obtain⟨a,xs,rfl,ha,q⟩:=h
 by_cases hw:HT.D1 xs.length 0 lo=0/\HT.D1 xs.length xs.length hi=xs.length
 ·cases rx
  obtain⟨its,r,ht,hz⟩:=I.tuple (R8.of ha)
  have hlen:its.toArray.size=xs.length:=by rw[List.size_toArray];exact r.length.symm
  refine⟨"tuple",_,PyProof.Rows.slot_tuple_getitem.lookup,ht.typeIs,?_⟩
  refine HT.oX ht hs pl pu (by rw[hlen];exact hw.1) (by rw[hlen];exact hw.2) ⟨.ref a,H,I,rfl,q a H (i3.refl _) ?_⟩
  rw[ha]
  unfold fE
  rw[hw.1,hw.2]
  simp
 ·exact Ih pins s σ H _ v vl vu lo hi sl Q I rx hs pl pu ⟨a,xs,rfl,R8.of ha,hw,fun p hp=>q p _ (i3.i8 hp) h9⟩
end
section
variable{X:Cx}
def isStar:Expr->Bool
 | .Starred _ _=>true
 | _=>false
theorem L6{e:Expr}{es:List Expr}{env:Env}(h:isStar e=false):starEach (e::es) env=(false,eval e env)::starEach es env:=by
 cases e<;>first | rfl | cases h
theorem bG{e:Expr}{es:List Expr}{te:TE}{t:TA}(ha:PE X e te)(hr:PA X es t)(hs:isStar e=false):PA X (e::es) (Ff te t):=DP ha hr (L6 hs)
end
def MH(dx:Addr)(fs:List (Str×V)):HO:=.ext fun h=>∃mA,h.Ns1 dx mA/\(∀f,bW (fs.lookup f) (mA f))/\Within mA (fs.map (·.1))
end L2
namespace L3
open PySem PySem.Spec L2
inductive D where
 | non | bl (b:Bool) | int (i:Int) | str (x:Str)
 | tup (xs:List D) | lst (xs:List D) | dic (kvs:List (Key×D)) | obj (C:Addr) (fs:List (Str×D)) | ty (n:String) | adr (a:Addr) | fz (xs:List D) | st (ks:List Key) | xc (e dx:Addr) (fs:List (Str×V)) | dn (kvs:List (K6×Int))
mutual
def A7:D->Bool
 | .non=>true
 | .bl _=>true
 | .int _=>true
 | .str _=>true
 | .tup xs=>A2 xs
 | .lst _=>false
 | .dic _=>false
 | .obj _ _=>false
 | .st _=>false
 | .dn _=>false
 | .xc _ _ _=>false
 | .ty _=>true
 | .adr _=>true
 | .fz xs=>A2 xs
def A2:List D->Bool
 | []=>true
 | x::xs=>A7 x&&A2 xs
end
def Fq(K:PySem.W.Frag)(H:Hp)(a:Addr)(xs:List V):Prop:=
 (∃o,H a=some (.frz o (.lst xs))) \/
  ∃(o:Obj) (its:Array Value) (n:Nat),K.lookup a=some o/\o.cls=.type "list" /\ o.dict=none/\o.data=.seq its n/\its.size<=sizeLine/\Vals xs its.toList
theorem Fq.sq{K:PySem.W.Frag}{H:Hp}{a:Addr}{xs:List V}(h:Fq K H a xs):N7 K H a xs:=by
 rcases h with⟨o,h⟩ | h
 ·exact .inl (.inr ⟨o,h⟩)
 ·exact .inr h
mutual
inductive Rep(K:PySem.W.Frag)(H:Hp):V->D->List Addr->Prop
 | non:Rep K H .non .non []
 | bl {b:Bool}:Rep K H (.bl b) (.bl b) []
 | int {i:Int}:Rep K H (.int i) (.int i) []
 | str {x:Str}:Rep K H (.str x) (.str x) []
 | tup {p:Addr} {vs:List V} {ds:List D} {A:List Addr}:H p=some (.tup vs)->o5 K H vs ds A->Rep K H (.ref p) (.tup ds) A
 | lst {p:Addr} {vs:List V} {ds:List D} {A:List Addr}:H p=some (.lst vs)->o5 K H vs ds A->Rep K H (.ref p) (.lst ds) (p::A)
 | frz {p:Addr} {vs:List V} {ds:List D} {A:List Addr}:Fq K H p vs->o5 K H vs ds A->Rep K H (.ref p) (.fz ds) A
 | dic {p:Addr} {kvs:List (Key×V)} {kds:List (Key×D)} {A:List Addr} {ep:Nat}:H p=some (.dE kvs ep)->A6 K H kvs kds A->Rep K H (.ref p) (.dic kds) (p::A)
 | obj {p C dx:Addr} {fs:List (Str×V)} {fds:List (Str×D)} {A:List Addr}:H p=some (.ins C dx fs)->eI K H fs fds A->Rep K H (.ref p) (.obj C fds) (p::A)
 | st {p:Addr} {S:Key->Bool} {n:Nat} {ks:List Key}:H p=some (.set S n)->(∀k:Key,S k=ks.any fun z=>decide (z=k))->Rep K H (.ref p) (.st ks) [p]
 | xc {e dx:Addr} {fs:List (Str×V)}:H dx=some (MH dx fs)->Rep K H (.ref e) (.xc e dx fs) [dx]
 | dn {p:Addr} {kvs:List (K6×Int)}:H p=some (.dN (kvs.map fun q=>(q.1,V.int q.2)))->Rep K H (.ref p) (.dn kvs) [p]
 | ty {n:String}:Rep K H (.ty n) (.ty n) []
 | adr {p:Addr}:Rep K H (.ref p) (.adr p) []
inductive o5(K:PySem.W.Frag)(H:Hp):List V->List D->List Addr->Prop
 | nil:o5 K H [] [] []
 | cons {v:V} {d:D} {vs:List V} {ds:List D} {A B:List Addr}:Rep K H v d A->o5 K H vs ds B->o5 K H (v::vs) (d::ds) (A++B)
inductive A6(K:PySem.W.Frag)(H:Hp):List (Key×V)->List (Key×D)->List Addr->Prop
 | nil:A6 K H [] [] []
 | cons {k:Key} {v:V} {d:D} {vs:List (Key×V)} {ds:List (Key×D)} {A B:List Addr}:Rep K H v d A->A6 K H vs ds B->A6 K H ((k,v)::vs) ((k,d)::ds) (A++B)
inductive eI(K:PySem.W.Frag)(H:Hp):List (Str×V)->List (Str×D)->List Addr->Prop
 | nil:eI K H [] [] []
 | cons {k:Str} {v:V} {d:D} {vs:List (Str×V)} {ds:List (Str×D)} {A B:List Addr}:Rep K H v d A->eI K H vs ds B->eI K H ((k,v)::vs) ((k,d)::ds) (A++B)
end
structure T3(H H':Hp):Prop where
 R9:∀b xs,H b=some (.tup xs)->H' b=some (.tup xs)
 frzs:∀b o u,H b=some (.frz o u)->H' b=some (.frz o u)
 dom:∀b,H' b=none->H b=none
structure Tf(H H':Hp):Prop where
 R9:∀b xs,H b=some (.tup xs)->H' b=some (.tup xs)
 frzs:∀b o u,H b=some (.frz o u)->H' b=some (.frz o u)
theorem T3.tf{H H':Hp}(s:T3 H H'):Tf H H':=⟨s.R9,s.frzs⟩
theorem T3.refl(H:Hp):T3 H H:=⟨fun _ _ h=>h,fun _ _ _ h=>h,fun _ h=>h⟩
theorem T3.trans{H H1 H2:Hp}(a:T3 H H1)(b:T3 H1 H2):T3 H H2:=⟨fun c x h=>b.R9 c x (a.R9 c x h),fun c o u h=>b.frzs c o u (a.frzs c o u h),fun c h=>a.dom c (b.dom c h)⟩
theorem T3.of{H H':Hp}(s:i3 H H'):T3 H H':=⟨fun b _ h=>s b _ h,fun b _ _ h=>s b _ h,fun b h=>s.free h⟩
theorem Tf.Mv{K:PySem.W.Frag}{H H':Hp}(s:Tf H H'){a:Addr}{xs:List V}(h:Fq K H a xs):Fq K H' a xs:=by
 rcases h with⟨o,h⟩ | h
 ·exact .inl ⟨o,s.frzs _ _ _ h⟩
 ·exact .inr h
section
variable{K:PySem.W.Frag}{H H':Hp}
mutual
theorem Rep.G4(s:Tf H H'):∀{v:V} {d:D} {A:List Addr},Rep K H v d A->(∀a∈A,H' a=H a)->Rep K H' v d A
 | _,_,_,.non,_=>.non
 | _,_,_,.bl,_=>.bl
 | _,_,_,.int,_=>.int
 | _,_,_,.str,_=>.str
 | _,_,_,.ty,_=>.ty
 | _,_,_,.adr,_=>.adr
 | _,_,_,.tup h r,e=>.tup (s.R9 _ _ h) (r.G4 s e)
 | _,_,_,.lst h r,e=>.lst ((e _ List.mem_cons_self).trans h) (r.G4 s fun a ha=>e a (List.mem_cons_of_mem _ ha))
 | _,_,_,.frz h r,e=>.frz (s.Mv h) (r.G4 s e)
 | _,_,_,.dic h r,e=>.dic ((e _ List.mem_cons_self).trans h) (r.G4 s fun a ha=>e a (List.mem_cons_of_mem _ ha))
 | _,_,_,.obj h r,e=>.obj ((e _ List.mem_cons_self).trans h) (r.G4 s fun a ha=>e a (List.mem_cons_of_mem _ ha))
 | _,_,_,.st h r,e=>.st ((e _ List.mem_cons_self).trans h) r
 | _,_,_,.dn h,e=>.dn ((e _ List.mem_cons_self).trans h)
 | _,_,_,.xc h,e=>.xc ((e _ List.mem_cons_self).trans h)
theorem o5.G4(s:Tf H H'):∀{v:List V} {d:List D} {A:List Addr},o5 K H v d A->(∀a∈A,H' a=H a)->o5 K H' v d A
 | _,_,_,.nil,_=>.nil
 | _,_,_,.cons h r,e=>.cons (h.G4 s fun a ha=>e a (List.mem_append_left _ ha)) (r.G4 s fun a ha=>e a (List.mem_append_right _ ha))
theorem A6.G4(s:Tf H H'):∀{v:List (Key×V)} {d:List (Key×D)} {A:List Addr},A6 K H v d A->(∀a∈A,H' a=H a)->A6 K H' v d A
 | _,_,_,.nil,_=>.nil
 | _,_,_,.cons h r,e=>.cons (h.G4 s fun a ha=>e a (List.mem_append_left _ ha)) (r.G4 s fun a ha=>e a (List.mem_append_right _ ha))
theorem eI.G4(s:Tf H H'):∀{v:List (Str×V)} {d:List (Str×D)} {A:List Addr},eI K H v d A->(∀a∈A,H' a=H a)->eI K H' v d A
 | _,_,_,.nil,_=>.nil
 | _,_,_,.cons h r,e=>.cons (h.G4 s fun a ha=>e a (List.mem_append_left _ ha)) (r.G4 s fun a ha=>e a (List.mem_append_right _ ha))
end
theorem Rep.mono(s:T3 H H'){v:V}{d:D}{A:List Addr}(r:Rep K H v d A)(h:∀a∈A,H' a=H a):Rep K H' v d A:=r.G4 s.tf h
theorem o5.mono(s:T3 H H'){v:List V}{d:List D}{A:List Addr}(r:o5 K H v d A)(h:∀a∈A,H' a=H a):o5 K H' v d A:=r.G4 s.tf h
theorem A6.mono(s:T3 H H'){v:List (Key×V)}{d:List (Key×D)}{A:List Addr}(r:A6 K H v d A)(h:∀a∈A,H' a=H a):A6 K H' v d A:=r.G4 s.tf h
theorem eI.mono(s:T3 H H'){v:List (Str×V)}{d:List (Str×D)}{A:List Addr}(r:eI K H v d A)(h:∀a∈A,H' a=H a):eI K H' v d A:=r.G4 s.tf h
mutual
theorem Rep.Y4:∀{v:V} {d:D} {A:List Addr},Rep K H v d A->∀a∈A,fe (H a)
 | _,_,_,.tup _ r,a,ha=>r.Y4 a ha
 | _,_,_,.lst h r,a,ha=>by
  rcases List.mem_cons.mp ha with e | e
  ·rw[e,h];trivial
  ·exact r.Y4 a e
 | _,_,_,.frz _ r,a,ha=>r.Y4 a ha
 | _,_,_,.dic h r,a,ha=>by
  rcases List.mem_cons.mp ha with e | e
  ·rw[e,h];trivial
  ·exact r.Y4 a e
 | _,_,_,.obj h r,a,ha=>by
  rcases List.mem_cons.mp ha with e | e
  ·rw[e,h];trivial
  ·exact r.Y4 a e
 | _,_,_,.xc h,a,ha=>by
  rw[List.mem_singleton.mp ha,h];trivial
 | _,_,_,.dn h,a,ha=>by
  rw[List.mem_singleton.mp ha,h];trivial
 | _,_,_,.st h r,a,ha=>by
  rw[List.mem_singleton.mp ha,h];trivial
theorem o5.Y4:∀{v:List V} {d:List D} {A:List Addr},o5 K H v d A->∀a∈A,fe (H a)
 | _,_,_,.cons h r,a,ha=>(List.mem_append.mp ha).elim (h.Y4 a) (r.Y4 a)
theorem A6.Y4:∀{v:List (Key×V)} {d:List (Key×D)} {A:List Addr},A6 K H v d A->∀a∈A,fe (H a)
 | _,_,_,.cons h r,a,ha=>(List.mem_append.mp ha).elim (h.Y4 a) (r.Y4 a)
theorem eI.Y4:∀{v:List (Str×V)} {d:List (Str×D)} {A:List Addr},eI K H v d A->∀a∈A,fe (H a)
 | _,_,_,.cons h r,a,ha=>(List.mem_append.mp ha).elim (h.Y4 a) (r.Y4 a)
end
theorem fe.some{o:Option HO}(h:fe o):∃x,o=Option.some x:=by
 cases o with
 | none=>cases h
 | some x=>exact⟨x,rfl⟩
theorem Rep.same(s:i3 H H'){v:V}{d:D}{A:List Addr}(r:Rep K H v d A):Rep K H' v d A:=
 r.mono (T3.of s) fun a ha=>by
  obtain⟨o,e⟩:=fe.some (r.Y4 a ha)
  rw[e];exact s a o e
theorem o5.same(s:i3 H H'){v:List V}{d:List D}{A:List Addr}(r:o5 K H v d A):o5 K H' v d A:=
 r.mono (T3.of s) fun a ha=>by
  obtain⟨o,e⟩:=fe.some (r.Y4 a ha)
  rw[e];exact s a o e
mutual
theorem Rep.C7:∀{v:V} {d:D} {A:List Addr},Rep K H v d A->A7 d=true->A=[]
 | _,_,_,.non,_=>rfl
 | _,_,_,.bl,_=>rfl
 | _,_,_,.int,_=>rfl
 | _,_,_,.str,_=>rfl
 | _,_,_,.ty,_=>rfl
 | _,_,_,.adr,_=>rfl
 | _,_,_,.tup _ r,e=>r.C7 (by simpa[A7] using e)
 | _,_,_,.lst _ _,e=>by simp[A7] at e
 | _,_,_,.frz _ r,e=>r.C7 (by simpa[A7] using e)
 | _,_,_,.dic _ _,e=>by simp[A7] at e
 | _,_,_,.obj _ _,e=>by simp[A7] at e
 | _,_,_,.st _ _,e=>by simp[A7] at e
 | _,_,_,.dn _,e=>by simp[A7] at e
 | _,_,_,.xc _,e=>by simp[A7] at e
theorem o5.C7:∀{v:List V} {d:List D} {A:List Addr},o5 K H v d A->A2 d=true->A=[]
 | _,_,_,.nil,_=>rfl
 | _,_,_,.cons h r,e=>by
  simp[A2] at e
  rw[h.C7 e.1,r.C7 e.2];rfl
end
theorem o5.length:∀{v:List V} {d:List D} {A:List Addr},o5 K H v d A->v.length=d.length
 | _,_,_,.nil=>rfl
 | _,_,_,.cons _ r=>by simp[r.length]
theorem o5.get:∀{vs:List V} {ds:List D} {A:List Addr} {i:Nat} {d:D},o5 K H vs ds A->ds[i]?=some d->∃v B,vs[i]?=some v/\Rep K H v d B/\B.Sublist A
 | _,_,_,_,_,.nil,e=>by simp at e
 | _,_,_,0,_,.cons (A:=A) h r,e=>by simp at e;subst e;exact⟨_,A,rfl,h,List.sublist_append_left _ _⟩
 | _,_,_,i+1,d,.cons h r,e=>by
  obtain⟨v,B,e1,e2,e3⟩:=o5.get (i:=i) (d:=d) r (by simpa using e)
  exact⟨v,B,by simpa using e1,e2,e3.trans (List.sublist_append_right _ _)⟩
theorem o5.append:∀{vs ws:List V} {ds es:List D} {A B:List Addr},o5 K H vs ds A->o5 K H ws es B->o5 K H (vs++ws) (ds++es) (A++B)
 | _,_,_,_,_,_,.nil,q=>q
 | _,_,_,_,_,_,.cons h r,q=>by rw[List.append_assoc];exact .cons h (r.append q)
theorem o5.split:∀{vs:List V} {ds:List D} {A:List Addr} (n:Nat),o5 K H vs ds A->∃B C,A=B++C/\o5 K H (vs.take n) (ds.take n) B/\o5 K H (vs.drop n) (ds.drop n) C
 | _,_,_,0,r=>⟨[],_,rfl,.nil,r⟩
 | _,_,_,n+1,.nil=>⟨[],[],rfl,.nil,.nil⟩
 | _,_,_,n+1,.cons h r=>by
  obtain⟨B,C,e,h1,h2⟩:=r.split n
  exact⟨_++B,C,by rw[e,List.append_assoc],.cons h h1,h2⟩
theorem o5.cut{vs:List V}{ds:List D}{A:List Addr}(i j:Nat)(r:o5 K H vs ds A):∃B,B.Sublist A/\o5 K H ((vs.drop i).take j) ((ds.drop i).take j) B:=by
 obtain⟨B,C,e,_,h2⟩:=r.split i
 obtain⟨B2,C2,e2,h3,_⟩:=h2.split j
 exact⟨B2,by rw[e,e2];exact(List.sublist_append_left _ _).trans (List.sublist_append_right _ _),h3⟩
theorem o5.set:∀{vs:List V} {ds:List D} {A:List Addr} {v:V} {d:D} {B:List Addr} (i:Nat),o5 K H vs ds A->Rep K H v d B->∃C,o5 K H (vs.set i v) (ds.set i d) C/\(∀a∈C,a∈A\/a∈B)/\(A.Nodup->B.Nodup->(∀a∈B,a∉A)->C.Nodup)
 | _,_,_,_,_,_,_,.nil,_=>⟨[],.nil,(fun _ h=>absurd h (by simp)),fun _ _ _=>List.nodup_nil⟩
 | _,_,_,_,_,B,0,.cons (A:=A1) (B:=B1) h r,q=>⟨B++B1,.cons q r,fun a ha=>(List.mem_append.mp ha).elim .inr fun z=>.inl (List.mem_append_right _ z),fun n1 n2 n3=>by
   refine List.nodup_append.mpr ⟨n2,(List.nodup_append.mp n1).2.1,fun a ha b hb e=>?_⟩
   subst e
   exact n3 a ha (List.mem_append_right _ hb)⟩
 | _,_,_,_,_,B,i+1,.cons (A:=A1) (B:=B1) h r,q=>by
  obtain⟨C,h1,h2,h3⟩:=o5.set i r q
  refine⟨A1++C,.cons h h1,fun a ha=>?_,fun n1 n2 n3=>?_⟩
  ·rcases List.mem_append.mp ha with z | z
   ·exact .inl (List.mem_append_left _ z)
   ·exact(h2 a z).elim (fun y=>.inl (List.mem_append_right _ y)) .inr
  ·have:=List.nodup_append.mp n1
   refine List.nodup_append.mpr ⟨this.1,h3 this.2.1 n2 fun a ha z=>n3 a ha (List.mem_append_right _ z),fun a ha b hb e=>?_⟩
   subst e
   rcases h2 a hb with z | z
   ·exact this.2.2 a ha a z rfl
   ·exact n3 a z (List.mem_append_left _ ha)
end
inductive Cl where | own | bor | loc | mk (H:Hp)
abbrev Ev:=List (Option D)
structure Ent where
 H₀:Hp
 L:Nat->List Addr
 vs:List V
 cl:List Cl
 /-- what is frozen meanwhile (a loop's list),and how it stands -/
 Z:Addr->Prop
 Hz:Hp
def Ent.own(G:Ent)(i:Nat):Prop:=G.cl[i]?=some .own
structure Ent.Po(G:Ent):Prop where
 one:∀i,i<G.vs.length->G.own i->i=0
 lk:∀(j:Nat) (H':Hp),G.cl[j]?=some (.mk H')->∀a o,H' a=some o->G.H₀ a=some o/\∀i,i<G.vs.length->G.own i->a∉G.L i
structure E3(K:PySem.W.Frag)(G:Ent)(ρ:Ev)(σ:St)(H:Hp)(fa:Nat->List Addr):Prop where
 rep:∀i d,ρ[i]?=some (some d)->∃v,σ[i]?=some (some v)/\Rep K H v d (fa i)
 emp:∀i,(∀d,ρ[i]?≠some (some d))->fa i=[]
 len:ρ.length=σ.length
 nd:∀i,(G.own i\/G.cl[i]?=some .loc)->(fa i).Nodup
 dj:∀i j,i≠j->G.own i->∀a∈fa i,a∉fa j
 par:∀i,i<G.vs.length->G.own i->σ[i]?=some G.vs[i]?
 old:∀i,i<G.vs.length->G.own i->∀a∈fa i,a∈G.L i\/G.H₀ a=none
 new:∀i,(G.cl[i]?=some .loc\/(G.own i/\¬i<G.vs.length))->∀a∈fa i,G.H₀ a=none
 frm:∀a o,G.H₀ a=some o->(∀i,i<G.vs.length->G.own i->a∉G.L i)->H a=some o
 stb:T3 G.H₀ H
 zk:∀a,G.Z a->H a=G.Hz a
 zn:∀a,G.Z a->G.Hz a≠none
 zo:∀i,G.own i->∀a∈fa i,¬G.Z a
 po:G.Po
theorem E3.kept{K:PySem.W.Frag}{G:Ent}{ρ:Ev}{σ:St}{H:Hp}{fa:Nat->List Addr}(E:E3 K G ρ σ H fa){j:Nat}{H':Hp}(h:G.cl[j]?=some (.mk H')):i3 H' H:=fun a o e=>let ⟨h1,h2⟩:=E.po.lk j H' h a o e;E.frm a o h1 h2
section
variable{K:PySem.W.Frag}{G:Ent}{ρ:Ev}{σ:St}{H H':Hp}{fa:Nat->List Addr}
theorem E3.Y4(E:E3 K G ρ σ H fa)(i:Nat):∀a∈fa i,fe (H a):=fun a ha=>by
 cases e:ρ[i]? with
 | none=>rw[E.emp i (fun d z=>by rw[e] at z;cases z)] at ha;cases ha
 | some o=>
  cases o with
  | none=>rw[E.emp i (fun d z=>by rw[e] at z;cases z)] at ha;cases ha
  | some d=>
   obtain⟨v,_,r⟩:=E.rep i d e
   exact r.Y4 a ha
theorem E3.there(E:E3 K G ρ σ H fa)(i:Nat){a:Addr}(ha:a∈fa i):H a≠none:=fun z=>by
 have:=E.Y4 i a ha
 rw[z] at this
 exact this
theorem E3.same(E:E3 K G ρ σ H fa)(s:i3 H H'):E3 K G ρ σ H' fa:=
 ⟨fun i d e=>let ⟨v,h1,h2⟩:=E.rep i d e;⟨v,h1,h2.same s⟩,E.emp,E.len,E.nd,E.dj,E.par,E.old,E.new,fun a o h n=>s a o (E.frm a o h n),E.stb.trans (T3.of s),fun a z=>(by
  obtain⟨o,e⟩:=Option.ne_none_iff_exists'.mp (E.zn a z)
  have h:=E.zk a z
  rw[e] at h ⊢
  exact s a o h),E.zn,E.zo,E.po⟩
inductive Fl where | any | stab | locl | fresh
def B0(G:Ent)(H:Hp)(fa:Nat->List Addr)(B:List Addr):Fl->Prop
 | .any=>True
 | .stab=>∀i,G.own i->∀a∈B,a∉fa i
 | .locl=>(∀i,G.own i->∀a∈B,a∉fa i)/\(∀a∈B,G.H₀ a=none)/\B.Nodup
 | .fresh=>B.Nodup/\∀a∈B,H a=none
def gP:Fl->Fl->Bool
 | _,.any=>true
 | .any,_=>false
 | _,.stab=>true
 | .stab,_=>false
 | _,.locl=>true
 | .locl,_=>false
 | .fresh,.fresh=>true
theorem B0.bh(E:E3 K G ρ σ H fa){B:List Addr}(h:B0 G H fa B .fresh):B0 G H fa B .stab:=fun i _ a ha z=>E.there i z (h.2 a ha)
theorem B0.ij(E:E3 K G ρ σ H fa){B:List Addr}(h:B0 G H fa B .fresh):B0 G H fa B .locl:=⟨B0.bh E h,fun a ha=>E.stb.dom a (h.2 a ha),h.1⟩
theorem B0.weak(E:E3 K G ρ σ H fa){B:List Addr}{f g:Fl}(h:B0 G H fa B f)(hm:gP f g=true):B0 G H fa B g:=by
 cases f<;>cases g<;>first | trivial | exact h | (cases hm;done) | exact h.1 | exact B0.bh E h | exact B0.ij E h
theorem B0.nil(f:Fl):B0 G H fa [] f:=by
 cases f with
 | any=>trivial
 | stab=>intro i _ a ha;cases ha
 | locl=>exact⟨fun i _ a ha=>(by cases ha),fun a ha=>(by cases ha),List.nodup_nil⟩
 | fresh=>exact⟨List.nodup_nil,fun a ha=>(by cases ha)⟩
theorem B0.sub{B C:List Addr}{f:Fl}(h:B0 G H fa B f)(s:C.Sublist B):B0 G H fa C f:=by
 cases f with
 | any=>trivial
 | stab=>exact fun i o a ha=>h i o a (s.mem ha)
 | locl=>exact⟨fun i o a ha=>h.1 i o a (s.mem ha),fun a ha=>h.2.1 a (s.mem ha),h.2.2.sublist s⟩
 | fresh=>exact⟨h.1.sublist s,fun a ha=>h.2 a (s.mem ha)⟩
end
abbrev TU:=Ev->(D->Prop)->Prop
structure PU(X:Cx)(cl:List Cl)(e:Expr)(f:Fl)(u:TU):Prop where
 of ::
 run:∃t,PE X e t/\∀(G:Ent) (ρ:Ev) (σ:St) (H:Hp) (fa:Nat->List Addr) (Q:D->Prop) (R:VK),G.cl=cl->E3 X.K G ρ σ H fa->u ρ Q ->
  (∀v H' d B,i3 H H'->Rep X.K H' v d B->B0 G H fa B f->Q d->R v H')->t σ H R
abbrev TM:=Ev->(D->Ev->Prop)->Prop
structure P5(K:PySem.W.Frag)(G:Ent)(H:Hp)(fa:Nat->List Addr)(H':Hp)(fa':Nat->List Addr):Prop where
 frm:∀a o,H a=some o->(∀i,G.own i->a∉fa i)->H' a=some o
 stb:T3 H H'
 new:∀i,G.own i->∀a∈fa' i,a∈fa i\/H a=none
 bor:∀i,¬G.own i->fa' i=fa i
section
variable{K:PySem.W.Frag}{G:Ent}{ρ ρ':Ev}{σ:St}{H H' H2:Hp}{fa fa' fa2:Nat->List Addr}
theorem P5.refl:P5 K G H fa H fa:=⟨fun _ _ h _=>h,T3.refl H,fun _ _ _ h=>.inl h,fun _ _=>rfl⟩
theorem P5.same(s:i3 H H'):P5 K G H fa H' fa:=⟨fun _ _ h _=>s _ _ h,T3.of s,fun _ _ _ h=>.inl h,fun _ _=>rfl⟩
theorem P5.trans(a:P5 K G H fa H' fa')(b:P5 K G H' fa' H2 fa2):P5 K G H fa H2 fa2:=
  ⟨fun x o h n=>b.frm x o (a.frm x o h n) fun i hi z=>(a.new i hi x z).elim (n i hi) (fun e=>by rw[h] at e;cases e),a.stb.trans b.stb,
   fun i hi x hx=>(b.new i hi x hx).elim (a.new i hi x) (fun e=>.inr (a.stb.dom x e)),fun i hi=>(b.bor i hi).trans (a.bor i hi)⟩
theorem P5.keep(c:P5 K G H fa H' fa'){v:V}{d:D}{B:List Addr}(r:Rep K H v d B)(n:∀i,G.own i->∀a∈B,a∉fa i):Rep K H' v d B:=
 r.mono c.stb fun a ha=>by
  obtain⟨o,e⟩:=fe.some (r.Y4 a ha)
  rw[e];exact c.frm a o e fun i hi=>n i hi a ha
theorem P5.apart(c:P5 K G H fa H' fa'){B:List Addr}(t:∀a∈B,H a≠none)(n:∀i,G.own i->∀a∈B,a∉fa i):∀i,G.own i->∀a∈B,a∉fa' i:=fun i hi a ha z=>
 (c.new i hi a z).elim (n i hi a ha) (t a ha)
theorem E3.step(E:E3 K G ρ σ H fa)(c:P5 K G H fa H' fa')(hl:ρ'.length=ρ.length)(hb:∀i,¬G.own i->ρ'[i]?=ρ[i]?)
  (ho:∀i d,G.own i->ρ'[i]?=some (some d)->∃v,σ[i]?=some (some v)/\Rep K H' v d (fa' i)) (he:∀i,G.own i->(∀d,ρ'[i]?≠some (some d))->fa' i=[])
  (nd:∀i,G.own i->(fa' i).Nodup) (dj:∀i j,i≠j->G.own i->G.own j->∀a∈fa' i,a∉fa' j):E3 K G ρ' σ H' fa' where
 rep:=fun i d e=>by
  by_cases hi:G.own i
  ·exact ho i d hi e
  ·rw[hb i hi] at e
   obtain⟨v,e1,r⟩:=E.rep i d e
   refine⟨v,e1,?_⟩
   rw[c.bor i hi]
   exact c.keep r fun j hj a ha z=>E.dj j i (fun q=>hi (q▸hj)) hj a z ha
 emp:=fun i e=>by
  by_cases hi:G.own i
  ·exact he i hi e
  ·rw[c.bor i hi]
   exact E.emp i fun d z=>e d (by rw[hb i hi];exact z)
 len:=hl.trans E.len
 nd:=fun i h=>by
  by_cases hi:G.own i
  ·exact nd i hi
  ·rw[c.bor i hi];exact E.nd i h
 dj:=fun i j n hi a ha=>by
  by_cases hj:G.own j
  ·exact dj i j n hi hj a ha
  ·rw[c.bor j hj]
   intro z
   rcases c.new i hi a ha with q | q
   ·exact E.dj i j n hi a q z
   ·exact E.there j z q
 par:=E.par
 old:=fun i h hi a ha=>(c.new i hi a ha).elim (E.old i h hi a) fun q=>.inr (E.stb.dom a q)
 new:=fun i h a ha=>by
  by_cases hi:G.own i
  ·exact(c.new i hi a ha).elim (E.new i h a) fun q=>E.stb.dom a q
  ·rw[c.bor i hi] at ha
   exact E.new i h a ha
 frm:=fun a o h n=>c.frm a o (E.frm a o h n) fun i hi z=>by
  by_cases hp:i<G.vs.length
  ·rcases E.old i hp hi a z with q | q
   ·exact n i hp hi q
   ·rw[h] at q;cases q
  ·have q:=E.new i (.inr ⟨hi,hp⟩) a z
   rw[h] at q;cases q
 stb:=E.stb.trans c.stb
 zk:=fun a z=>by
  obtain⟨o,e⟩:=Option.ne_none_iff_exists'.mp (E.zn a z)
  have h:=E.zk a z
  rw[e] at h ⊢
  exact c.frm a o h fun i hi q=>E.zo i hi a q z
 zn:=E.zn
 zo:=fun i hi a ha z=>by
  rcases c.new i hi a ha with q | q
  ·exact E.zo i hi a q z
  ·have h:=E.zk a z
   rw[q] at h
   exact E.zn a z h.symm
 po:=E.po
end
structure PM(X:Cx)(cl:List Cl)(e:Expr)(u:TM):Prop where
 of ::
 run:∃t,PE X e t/\∀(G:Ent) (ρ:Ev) (σ:St) (H:Hp) (fa:Nat->List Addr) (Q:D->Ev->Prop) (R:VK),G.cl=cl->E3 X.K G ρ σ H fa->u ρ Q ->
  (∀v H' d B ρ' fa',E3 X.K G ρ' σ H' fa'->P5 X.K G H fa H' fa'->Rep X.K H' v d B->B.Nodup->(∀a∈B,H a=none/\∀i,a∉fa' i)->Q d ρ'->R v H')->t σ H R
structure Q6 where
 nx:Ev->Prop
 rt:D->Ev->Prop
 bk:Ev->Prop:=fun _=>False
 ct:Ev->Prop:=fun _=>False
abbrev j7:=Q6->Ev->Prop
def vW(K:PySem.W.Frag)(G:Ent)(N:Ev->Prop):St->Hp->Prop:=fun σ H=>∃ρ fa,E3 K G ρ σ H fa/\N ρ
def Lo(K:PySem.W.Frag)(G:Ent)(N:D->Ev->Prop):VK:=fun v H=>∃d ρ σ fa B,E3 K G ρ σ H fa/\Rep K H v d B/\B.Nodup/\(∀a∈B,G.H₀ a=none)/\(∀i,i<G.vs.length->G.own i->∀a∈B,a∉fa i)/\N d ρ
def low(K:PySem.W.Frag)(G:Ent)(T:Q6):Ends:={ nx:=vW K G T.nx,rt:=Lo K G T.rt,bk:=vW K G T.bk,ct:=vW K G T.ct }
structure KG(A B:Ends):Prop where
 nx:∀σ H,A.nx σ H->B.nx σ H
 rt:∀v H,A.rt v H->B.rt v H
 bk:∀σ H,A.bk σ H->B.bk σ H
 ct:∀σ H,A.ct σ H->B.ct σ H
theorem KG.refl(A:Ends):KG A A:=⟨fun _ _ h=>h,fun _ _ h=>h,fun _ _ h=>h,fun _ _ h=>h⟩
structure T7(X:Cx)(cl:List Cl)(e:Expr)(u:Ev->(Bool->Prop)->Prop):Prop where
 of ::
 run:∃t,PT X e t/\∀(G:Ent) (ρ:Ev) (σ:St) (H:Hp) (fa:Nat->List Addr) (Q:Bool->Prop) (R:Bool->Hp->Prop),G.cl=cl->E3 X.K G ρ σ H fa->u ρ Q ->
  (∀b H',i3 H H'->Q b->R b H')->t σ H R
structure K7(X:Cx)(cl:List Cl)(st:Stmt)(s:j7):Prop where
 of ::
 run:∃t,PS X st t/\∀(G:Ent) (T:Q6) (ρ:Ev) (σ:St) (H:Hp) (fa:Nat->List Addr) (R:Ends),G.cl=cl->E3 X.K G ρ σ H fa->s T ρ->KG (low X.K G T) R->t R σ H
structure je(X:Cx)(cl:List Cl)(st:List Stmt)(s:j7):Prop where
 of ::
 run:∃t,oy X st t/\∀(G:Ent) (T:Q6) (ρ:Ev) (σ:St) (H:Hp) (fa:Nat->List Addr) (R:Ends),G.cl=cl->E3 X.K G ρ σ H fa->s T ρ->KG (low X.K G T) R->t R σ H
section
variable{X:Cx}{cl:List Cl}{e a b c:Expr}{f:Fl}{pos:Pos}
def uC(d:D):TU:=fun _ Q=>Q d
def e5(i:Nat):TU:=fun ρ Q=>match ρ[i]? with
 | some (some d)=>Q d
 | _=>False
def Ki:Option Cl->Fl
 | some .bor=>.stab
 | some .loc=>.locl
 | _=>.any
theorem E3.su{K:PySem.W.Frag}{G:Ent}{ρ:Ev}{σ:St}{H:Hp}{fa:Nat->List Addr}(E:E3 K G ρ σ H fa){i:Nat}(h:¬G.own i):∀j,G.own j->∀a∈fa i,a∉fa j:=fun j hj a ha z=>
 E.dj j i (fun e=>h (e▸hj)) hj a z ha
theorem E3.var{K:PySem.W.Frag}{G:Ent}{ρ:Ev}{σ:St}{H:Hp}{fa:Nat->List Addr}(E:E3 K G ρ σ H fa)(i:Nat):B0 G H fa (fa i) (Ki G.cl[i]?):=by
 cases e:G.cl[i]? with
 | none=>trivial
 | some k=>
  cases k with
  | own=>trivial
  | mk _=>trivial
  | bor=>exact E.su (fun z=>by unfold Ent.own at z;rw[e] at z;cases z)
  | loc=>exact⟨E.su (fun z=>by unfold Ent.own at z;rw[e] at z;cases z),E.new i (.inl e),E.nd i (.inr e)⟩
theorem d8(i:Nat){x:Str}(h:PE X (.Name x pos) (dC i))(hc:Ki cl[i]?=f):PU X cl (.Name x pos) f (e5 i):=.of<|by
 refine⟨_,h,fun G ρ σ H fa Q R hG E hu k=>?_⟩
 unfold e5 at hu
 cases e:ρ[i]? with
 | none=>rw[e] at hu;cases hu
 | some o=>
  cases o with
  | none=>rw[e] at hu;cases hu
  | some d=>
   rw[e] at hu
   obtain⟨v,e1,r⟩:=E.rep i d e
   refine⟨v,e1,k v H d (fa i) (i3.refl H) r ?_ hu⟩
   rw[<-hc,<-hG]
   exact E.var i
theorem d9{i:Int}{j}:PU X cl (.Constant (.int i) j pos) .fresh (uC (.int i)):=.of ⟨_,Fw,fun G ρ σ H fa Q R _ E hu k=>k _ H _ _ (i3.refl H) .int (B0.nil _) hu⟩
theorem rS{i:Bool}{j}:PU X cl (.Constant (.bool i) j pos) .fresh (uC (.bl i)):=.of ⟨_,IH,fun G ρ σ H fa Q R _ E hu k=>k _ H _ _ (i3.refl H) .bl (B0.nil _) hu⟩
theorem M5{j}:PU X cl (.Constant .none j pos) .fresh (uC .non):=.of ⟨_,GP,fun G ρ σ H fa Q R _ E hu k=>k _ H _ _ (i3.refl H) .non (B0.nil _) hu⟩
theorem J2{x:Str}{j}:PU X cl (.Constant (.str x) j pos) .fresh (uC (.str x)):=.of ⟨_,Ib,fun G ρ σ H fa Q R _ E hu k=>k _ H _ _ (i3.refl H) .str (B0.nil _) hu⟩
theorem PU.weak{u:TU}{g:Fl}(h:PU X cl e f u)(hm:gP f g=true):PU X cl e g u:=.of<|by
 obtain⟨t,ht,h⟩:=h.run
 exact⟨t,ht,fun G ρ σ H fa Q R hG E hu k=>h G ρ σ H fa Q R hG E hu fun v H' d B s r fo q=>k v H' d B s r (fo.weak E hm) q⟩
def B8(u:TU):TU:=fun ρ Q=>u ρ fun d=>A7 d=true/\Q d
theorem PU.A7{u:TU}(h:PU X cl e f u):PU X cl e .fresh (B8 u):=.of<|by
 obtain⟨t,ht,h⟩:=h.run
 refine⟨t,ht,fun G ρ σ H fa Q R hG E hu k=>h G ρ σ H fa _ R hG E hu fun v H' d B s r fo q=>k v H' d B s r ?_ q.2⟩
 rw[r.C7 q.1]
 exact B0.nil _
section
variable{K:PySem.W.Frag}{G:Ent}{H H':Hp}{fa:Nat->List Addr}{B:List Addr}{f:Fl}
theorem B0.back(s:i3 H H')(h:B0 G H' fa B f):B0 G H fa B f:=by
 cases f with
 | any=>trivial
 | stab=>exact h
 | locl=>exact h
 | fresh=>exact⟨h.1,fun a ha=>s.free (h.2 a ha)⟩
end
theorem u2{ua ub:TU}{fa fb:Fl}(ha:PU X cl a fa ua)(hb:PU X cl b fb ub):∃ta tb,PE X a ta/\PE X b tb/\∀(G:Ent) (ρ:Ev) (σ:St) (H:Hp) (fo:Nat->List Addr) (Q:D->D->Prop) (R:V->V->Hp->Prop),G.cl=cl->E3 X.K G ρ σ H fo->(ua ρ fun x=>ub ρ fun y=>Q x y) ->
  (∀v w H' d e A B,i3 H H'->Rep X.K H' v d A->Rep X.K H' w e B->B0 G H fo A fa->B0 G H fo B fb->Q d e->R v w H')->ta σ H fun x H1=>tb σ H1 fun y H2=>R x y H2:=by
 obtain⟨ta,pa,ha⟩:=ha.run
 obtain⟨tb,pb,hb⟩:=hb.run
 refine⟨ta,tb,pa,pb,fun G ρ σ H fo Q R hG E hu k=>?_⟩
 refine ha G ρ σ H fo _ _ hG E hu fun v H1 d A s1 r1 f1 q1=>?_
 refine hb G ρ σ H1 fo _ _ hG (E.same s1) q1 fun w H2 e B s2 r2 f2 q2=>?_
 exact k v w H2 d e A B (s1.trans s2) (r1.same s2) r2 f1 (f2.back s1) q2
def br(X:Cx)(r:R2)(g:D->D->(D->Prop)->Prop):Prop:=∀(H:Hp) (v w:V) (d e:D) (A B:List Addr) (Q:D->Prop) (R:VK),Rep X.K H v d A->Rep X.K H w e B->g d e Q ->
 (∀x H' y C,i3 H H'->Rep X.K H' x y C->C.Nodup->(∀a∈C,H a=none)->Q y->R x H')->r v w H R
def w8(g:D->D->(D->Prop)->Prop)(ua ub:TU):TU:=fun ρ Q=>ua ρ fun x=>ub ρ fun y=>g x y Q
theorem Ja{ua ub:TU}{fa fb:Fl}{r:R2}{g:D->D->(D->Prop)->Prop}(o:br X r g){t:TE->TE->TE}(ht:t=Ip r)(ha:PU X cl a fa ua)(hb:PU X cl b fb ub)(mk:∀{ta tb},PE X a ta->PE X b tb->PE X e (t ta tb)):PU X cl e .fresh (w8 g ua ub):=.of<|by
 obtain⟨ta,tb,pa,pb,h⟩:=u2 ha hb
 subst ht
 refine⟨_,mk pa pb,fun G ρ σ H fo Q R hG E hu k=>?_⟩
 refine h G ρ σ H fo _ _ hG E hu fun v w H' d e A B s r1 r2 _ _ q=>?_
 exact o H' v w d e A B Q R r1 r2 q fun x H2 y C s2 r3 n1 n2 q2=>k x H2 y C (s.trans s2) r3 ⟨n1,fun a ha=>s.free (n2 a ha)⟩ q2
theorem fw{ua ub:TU}{fa fb:Fl}{r:R2}{op:Operator}{g:D->D->(D->Prop)->Prop}(ho:N0 X (binaryOp op) r)(o:br X r g)(ha:PU X cl a fa ua)(hb:PU X cl b fb ub):PU X cl (.BinOp a op b pos) .fresh (w8 g ua ub):=
 Ja o rfl ha hb fun pa pb=>Fd ho pa pb
theorem fq{ua ub:TU}{fa fb:Fl}{r:R2}{op:CmpOp}{g:D->D->(D->Prop)->Prop}(ho:N0 X (compareOp op) r)(o:br X r g)(ha:PU X cl a fa ua)(hb:PU X cl b fb ub)(hm:behindInMarks op b=false):PU X cl (.Compare a [op] [b] pos) .fresh (w8 g ua ub):=
 Ja o rfl ha hb fun pa pb=>sS ho pa pb hm
def gI(C:Int->Int->Prop)(g:Int->Int->D):D->D->(D->Prop)->Prop
 | .int i,.int j,Q=>C i j/\Q (g i j)
 | _,_,_=>False
def uQ(g:Int->Int->D):D->D->(D->Prop)->Prop
 | .int i,.int j,Q=>Q (g i j)
 | _,_,_=>False
theorem y4{K:PySem.W.Frag}{H:Hp}{v:V}{i:Int}{A:List Addr}(h:Rep K H v (.int i) A):v=.int i:=by cases h;rfl
theorem C4{K:PySem.W.Frag}{H:Hp}{v:V}{i:Str}{A:List Addr}(h:Rep K H v (.str i) A):v=.str i:=by cases h;rfl
theorem X5{K:PySem.W.Frag}{H:Hp}{v:V}{i:Bool}{A:List Addr}(h:Rep K H v (.bl i) A):v=.bl i:=by cases h;rfl
theorem cb{K:PySem.W.Frag}{H:Hp}{v:V}{A:List Addr}(h:Rep K H v .non A):v=.non:=by cases h;rfl
theorem lT{C:Int->Int->Prop}{g:Int->Int->Int}:br X (rI C fun i j=>.int (g i j)) (gI C fun i j=>.int (g i j)):=by
 intro H v w d e A B Q R r1 r2 q k
 cases d<;>cases e<;>first | exact q.elim | skip
 cases y4 r1;cases y4 r2
 exact⟨_,_,rfl,rfl,q.1,k _ H _ _ (i3.refl H) .int List.nodup_nil (fun _ h=>(by cases h)) q.2⟩
theorem wG{g:Int->Int->Int}:br X (vJ fun i j=>.int (g i j)) (uQ fun i j=>.int (g i j)):=by
 intro H v w d e A B Q R r1 r2 q k
 cases d<;>cases e<;>first | exact q.elim | skip
 cases y4 r1;cases y4 r2
 exact⟨_,_,rfl,rfl,k _ H _ _ (i3.refl H) .int List.nodup_nil (fun _ h=>(by cases h)) q⟩
theorem gf{g:Int->Int->Bool}:br X (vJ fun i j=>.bl (g i j)) (uQ fun i j=>.bl (g i j)):=by
 intro H v w d e A B Q R r1 r2 q k
 cases d<;>cases e<;>first | exact q.elim | skip
 cases y4 r1;cases y4 r2
 exact⟨_,_,rfl,rfl,k _ H _ _ (i3.refl H) .bl List.nodup_nil (fun _ h=>(by cases h)) q⟩
section
variable{ua ub:TU}{fa fb:Fl}
theorem O7(ha:PU X cl a fa ua)(hb:PU X cl b fb ub):PU X cl (.BinOp a .Sub b pos) .fresh (w8 (uQ fun i j=>.int (i-j)) ua ub):=fw FQ wG ha hb
theorem ff(ha:PU X cl a fa ua)(hb:PU X cl b fb ub):PU X cl (.BinOp a .FloorDiv b pos) .fresh (w8 (gI V0 fun i j=>.int (i/j)) ua ub):=fw yd lT ha hb
theorem S8(ha:PU X cl a fa ua)(hb:PU X cl b fb ub):PU X cl (.BinOp a .Mod b pos) .fresh (w8 (gI (fun _ j=>0<j) fun i j=>.int (i%j)) ua ub):=fw Au lT ha hb
theorem jT(ha:PU X cl a fa ua)(hb:PU X cl b fb ub):PU X cl (.BinOp a .Pow b pos) .fresh (w8 (gI aZ fun i j=>.int (i^j.toNat)) ua ub):=fw Ga lT ha hb
theorem Jy(ha:PU X cl a fa ua)(hb:PU X cl b fb ub)(hm:behindInMarks .Lt b=false):PU X cl (.Compare a [.Lt] [b] pos) .fresh (w8 (uQ fun i j=>.bl (decide (i<j))) ua ub):=fq Fm gf ha hb hm
def LX:D->D->(D->Prop)->Prop
 | .str i,.str j,Q=>i.length+j.length<=sizeLine/\Q (.str (i++j))
 | _,_,_=>False
theorem IE:br X (fun x y H Q=>∃i j,x=.str i/\y=.str j/\i.length+j.length<=sizeLine/\Q (.str (i++j)) H) LX:=by
 intro H v w d e A B Q R r1 r2 q k
 cases d<;>cases e<;>first | exact q.elim | skip
 cases C4 r1;cases C4 r2
 exact⟨_,_,rfl,rfl,q.1,k _ H _ _ (i3.refl H) .str List.nodup_nil (fun _ h=>(by cases h)) q.2⟩
def aJ:D->Bool
 | .non=>true
 | .bl _=>true
 | .int _=>true
 | .str _=>true
 | _=>false
def toV:D->V
 | .non=>.non
 | .bl b=>.bl b
 | .int i=>.int i
 | .str x=>.str x
 | _=>.non
theorem V8{K:PySem.W.Frag}{H:Hp}{v:V}{d:D}{A:List Addr}(h:Rep K H v d A)(f:aJ d=true):v=toV d/\A=[]:=by
 cases h<;>first | exact⟨rfl,rfl⟩ | cases f
def ng(neg b:Bool):Bool:=match neg with
 | true=>!b
 | false=>b
def La:D->D->Option Bool
 | .int a,.int b=>some (decide (a=b))
 | .str a,.str b=>some (decide (a=b))
 | .bl a,.bl b=>some (decide (a=b))
 | .non,.non=>some true
 | .non,.int _=>some false
 | .int _,.non=>some false
 | .non,.bl _=>some false
 | .bl _,.non=>some false
 | .non,.str _=>some false
 | .str _,.non=>some false
 | .int _,.str _=>some false
 | .str _,.int _=>some false
 | .bl _,.str _=>some false
 | .str _,.bl _=>some false
 | _,_=>none
theorem zh{d e:D}{b:Bool}(h:La d e=some b):aJ d=true/\aJ e=true/\Gh (toV d) (toV e)=true/\decide (toV d=toV e)=b:=by
 cases d<;>cases e<;>first | (cases h;done) | skip
 all_goals cases h
 all_goals refine⟨rfl,rfl,rfl,?_⟩
 all_goals first | rfl | (simp[toV];done)
def Iw(neg:Bool):D->D->(D->Prop)->Prop:=fun d e Q=>match La d e with
 | some b=>Q (.bl (ng neg b))
 | none=>False
theorem xT{neg:Bool}{d e:D}{Q:D->Prop}(h:Iw neg d e Q):∃b,La d e=some b/\Q (.bl (ng neg b)):=by
 unfold Iw at h
 split at h
 ·exact⟨_,by assumption,h⟩
 ·exact h.elim
theorem GI:br X Mf (Iw false):=by
 intro H v w d e A B Q R r1 r2 q k
 obtain⟨b,eb,q⟩:=xT q
 obtain⟨f1,f2,f3,f4⟩:=zh eb
 obtain⟨rfl,rfl⟩:=V8 r1 f1
 obtain⟨rfl,rfl⟩:=V8 r2 f2
 refine⟨f3,?_⟩
 rw[f4]
 exact k _ H _ _ (i3.refl H) .bl List.nodup_nil (fun _ h=>(by cases h)) q
theorem LZ:br X Mz (Iw true):=by
 intro H v w d e A B Q R r1 r2 q k
 obtain⟨b,eb,q⟩:=xT q
 obtain⟨f1,f2,f3,f4⟩:=zh eb
 obtain⟨rfl,rfl⟩:=V8 r1 f1
 obtain⟨rfl,rfl⟩:=V8 r2 f2
 refine⟨f3,?_⟩
 rw[f4]
 exact k _ H _ _ (i3.refl H) .bl List.nodup_nil (fun _ h=>(by cases h)) q
def sj:D->Bool
 | .non=>true
 | _=>false
def Mu(neg:Bool):D->D->(D->Prop)->Prop
 | d,.non,Q=>Q (.bl (ng neg (sj d)))
 | _,_,_=>False
theorem sL{K:PySem.W.Frag}{H:Hp}{v:V}{d:D}{A:List Addr}(h:Rep K H v d A):decide (v=.non)=sj d:=by
 cases h<;>first | rfl | simp[sj]
theorem Lb:br X (fun x y H Q=>y=.non/\Q (.bl (decide (x=.non))) H) (Mu false):=by
 intro H v w d e A B Q R r1 r2 q k
 cases e<;>first | exact q.elim | skip
 cases cb r2
 refine⟨rfl,?_⟩
 rw[sL r1]
 refine k _ H _ _ (i3.refl H) .bl List.nodup_nil (fun _ h=>(by cases h)) ?_
 exact q
theorem FV:br X (fun x y H Q=>y=.non/\Q (.bl (!decide (x=.non))) H) (Mu true):=by
 intro H v w d e A B Q R r1 r2 q k
 cases e<;>first | exact q.elim | skip
 cases cb r2
 refine⟨rfl,?_⟩
 rw[sL r1]
 refine k _ H _ _ (i3.refl H) .bl List.nodup_nil (fun _ h=>(by cases h)) ?_
 exact q
def mL:D->Option (List D)
 | .lst xs=>some xs
 | .tup xs=>some xs
 | .fz xs=>some xs
 | _=>none
theorem cg{K:PySem.W.Frag}{H:Hp}{v:V}{d:D}{A:List Addr}{xs:List D}(h:Rep K H v d A)(e:mL d=some xs):∃p vs B,v=.ref p/\(N7 K H p vs\/R8 K H p vs)/\o5 K H vs xs B/\B.Sublist A:=by
 cases h with
 | tup h r=>cases e;exact⟨_,_,_,rfl,.inr (R8.of h),r,List.Sublist.refl _⟩
 | lst h r=>cases e;exact⟨_,_,_,rfl,.inl (N7.of h),r,List.sublist_cons_self _ _⟩
 | frz h r=>cases e;exact⟨_,_,_,rfl,.inl h.sq,r,List.Sublist.refl _⟩
 | _=>cases e
theorem mB{d:D}(h:aJ d=true):bu (toV d)=true:=by cases d<;>first | rfl | cases h
theorem o5.flat:∀{K:PySem.W.Frag} {H:Hp} {vs:List V} {ds:List D} {A:List Addr},o5 K H vs ds A->ds.all aJ=true->vs=ds.map toV/\vs.all bu=true
 | _,_,_,_,_,.nil,_=>⟨rfl,rfl⟩
 | _,_,_,_,_,.cons h r,f=>by
  rw[List.all_cons,Bool.and_eq_true] at f
  obtain⟨e1,_⟩:=V8 h f.1
  obtain⟨e2,e3⟩:=r.flat f.2
  subst e1
  refine⟨by rw[List.map_cons,<-e2],?_⟩
  rw[List.all_cons,e3,Bool.and_true]
  exact mB f.1
def inD(x:D)(xs:List D):Bool:=xs.any fun y=>DR (toV y) (toV x)
def Mr(neg:Bool):D->D->(D->Prop)->Prop:=fun d e Q=>aJ d=true/\∃xs,mL e=some xs/\xs.all aJ=true/\Q (.bl (ng neg (inD d xs)))
theorem LJ{neg:Bool}:br X (JV X.K neg) (Mr neg):=by
 intro H v w d e A B Q R r1 r2 q k
 obtain⟨f1,xs,e1,f2,q⟩:=q
 obtain⟨rfl,rfl⟩:=V8 r1 f1
 obtain⟨p,vs,C,rfl,hq,r,_⟩:=cg r2 e1
 obtain⟨rfl,f3⟩:=r.flat f2
 refine⟨p,_,rfl,hq,mB f1,f3,k _ H _ _ (i3.refl H) .bl List.nodup_nil (fun _ h=>(by cases h)) ?_⟩
 have e2:Ky (toV d) (xs.map toV)=inD d xs:=by unfold Ky inD;rw[List.any_map];rfl
 rw[e2]
 cases neg
 ·exact q
 ·exact q
theorem o5.P4{K:PySem.W.Frag}{H:Hp}{vs:List V}{ds:List D}{A:List Addr}{i:Int}{d:D}(r:o5 K H vs ds A)(h:L2.P4 ds i=some d):∃v B,L2.P4 vs i=some v/\Rep K H v d B/\B.Sublist A:=by
 unfold L2.P4 at h ⊢
 rw[r.length]
 cases e:kO ds.length i with
 | none=>rw[e] at h;cases h
 | some j=>
  rw[e] at h
  exact r.get h
def Mm:D->D->(D->Prop)->Prop
 | .str z,.int i,Q=>z.length<=sizeLine/\∃c,L2.P4 z.cps.toList i=some c/\Q (.str ⟨#[c]⟩)
 | .lst xs,.int i,Q=>∃d,L2.P4 xs i=some d/\Q d
 | .tup xs,.int i,Q=>∃d,L2.P4 xs i=some d/\Q d
 | .fz xs,.int i,Q=>∃d,L2.P4 xs i=some d/\Q d
 | _,_,_=>False
end
end
section
variable{X:Cx}{cl:List Cl}{e a b c:Expr}{es:List Expr}{f:Fl}{pos:Pos}{ua ub uc:TU}{fa fb fc:Fl}
abbrev cE:=Ev->(List D->Prop)->Prop
structure Kd(X:Cx)(cl:List Cl)(es:List Expr)(u:cE):Prop where
 of ::
 run:∃t,PA X es t/\∀(G:Ent) (ρ:Ev) (σ:St) (H:Hp) (fa:Nat->List Addr) (Q:List D->Prop) (R:List V->Hp->Prop),G.cl=cl->E3 X.K G ρ σ H fa->u ρ Q ->
  (∀vs H' ds A,i3 H H'->o5 X.K H' vs ds A->A.Nodup->(∀a∈A,H a=none)->ds.length=es.length->Q ds->R vs H')->t σ H R
structure zR(X:Cx)(cl:List Cl)(es:List Expr)(u:cE):Prop where
 of ::
 run:∃t,PA X es t/\∀(G:Ent) (ρ:Ev) (σ:St) (H:Hp) (fa:Nat->List Addr) (Q:List D->Prop) (R:List V->Hp->Prop),G.cl=cl->E3 X.K G ρ σ H fa->u ρ Q ->
  (∀vs H' ds A,i3 H H'->o5 X.K H' vs ds A->ds.length=es.length->Q ds->R vs H')->t σ H R
def j4:cE:=fun _ Q=>Q []
def e9(ua:TU)(us:cE):cE:=fun ρ Q=>ua ρ fun x=>us ρ fun xs=>Q (x::xs)
theorem y1:Kd X cl [] j4:=.of ⟨_,Q4,fun G ρ σ H fa Q R _ E hu k=>k [] H [] [] (i3.refl H) .nil List.nodup_nil (fun _ h=>(by cases h)) rfl hu⟩
theorem g9:zR X cl [] j4:=.of ⟨_,Q4,fun G ρ σ H fa Q R _ E hu k=>k [] H [] [] (i3.refl H) .nil rfl hu⟩
theorem Rep.there{K:PySem.W.Frag}{H:Hp}{v:V}{d:D}{A:List Addr}(r:Rep K H v d A){x:Addr}(hx:x∈A):H x≠none:=fun z=>by
 have:=r.Y4 x hx
 rw[z] at this
 exact this
theorem j5{us:cE}(ha:PU X cl e .fresh ua)(hr:Kd X cl es us)(hs:isStar e=false):Kd X cl (e::es) (e9 ua us):=.of<|by
 obtain⟨t1,p1,h1⟩:=ha.run
 obtain⟨t2,p2,h2⟩:=hr.run
 refine⟨_,bG p1 p2 hs,fun G ρ σ H fa Q R hG E hu k=>?_⟩
 refine h1 G ρ σ H fa _ _ hG E hu fun v H1 d A s1 r1 f1 q1=>?_
 refine h2 G ρ σ H1 fa _ _ hG (E.same s1) q1 fun vs H2 ds B s2 r2 n1 n2 n3 q2=>?_
 refine k (v::vs) H2 (d::ds) (A++B) (s1.trans s2) (.cons (r1.same s2) r2) ?_ (fun x hx=>?_) (by simp[n3]) q2
 ·refine List.nodup_append.mpr ⟨f1.1,n1,fun x hx y hy e=>?_⟩
  subst e
  exact r1.there hx (n2 x hy)
 ·rcases List.mem_append.mp hx with z | z
  ·exact f1.2 x z
  ·exact s1.free (n2 x z)
theorem e7{us:cE}(ha:PU X cl e f ua)(hr:zR X cl es us)(hs:isStar e=false):zR X cl (e::es) (e9 ua us):=.of<|by
 obtain⟨t1,p1,h1⟩:=ha.run
 obtain⟨t2,p2,h2⟩:=hr.run
 refine⟨_,bG p1 p2 hs,fun G ρ σ H fa Q R hG E hu k=>?_⟩
 refine h1 G ρ σ H fa _ _ hG E hu fun v H1 d A s1 r1 f1 q1=>?_
 refine h2 G ρ σ H1 fa _ _ hG (E.same s1) q1 fun vs H2 ds B s2 r2 n3 q2=>?_
 exact k (v::vs) H2 (d::ds) (A++B) (s1.trans s2) (.cons (r1.same s2) r2) (by simp[n3]) q2
def av(us:cE):TU:=fun ρ Q=>us ρ fun xs=>Q (.lst xs)
def bH(us:cE):TU:=fun ρ Q=>us ρ fun xs=>Q (.tup xs)
theorem aC{n:Nat}(h:n<=1000):n<=sizeLine:=Nat.le_of_lt (vd h)
theorem G2{us:cE}(h:Kd X cl es us)(hn:Nat.ble es.length 1000=true):PU X cl (.List es pos) .fresh (av us):=.of<|by
 obtain⟨t,p,h⟩:=h.run
 refine⟨_,yx p,fun G ρ σ H fa Q R hG E hu k=>?_⟩
 refine h G ρ σ H fa _ _ hG E hu fun vs H1 ds A s r n1 n2 n3 q=>⟨by rw[r.length,n3];exact aC (Nat.le_of_ble_eq_true hn),fun x hx=>?_⟩
 refine k _ _ (.lst ds) (x::A) (s.trans (i3.i8 hx)) (.lst h9 (r.same (i3.i8 hx))) ⟨List.nodup_cons.mpr ⟨fun z=>?_,n1⟩,fun y hy=>?_⟩ q
 ·have:=r.Y4 x z
  rw[hx] at this;exact this
 ·rcases List.mem_cons.mp hy with z | z
  ·rw[z];exact s.free hx
  ·exact n2 y z
theorem P2{us:cE}{x1}(h:Kd X cl es us)(hn:Nat.ble es.length 1000=true):PU X cl (.Tuple es x1 pos) .fresh (bH us):=.of<|by
 obtain⟨t,p,h⟩:=h.run
 refine⟨_,jJ p,fun G ρ σ H fa Q R hG E hu k=>?_⟩
 refine h G ρ σ H fa _ _ hG E hu fun vs H1 ds A s r n1 n2 n3 q=>⟨by rw[r.length,n3];exact aC (Nat.le_of_ble_eq_true hn),fun x hx=>?_⟩
 exact k _ _ (.tup ds) A (s.trans (i3.i8 hx)) (.tup h9 (r.same (i3.i8 hx))) ⟨n1,n2⟩ q
def Call3(X:Cx)(r:List V->Hp->VK->Prop)(g:List D->(D->Prop)->Prop):Prop:=∀(H:Hp) (vs:List V) (ds:List D) (A:List Addr) (Q:D->Prop) (R:VK),o5 X.K H vs ds A->g ds Q ->
 (∀x H' y C,i3 H H'->Rep X.K H' x y C->C.Nodup->(∀a∈C,H a=none)->Q y->R x H')->r vs H R
def Y9(g:List D->(D->Prop)->Prop)(us:cE):TU:=fun ρ Q=>us ρ fun ds=>g ds Q
theorem Mj{us:cE}{r:List V->Hp->VK->Prop}{g:List D->(D->Prop)->Prop}(o:Call3 X r g)(h:zR X cl es us)(mk:∀{t},PA X es t->PE X e (KQ r t)):PU X cl e .fresh (Y9 g us):=.of<|by
 obtain⟨t,p,h⟩:=h.run
 refine⟨_,mk p,fun G ρ σ H fa Q R hG E hu k=>?_⟩
 refine h G ρ σ H fa _ _ hG E hu fun vs H1 ds A s r n3 q=>?_
 exact o H1 vs ds A Q R r q fun x H2 y C s2 r2 n1 n2 q2=>k x H2 y C (s.trans s2) r2 ⟨n1,fun a ha=>s.free (n2 a ha)⟩ q2
section
variable{id T:String}{r:List V->Hp->VK->Prop}{g:List D->(D->Prop)->Prop}{x:Str}{p:Pos}{us:cE}
theorem w6 (hc:E7 X (.builtin id) r) (o:Call3 X r g) (hg:Gl X x) (hm:X.mg x=none) (hv:bootBuiltins x=some (.builtin id)) (ha:zR X cl (e::es) us) (hn:x ≠ "__name__":=by decide) (hd:(x == ("__debug__" : Str))=false:=by decide)
  (he:starEach (e::es) X.env=(false,eval e X.env)::starEach es X.env:=by rfl) (hpl:(backTo pos (starEach es X.env)).any (·.1)=false:=by rfl):PU X cl (.Call (.Name x p) (e::es) [] pos) .fresh (Y9 g us):=
 Mj o ha fun pa=>oz hc hg hm hv pa hn hd he hpl
theorem B3 (hc:E7 X (.type T) r) (o:Call3 X r g) (hg:Gl X x) (hm:X.mg x=none) (hv:bootBuiltins x=some (.type T)) (ha:zR X cl (e::es) us) (hn:x ≠ "__name__":=by decide) (hd:(x == ("__debug__" : Str))=false:=by decide)
  (he:starEach (e::es) X.env=(false,eval e X.env)::starEach es X.env:=by rfl) (hpl:(backTo pos (starEach es X.env)).any (·.1)=false:=by rfl):PU X cl (.Call (.Name x p) (e::es) [] pos) .fresh (Y9 g us):=
 Mj o ha fun pa=>iH hc hg hm hv pa hn hd he hpl
end
theorem o5.one{K:PySem.W.Frag}{H:Hp}{vs:List V}{d:D}{A:List Addr}(r:o5 K H vs [d] A):∃v,vs=[v]/\Rep K H v d A:=by
 cases r with
 | cons h t=>cases t;exact⟨_,rfl,by rw[List.append_nil];exact h⟩
theorem o5.two{K:PySem.W.Frag}{H:Hp}{vs:List V}{d e:D}{A:List Addr}(r:o5 K H vs [d,e] A):∃v w B C,vs=[v,w]/\Rep K H v d B/\Rep K H w e C/\A=B++C:=by
 cases r with
 | cons h t=>
  cases t with
  | cons h2 t2=>cases t2;exact⟨_,_,_,_,rfl,h,h2,by rw[List.append_nil]⟩
theorem G8{K:PySem.W.Frag}{H:Hp}{v:V}{xs:List D}{A:List Addr}(h:Rep K H v (.lst xs) A):∃p vs B,v=.ref p/\H p=some (.lst vs)/\o5 K H vs xs B/\A=p::B:=by
 cases h with
 | lst h r=>exact⟨_,_,_,rfl,h,r,rfl⟩
theorem kF{K:PySem.W.Frag}{H:Hp}{v:V}{xs:List D}{A:List Addr}(h:Rep K H v (.fz xs) A):∃p vs,v=.ref p/\Fq K H p vs/\o5 K H vs xs A:=by
 cases h with
 | frz h r=>exact⟨_,_,rfl,h,r⟩
theorem M7{K:PySem.W.Frag}{H:Hp}{v:V}{xs:List D}{A:List Addr}(h:Rep K H v (.tup xs) A):∃p vs,v=.ref p/\H p=some (.tup vs)/\o5 K H vs xs A:=by
 cases h with
 | tup h r=>exact⟨_,_,rfl,h,r⟩
def eN:List D->(D->Prop)->Prop
 | [.lst xs],Q=>Q (.int xs.length)
 | [.tup xs],Q=>Q (.int xs.length)
 | [.fz xs],Q=>Q (.int xs.length)
 | [.str z],Q=>z.length<=sizeLine/\Q (.int z.length)
 | _,_=>False
theorem bp:Call3 X (fun xs H Q=>∃x n,xs=[x]/\GK X.K x H n/\Q (.int n) H) eN:=by
 intro H vs ds A Q R r q k
 have fin:∀{n:Nat},Q (.int n)->R (.int n) H:=fun q=>k _ H _ _ (i3.refl H) .int List.nodup_nil (fun _ h=>(by cases h)) q
 have sq:∀{d:D} {xs:List D},ds=[d]->mL d=some xs->Q (.int xs.length)->∃x n,vs=[x]/\GK X.K x H n/\R (.int n) H:=fun {d xs} e1 e2 qq=>by
  subst e1
  obtain⟨v,rfl,rr⟩:=r.one
  obtain⟨p,ws,B,rfl,hq,r2,_⟩:=cg rr e2
  refine⟨_,ws.length,rfl,?_,fin (by rw[r2.length];exact qq)⟩
  rcases hq with hq | hq
  ·exact .inl ⟨_,hq,rfl⟩
  ·exact .inr ⟨_,hq,rfl⟩
 unfold eN at q
 split at q
 ·exact sq rfl rfl q
 ·exact sq rfl rfl q
 ·exact sq rfl rfl q
 ·obtain⟨v,rfl,rr⟩:=r.one
  cases C4 rr
  exact⟨_,_,rfl,⟨q.1,rfl⟩,fin q.2⟩
 ·exact q.elim
def ER:List D->(D->Prop)->Prop:=fun ds Q=>∃d xs,ds=[d]/\mL d=some xs/\A2 xs=true/\Q (.lst xs)
theorem Fs:Call3 X (fun xs H Q=>∃p ys,xs=[.ref p]/\(N7 X.K H p ys\/R8 X.K H p ys)/\∀l,H l=none->Q (.ref l) (upd H l (.lst ys))) ER:=by
 intro H vs ds A Q R r q k
 obtain⟨d,xs,rfl,e,im,q⟩:=q
 obtain⟨v,rfl,rr⟩:=r.one
 obtain⟨p,ws,B,rfl,hq,r2,_⟩:=cg rr e
 have eB:=r2.C7 im
 subst eB
 refine⟨p,ws,rfl,hq,fun l hl=>k _ _ (.lst xs) [l] (i3.i8 hl) (.lst h9 (r2.same (i3.i8 hl))) (by simp) (fun a ha=>?_) q⟩
 have:a=l:=by simpa using ha
 rw[this];exact hl
def bB:List D->(D->Prop)->Prop:=fun ds Q=>∃d xs,ds=[d]/\mL d=some xs/\A2 xs=true/\Q (.tup xs)
theorem aM:Call3 X (fun xs H Q=>∃p ys,xs=[.ref p]/\((N7 X.K H p ys/\∀l,H l=none->Q (.ref l) (upd H l (.tup ys)))\/(R8 X.K H p ys/\Q (.ref p) H))) bB:=by
 intro H vs ds A Q R r q k
 obtain⟨d,xs,rfl,e,im,q⟩:=q
 obtain⟨v,rfl,rr⟩:=r.one
 cases d with
 | lst ys=>
  cases e
  obtain⟨p,ws,B,rfl,hq,r2,_⟩:=G8 rr
  have eB:=r2.C7 im
  subst eB
  exact⟨p,ws,rfl,.inl ⟨N7.of hq,fun l hl=>k _ _ (.tup xs) [] (i3.i8 hl) (.tup h9 (r2.same (i3.i8 hl))) List.nodup_nil (fun a ha=>(by cases ha)) q⟩⟩
 | fz ys=>
  cases e
  obtain⟨p,ws,rfl,hq,r2⟩:=kF rr
  have eB:=r2.C7 im
  subst eB
  exact⟨p,ws,rfl,.inl ⟨hq.sq,fun l hl=>k _ _ (.tup xs) [] (i3.i8 hl) (.tup h9 (r2.same (i3.i8 hl))) List.nodup_nil (fun a ha=>(by cases ha)) q⟩⟩
 | tup ys=>
  cases e
  obtain⟨p,ws,rfl,hq,r2⟩:=M7 rr
  have eB:=r2.C7 im
  subst eB
  exact⟨_,_,rfl,.inr ⟨R8.of hq,k _ H (.tup xs) [] (i3.refl H) rr List.nodup_nil (fun a ha=>(by cases ha)) q⟩⟩
 | _=>cases e
def IQ:List D->(D->Prop)->Prop
 | [.int i],Q=>Q (.int i)
 | [.bl k],Q=>Q (.int (if k then 1 else 0))
 | _,_=>False
theorem EW:Call3 X (fun xs H Q=>(∃i,xs=[.int i]/\Q (.int i) H)\/∃k,xs=[.bl k]/\Q (.int (if k then 1 else 0)) H) IQ:=by
 intro H vs ds A Q R r q k
 unfold IQ at q
 split at q
 ·obtain⟨v,rfl,rr⟩:=r.one
  cases y4 rr
  exact .inl ⟨_,rfl,k _ H _ _ (i3.refl H) .int List.nodup_nil (fun _ h=>(by cases h)) q⟩
 ·obtain⟨v,rfl,rr⟩:=r.one
  cases X5 rr
  exact .inr ⟨_,rfl,k _ H _ _ (i3.refl H) .int List.nodup_nil (fun _ h=>(by cases h)) q⟩
 ·exact q.elim
def JG(g:Int->Int->Int):List D->(D->Prop)->Prop
 | [.int i,.int j],Q=>Q (.int (g i j))
 | _,_=>False
theorem GG{g:Int->Int->Int}:Call3 X (fun xs H Q=>∃i j,xs=[.int i,.int j]/\Q (.int (g i j)) H) (JG g):=by
 intro H vs ds A Q R r q k
 unfold JG at q
 split at q
 ·obtain⟨v,w,B,C,rfl,r1,r2,_⟩:=r.two
  cases y4 r1;cases y4 r2
  exact⟨_,_,rfl,k _ H _ _ (i3.refl H) .int List.nodup_nil (fun _ h=>(by cases h)) q⟩
 ·exact q.elim
end
structure Br(b:Bool)(P Q:Prop):Prop where
 t:b=true->P
 f:b=false->Q
theorem Br.yes{b:Bool}{P Q:Prop}(h:b=true)(p:P):Br b P Q:=⟨fun _=>p,fun e=>by rw[h] at e;cases e⟩
theorem Br.no{b:Bool}{P Q:Prop}(h:b=false)(p:Q):Br b P Q:=⟨fun e=>(by rw[h] at e;cases e),fun _=>p⟩
abbrev cL:=Ev->(Bool->Prop)->Prop
section
variable{X:Cx}{cl:List Cl}{e a b c:Expr}{es:List Expr}{f:Fl}{pos:Pos}{ua ub uc:TU}{fa fb fc:Fl}
def uT(u:TU):cL:=fun ρ Q=>u ρ fun d=>match d with
 | .bl k=>Q k
 | _=>False
theorem S7{r:R2}{op:CmpOp}{g:D->D->(D->Prop)->Prop}(ho:N0 X (compareOp op) r)(o:br X r g)(ha:PU X cl a fa ua)(hb:PU X cl b fb ub)(hm:behindInMarks op b=false):T7 X cl (.Compare a [op] [b] pos) (uT (w8 g ua ub)):=.of<|by
 obtain⟨ta,tb,pa,pb,h⟩:=u2 ha hb
 refine⟨_,sf ho pa pb hm,fun G ρ σ H fo Q R hG E hu k=>?_⟩
 refine h G ρ σ H fo (fun d e=>g d e fun d=>match d with | .bl k=>Q k | _=>False) _ hG E hu fun v w H' d e A B s r1 r2 _ _ q=>?_
 refine o H' v w d e A B _ _ r1 r2 q fun x H2 y C s2 r3 n1 n2 q2=>?_
 cases y<;>first | exact(show False from q2).elim | skip
 cases X5 r3
 exact⟨_,rfl,k _ H2 (s.trans s2) q2⟩
theorem xU(ha:PU X cl a fa ua)(hb:PU X cl b fb ub)(hm:behindInMarks .Lt b=false):T7 X cl (.Compare a [.Lt] [b] pos) (uT (w8 (uQ fun i j=>.bl (decide (i<j))) ua ub)):=S7 Fm gf ha hb hm
theorem IC(ha:PU X cl a fa ua)(hb:PU X cl b fb ub)(hm:behindInMarks .Gt b=false):T7 X cl (.Compare a [.Gt] [b] pos) (uT (w8 (uQ fun i j=>.bl (decide (j<i))) ua ub)):=S7 yw gf ha hb hm
theorem Ah(ha:PU X cl a fa ua)(hb:PU X cl b fb ub)(hm:behindInMarks .GtE b=false):T7 X cl (.Compare a [.GtE] [b] pos) (uT (w8 (uQ fun i j=>.bl (decide (j<=i))) ua ub)):=S7 Jp gf ha hb hm
def oW(u:TU):cL:=fun ρ Q=>u ρ fun d=>match d with
 | .non=>Q false
 | .bl k=>Q k
 | .int i=>Q (i != 0)
 | .str y=>y.length<=sizeLine/\Q ((y.length:Int) != 0)
 | .lst xs=>Q (!xs.isEmpty)
 | .tup xs=>Q (!xs.isEmpty)
 | .fz xs=>Q (!xs.isEmpty)
 | .dic kvs=>Q (!kvs.isEmpty)
 | _=>False
theorem A6.empty{K:PySem.W.Frag}{H:Hp}{kvs:List (Key×V)}{kds:List (Key×D)}{A:List Addr}(r:A6 K H kvs kds A):kvs.isEmpty=kds.isEmpty:=by cases r<;>rfl
theorem o5.empty{K:PySem.W.Frag}{H:Hp}{kvs:List V}{kds:List D}{A:List Addr}(r:o5 K H kvs kds A):kvs.isEmpty=kds.isEmpty:=by cases r<;>rfl
theorem U5(h:PU X cl e f ua)(he:∀whole,isTrue e X.env whole=(do let v <-whole;standAt e.pos;holding [v] (truthy v))):T7 X cl e (oW ua):=.of<|by
 obtain⟨t,p,h⟩:=h.run
 refine⟨_,yY p he,fun G ρ σ H fo Q R hG E hu k=>h G ρ σ H fo _ _ hG E hu fun v H' d B s r _ q=>?_⟩
 cases d with
 | non=>cases cb r;exact⟨_,rfl,k _ H' s q⟩
 | bl i=>cases X5 r;exact⟨_,rfl,k _ H' s q⟩
 | int i=>cases y4 r;exact⟨_,rfl,k _ H' s q⟩
 | str i=>cases C4 r;exact⟨_,⟨q.1,rfl⟩,k _ H' s q.2⟩
 | lst xs=>
  obtain⟨p,vs,B,rfl,hq,r2,_⟩:=G8 r
  exact⟨_,.inl ⟨vs,N7.of hq,rfl⟩,by rw[r2.empty];exact k _ H' s q⟩
 | tup xs=>
  obtain⟨p,vs,rfl,hq,r2⟩:=M7 r
  exact⟨_,.inr (.inl ⟨vs,R8.of hq,rfl⟩),by rw[r2.empty];exact k _ H' s q⟩
 | fz xs=>
  obtain⟨p,vs,rfl,hq,r2⟩:=kF r
  exact⟨_,.inl ⟨vs,hq.sq,rfl⟩,by rw[r2.empty];exact k _ H' s q⟩
 | dic kvs=>
  cases r with
  | dic hq r2=>exact⟨_,.inr (.inr ⟨_,.inr ⟨_,hq⟩,rfl⟩),by rw[r2.empty];exact k _ H' s q⟩
 | _=>exact(show False from q).elim
structure qH(X:Cx)(cl:List Cl)(e:Expr)(u:cL):Prop where
 of ::
 run:∃t,PW X e t/\∀(G:Ent) (ρ:Ev) (σ:St) (H:Hp) (fa:Nat->List Addr) (Q:Bool->Prop) (R:Bool->Hp->Prop),G.cl=cl->E3 X.K G ρ σ H fa->u ρ Q ->
  (∀b H',i3 H H'->Q b->R b H')->t σ H R
theorem qH.pt{u:cL}(h:qH X cl e u):T7 X cl e u:=.of<|let ⟨t,p,h⟩:=h.run;⟨t,PW.pt p,h⟩
def wc(c:cL):cL:=fun ρ Q=>c ρ fun k=>Q (!k)
def vH(c d:cL):cL:=fun ρ Q=>c ρ fun k=>Br k (d ρ Q) (Q false)
def Lh(c d:cL):cL:=fun ρ Q=>c ρ fun k=>Br k (Q true) (d ρ Q)
variable{tc td:cL}{rest:List Expr}
theorem jR(h:T7 X cl a tc):T7 X cl (.UnaryOp .Not a pos) (wc tc):=.of<|by
 obtain⟨t,p,h⟩:=h.run
 exact⟨_,Hk p,fun G ρ σ H fo Q R hG E hu k=>h G ρ σ H fo _ _ hG E hu fun b H' s q=>k _ H' s q⟩
theorem cu(h:T7 X cl a tc):qH X cl (.BoolOp .And [a] pos) tc:=.of<|let ⟨t,p,h⟩:=h.run;⟨t,DI p,h⟩
theorem yE(h:T7 X cl a tc):qH X cl (.BoolOp .Or [a] pos) tc:=.of<|let ⟨t,p,h⟩:=h.run;⟨t,HN p,h⟩
theorem gr(h:T7 X cl a tc)(h2:qH X cl (.BoolOp .And (b::rest) pos) td):qH X cl (.BoolOp .And (a::b::rest) pos) (vH tc td):=.of<|by
 obtain⟨t,p,h⟩:=h.run
 obtain⟨t2,p2,h2⟩:=h2.run
 refine⟨_,GN p p2,fun G ρ σ H fo Q R hG E hu k=>h G ρ σ H fo _ _ hG E hu fun b H' s q=>?_⟩
 cases b with
 | true=>
  rw[if_pos rfl]
  exact h2 G ρ σ H' fo Q R hG (E.same s) (q.t rfl) fun b H2 s2 q2=>k b H2 (s.trans s2) q2
 | false=>rw[if_neg Bool.false_ne_true];exact k _ H' s (q.f rfl)
theorem Eh(h:T7 X cl a tc)(h2:qH X cl (.BoolOp .Or (b::rest) pos) td):qH X cl (.BoolOp .Or (a::b::rest) pos) (Lh tc td):=.of<|by
 obtain⟨t,p,h⟩:=h.run
 obtain⟨t2,p2,h2⟩:=h2.run
 refine⟨_,Kf p p2,fun G ρ σ H fo Q R hG E hu k=>h G ρ σ H fo _ _ hG E hu fun b H' s q=>?_⟩
 cases b with
 | true=>rw[if_pos rfl];exact k _ H' s (q.t rfl)
 | false=>
  rw[if_neg Bool.false_ne_true]
  exact h2 G ρ σ H' fo Q R hG (E.same s) (q.f rfl) fun b H2 s2 q2=>k b H2 (s.trans s2) q2
def CZ(ua ub:TU):TU:=fun ρ Q=>ua ρ fun x=>match x with
 | .bl k=>Br k (ub ρ Q) (Q (.bl false))
 | _=>False
def Lp(ua ub:TU):TU:=fun ρ Q=>ua ρ fun x=>match x with
 | .bl k=>Br k (Q (.bl true)) (ub ρ Q)
 | _=>False
theorem gR{op}(h:PU X cl a f ua):PU X cl (.BoolOp op [a] pos) f ua:=.of<|let ⟨t,p,h⟩:=h.run;⟨t,HE p,h⟩
theorem qX(h:PU X cl a fa ua)(h2:PU X cl (.BoolOp .And (b::rest) pos) fb ub):PU X cl (.BoolOp .And (a::b::rest) pos) fb (CZ ua ub):=.of<|by
 obtain⟨t,p,h⟩:=h.run
 obtain⟨t2,p2,h2⟩:=h2.run
 refine⟨_,HI p p2,fun G ρ σ H fo Q R hG E hu k=>h G ρ σ H fo _ _ hG E hu fun v H' d B s r _ q=>?_⟩
 cases d<;>first | exact(show False from q).elim | skip
 rename_i b
 cases X5 r
 refine⟨_,rfl,?_⟩
 have q:Br b (ub ρ Q) (Q (.bl false)):=q
 cases b with
 | true=>
  rw[if_pos rfl]
  exact h2 G ρ σ H' fo Q R hG (E.same s) (q.t rfl) fun v H2 d B s2 r2 f2 q2=>k v H2 d B (s.trans s2) r2 (f2.back s) q2
 | false=>rw[if_neg Bool.false_ne_true];exact k _ H' _ [] s .bl (B0.nil _) (q.f rfl)
theorem Ep(h:PU X cl a fa ua)(h2:PU X cl (.BoolOp .Or (b::rest) pos) fb ub):PU X cl (.BoolOp .Or (a::b::rest) pos) fb (Lp ua ub):=.of<|by
 obtain⟨t,p,h⟩:=h.run
 obtain⟨t2,p2,h2⟩:=h2.run
 refine⟨_,Jt p p2,fun G ρ σ H fo Q R hG E hu k=>h G ρ σ H fo _ _ hG E hu fun v H' d B s r _ q=>?_⟩
 cases d<;>first | exact(show False from q).elim | skip
 rename_i b
 cases X5 r
 refine⟨_,rfl,?_⟩
 have q:Br b (Q (.bl true)) (ub ρ Q):=q
 cases b with
 | true=>rw[if_pos rfl];exact k _ H' _ [] s .bl (B0.nil _) (q.t rfl)
 | false=>
  rw[if_neg Bool.false_ne_true]
  exact h2 G ρ σ H' fo Q R hG (E.same s) (q.f rfl) fun v H2 d B s2 r2 f2 q2=>k v H2 d B (s.trans s2) r2 (f2.back s) q2
def Mt(c:cL)(ua ub:TU):TU:=fun ρ Q=>c ρ fun k=>Br k (ua ρ Q) (ub ρ Q)
theorem JN(hc:T7 X cl c tc)(ha:PU X cl a f ua)(hb:PU X cl b f ub):PU X cl (.IfExp c a b pos) f (Mt tc ua ub):=.of<|by
 obtain⟨t,p,hc⟩:=hc.run
 obtain⟨t1,p1,h1⟩:=ha.run
 obtain⟨t2,p2,h2⟩:=hb.run
 refine⟨_,zU p p1 p2,fun G ρ σ H fo Q R hG E hu k=>hc G ρ σ H fo _ _ hG E hu fun b H' s q=>?_⟩
 cases b with
 | true=>rw[if_pos rfl];exact h1 G ρ σ H' fo Q R hG (E.same s) (q.t rfl) fun v H2 d B s2 r2 f2 q2=>k v H2 d B (s.trans s2) r2 (f2.back s) q2
 | false=>rw[if_neg Bool.false_ne_true];exact h2 G ρ σ H' fo Q R hG (E.same s) (q.f rfl) fun v H2 d B s2 r2 f2 q2=>k v H2 d B (s.trans s2) r2 (f2.back s) q2
end
structure PN(X:Cx)(cl:List Cl)(e:Expr)(u:TM):Prop where
 of ::
 run:∃t,PE X e t/\∀(G:Ent) (ρ:Ev) (σ:St) (H:Hp) (fa:Nat->List Addr) (Q:D->Ev->Prop) (R:VK),G.cl=cl->E3 X.K G ρ σ H fa->u ρ Q ->
  (∀v H' d B ρ' fa',E3 X.K G ρ' σ H' fa'->P5 X.K G H fa H' fa'->Rep X.K H' v d B->(∀i,G.own i->∀a∈B,a∉fa' i)->Q d ρ'->R v H')->t σ H R
section
variable{X:Cx}{cl:List Cl}{e a b c:Expr}{es:List Expr}{f:Fl}{pos:Pos}{ua ub uc:TU}{fa fb fc:Fl}{ma mb:TM}
def mP(u:TU):TM:=fun ρ Q=>u ρ fun d=>Q d ρ
theorem PU.m(h:PU X cl e .fresh ua):PM X cl e (mP ua):=.of<|by
 obtain⟨t,p,h⟩:=h.run
 exact⟨t,p,fun G ρ σ H fo Q R hG E hu k=>h G ρ σ H fo _ _ hG E hu fun v H' d B s r f q=>k v H' d B ρ fo (E.same s) (P5.same s) r f.1 (fun x hx=>⟨f.2 x hx,fun i z=>E.there i z (f.2 x hx)⟩) q⟩
theorem PU.n(h:PU X cl e f ua)(hf:gP f .stab=true):PN X cl e (mP ua):=.of<|by
 obtain⟨t,p,h⟩:=h.run
 exact⟨t,p,fun G ρ σ H fo Q R hG E hu k=>h G ρ σ H fo _ _ hG E hu fun v H' d B s r f q=>k v H' d B ρ fo (E.same s) (P5.same s) r (f.weak E hf) q⟩
theorem PM.n(h:PM X cl e ma):PN X cl e ma:=.of<|by
 obtain⟨t,p,h⟩:=h.run
 exact⟨t,p,fun G ρ σ H fo Q R hG E hu k=>h G ρ σ H fo _ _ hG E hu fun v H' d B ρ' fa' E' c r n1 n2 q=>k v H' d B ρ' fa' E' c r (fun i _ a ha=>(n2 a ha).2 i) q⟩
def qV(u:TM):TM:=fun ρ Q=>u ρ fun d ρ'=>A7 d=true/\Q d ρ'
theorem PN.A7(h:PN X cl e ma):PM X cl e (qV ma):=.of<|by
 obtain⟨t,p,h⟩:=h.run
 refine⟨t,p,fun G ρ σ H fo Q R hG E hu k=>h G ρ σ H fo _ _ hG E hu fun v H' d B ρ' fa' E' c r n q=>?_⟩
 have e:=r.C7 q.1
 subst e
 exact k v H' d [] ρ' fa' E' c r List.nodup_nil (fun a ha=>(by cases ha)) q.2
theorem m2(ha:PN X cl a ma)(hb:PN X cl b mb):∃ta tb,PE X a ta/\PE X b tb/\∀(G:Ent) (ρ:Ev) (σ:St) (H:Hp) (fo:Nat->List Addr) (Q:D->D->Ev->Prop) (R:V->V->Hp->Prop),G.cl=cl->E3 X.K G ρ σ H fo->(ma ρ fun x ρ1=>mb ρ1 fun y ρ2=>Q x y ρ2) ->
  (∀v w H' d e A B ρ' fa',E3 X.K G ρ' σ H' fa'->P5 X.K G H fo H' fa'->Rep X.K H' v d A->Rep X.K H' w e B->(∀i,G.own i->∀a∈A,a∉fa' i)->(∀i,G.own i->∀a∈B,a∉fa' i)->Q d e ρ'->R v w H')->ta σ H fun x H1=>tb σ H1 fun y H2=>R x y H2:=by
 obtain⟨ta,pa,ha⟩:=ha.run
 obtain⟨tb,pb,hb⟩:=hb.run
 refine⟨ta,tb,pa,pb,fun G ρ σ H fo Q R hG E hu k=>?_⟩
 refine ha G ρ σ H fo _ _ hG E hu fun v H1 d A ρ1 fa1 E1 c1 r1 n1 q1=>?_
 refine hb G ρ1 σ H1 fa1 _ _ hG E1 q1 fun w H2 e B ρ2 fa2 E2 c2 r2 n2 q2=>?_
 exact k v w H2 d e A B ρ2 fa2 E2 (c1.trans c2) (c2.keep r1 n1) r2 (c2.apart (fun x hx=>r1.there hx) n1) n2 q2
def Z5(g:D->D->(D->Prop)->Prop)(ma mb:TM):TM:=fun ρ Q=>ma ρ fun x ρ1=>mb ρ1 fun y ρ2=>g x y fun d=>Q d ρ2
theorem Jv{r:R2}{g:D->D->(D->Prop)->Prop}(o:br X r g)(ha:PN X cl a ma)(hb:PN X cl b mb)(mk:∀{ta tb},PE X a ta->PE X b tb->PE X e (Ip r ta tb)):PM X cl e (Z5 g ma mb):=.of<|by
 obtain⟨ta,tb,pa,pb,h⟩:=m2 ha hb
 refine⟨_,mk pa pb,fun G ρ σ H fo Q R hG E hu k=>?_⟩
 refine h G ρ σ H fo _ _ hG E hu fun v w H' d e A B ρ' fa' E' c r1 r2 _ _ q=>?_
 exact o H' v w d e A B _ R r1 r2 q fun x H2 y C s2 r3 n1 n2 q2=>k x H2 y C ρ' fa' (E'.same s2) (c.trans (P5.same s2)) r3 n1 (fun a ha=>⟨c.stb.dom a (n2 a ha),fun i z=>E'.there i z (n2 a ha)⟩) q2
theorem zM{r:R2}{op:Operator}{g:D->D->(D->Prop)->Prop}(ho:N0 X (binaryOp op) r)(o:br X r g)(ha:PN X cl a ma)(hb:PN X cl b mb):PM X cl (.BinOp a op b pos) (Z5 g ma mb):=Jv o ha hb fun pa pb=>Fd ho pa pb
theorem Hy{r:R2}{op:CmpOp}{g:D->D->(D->Prop)->Prop}(ho:N0 X (compareOp op) r)(o:br X r g)(ha:PN X cl a ma)(hb:PN X cl b mb)(hm:behindInMarks op b=false):PM X cl (.Compare a [op] [b] pos) (Z5 g ma mb):=Jv o ha hb fun pa pb=>sS ho pa pb hm
theorem GQ(ha:PN X cl a ma)(hb:PN X cl b mb):PM X cl (.BinOp a .Mod b pos) (Z5 (gI (fun _ j=>0<j) fun i j=>.int (i%j)) ma mb):=zM Au lT ha hb
theorem EL(ha:PN X cl a ma)(hb:PN X cl b mb)(hm:behindInMarks .Gt b=false):PM X cl (.Compare a [.Gt] [b] pos) (Z5 (uQ fun i j=>.bl (decide (j<i))) ma mb):=Hy yw gf ha hb hm
theorem Gj{v w:V}{H:Hp}{d e:D}{A B:List Addr}{Q:D->Prop}{R:VK}(r1:Rep X.K H v d A)(r2:Rep X.K H w e B)(q:Mm d e Q)(k:∀x z C,Rep X.K H x z C->C.Sublist A->Q z->R x H):KN X.K v w H R:=by
 have go:∀{xs:List D} {i:Int} {z:D},mL d=some xs->e=.int i->L2.P4 xs i=some z->Q z->KN X.K v w H R:=fun {xs i z} e1 e2 e3 qz=>by
  subst e2
  cases y4 r2
  obtain⟨p,vs,C,rfl,hq,r,sb⟩:=cg r1 e1
  obtain⟨x,B',h1,h2,h3⟩:=r.P4 e3
  rcases hq with hq | hq
  ·exact .inl ⟨p,vs,i,x,rfl,rfl,hq,h1,k x z B' h2 (h3.trans sb) qz⟩
  ·exact .inr (.inl ⟨p,vs,i,x,rfl,rfl,hq,h1,k x z B' h2 (h3.trans sb) qz⟩)
 cases d<;>cases e<;>first | exact(show False from q).elim | skip
 ·obtain⟨q0,c,q1,q2⟩:=q
  cases C4 r1;cases y4 r2
  exact .inr (.inr ⟨_,_,c,rfl,rfl,q0,q1,k _ _ [] .str (List.nil_sublist _) q2⟩)
 ·obtain⟨z,q1,q2⟩:=q
  exact go rfl rfl q1 q2
 ·obtain⟨z,q1,q2⟩:=q
  exact go rfl rfl q1 q2
 ·obtain⟨z,q1,q2⟩:=q
  exact go rfl rfl q1 q2
theorem u5{i:Nat}{ρ:Ev}{Q:D->Prop}(h:e5 i ρ Q):∃d,ρ[i]?=some (some d)/\Q d:=by
 unfold e5 at h
 split at h
 ·exact⟨_,by assumption,h⟩
 ·exact h.elim
abbrev rQ:=Ev->(Bool->Ev->Prop)->Prop
structure Iu(X:Cx)(cl:List Cl)(e:Expr)(u:rQ):Prop where
 of ::
 run:∃t,PT X e t/\∀(G:Ent) (ρ:Ev) (σ:St) (H:Hp) (fa:Nat->List Addr) (Q:Bool->Ev->Prop) (R:Bool->Hp->Prop),G.cl=cl->E3 X.K G ρ σ H fa->u ρ Q ->
  (∀b H' ρ' fa',E3 X.K G ρ' σ H' fa'->P5 X.K G H fa H' fa'->Q b ρ'->R b H')->t σ H R
def tP(u:cL):rQ:=fun ρ Q=>u ρ fun b=>Q b ρ
variable{tc td:cL}{mc md:rQ}{rest:List Expr}
theorem T7.m(h:T7 X cl e tc):Iu X cl e (tP tc):=.of<|by
 obtain⟨t,p,h⟩:=h.run
 exact⟨t,p,fun G ρ σ H fo Q R hG E hu k=>h G ρ σ H fo _ _ hG E hu fun b H' s q=>k b H' ρ fo (E.same s) (P5.same s) q⟩
def mT(u:TM):rQ:=fun ρ Q=>u ρ fun d ρ'=>match d with
 | .bl k=>Q k ρ'
 | _=>False
theorem yP{r:R2}{op:CmpOp}{g:D->D->(D->Prop)->Prop}(ho:N0 X (compareOp op) r)(o:br X r g)(ha:PN X cl a ma)(hb:PN X cl b mb)(hm:behindInMarks op b=false):Iu X cl (.Compare a [op] [b] pos) (mT (Z5 g ma mb)):=.of<|by
 obtain⟨ta,tb,pa,pb,h⟩:=m2 ha hb
 refine⟨_,sf ho pa pb hm,fun G ρ σ H fo Q R hG E hu k=>?_⟩
 refine h G ρ σ H fo (fun d e ρ'=>g d e fun d=>match d with | .bl k=>Q k ρ' | _=>False) _ hG E hu fun v w H' d e A B ρ' fa' E' c r1 r2 _ _ q=>?_
 refine o H' v w d e A B _ _ r1 r2 q fun x H2 y C s2 r3 n1 n2 q2=>?_
 cases y<;>first | exact(show False from q2).elim | skip
 cases X5 r3
 exact⟨_,rfl,k _ H2 ρ' fa' (E'.same s2) (c.trans (P5.same s2)) q2⟩
theorem Ez(ha:PN X cl a ma)(hb:PN X cl b mb)(hm:behindInMarks .Gt b=false):Iu X cl (.Compare a [.Gt] [b] pos) (mT (Z5 (uQ fun i j=>.bl (decide (j<i))) ma mb)):=yP yw gf ha hb hm
inductive vB(K:PySem.W.Frag)(H:Hp)(N:Addr->Prop):List V->List D->List (List Addr)->Prop
 | nil:vB K H N [] [] []
 | cons {v:V} {d:D} {B:List Addr} {vs:List V} {ds:List D} {Bs:List (List Addr)}:Rep K H v d B->(∀a∈B,¬N a)->vB K H N vs ds Bs->vB K H N (v::vs) (d::ds) (B::Bs)
def ID(G:Ent)(fa:Nat->List Addr):Addr->Prop:=fun a=>∃i,G.own i/\a∈fa i
abbrev kP:=Ev->(List D->Ev->Prop)->Prop
structure Eg(X:Cx)(cl:List Cl)(es:List Expr)(u:kP):Prop where
 of ::
 run:∃t,PA X es t/\∀(G:Ent) (ρ:Ev) (σ:St) (H:Hp) (fa:Nat->List Addr) (Q:List D->Ev->Prop) (R:List V->Hp->Prop),G.cl=cl->E3 X.K G ρ σ H fa->u ρ Q ->
  (∀vs H' ds Bs ρ' fa',E3 X.K G ρ' σ H' fa'->P5 X.K G H fa H' fa'->vB X.K H' (ID G fa') vs ds Bs->ds.length=es.length->Q ds ρ'->R vs H')->t σ H R
def A8:kP:=fun ρ Q=>Q [] ρ
def o7(ma:TM)(ms:kP):kP:=fun ρ Q=>ma ρ fun x ρ1=>ms ρ1 fun xs ρ2=>Q (x::xs) ρ2
theorem p6:Eg X cl [] A8:=.of ⟨_,Q4,fun G ρ σ H fa Q R _ E hu k=>k [] H [] [] ρ fa E P5.refl .nil rfl hu⟩
theorem o3{ms:kP}(ha:PN X cl e ma)(hr:Eg X cl es ms)(hs:isStar e=false):Eg X cl (e::es) (o7 ma ms):=.of<|by
 obtain⟨t1,p1,h1⟩:=ha.run
 obtain⟨t2,p2,h2⟩:=hr.run
 refine⟨_,bG p1 p2 hs,fun G ρ σ H fa Q R hG E hu k=>?_⟩
 refine h1 G ρ σ H fa _ _ hG E hu fun v H1 d A ρ1 fa1 E1 c1 r1 n1 q1=>?_
 refine h2 G ρ1 σ H1 fa1 _ _ hG E1 q1 fun vs H2 ds Bs ρ2 fa2 E2 c2 r2 n3 q2=>?_
 exact k (v::vs) H2 (d::ds) (A::Bs) ρ2 fa2 E2 (c1.trans c2) (.cons (c2.keep r1 n1) (fun a ha ⟨i,hi,z⟩=>c2.apart (fun x hx=>r1.there hx) n1 i hi a ha z) r2) (by simp[n3]) q2
structure Iq(X:Cx)(cl:List Cl)(es:List Expr)(u:kP):Prop where
 of ::
 run:∃t,PA X es t/\∀(G:Ent) (ρ:Ev) (σ:St) (H:Hp) (fa:Nat->List Addr) (Q:List D->Ev->Prop) (R:List V->Hp->Prop),G.cl=cl->E3 X.K G ρ σ H fa->u ρ Q ->
  (∀vs H' ds B ρ' fa',E3 X.K G ρ' σ H' fa'->P5 X.K G H fa H' fa'->o5 X.K H' vs ds B->B.Nodup->(∀a∈B,H a=none/\∀i,a∉fa' i)->ds.length=es.length->Q ds ρ'->R vs H')->t σ H R
theorem bC:Iq X cl [] A8:=.of ⟨_,Q4,fun G ρ σ H fa Q R _ E hu k=>k [] H [] [] ρ fa E P5.refl .nil List.nodup_nil (fun a ha=>(by cases ha)) rfl hu⟩
theorem C1{ms:kP}(ha:PM X cl e ma)(hr:Iq X cl es ms)(hs:isStar e=false):Iq X cl (e::es) (o7 ma ms):=.of<|by
 obtain⟨t1,p1,h1⟩:=ha.run
 obtain⟨t2,p2,h2⟩:=hr.run
 refine⟨_,bG p1 p2 hs,fun G ρ σ H fa Q R hG E hu k=>?_⟩
 refine h1 G ρ σ H fa _ _ hG E hu fun v H1 d A ρ1 fa1 E1 c1 r1 n1 n2 q1=>?_
 refine h2 G ρ1 σ H1 fa1 _ _ hG E1 q1 fun vs H2 ds B ρ2 fa2 E2 c2 r2 m1 m2 n3 q2=>?_
 refine k (v::vs) H2 (d::ds) (A++B) ρ2 fa2 E2 (c1.trans c2) (.cons (c2.keep r1 fun i _ a ha=>(n2 a ha).2 i) r2) ?_ (fun x hx=>?_) (by simp[n3]) q2
 ·refine List.nodup_append.mpr ⟨n1,m1,fun x hx y hy e=>?_⟩
  subst e
  exact r1.there hx (m2 x hy).1
 ·rcases List.mem_append.mp hx with z | z
  ·refine⟨(n2 x z).1,fun i y=>?_⟩
   by_cases hi:G.own i
   ·rcases c2.new i hi x y with w | w
    ·exact(n2 x z).2 i w
    ·exact r1.there z w
   ·rw[c2.bor i hi] at y
    exact(n2 x z).2 i y
  ·exact⟨c1.stb.dom x (m2 x z).1,(m2 x z).2⟩
def DJ(ms:kP):TM:=fun ρ Q=>ms ρ fun xs ρ'=>Q (.lst xs) ρ'
def BN(ms:kP):TM:=fun ρ Q=>ms ρ fun xs ρ'=>Q (.tup xs) ρ'
theorem qT{ms:kP}(h:Iq X cl es ms)(hn:Nat.ble es.length 1000=true):PM X cl (.List es pos) (DJ ms):=.of<|by
 obtain⟨t,p,h⟩:=h.run
 refine⟨_,yx p,fun G ρ σ H fa Q R hG E hu k=>?_⟩
 refine h G ρ σ H fa _ _ hG E hu fun vs H1 ds A ρ' fa' E' c r n1 n2 n3 q=>⟨by rw[r.length,n3];exact aC (Nat.le_of_ble_eq_true hn),fun x hx=>?_⟩
 refine k _ _ (.lst ds) (x::A) ρ' fa' (E'.same (i3.i8 hx)) (c.trans (P5.same (i3.i8 hx))) (.lst h9 (r.same (i3.i8 hx))) (List.nodup_cons.mpr ⟨fun z=>?_,n1⟩) (fun y hy=>?_) q
 ·have:=r.Y4 x z
  rw[hx] at this;exact this
 ·rcases List.mem_cons.mp hy with z | z
  ·rw[z];exact⟨c.stb.dom x hx,fun i z=>E'.there i z hx⟩
  ·exact n2 y z
theorem qL{ms:kP}{x1}(h:Iq X cl es ms)(hn:Nat.ble es.length 1000=true):PM X cl (.Tuple es x1 pos) (BN ms):=.of<|by
 obtain⟨t,p,h⟩:=h.run
 refine⟨_,jJ p,fun G ρ σ H fa Q R hG E hu k=>?_⟩
 refine h G ρ σ H fa _ _ hG E hu fun vs H1 ds A ρ' fa' E' c r n1 n2 n3 q=>⟨by rw[r.length,n3];exact aC (Nat.le_of_ble_eq_true hn),fun x hx=>?_⟩
 exact k _ _ (.tup ds) A ρ' fa' (E'.same (i3.i8 hx)) (c.trans (P5.same (i3.i8 hx))) (.tup h9 (r.same (i3.i8 hx))) n1 n2 q
def IP(g:List D->(D->Prop)->Prop)(ms:kP):TM:=fun ρ Q=>ms ρ fun ds ρ'=>g ds fun d=>Q d ρ'
theorem vB.HZ{K:PySem.W.Frag}{H:Hp}{N:Addr->Prop}:∀{vs:List V} {ds:List D} {Bs:List (List Addr)},vB K H N vs ds Bs->∃A,o5 K H vs ds A
 | _,_,_,.nil=>⟨_,.nil⟩
 | _,_,_,.cons h _ r=>let ⟨A,q⟩:=r.HZ;⟨_,.cons h q⟩
theorem Mk{ms:kP}{r:List V->Hp->VK->Prop}{g:List D->(D->Prop)->Prop}(o:Call3 X r g)(h:Eg X cl es ms)(mk:∀{t},PA X es t->PE X e (KQ r t)):PM X cl e (IP g ms):=.of<|by
 obtain⟨t,p,h⟩:=h.run
 refine⟨_,mk p,fun G ρ σ H fa Q R hG E hu k=>?_⟩
 refine h G ρ σ H fa _ _ hG E hu fun vs H1 ds Bs ρ' fa' E' c r n3 q=>?_
 obtain⟨A,r⟩:=r.HZ
 exact o H1 vs ds A _ R r q fun x H2 y C s2 r2 n1 n2 q2=>k x H2 y C ρ' fa' (E'.same s2) (c.trans (P5.same s2)) r2 n1 (fun a ha=>⟨c.stb.dom a (n2 a ha),fun i z=>E'.there i z (n2 a ha)⟩) q2
section
variable{id T:String}{r:List V->Hp->VK->Prop}{g:List D->(D->Prop)->Prop}{x:Str}{p:Pos}{ms:kP}
theorem yR (hc:E7 X (.builtin id) r) (o:Call3 X r g) (hg:Gl X x) (hm:X.mg x=none) (hv:bootBuiltins x=some (.builtin id)) (ha:Eg X cl (e::es) ms) (hn:x ≠ "__name__":=by decide) (hd:(x == ("__debug__" : Str))=false:=by decide)
  (he:starEach (e::es) X.env=(false,eval e X.env)::starEach es X.env:=by rfl) (hpl:(backTo pos (starEach es X.env)).any (·.1)=false:=by rfl):PM X cl (.Call (.Name x p) (e::es) [] pos) (IP g ms):=
 Mk o ha fun pa=>oz hc hg hm hv pa hn hd he hpl
theorem tJ (hc:E7 X (.type T) r) (o:Call3 X r g) (hg:Gl X x) (hm:X.mg x=none) (hv:bootBuiltins x=some (.type T)) (ha:Eg X cl (e::es) ms) (hn:x ≠ "__name__":=by decide) (hd:(x == ("__debug__" : Str))=false:=by decide)
  (he:starEach (e::es) X.env=(false,eval e X.env)::starEach es X.env:=by rfl) (hpl:(backTo pos (starEach es X.env)).any (·.1)=false:=by rfl):PM X cl (.Call (.Name x p) (e::es) [] pos) (IP g ms):=
 Mk o ha fun pa=>iH hc hg hm hv pa hn hd he hpl
end
end
end L3
namespace L3
open PySem PySem.Spec L2 PyProof.Rows
abbrev Cp:=List D->(D->Prop)->Prop
abbrev Cm:=List D->(D->D->Prop)->Prop
def w5(K:PySem.W.Frag)(c:Cp):Sp:=fun vs H Q _=>∃ds A Qd,o5 K H vs ds A/\c ds Qd/\∀r v H' B,Qd r->i3 H H'->Rep K H' v r B->B.Nodup->(∀a∈B,H a=none)->Q v H'
def fW(K:PySem.W.Frag)(c:Cm):Sp:=fun vs H Q _=>∃w vs' d ds A Bs Qd,vs=w::vs'/\Rep K H w d A/\A.Nodup/\vB K H (fun a=>a∈A) vs' ds Bs/\c (d::ds) Qd/\∀r l v H' A' B,Qd r l->Rep K H' w l A'->A'.Nodup->(∀a∈A',a∈A\/H a=none) ->
 (∀a o,H a=some o->a∉A->H' a=some o)->T3 H H'->Rep K H' v r B->B.Nodup->(∀a∈B,H a=none/\a∉A')->Q v H'
structure A5(P:Program)(w:World)(K:PySem.W.Frag)(mg:Str->Option Value)(base:Heap)(x:Str)(k:Nat)(ps:List Str)(sp:Sp)(f:Addr)(fd:FuncData):Prop where
 ok:x5 P w K mg base O9 k f fd ps sp
 mgf:mg x=some (.ref f)
 kp:PySem.W.keepIn K (.ref f)=true
 bd:Binds K fd ps []
section
variable{X:Cx}{cl:List Cl}{e a b:Expr}{es:List Expr}{f:Fl}{pos:Pos}{ua:TU}{ma mb:TM}{us:cE}{ms:kP}{k:Nat}{fn:Addr}{fd:FuncData}{ps:List Str}{x:Str}{p:Pos}
def p4(c:Cp)(us:cE):TU:=fun ρ Q=>us ρ fun ds=>c ds Q
theorem i4 {c:Cp} (C:A5 X.prog X.w X.K X.mg X.base x k ps (w5 X.K c) fn fd) (hr:J1 k X.A) (hg:Gl X x) (ha:zR X cl (e::es) us) (hst:isStar e=false) (hdb:(x == ("__debug__" : Str))=false:=by decide)
  (hpl:(backTo pos (starEach es X.env)).any (·.1)=false:=by rfl):PU X cl (.Call (.Name x p) (e::es) [] pos) .fresh (p4 c us):=.of<|by
 obtain⟨t,pt,h⟩:=ha.run
 refine⟨_,cJ C.ok hr hg C.mgf C.kp C.bd .nil rY pt hdb (L6 hst) hpl,fun G ρ σ H fa Q R hG E hu kk=>?_⟩
 refine h G ρ σ H fa _ _ hG E hu fun vs H1 ds A s r n3 q=>?_
 rw[List.append_nil]
 exact⟨ds,A,Q,r,q,fun r v H2 B qd s2 rp n1 n2=>kk v H2 r B (s.trans s2) rp ⟨n1,fun a ha=>s.free (n2 a ha)⟩ qd⟩
def EZ(c:Cp)(ms:kP):TM:=fun ρ Q=>ms ρ fun ds ρ'=>c ds fun d=>Q d ρ'
theorem vX {c:Cp} (C:A5 X.prog X.w X.K X.mg X.base x k ps (w5 X.K c) fn fd) (hr:J1 k X.A) (hg:Gl X x) (ha:Eg X cl (e::es) ms) (hst:isStar e=false) (hdb:(x == ("__debug__" : Str))=false:=by decide)
  (hpl:(backTo pos (starEach es X.env)).any (·.1)=false:=by rfl):PM X cl (.Call (.Name x p) (e::es) [] pos) (EZ c ms):=.of<|by
 obtain⟨t,pt,h⟩:=ha.run
 refine⟨_,cJ C.ok hr hg C.mgf C.kp C.bd .nil rY pt hdb (L6 hst) hpl,fun G ρ σ H fa Q R hG E hu kk=>?_⟩
 refine h G ρ σ H fa _ _ hG E hu fun vs H1 ds Bs ρ' fa' E' c' r n3 q=>?_
 obtain⟨A,r⟩:=r.HZ
 rw[List.append_nil]
 exact⟨ds,A,_,r,q,fun r v H2 B qd s2 rp n1 n2=>kk v H2 r B ρ' fa' (E'.same s2) (c'.trans (P5.same s2)) rp n1 (fun a ha=>⟨c'.stb.dom a (n2 a ha),fun i z=>E'.there i z (n2 a ha)⟩) qd⟩
def x6(j:Nat)(c:Cm)(ms:kP):TM:=fun ρ Q=>e5 j ρ fun _=>ms ρ fun ds ρ'=>e5 j ρ' fun d=>c (d::ds) fun r l=>Q r (ρ'.set j (some l))
theorem vB.imp{K:PySem.W.Frag}{H:Hp}{N N':Addr->Prop}(h:∀a,N' a->N a):∀{vs:List V} {ds:List D} {Bs:List (List Addr)},vB K H N vs ds Bs->vB K H N' vs ds Bs
 | _,_,_,.nil=>.nil
 | _,_,_,.cons r n t=>.cons r (fun a ha z=>n a ha (h a z)) (t.imp h)
theorem o9 {c:Cm} (j:Nat) {y:Str} {vp:Pos} (hv:PE X (.Name y vp) (dC j)) (hj:cl[j]?=some .own) (C:A5 X.prog X.w X.K X.mg X.base x k ps (fW X.K c) fn fd) (hr:J1 k X.A) (hg:Gl X x) (ha:Eg X cl es ms) (hdb:(x == ("__debug__" : Str))=false:=by decide)
  (hpl:(backTo pos (starEach es X.env)).any (·.1)=false:=by rfl):PM X cl (.Call (.Name x p) (.Name y vp::es) [] pos) (x6 j c ms):=.of<|by
 obtain⟨t,pt,h⟩:=ha.run
 refine⟨_,cJ C.ok hr hg C.mgf C.kp C.bd .nil rY (bG hv pt rfl) hdb (L6 rfl) hpl,fun G ρ σ H fa Q R hG E hu kk=>?_⟩
 obtain⟨d0,e0,hu⟩:=u5 hu
 obtain⟨v,hvj,_⟩:=E.rep j d0 e0
 refine⟨v,hvj,h G ρ σ H fa _ _ hG E hu fun vs H1 ds Bs ρ' fa' E' c' r n3 q=>?_⟩
 obtain⟨d,e1,q⟩:=u5 q
 obtain⟨v',hv',rp⟩:=E'.rep j d e1
 have ev:v'=v:=by rw[hvj] at hv';cases hv';rfl
 subst ev
 have own:G.own j:=by unfold Ent.own;rw[hG];exact hj
 rw[List.append_nil]
 refine⟨v',vs,d,ds,fa' j,Bs,_,rfl,rp,E'.nd j (.inl own),r.imp fun a ha=>⟨j,own,ha⟩,q,fun r l v H2 A' B qd r2 n1 n2 n3 n4 r3 n5 n6=>?_⟩
 have ch:P5 X.K G H1 fa' H2 (fun i=>if i=j then A' else fa' i):=by
  refine⟨fun a o h n=>n3 a o h (n j own),n4,fun i hi a ha=>?_,fun i hi=>?_⟩
  ·by_cases e:i=j
   ·subst e;rw[if_pos rfl] at ha;exact n2 a ha
   ·rw[if_neg e] at ha;exact .inl ha
  ·exact if_neg fun e:i=j=>hi (by rw[e];exact own)
 have lj:j<ρ'.length:=(List.getElem?_eq_some_iff.mp e1).1
 have oth:∀i,i≠j->(ρ'.set j (some l))[i]?=ρ'[i]?:=fun i n=>List.getElem?_set_ne (Ne.symm n)
 refine kk v H2 r B (ρ'.set j (some l)) _ (E'.step ch (by simp) (fun i hi=>oth i fun e=>hi (by rw[e];exact own)) (fun i d' hi e=>?_) (fun i hi e=>?_) (fun i hi=>?_) fun i i' n hi hi' a ha z=>?_) (c'.trans ch) r3 n5 (fun a ha=>⟨c'.stb.dom a (n6 a ha).1,fun i z=>?_⟩) qd
 ·by_cases q:i=j
  ·subst q
   rw[List.getElem?_set_self lj] at e
   cases e
   exact⟨v',hv',by rw[if_pos rfl];exact r2⟩
  ·rw[oth i q] at e
   obtain⟨w,e2,r4⟩:=E'.rep i d' e
   refine⟨w,e2,?_⟩
   rw[if_neg q]
   refine r4.mono n4 fun a ha=>?_
   obtain⟨o,eo⟩:=fe.some (r4.Y4 a ha)
   rw[eo]
   exact n3 a o eo fun z=>E'.dj i j q hi a ha z
 ·by_cases q:i=j
  ·subst q
   exact absurd (List.getElem?_set_self lj) (e l)
  ·rw[if_neg q]
   exact E'.emp i fun d z=>e d (by rw[oth i q];exact z)
 ·by_cases q:i=j
  ·rw[if_pos q];exact n1
  ·rw[if_neg q];exact E'.nd i (.inl hi)
 ·by_cases q:i=j
  ·rw[if_pos q] at ha
   have q':i'≠j:=fun e=>n (q.trans e.symm)
   rw[if_neg q'] at z
   rcases n2 a ha with y | y
   ·exact E'.dj j i' (Ne.symm q') own a y z
   ·exact E'.there i' z y
  ·rw[if_neg q] at ha
   by_cases q':i'=j
   ·rw[if_pos q'] at z
    rcases n2 a z with y | y
    ·exact E'.dj i j q hi a ha y
    ·exact E'.there i ha y
   ·rw[if_neg q'] at z
    exact E'.dj i i' n hi a ha z
 ·by_cases q:i=j
  ·rw[if_pos q] at z;exact(n6 a ha).2 z
  ·rw[if_neg q] at z;exact E'.there i z (n6 a ha).1
def zc(c:Cm)(ma:TM)(ms:kP):TM:=fun ρ Q=>ma ρ fun d ρ1=>ms ρ1 fun ds ρ'=>c (d::ds) fun r _=>Q r ρ'
theorem o5.Mx{K:PySem.W.Frag}{H:Hp}{N:Addr->Prop}:∀{vs:List V} {ds:List D} {B:List Addr},o5 K H vs ds B->(∀a∈B,¬N a)->∃Bs,vB K H N vs ds Bs
 | _,_,_,.nil,_=>⟨_,.nil⟩
 | _,_,_,.cons h r,n=>let ⟨Bs,q⟩:=r.Mx fun a ha=>n a (List.mem_append_right _ ha);⟨_,.cons h (fun a ha=>n a (List.mem_append_left _ ha)) q⟩
theorem E3.away{K:PySem.W.Frag}{G:Ent}{ρ:Ev}{σ:L2.St}{H H':Hp}{fa:Nat->List Addr}{A:List Addr}(E:E3 K G ρ σ H fa)(s:T3 H H')(k:∀a o,H a=some o->a∉A->H' a=some o)(n:∀i,∀a∈A,a∉fa i)(h0:∀a∈A,G.H₀ a=none)(z:∀a∈A,¬G.Z a):E3 K G ρ σ H' fa where
 rep:=fun i d e=>by
  obtain⟨v,e1,r⟩:=E.rep i d e
  refine⟨v,e1,r.mono s fun a ha=>?_⟩
  obtain⟨o,eo⟩:=fe.some (r.Y4 a ha)
  rw[eo];exact k a o eo fun q=>n i a q ha
 emp:=E.emp
 len:=E.len
 nd:=E.nd
 dj:=E.dj
 par:=E.par
 old:=E.old
 new:=E.new
 frm:=fun a o h q=>k a o (E.frm a o h q) fun y=>by rw[h0 a y] at h;cases h
 stb:=E.stb.trans s
 zk:=fun a y=>by
  obtain⟨o,e⟩:=Option.ne_none_iff_exists'.mp (E.zn a y)
  have h:=E.zk a y
  rw[e] at h ⊢
  exact k a o h fun q=>z a q y
 zn:=E.zn
 zo:=E.zo
 po:=E.po
theorem Aj {c:Cm} (C:A5 X.prog X.w X.K X.mg X.base x k ps (fW X.K c) fn fd) (hr:J1 k X.A) (hg:Gl X x) (h0:PM X cl e ma) (ha:Iq X cl es ms) (hst:isStar e=false) (hdb:(x == ("__debug__" : Str))=false:=by decide)
  (hpl:(backTo pos (starEach es X.env)).any (·.1)=false:=by rfl):PM X cl (.Call (.Name x p) (e::es) [] pos) (zc c ma ms):=.of<|by
 obtain⟨t0,p0,h0⟩:=h0.run
 obtain⟨t,pt,h⟩:=ha.run
 refine⟨_,cJ C.ok hr hg C.mgf C.kp C.bd .nil rY (bG p0 pt hst) hdb (L6 hst) hpl,fun G ρ σ H fa Q R hG E hu kk=>?_⟩
 refine h0 G ρ σ H fa _ _ hG E hu fun w H0 d A ρ0 fa0 E0 c0 r0 m1 m2 q0=>?_
 refine h G ρ0 σ H0 fa0 _ _ hG E0 q0 fun vs H1 ds B1 ρ' fa' E' c' r k1 k2 n3 q=>?_
 show fW X.K c ((w::vs)++[]) H1 R L2.E0
 rw[List.append_nil]
 have apartA:∀i,∀a∈A,a∉fa' i:=fun i a ha z=>by
  by_cases hi:G.own i
  ·rcases c'.new i hi a z with y | y
   ·exact(m2 a ha).2 i y
   ·exact r0.there ha y
  ·rw[c'.bor i hi] at z
   exact(m2 a ha).2 i z
 obtain⟨Bs,hBs⟩:=r.Mx (N:=fun a=>a∈A) fun a ha z=>r0.there z (k2 a ha).1
 refine⟨w,vs,d,ds,A,Bs,_,rfl,c'.keep r0 fun i _ a ha=>(m2 a ha).2 i,m1,hBs,q,fun r l v H2 A' B qd r2 n1 n2 n3 n4 r3 n5 n6=>?_⟩
 have cc:=c0.trans c'
 have ch:P5 X.K G H fa H2 fa':=⟨fun a o h n=>n3 a o (cc.frm a o h n) fun z=>(by rw[(m2 a z).1] at h;cases h),cc.stb.trans n4,cc.new,cc.bor⟩
 refine kk v H2 r B ρ' fa' (E'.away n4 n3 apartA (fun a ha=>E.stb.dom a (m2 a ha).1) fun a ha z=>?_) ch r3 n5 (fun a ha=>⟨cc.stb.dom a (n6 a ha).1,fun i z=>E'.there i z (n6 a ha).1⟩) qd
 have h:=E.zk a z
 rw[(m2 a ha).1] at h
 exact E.zn a z h.symm
end
def g7(n:Nat)(ds:List D):Ev:=ds.map some++List.replicate (n-ds.length) none
theorem o5.each{K:PySem.W.Frag}{H:Hp}:∀{vs:List V} {ds:List D} {A:List Addr},o5 K H vs ds A->∃fa:Nat->List Addr,(∀i d,ds[i]?=some d->∃v,vs[i]?=some v/\Rep K H v d (fa i))/\∀i,ds.length<=i->fa i=[]
 | _,_,_,.nil=>⟨fun _=>[],fun i d e=>(by simp at e),fun _ _=>rfl⟩
 | _,_,_,.cons (A:=A) h r=>by
  obtain⟨fa,h1,h2⟩:=r.each
  refine⟨fun i=>match i with | 0=>A | i+1=>fa i,fun i d e=>?_,fun i hi=>?_⟩
  ·cases i with
   | zero=>simp at e;subst e;exact⟨_,rfl,h⟩
   | succ i=>
    obtain⟨v,e1,e2⟩:=h1 i d (by simpa using e)
    exact⟨v,by simpa using e1,e2⟩
  ·cases i with
   | zero=>simp at hi
   | succ i=>exact h2 i (by simpa using hi)
theorem vB.each{K:PySem.W.Frag}{H:Hp}{N:Addr->Prop}:∀{vs:List V} {ds:List D} {Bs:List (List Addr)},vB K H N vs ds Bs->∃fa:Nat->List Addr,(∀i d,ds[i]?=some d->∃v,vs[i]?=some v/\Rep K H v d (fa i))/\(∀i,ds.length<=i->fa i=[])/\(∀i,∀a∈fa i,¬N a)/\ds.length=vs.length
 | _,_,_,.nil=>⟨fun _=>[],fun i d e=>(by simp at e),fun _ _=>rfl,fun _ _ h=>(by cases h),rfl⟩
 | _,_,_,.cons (B:=B) h n r=>by
  obtain⟨fa,h1,h2,h3,h4⟩:=r.each
  refine⟨fun i=>match i with | 0=>B | i+1=>fa i,fun i d e=>?_,fun i hi=>?_,fun i=>?_,by simp[h4]⟩
  ·cases i with
   | zero=>simp at e;subst e;exact⟨_,rfl,h⟩
   | succ i=>
    obtain⟨v,e1,e2⟩:=h1 i d (by simpa using e)
    exact⟨v,by simpa using e1,e2⟩
  ·cases i with
   | zero=>simp at hi
   | succ i=>exact h2 i (by simpa using hi)
  ·cases i with
   | zero=>exact n
   | succ i=>exact h3 i
theorem bE{n:Nat}{ds:List D}{i:Nat}{d:D}(h:(g7 n ds)[i]?=some (some d)):ds[i]?=some d:=by
 unfold g7 at h
 by_cases hi:i<ds.length
 ·rw[List.getElem?_append_left (by simpa using hi),List.getElem?_map] at h
  cases e:ds[i]? with
  | none=>rw[e] at h;cases h
  | some x=>rw[e] at h;cases h;rfl
 ·rw[List.getElem?_append_right (by simpa using hi),List.getElem?_replicate] at h
  split at h<;>cases h
theorem V3{N:List Str}{vs:List V}{i:Nat}{v:V}(h:vs[i]?=some v):(L2.start N vs)[i]?=some (some v):=by
 unfold L2.start
 have hi:=(List.getElem?_eq_some_iff.mp h).1
 rw[List.getElem?_append_left (by simpa using hi),List.getElem?_map,h]
 rfl
theorem bK{N:List Str}{ds:List D}{vs:List V}(h:ds.length=vs.length):(g7 N.length ds).length=(L2.start N vs).length:=by
 unfold g7 L2.start
 simp[h]
theorem aS{n:Nat}{ds:List D}{i:Nat}{d:D}(h:ds[i]?=some d):(g7 n ds)[i]?=some (some d):=by
 unfold g7
 have hi:=(List.getElem?_eq_some_iff.mp h).1
 rw[List.getElem?_append_left (by simpa using hi),List.getElem?_map,h]
 rfl
section
variable{P:Program}{w:World}{K:PySem.W.Frag}{mg:Str->Option Value}{base:Heap}
def Fv:List Cl->Bool
 | []=>true
 | .mk _::_=>false
 | _::r=>Fv r
theorem oN:∀{cl:List Cl} {j:Nat} {H':Hp},Fv cl=true->cl[j]?=some (.mk H')->False
 | [],j,_,_,e=>by cases j<;>cases e
 | c::r,0,H',h,e=>by
  cases e
  cases h
 | c::r,j+1,H',h,e=>by
  rw[List.getElem?_cons_succ] at e
  cases c<;>first | cases h | exact oN (cl:=r) h e
def noOwn:List Cl->Nat->Bool
 | cl,0=>Fv cl
 | .bor::r,n+1=>noOwn r n
 | _,_=>false
theorem aN:∀{cl:List Cl} {n i:Nat},noOwn cl n=true->i<n->cl[i]?=some .bor
 | _,0,i,_,h=>by omega
 | .bor::r,n+1,0,h,_=>rfl
 | .bor::r,n+1,i+1,h,hi=>by
  rw[List.getElem?_cons_succ]
  exact aN (cl:=r) (n:=n) (i:=i) h (by omega)
 | [],n+1,i,h,_=>by cases h
 | .own::r,n+1,i,h,_=>by cases h
 | .loc::r,n+1,i,h,_=>by cases h
 | .mk _::r,n+1,i,h,_=>by cases h
theorem cO:∀{cl:List Cl} {n j:Nat} {H':Hp},noOwn cl n=true->cl[j]?=some (.mk H')->False
 | cl,0,j,_,h,e=>by
  rw[noOwn] at h
  exact oN h e
 | .bor::r,n+1,0,_,h,e=>by cases e
 | .bor::r,n+1,j+1,_,h,e=>cO (cl:=r) (n:=n) (show noOwn r n=true from h) (by rw[List.getElem?_cons_succ] at e;exact e)
 | [],n+1,j,_,h,_=>by cases h
 | .own::r,n+1,j,_,h,_=>by cases h
 | .loc::r,n+1,j,_,h,_=>by cases h
 | .mk _::r,n+1,j,_,h,_=>by cases h
theorem Z0{x qual:Str}{st:Stmt}{f:Addr}{fd:FuncData}{N ps:List Str}{k:Nat}{c:Cp}{s:j7}{cl:List Cl}(F:P6 K x qual st f fd)(S:j6 N ps (e6 st))(hcl:noOwn cl ps.length=true)
  (hl:∀ds Q,c ds Q->ds.length=ps.length)
  (hb:∀(cdv:Value) (A:Around) (outer:List Env) (s0:Shared) (H:Hp) (E:XK),J1 k (A.deeper (envOfC qual (e6 st) s0.heap.objs.size f cdv))->je (dJ O9 P w K mg base N qual (e6 st) f cdv A outer s0 H E).Iy cl (i9 st) s)
  (hc:∀ds Q,c ds Q->s { nx:=fun _=>Q .non,rt:=fun d _=>Q d } (g7 N.length ds)):x5 P w K mg base O9 (k+1) f fd ps (w5 K c):=by
 refine F.ok S (fun vs H Q E h=>?_) (fun cdv A outer s0 H vs Q E hr h=>?_)
 ·obtain⟨ds,A,Qd,r,q,_⟩:=h
  rw[r.length];exact hl ds Qd q
 ·obtain⟨ds,B,Qd,r,q,kk⟩:=h
  have hlen:=hl ds Qd q
  obtain⟨t,pt,h⟩:=(hb cdv A outer s0 H E hr).run
  obtain⟨fa,h1,h2⟩:=r.each
  let G:Ent:=⟨H,fun _=>[],vs,cl,fun _=>False,H⟩
  have vl:vs.length=ps.length:=r.length.trans hlen
  have bor:∀i,i<vs.length->cl[i]?=some .bor:=fun i hi=>aN hcl (by omega)
  have nown:∀i,i<vs.length->¬G.own i:=fun i hi z=>by
   have z':cl[i]?=some .own:=z
   rw[bor i hi] at z';cases z'
  have far:∀i,G.own i->fa i=[]:=fun i hi=>h2 i (by
   have q1:¬i<vs.length:=fun q=>nown i q hi
   have q2:=r.length
   omega)
  have E0:E3 K G (g7 N.length ds) (L2.start N vs) H fa:=by
   refine⟨fun i d e=>?_,fun i e=>h2 i ?_,bK r.length.symm,fun i hi=>?_,fun i j _ hi a ha=>?_,fun i hi ho=>absurd ho (nown i hi),fun i hi ho=>absurd ho (nown i hi),fun i hi a ha=>?_,fun a o h _=>h,T3.refl H,fun a z=>z.elim,fun a z=>z.elim,fun i _ a _ z=>z,⟨fun i hi ho=>absurd ho (nown i hi),fun j H' e=>(cO hcl e).elim⟩⟩
   ·obtain⟨v,e1,r1⟩:=h1 i d (bE e)
    exact⟨v,V3 e1,r1⟩
   ·by_cases hi:i<ds.length
    ·exact absurd (aS (List.getElem?_eq_getElem hi)) (e _)
    ·omega
   ·rw[h2 i (by
     by_cases q:i<ds.length
     ·have q2:=r.length
      rcases hi with hi | hi
      ·exact absurd hi (nown i (by omega))
      ·have z':cl[i]?=some .loc:=hi
       rw[bor i (by omega)] at z';cases z'
     ·omega)];exact List.nodup_nil
   ·rw[far i hi] at ha;cases ha
   ·rcases hi with hi | hi
    ·have:¬i<vs.length:=fun q=>by
      have z':cl[i]?=some .loc:=hi
      rw[bor i q] at z';cases z'
     rw[h2 i (by have:=r.length;omega)] at ha;cases ha
    ·rw[far i hi.1] at ha;cases ha
  refine⟨t,pt,h G { nx:=fun _=>Qd .non,rt:=fun d _=>Qd d } _ _ H fa _ rfl E0 (hc ds Qd q) ⟨fun σ' H' hq=>?_,fun v H' hq=>?_,fun σ' H' hq=>?_,fun σ' H' hq=>?_⟩⟩
  ·obtain⟨ρ',fa',E',qd⟩:=hq
   exact kk .non .non H' [] qd (fun a o h=>E'.frm a o h fun i hi ho=>absurd ho (nown i hi)) .non List.nodup_nil fun a ha=>(by cases ha)
  ·obtain⟨d,ρ',σ',fa',B',E',r',n1,n2,_,qd⟩:=hq
   exact kk d v H' B' qd (fun a o h=>E'.frm a o h fun i hi ho=>absurd ho (nown i hi)) r' n1 n2
  ·obtain⟨ρ',fa',E',qd⟩:=hq
   exact qd
  ·obtain⟨ρ',fa',E',qd⟩:=hq
   exact qd
theorem KU{x qual:Str}{st:Stmt}{f:Addr}{fd:FuncData}{N ps:List Str}{k:Nat}{c:Cm}{s:j7}{cl:List Cl}(F:P6 K x qual st f fd)(S:j6 N ps (e6 st))(hcl:noOwn cl (ps.length-1)=true)
  (hl:∀ds Q,c ds Q->ds.length=ps.length)
  (hb:∀(cdv:Value) (A:Around) (outer:List Env) (s0:Shared) (H:Hp) (E:XK),J1 k (A.deeper (envOfC qual (e6 st) s0.heap.objs.size f cdv))->je (dJ O9 P w K mg base N qual (e6 st) f cdv A outer s0 H E).Iy (.own::cl) (i9 st) s)
  (hc:∀ds Q,c ds Q->s { nx:=fun ρ=>e5 0 ρ fun l=>Q .non l,rt:=fun d ρ=>e5 0 ρ fun l=>Q d l } (g7 N.length ds)):x5 P w K mg base O9 (k+1) f fd ps (fW K c):=by
 refine F.ok S (fun vs H Q E h=>?_) (fun cdv A outer s0 H vs Q E hr h=>?_)
 ·obtain⟨w,vs',d,ds,A,Bs,Qd,rfl,r,n,ap,q,_⟩:=h
  obtain⟨fa,h1,h2,h3,h4⟩:=ap.each
  have:=hl _ Qd q
  simp at this ⊢
  omega
 ·obtain⟨w,vs',d,ds,A0,Bs,Qd,rfl,r,n,ap,q,kk⟩:=h
  obtain⟨fa,h1,h2,h3,h4⟩:=ap.each
  have hlen:=hl _ Qd q
  have hlen':ds.length=ps.length-1:=by simp at hlen;omega
  obtain⟨t,pt,h⟩:=(hb cdv A outer s0 H E hr).run
  let fb:Nat->List Addr:=fun i=>match i with | 0=>A0 | i+1=>fa i
  let G:Ent:=⟨H,fun i=>if i=0 then A0 else[],w::vs',.own::cl,fun _=>False,H⟩
  have bor:∀i,i<vs'.length->cl[i]?=some .bor:=fun i hi=>aN hcl (by omega)
  have nown:∀i,i<vs'.length->¬G.own (i+1):=fun i hi z=>by
   have z':cl[i]?=some .own:=z
   rw[bor i hi] at z';cases z'
  have own0:G.own 0:=rfl
  have far:∀i,G.own (i+1)->fa i=[]:=fun i hi=>h2 i (by
   have q1:¬i<vs'.length:=fun q=>nown i q hi
   omega)
  have E0:E3 K G (g7 N.length (d::ds)) (L2.start N (w::vs')) H fb:=by
   refine⟨fun i d' e=>?_,fun i e=>?_,bK (by simp[h4]),fun i hi=>?_,fun i j nij hi a ha=>?_,fun i hi ho=>?_,fun i hi ho a ha=>?_,fun i hi a ha=>?_,fun a o h _=>h,T3.refl H,fun a z=>z.elim,fun a z=>z.elim,fun i _ a _ z=>z,⟨fun i hi ho=>?_,fun j H' e=>?_⟩⟩
   ·have e':=bE e
    cases i with
    | zero=>simp at e';subst e';exact⟨w,V3 (vs:=w::vs') (i:=0) rfl,r⟩
    | succ i=>
     obtain⟨v,e1,r1⟩:=h1 i d' (by simpa using e')
     exact⟨v,V3 (by simpa using e1),r1⟩
   ·cases i with
    | zero=>exact absurd (aS (ds:=d::ds) (i:=0) rfl) (e _)
    | succ i=>
     refine h2 i ?_
     by_cases hi:i<ds.length
     ·exact absurd (aS (ds:=d::ds) (i:=i+1) (by rw[List.getElem?_cons_succ];exact List.getElem?_eq_getElem hi)) (e _)
     ·omega
   ·cases i with
    | zero=>exact n
    | succ i=>
     show(fa i).Nodup
     rw[h2 i (by
      by_cases q:i<ds.length
      ·rcases hi with hi | hi
       ·exact absurd hi (nown i (by omega))
       ·have z':cl[i]?=some .loc:=hi
        rw[bor i (by omega)] at z';cases z'
      ·omega)];exact List.nodup_nil
   ·cases i with
    | zero=>
     cases j with
     | zero=>exact absurd rfl nij
     | succ j=>exact fun z=>h3 j a z ha
    | succ i=>
     have ha':a∈fa i:=ha
     rw[far i hi] at ha';cases ha'
   ·cases i with
    | zero=>exact V3 (vs:=w::vs') (i:=0) rfl
    | succ i=>exact absurd ho (nown i (by simpa[G] using hi))
   ·cases i with
    | zero=>exact .inl ha
    | succ i=>exact absurd ho (nown i (by simpa[G] using hi))
   ·cases i with
    | zero=>
     rcases hi with hi | hi
     ·have z:some Cl.own=some .loc:=hi
      cases z
     ·exact absurd (Nat.zero_lt_succ _) hi.2
    | succ i=>
     have ha':a∈fa i:=ha
     rcases hi with hi | hi
     ·have:¬i<vs'.length:=fun q=>by
       have z':cl[i]?=some .loc:=hi
       rw[bor i q] at z';cases z'
      rw[h2 i (by omega)] at ha';cases ha'
     ·rw[far i hi.1] at ha';cases ha'
   ·cases i with
    | zero=>rfl
    | succ i=>exact absurd ho (nown i (by simpa[G] using hi))
   ·cases j with
    | zero=>exact absurd (show some Cl.own=some (.mk H') from e) (by intro z;cases z)
    | succ j=>exact(cO hcl (show cl[j]?=some (.mk H') from e)).elim
  have fin:∀{ρ':Ev} {σ':L2.St} {H':Hp} {fa':Nat->List Addr} {v:V} {r':D} {l:D} {B:List Addr},E3 K G ρ' σ' H' fa'->ρ'[0]?=some (some l)->Qd r' l->Rep K H' v r' B->B.Nodup->(∀a∈B,H a=none)->(∀a∈B,a∉fa' 0)->Q v H':=fun {ρ' σ' H' fa' v r' l B} E' e qd rr n1 n2 n3=>by
   obtain⟨v',e1,r1⟩:=E'.rep 0 l e
   have e2:=E'.par 0 (Nat.zero_lt_succ _) own0
   rw[e1] at e2
   have e3:v'=w:=by
    have e4:some (some v')=some (some w):=e2
    cases e4;rfl
   subst e3
   refine kk r' l v H' (fa' 0) B qd r1 (E'.nd 0 (.inl own0)) (fun a ha=>?_) (fun a o h hn=>E'.frm a o h fun i hi ho z=>?_) E'.stb rr n1 fun a ha=>⟨n2 a ha,n3 a ha⟩
   ·exact E'.old 0 (Nat.zero_lt_succ _) own0 a ha
   ·cases i with
    | zero=>exact hn z
    | succ i=>exact absurd ho (nown i (by simpa[G] using hi))
  refine⟨t,pt,h G { nx:=fun ρ=>e5 0 ρ fun l=>Qd .non l,rt:=fun d ρ=>e5 0 ρ fun l=>Qd d l } _ _ H fb _ rfl E0 (hc _ Qd q) ⟨fun σ' H' hq=>?_,fun v H' hq=>?_,fun σ' H' hq=>?_,fun σ' H' hq=>?_⟩⟩
  ·obtain⟨ρ',fa',E',qd⟩:=hq
   obtain⟨l,e,qd⟩:=u5 qd
   exact fin E' e qd .non List.nodup_nil (fun a ha=>(by cases ha)) fun a ha=>(by cases ha)
  ·obtain⟨d,ρ',σ',fa',B',E',r',n1,n2,n3,qd⟩:=hq
   obtain⟨l,e,qd⟩:=u5 qd
   exact fin E' e qd r' n1 n2 (n3 0 (Nat.zero_lt_succ _) own0)
  ·obtain⟨ρ',fa',E',qd⟩:=hq
   exact qd
  ·obtain⟨ρ',fa',E',qd⟩:=hq
   exact qd
end
end L3
namespace L3
open PySem PySem.Spec L2
section
variable{K:PySem.W.Frag}{G:Ent}{ρ:Ev}{σ:St}{H:Hp}{fa:Nat->List Addr}
def fT(G:Ent)(fa:Nat->List Addr)(B:List Addr)(i:Nat):Prop:=
 (∀j,j≠i->G.own j->∀a∈B,a∉fa j) /\
 match G.cl[i]? with
 | some .own=>i≠0/\B.Nodup/\(∀a∈B,G.H₀ a=none/\¬G.Z a/\∀j,j≠i->a∉fa j)
 | some .loc=>B.Nodup/\∀a∈B,G.H₀ a=none
 | _=>True
theorem E3.set{v:V}{d:D}{B:List Addr}{i:Nat}(E:E3 K G ρ σ H fa)(hi:i<ρ.length)(r:Rep K H v d B)(h:fT G fa B i):E3 K G (ρ.set i (some d)) (σ.set i (some v)) H (fun j=>if j=i then B else fa j):=by
 have hs:i<σ.length:=by rw[<-E.len];exact hi
 have hown:G.own i->i≠0/\B.Nodup/\(∀a∈B,G.H₀ a=none/\¬G.Z a/\∀j,j≠i->a∉fa j):=fun o=>by
  have q:=h.2
  unfold Ent.own at o
  rw[o] at q
  exact q
 have hloc:G.cl[i]?=some .loc->B.Nodup/\∀a∈B,G.H₀ a=none:=fun o=>by
  have q:=h.2
  rw[o] at q
  exact q
 refine⟨fun j d' e=>?_,fun j e=>?_,by simp[E.len],fun j hj=>?_,fun j l n hj a ha=>?_,fun j hj ho=>?_,fun j hj ho a ha=>?_,fun j hj a ha=>?_,E.frm,E.stb,E.zk,E.zn,fun j hj a ha=>?_,E.po⟩
 ·by_cases q:j=i
  ·subst q
   rw[List.getElem?_set_self hi] at e
   cases e
   exact⟨v,List.getElem?_set_self hs,by rw[if_pos rfl];exact r⟩
  ·rw[List.getElem?_set_ne (Ne.symm q)] at e
   obtain⟨w,e1,r1⟩:=E.rep j d' e
   exact⟨w,by rw[List.getElem?_set_ne (Ne.symm q)];exact e1,by rw[if_neg q];exact r1⟩
 ·by_cases q:j=i
  ·subst q
   exact absurd (List.getElem?_set_self hi) (e d)
  ·rw[if_neg q]
   exact E.emp j fun d z=>e d (by rw[List.getElem?_set_ne (Ne.symm q)];exact z)
 ·by_cases q:j=i
  ·subst q
   rw[if_pos rfl]
   rcases hj with hj | hj
   ·exact(hown hj).2.1
   ·exact(hloc hj).1
  ·rw[if_neg q];exact E.nd j hj
 ·by_cases q:j=i
  ·subst q
   rw[if_pos rfl] at ha
   rw[if_neg (Ne.symm n)]
   exact((hown hj).2.2 a ha).2.2 l (Ne.symm n)
  ·rw[if_neg q] at ha
   by_cases q2:l=i
   ·subst q2
    rw[if_pos rfl]
    exact fun z=>h.1 j q hj a z ha
   ·rw[if_neg q2]
    exact E.dj j l n hj a ha
 ·have q:j≠i:=fun e=>(hown (e▸ho)).1 (e▸E.po.one j hj ho)
  rw[List.getElem?_set_ne (Ne.symm q)]
  exact E.par j hj ho
 ·have q:j≠i:=fun e=>(hown (e▸ho)).1 (e▸E.po.one j hj ho)
  rw[if_neg q] at ha
  exact E.old j hj ho a ha
 ·by_cases q:j=i
  ·subst q
   rw[if_pos rfl] at ha
   rcases hj with hj | hj
   ·exact(hloc hj).2 a ha
   ·exact((hown hj.1).2.2 a ha).1
  ·rw[if_neg q] at ha;exact E.new j hj a ha
 ·by_cases q:j=i
  ·subst q
   rw[if_pos rfl] at ha
   exact((hown hj).2.2 a ha).2.1
  ·rw[if_neg q] at ha;exact E.zo j hj a ha
def Dp(c:Option Cl)(f:Fl)(i:Nat):Bool:=match c,f with
 | some .own,.fresh=>decide (i≠0)
 | some .own,_=>false
 | some .loc,.fresh=>true
 | some .loc,.locl=>true
 | some .loc,_=>false
 | _,.any=>false
 | _,_=>true
theorem E3.kT(E:E3 K G ρ σ H fa){a:Addr}(h:H a=none):¬G.Z a:=fun z=>by
 have q:=E.zk a z
 rw[h] at q
 exact E.zn a z q.symm
theorem fT.of(E:E3 K G ρ σ H fa){B:List Addr}{f:Fl}{i:Nat}(h:B0 G H fa B f)(hc:Dp G.cl[i]? f i=true):fT G fa B i:=by
 have st:f≠.any->B0 G H fa B .stab:=fun n=>h.weak E (by cases f<;>first | rfl | exact absurd rfl n)
 have na:f≠.any:=fun e=>by
  subst e
  generalize G.cl[i]?=c at hc
  cases c with
  | none=>cases hc
  | some c=>cases c<;>cases hc
 refine⟨fun j _ hj a ha=>st na j hj a ha,?_⟩
 cases e:G.cl[i]? with
 | none=>trivial
 | some c=>
  rw[e] at hc
  cases c with
  | own=>
   cases f with
   | fresh=>exact⟨of_decide_eq_true hc,h.1,fun a ha=>⟨E.stb.dom a (h.2 a ha),E.kT (h.2 a ha),fun j _ z=>E.there j z (h.2 a ha)⟩⟩
   | _=>cases hc
  | loc=>
   have q:=h.weak E (g:=.locl) (by cases f<;>first | rfl | cases hc)
   exact⟨q.2.2,q.2.1⟩
  | bor=>trivial
  | mk _=>trivial
theorem fT.new(E:E3 K G ρ σ H fa){H0:Hp}{fa0:Nat->List Addr}{ρ0:Ev}{σ0:St}(E0:E3 K G ρ0 σ0 H0 fa0){B:List Addr}{i:Nat}(n1:B.Nodup)(n2:∀a∈B,H0 a=none/\∀j,a∉fa j)(hc:G.cl[i]?≠some .own\/i≠0):fT G fa B i:=by
 refine⟨fun j _ hj a ha=>(n2 a ha).2 j,?_⟩
 cases e:G.cl[i]? with
 | none=>trivial
 | some c=>
  cases c with
  | own=>exact⟨hc.resolve_left (fun z=>z e),n1,fun a ha=>⟨E0.stb.dom a (n2 a ha).1,E0.kT (n2 a ha).1,fun j _=>(n2 a ha).2 j⟩⟩
  | loc=>exact⟨n1,fun a ha=>E0.stb.dom a (n2 a ha).1⟩
  | bor=>trivial
  | mk _=>trivial
end
section
variable{X:Cx}{cl:List Cl}{e a b:Expr}{es:List Expr}{f:Fl}{pos pos':Pos}{ua ub:TU}{ma mb:TM}{x:Str}{i:Nat}{st:Stmt}{sts:List Stmt}{s s2:j7}
def J8:j7:=fun T ρ=>T.nx ρ
def i5(s u:j7):j7:=fun T ρ=>s { nx:=u T,rt:=T.rt,bk:=T.bk,ct:=T.ct } ρ
theorem K9:je X cl [] J8:=.of ⟨_,CY,fun G T ρ σ H fa R hG E h le=>le.nx σ H ⟨ρ,fa,E,h⟩⟩
theorem y3(h1:K7 X cl st s)(h2:je X cl sts s2):je X cl (st::sts) (i5 s s2):=.of<|by
 obtain⟨t1,p1,h1⟩:=h1.run
 obtain⟨t2,p2,h2⟩:=h2.run
 refine⟨_,yH p1 p2,fun G T ρ σ H fa R hG E h le=>?_⟩
 refine h1 G _ ρ σ H fa _ hG E h ⟨fun σ' H' q=>?_,le.rt,le.bk,le.ct⟩
 obtain⟨ρ',fa',E',q⟩:=q
 exact h2 G T ρ' σ' H' fa' R hG E' q le
theorem dS(h1:K7 X cl st s):je X cl [st] s:=.of<|let ⟨t1,p1,h1⟩:=h1.run;⟨_,DX p1,h1⟩
def Aw:j7:=fun _ _=>False
theorem Ce:K7 X cl st Aw:=.of ⟨_,Az,fun G T ρ σ H fa R hG E h le=>h.elim⟩
def y8(i:Nat)(u:TU):j7:=fun T ρ=>u ρ fun d=>Nat.blt i ρ.length=true/\T.nx (ρ.set i (some d))
theorem u3(hN:X.N.Nodup)(hi:X.N[i]?=some x)(hx:Loc X.env.scope x)(he:PU X cl e f ua)(hc:Dp cl[i]? f i=true)(hs:swapsWith e (some (.Name x pos')) pos.line X.env=pure false:=by rfl)(hf:X.fn x=true\/X.env.scope.names.lookup x=some .local:=by first | exact .inl rfl | exact .inr rfl | assumption) :
  K7 X cl (.Assign [.Name x pos'] e pos) (y8 i ua):=.of<|by
 obtain⟨t,p,h⟩:=he.run
 refine⟨_,xI hN hi hx p hs hf,fun G T ρ σ H fa R hG E hu le=>?_⟩
 refine h G ρ σ H fa _ _ hG E hu fun v H' d B s r fo q=>?_
 exact le.nx _ _ ⟨_,_,(E.same s).set (Nat.le_of_ble_eq_true q.1) r (fT.of E fo (by rw[hG];exact hc)),q.2⟩
def G0(i:Nat)(u:TM):j7:=fun T ρ=>u ρ fun d ρ'=>Nat.blt i ρ'.length=true/\T.nx (ρ'.set i (some d))
def eZ(c:Option Cl)(i:Nat):Bool:=match c with
 | some .own=>decide (i≠0)
 | _=>true
theorem gg{c:Option Cl}{i:Nat}(h:eZ c i=true):c≠some .own\/i≠0:=by
 unfold eZ at h
 split at h
 ·exact .inr (of_decide_eq_true h)
 ·rename_i q
  exact .inl fun e=>q e
theorem C5(hN:X.N.Nodup)(hi:X.N[i]?=some x)(hx:Loc X.env.scope x)(he:PM X cl e ma)(hc:eZ cl[i]? i=true)(hs:swapsWith e (some (.Name x pos')) pos.line X.env=pure false:=by rfl)(hf:X.fn x=true\/X.env.scope.names.lookup x=some .local:=by first | exact .inl rfl | exact .inr rfl | assumption) :
  K7 X cl (.Assign [.Name x pos'] e pos) (G0 i ma):=.of<|by
 obtain⟨t,p,h⟩:=he.run
 refine⟨_,xI hN hi hx p hs hf,fun G T ρ σ H fa R hG E hu le=>?_⟩
 refine h G ρ σ H fa _ _ hG E hu fun v H' d B ρ' fa' E' c r n1 n2 q=>?_
 exact le.nx _ _ ⟨_,_,E'.set (Nat.le_of_ble_eq_true q.1) r (fT.new E' E n1 n2 (by rw[hG];exact gg hc)),q.2⟩
def hU(c:rQ)(s u:j7):j7:=fun T ρ=>c ρ fun k ρ'=>Br k (s T ρ') (u T ρ')
theorem T5{c:Expr}{A B:List Stmt}{mc:rQ}(hc:Iu X cl c mc)(ha:je X cl A s)(hb:je X cl B s2):K7 X cl (.If c A B pos) (hU mc s s2):=.of<|by
 obtain⟨t,p,hc⟩:=hc.run
 obtain⟨t1,p1,h1⟩:=ha.run
 obtain⟨t2,p2,h2⟩:=hb.run
 refine⟨_,IS p p1 p2,fun G T ρ σ H fa R hG E hu le=>hc G ρ σ H fa _ _ hG E hu fun b H' ρ' fa' E' c q=>?_⟩
 cases b with
 | true=>rw[if_pos rfl];exact h1 G T ρ' σ H' fa' R hG E' (q.t rfl) le
 | false=>rw[if_neg Bool.false_ne_true];exact h2 G T ρ' σ H' fa' R hG E' (q.f rfl) le
def A3(u:TU):j7:=fun T ρ=>u ρ fun d=>T.rt d ρ
theorem u7(he:PU X cl e f ua)(hf:gP f .locl=true):K7 X cl (.Return (some e) pos) (A3 ua):=.of<|by
 obtain⟨t,p,h⟩:=he.run
 refine⟨_,jU p,fun G T ρ σ H fa R hG E hu le=>h G ρ σ H fa _ _ hG E hu fun v H' d B s r fo q=>?_⟩
 have fl:=fo.weak E hf
 exact le.rt v H' ⟨d,ρ,σ,fa,B,E.same s,r,fl.2.2,fl.2.1,fun i _ hi a ha=>fl.1 i hi a ha,q⟩
def zB(u:TM):j7:=fun T ρ=>u ρ fun d ρ'=>T.rt d ρ'
theorem xa(he:PM X cl e ma):K7 X cl (.Return (some e) pos) (zB ma):=.of<|by
 obtain⟨t,p,h⟩:=he.run
 refine⟨_,jU p,fun G T ρ σ H fa R hG E hu le=>h G ρ σ H fa _ _ hG E hu fun v H' d B ρ' fa' E' c r n1 n2 q=>?_⟩
 exact le.rt v H' ⟨d,ρ',σ,fa',B,E',r,n1,fun a ha=>E.stb.dom a (n2 a ha).1,fun i _ hi a ha=>(n2 a ha).2 i,q⟩
theorem aA(i:Nat){vp:Pos}(h:PE X (.Name x vp) (dC i))(hi:i≠0)(hc:cl[i]?=some .own):K7 X cl (.Return (some (.Name x vp)) pos) (A3 (e5 i)):=.of<|by
 refine⟨_,jU h,fun G T ρ σ H fa R hG E hu le=>?_⟩
 obtain⟨d,e,q⟩:=u5 hu
 obtain⟨v,e1,r⟩:=E.rep i d e
 have o:G.own i:=by unfold Ent.own;rw[hG];exact hc
 refine⟨v,e1,le.rt v H ⟨d,ρ,σ,fa,fa i,E,r,E.nd i (.inl o),E.new i (.inr ⟨o,fun z=>hi (E.po.one i z o)⟩),fun j hj ho a ha z=>?_,q⟩⟩
 exact E.dj i j (fun e=>hi (e▸E.po.one j hj ho)) o a ha z
def cG(u:TM):j7:=fun T ρ=>u ρ fun _ ρ'=>T.nx ρ'
theorem aj(he:PN X cl e ma)(hs:swapsWith e none pos.line X.env=pure false:=by rfl):K7 X cl (.Expr e pos) (cG ma):=.of<|by
 obtain⟨t,p,h⟩:=he.run
 refine⟨_,DA p hs,fun G T ρ σ H fa R hG E hu le=>h G ρ σ H fa _ _ hG E hu fun v H' d B ρ' fa' E' c r n q=>?_⟩
 exact le.nx _ _ ⟨ρ',fa',E',q⟩
end
section
variable{K:PySem.W.Frag}{G:Ent}{ρ:Ev}{σ:St}{H H1 H2:Hp}{fa fa1:Nat->List Addr}
theorem E3.put{i:Nat}{v:V}{d:D}{p:Addr}{A:List Addr}(E:E3 K G ρ σ H1 fa1)(o:G.own i)(hi:i<ρ.length)(hv:σ[i]?=some (some v))(hp:p∈fa1 i)(k:∀a,a≠p->H2 a=H1 a)(hp2:H2 p≠none)
  (r:Rep K H2 v d A) (n1:A.Nodup) (n2:∀a∈A,a∈fa1 i\/(G.H₀ a=none/\¬G.Z a/\∀j,a∉fa1 j)):E3 K G (ρ.set i (some d)) σ H2 (fun j=>if j=i then A else fa1 j):=by
 have mu:=E.Y4 i p hp
 have stb:T3 H1 H2:=⟨fun b xs h=>by
   by_cases e:b=p
   ·subst e;rw[h] at mu;exact mu.elim
   ·rw[k b e];exact h,fun b u w h=>by
   by_cases e:b=p
   ·subst e;rw[h] at mu;exact mu.elim
   ·rw[k b e];exact h,fun b h=>by
   by_cases e:b=p
   ·subst e;exact absurd h hp2
   ·rw[k b e] at h;exact h⟩
 have np:∀j,j≠i->p∉fa1 j:=fun j n z=>E.dj i j (Ne.symm n) o p hp z
 have hs:i<σ.length:=by rw[<-E.len];exact hi
 refine⟨fun j d' e=>?_,fun j e=>?_,by simp[E.len],fun j hj=>?_,fun j l n hj a ha=>?_,E.par,fun j hj ho a ha=>?_,fun j hj a ha=>?_,fun a u h n=>?_,E.stb.trans stb,fun a z=>?_,E.zn,fun j hj a ha=>?_,E.po⟩
 ·by_cases q:j=i
  ·subst q
   rw[List.getElem?_set_self hi] at e
   cases e
   exact⟨v,hv,by rw[if_pos rfl];exact r⟩
  ·rw[List.getElem?_set_ne (Ne.symm q)] at e
   obtain⟨w,e1,r1⟩:=E.rep j d' e
   refine⟨w,e1,?_⟩
   rw[if_neg q]
   exact r1.mono stb fun a ha=>k a fun e=>np j q (e▸ha)
 ·by_cases q:j=i
  ·subst q
   exact absurd (List.getElem?_set_self hi) (e d)
  ·rw[if_neg q]
   exact E.emp j fun d z=>e d (by rw[List.getElem?_set_ne (Ne.symm q)];exact z)
 ·by_cases q:j=i
  ·rw[if_pos q];exact n1
  ·rw[if_neg q];exact E.nd j hj
 ·by_cases q:j=i
  ·subst q
   rw[if_pos rfl] at ha
   rw[if_neg (Ne.symm n)]
   rcases n2 a ha with y | y
   ·exact E.dj j l n o a y
   ·exact y.2.2 l
  ·rw[if_neg q] at ha
   by_cases q2:l=i
   ·subst q2
    rw[if_pos rfl]
    intro z
    rcases n2 a z with y | y
    ·exact E.dj j l q hj a ha y
    ·exact y.2.2 j ha
   ·rw[if_neg q2]
    exact E.dj j l n hj a ha
 ·by_cases q:j=i
  ·subst q
   rw[if_pos rfl] at ha
   rcases n2 a ha with y | y
   ·exact E.old j hj ho a y
   ·exact .inr y.1
  ·rw[if_neg q] at ha;exact E.old j hj ho a ha
 ·by_cases q:j=i
  ·subst q
   rw[if_pos rfl] at ha
   rcases n2 a ha with y | y
   ·exact E.new j hj a y
   ·exact y.1
  ·rw[if_neg q] at ha;exact E.new j hj a ha
 ·have hne:a≠p:=fun e=>by
   subst e
   by_cases hq:i<G.vs.length
   ·rcases E.old i hq o a hp with y | y
    ·exact n i hq o y
    ·rw[h] at y;cases y
   ·have y:=E.new i (.inr ⟨o,hq⟩) a hp
    rw[h] at y;cases y
  rw[k a hne]
  exact E.frm a u h n
 ·rw[k a (fun e=>E.zo i o p hp (e▸z))]
  exact E.zk a z
 ·by_cases q:j=i
  ·subst q
   rw[if_pos rfl] at ha
   rcases n2 a ha with y | y
   ·exact E.zo j hj a y
   ·exact y.2.1
  ·rw[if_neg q] at ha;exact E.zo j hj a ha
theorem P5.put{i:Nat}{p:Addr}{A:List Addr}(c:P5 K G H fa H1 fa1)(E:E3 K G ρ σ H1 fa1)(o:G.own i)(hp:p∈fa1 i)(k:∀a,a≠p->H2 a=H1 a)(hp2:H2 p≠none)(n2:∀a∈A,a∈fa1 i\/H a=none):P5 K G H fa H2 (fun j=>if j=i then A else fa1 j):=by
 have mu:=E.Y4 i p hp
 refine⟨fun a u h n=>?_,c.stb.trans ⟨fun b xs h=>?_,fun b u w h=>?_,fun b h=>?_⟩,fun j hj a ha=>?_,fun j hj=>?_⟩
 ·have hne:a≠p:=fun e=>by
   subst e
   rcases c.new i o a hp with y | y
   ·exact n i o y
   ·rw[h] at y;cases y
  rw[k a hne]
  exact c.frm a u h n
 ·by_cases e:b=p
  ·subst e;rw[h] at mu;exact mu.elim
  ·rw[k b e];exact h
 ·by_cases e:b=p
  ·subst e;rw[h] at mu;exact mu.elim
  ·rw[k b e];exact h
 ·by_cases e:b=p
  ·subst e;exact absurd h hp2
  ·rw[k b e] at h;exact h
 ·by_cases q:j=i
  ·subst q
   rw[if_pos rfl] at ha
   rcases n2 a ha with y | y
   ·exact c.new j hj a y
   ·exact .inr y
  ·rw[if_neg q] at ha;exact c.new j hj a ha
 ·exact(if_neg fun e:j=i=>hj (by rw[e];exact o)).trans (c.bor j hj)
theorem aU{H:Hp}{p:Addr}{o:HO}:∀a,a≠p->upd H p o a=H a:=fun a n=>j9 n
end
section
variable{X:Cx}{cl:List Cl}{e a b:Expr}{es:List Expr}{f:Fl}{pos pos':Pos}{ua ub:TU}{ma mb:TM}{x:Str}{i:Nat}{st:Stmt}{sts:List Stmt}{s s2:j7}
def Km:D->Bool
 | .lst _=>true
 | _=>false
def Ht(i:Nat)(d:D)(ρ:Ev)(Q:Ev->Prop):D->Prop
 | .lst xs=>xs.length<sizeLine/\Q (ρ.set i (some (.lst (xs++[d]))))
 | _=>False
def jQ(i:Nat)(ma:TM):TM:=fun ρ Q=>e5 i ρ fun l=>Km l=true/\ma ρ fun d ρ'=>e5 i ρ' (Ht i d ρ' (Q .non))
theorem K1{r:V->List V->Hp->VK->Prop}{apos vp:Pos}(i:Nat)(hv:PE X (.Name x vp) (dC i))(hi:cl[i]?=some .own)(he:PM X cl e ma)(hst:isStar e=false)
  (mk:∀{t},PA X [e] t->PE X (.Call (.Attribute (.Name x vp) "append" apos) [e] [] pos) (LH X.K "list" M8 (dC i) t)):PM X cl (.Call (.Attribute (.Name x vp) "append" apos) [e] [] pos) (jQ i ma):=.of<|by
 obtain⟨t,p,h⟩:=he.run
 refine⟨_,mk (bG p Q4 hst),fun G ρ σ H fa Q R hG E hu k=>?_⟩
 obtain⟨l0,e0,il,hu⟩:=u5 hu
 have own:G.own i:=by unfold Ent.own;rw[hG];exact hi
 obtain⟨v,hvi,r0⟩:=E.rep i l0 e0
 cases l0<;>first | cases il | skip
 obtain⟨p,vs,B,rfl,hp,_,_⟩:=G8 r0
 refine⟨_,hvi,.inl ⟨rfl,vs,N7.of hp⟩,h G ρ σ H fa _ _ hG E hu fun w H1 d B1 ρ1 fa1 E1 c1 r1 n1 n2 q=>?_⟩
 obtain⟨l1,e1,q⟩:=u5 q
 obtain⟨v',hv',r2⟩:=E1.rep i l1 e1
 have ev:v'=.ref p:=by rw[hvi] at hv';cases hv';rfl
 subst ev
 cases l1<;>first | exact(show False from q).elim | skip
 rename_i xs
 obtain⟨p',vs',B',ep,hp',rs,eA⟩:=G8 r2
 cases ep
 have q:xs.length<sizeLine/\Q .non (ρ1.set i (some (.lst (xs++[d])))):=q
 have nd:=E1.nd i (.inl own)
 have pin:p∈fa1 i:=by rw[eA];exact List.mem_cons_self
 rw[eA] at nd
 obtain⟨np,ndB⟩:=List.nodup_cons.mp nd
 have hpB1:p∉B1:=fun z=>(n2 p z).2 i pin
 have st:T3 H1 (upd H1 p (.lst (vs'++[w]))):=⟨fun b ys h=>by
   by_cases e:b=p
   ·subst e;rw[hp'] at h;cases h
   ·rw[j9 e];exact h,fun b u w' h=>by
   by_cases e:b=p
   ·subst e;rw[hp'] at h;cases h
   ·rw[j9 e];exact h,fun b h=>by
   by_cases e:b=p
   ·subst e;rw[h9] at h;cases h
   ·rw[j9 e] at h;exact h⟩
 have rn:Rep X.K (upd H1 p (.lst (vs'++[w]))) (.ref p) (.lst (xs++[d])) (p::(B'++(B1++[]))):=
  .lst h9 ((rs.mono st fun a ha=>j9 fun e=>np (e▸ha)).append (.cons (r1.mono st fun a ha=>j9 fun e=>hpB1 (e▸ha)) .nil))
 rw[List.append_nil] at rn
 have n3:∀a∈p::(B'++B1),a∈fa1 i\/a∈B1:=fun a ha=>by
  rcases List.mem_cons.mp ha with z | z
  ·exact .inl (z▸pin)
  ·rcases List.mem_append.mp z with y | y
   ·exact .inl (by rw[eA];exact List.mem_cons_of_mem _ y)
   ·exact .inr y
 have nod:(p::(B'++B1)).Nodup:=List.nodup_cons.mpr ⟨fun z=>(List.mem_append.mp z).elim np hpB1,List.nodup_append.mpr ⟨ndB,n1,fun a ha b hb e=>(n2 b hb).2 i (by rw[eA,<-e];exact List.mem_cons_of_mem _ ha)⟩⟩
 have li:i<ρ1.length:=(List.getElem?_eq_some_iff.mp e1).1
 refine⟨p,vs',w,rfl,rfl,hp',by rw[rs.length];exact q.1,?_⟩
 refine k .non _ .non [] _ _ (E1.put own li hv' pin aU (by rw[h9];exact fun z=>nomatch z) rn nod fun a ha=>(n3 a ha).imp id fun y=>⟨E.stb.dom a (n2 a y).1,E.kT (n2 a y).1,(n2 a y).2⟩) (c1.put E1 own pin aU (by rw[h9];exact fun z=>nomatch z) fun a ha=>(n3 a ha).imp id fun y=>(n2 a y).1) .non List.nodup_nil (fun a ha=>(by cases ha)) q.2
def Ku(i:Nat)(k:Int)(d:D)(ρ:Ev)(Q:Ev->Prop):D->Prop
 | .lst xs=>∃j,kO xs.length k=some j/\Q (ρ.set i (some (.lst (xs.set j d))))
 | _=>False
def uX(i:Nat)(me mk:TM):j7:=fun T ρ=>me ρ fun d ρ1=>e5 i ρ1 fun _=>mk ρ1 fun k ρ2=>match k with
 | .int k=>e5 i ρ2 (Ku i k d ρ2 T.nx)
 | _=>False
theorem lJ{vp tp:Pos}{ik:Expr}{mk:TM}(i:Nat)(hv:PE X (.Name x vp) (dC i))(hi:cl[i]?=some .own)(he:PM X cl e ma)(hk:PN X cl ik mk)
  (mkS:∀{te ti},PE X e te->PE X ik ti->PS X (.Assign [.Subscript (.Name x vp) ik tp] e pos) (pU te (bP (dC i) ti Fc))):K7 X cl (.Assign [.Subscript (.Name x vp) ik tp] e pos) (uX i ma mk):=.of<|by
 obtain⟨t,p,h⟩:=he.run
 obtain⟨t2,p2,h2⟩:=hk.run
 refine⟨_,mkS p p2,fun G T ρ σ H fa R hG E hu le=>?_⟩
 have own:G.own i:=by unfold Ent.own;rw[hG];exact hi
 refine h G ρ σ H fa _ _ hG E hu fun w H1 d B1 ρ1 fa1 E1 c1 r1 n1 n2 q=>?_
 obtain⟨l0,e0,q⟩:=u5 q
 obtain⟨v,hvi,r0⟩:=E1.rep i l0 e0
 refine⟨_,hvi,h2 G ρ1 σ H1 fa1 _ _ hG E1 q fun wk H2 dk Bk ρ2 fa2 E2 c2 rk nk q=>?_⟩
 cases dk<;>first | exact(show False from q).elim | skip
 rename_i kk
 cases y4 rk
 obtain⟨l1,e1,q⟩:=u5 q
 obtain⟨v',hv',r2⟩:=E2.rep i l1 e1
 have ev:v'=v:=by rw[hvi] at hv';cases hv';rfl
 subst ev
 cases l1<;>first | exact(show False from q).elim | skip
 rename_i xs
 obtain⟨p,vs,B,rfl,hp,rs,eA⟩:=G8 r2
 obtain⟨j,hj,q⟩:∃j,kO xs.length kk=some j/\T.nx (ρ2.set i (some (.lst (xs.set j d)))):=q
 have r1':=c2.keep r1 fun i _ a ha=>(n2 a ha).2 i
 have apB:∀a∈B1,∀l,a∉fa2 l:=fun a ha l z=>by
  by_cases ho:G.own l
  ·rcases c2.new l ho a z with y | y
   ·exact(n2 a ha).2 l y
   ·exact r1.there ha y
  ·rw[c2.bor l ho] at z;exact(n2 a ha).2 l z
 have nd:=E2.nd i (.inl own)
 have pin:p∈fa2 i:=by rw[eA];exact List.mem_cons_self
 rw[eA] at nd
 obtain⟨np,ndB⟩:=List.nodup_cons.mp nd
 have hpB1:p∉B1:=fun z=>apB p z i pin
 have st:∀ws,T3 H2 (upd H2 p (.lst ws)):=fun ws=>⟨fun b ys h=>by
   by_cases e:b=p
   ·subst e;rw[hp] at h;cases h
   ·rw[j9 e];exact h,fun b u w' h=>by
   by_cases e:b=p
   ·subst e;rw[hp] at h;cases h
   ·rw[j9 e];exact h,fun b h=>by
   by_cases e:b=p
   ·subst e;rw[h9] at h;cases h
   ·rw[j9 e] at h;exact h⟩
 obtain⟨C,rC,mC,nC⟩:=o5.set j rs r1'
 have hpC:p∉C:=fun z=>(mC p z).elim np hpB1
 have rn:Rep X.K (upd H2 p (.lst (vs.set j w))) (.ref p) (.lst (xs.set j d)) (p::C):=.lst h9 (rC.mono (st _) fun a ha=>j9 fun e=>hpC (e▸ha))
 have n3:∀a∈p::C,a∈fa2 i\/a∈B1:=fun a ha=>by
  rcases List.mem_cons.mp ha with z | z
  ·exact .inl (z▸pin)
  ·exact(mC a z).imp (fun y=>by rw[eA];exact List.mem_cons_of_mem _ y) id
 have nod:(p::C).Nodup:=List.nodup_cons.mpr ⟨hpC,nC ndB n1 fun a ha z=>apB a ha i (by rw[eA];exact List.mem_cons_of_mem _ z)⟩
 have li:i<ρ2.length:=(List.getElem?_eq_some_iff.mp e1).1
 refine⟨p,vs,kk,j,rfl,rfl,hp,by rw[rs.length];exact hj,?_⟩
 exact le.nx _ _ ⟨_,_,E2.put own li hv' pin aU (by rw[h9];exact fun z=>nomatch z) rn nod fun a ha=>(n3 a ha).imp id fun y=>⟨E.stb.dom a (n2 a y).1,E.kT (n2 a y).1,apB a y⟩,q⟩
end
def fA(K:PySem.W.Frag)(J:It)(xs:List D)(C:List Addr)(H:Hp):Prop:=∀H',Tf H H'->(∀a∈C,H' a=H a)->∀i,(xs.length=i->J.stop i H') /\
 ∀d,xs[i]?=some d->J.go i H'/\∀x H2,J.yld i H' x H2->i3 H' H2/\∃B,Rep K H2 x d B/\B.Sublist C
abbrev yC:=Ev->(List D->Prop)->Prop
abbrev GC:=Ev->(List D->Ev->Prop)->Prop
structure bq(X:Cx)(cl:List Cl)(tg iter:Expr)(f:Fl)(u:yC):Prop where
 of ::
 run:∃wi,PI X tg iter wi/\∀(G:Ent) (ρ:Ev) (σ:St) (H:Hp) (fa:Nat->List Addr) (Q:List D->Prop) (R:It->Hp->Prop),G.cl=cl->E3 X.K G ρ σ H fa->u ρ Q ->
  (∀J H1 xs C,i3 H H1->fA X.K J xs C H1->(∀a∈C,H1 a≠none)->B0 G H fa C f->Q xs->R J H1)->wi σ H R
structure KW(X:Cx)(cl:List Cl)(tg iter:Expr)(u:GC):Prop where
 of ::
 run:∃wi,PI X tg iter wi/\∀(G:Ent) (ρ:Ev) (σ:St) (H:Hp) (fa:Nat->List Addr) (Q:List D->Ev->Prop) (R:It->Hp->Prop),G.cl=cl->E3 X.K G ρ σ H fa->u ρ Q ->
  (∀J H1 xs C ρ1 fa1,E3 X.K G ρ1 σ H1 fa1->P5 X.K G H fa H1 fa1->fA X.K J xs C H1->(∀a∈C,H1 a≠none)->(∀i,G.own i->∀a∈C,a∉fa1 i)->Q xs ρ1->R J H1)->wi σ H R
section
variable{X:Cx}{cl:List Cl}{tg e a b:Expr}{es:List Expr}{f:Fl}{pos pos':Pos}{ua ub:TU}{ma mb:TM}{x:Str}{i:Nat}
def iP(u:yC):GC:=fun ρ Q=>u ρ fun xs=>Q xs ρ
theorem bq.m{u:yC}(h:bq X cl tg e f u)(hf:gP f .stab=true):KW X cl tg e (iP u):=.of<|by
 obtain⟨t,p,h⟩:=h.run
 exact⟨t,p,fun G ρ σ H fa Q R hG E hu k=>h G ρ σ H fa _ _ hG E hu fun J H1 xs C s it tr fo q=>k J H1 xs C ρ fa (E.same s) (P5.same s) it tr (fo.weak E hf) q⟩
theorem fg{K:PySem.W.Frag}{H H':Hp}{vs:List V}{xs:List D}{C:List Addr}(r:o5 K H vs xs C)(tf:Tf H H')(k:∀a∈C,H' a=H a){i:Nat}{d:D}(e:xs[i]?=some d):∃v B,vs[i]?=some v/\Rep K H' v d B/\B.Sublist C:=(r.G4 tf k).get e
theorem MP{K:PySem.W.Frag}{H:Hp}{p:Addr}{vs:List V}{xs:List D}{C:List Addr}(h:H p=some (.lst vs))(r:o5 K H vs xs C):fA K (KH K p) xs (p::C) H:=fun H' tf k i=>by
 have hp:H' p=some (.lst vs):=(k p List.mem_cons_self).trans h
 have kC:∀a∈C,H' a=H a:=fun a ha=>k a (List.mem_cons_of_mem _ ha)
 refine⟨fun hl=>⟨vs,N7.of hp,by rw[r.length];exact Nat.le_of_eq hl⟩,fun d e=>?_⟩
 obtain⟨v,B,e1,r1,s1⟩:=fg r tf kC e
 refine⟨⟨vs,v,N7.of hp,e1⟩,fun y H2 hy=>?_⟩
 obtain⟨e2,hy⟩:=hy
 subst e2
 have e3:=hy vs (N7.of hp)
 rw[e1] at e3
 cases e3
 exact⟨i3.refl _,B,r1,s1.trans (List.sublist_cons_self _ _)⟩
theorem MQ{K:PySem.W.Frag}{H:Hp}{p:Addr}{vs:List V}{xs:List D}{C:List Addr}(h:Fq K H p vs)(r:o5 K H vs xs C):fA K (KH K p) xs C H:=fun H' tf k i=>by
 have hp:N7 K H' p vs:=(tf.Mv h).sq
 refine⟨fun hl=>⟨vs,hp,by rw[r.length];exact Nat.le_of_eq hl⟩,fun d e=>?_⟩
 obtain⟨v,B,e1,r1,s1⟩:=fg r tf k e
 refine⟨⟨vs,v,hp,e1⟩,fun y H2 hy=>?_⟩
 obtain⟨e2,hy⟩:=hy
 subst e2
 have e3:=hy vs hp
 rw[e1] at e3
 cases e3
 exact⟨i3.refl _,B,r1,s1⟩
theorem Mh{K:PySem.W.Frag}{H:Hp}{p:Addr}{vs:List V}{xs:List D}{C:List Addr}(h:H p=some (.tup vs))(r:o5 K H vs xs C):fA K (Lc K p) xs C H:=fun H' tf k i=>by
 have hp:R8 K H' p vs:=R8.of (tf.R9 _ _ h)
 refine⟨fun hl=>⟨vs,hp,by rw[r.length];exact Nat.le_of_eq hl⟩,fun d e=>?_⟩
 obtain⟨v,B,e1,r1,s1⟩:=fg r tf k e
 refine⟨⟨vs,v,hp,e1⟩,fun y H2 hy=>?_⟩
 obtain⟨e2,hy⟩:=hy
 subst e2
 have e3:=hy vs hp
 rw[e1] at e3
 cases e3
 exact⟨i3.refl _,B,r1,s1⟩
theorem o5.there{K:PySem.W.Frag}{H:Hp}{v:List V}{d:List D}{A:List Addr}(r:o5 K H v d A):∀x∈A,H x≠none:=fun x hx z=>by
 have:=r.Y4 x hx
 rw[z] at this
 exact this
def eO(lo:Int)(n:Nat):List D:=(List.range n).map fun(k:Nat)=>D.int (lo+(k:Int))
theorem itR{K:PySem.W.Frag}{H:Hp}(lo:Int)(n:Nat):fA K (Jg lo n) (eO lo n) [] H:=fun H' tf k i=>by
 refine⟨fun hl=>by unfold eO at hl;rw[List.length_map,List.length_range] at hl;exact Nat.le_of_eq hl,fun d e=>?_⟩
 unfold eO at e
 rw[List.getElem?_map] at e
 by_cases hi:i<n
 ·rw[List.getElem?_range hi] at e
  cases e
  refine⟨hi,fun y H2 hy=>?_⟩
  obtain⟨e2,rfl⟩:=hy
  subst e2
  exact⟨i3.refl _,[],.int,List.nil_sublist _⟩
 ·rw[List.getElem?_eq_none (by rw[List.length_range];omega)] at e
  cases e
def Kv(u:TM):GC:=fun ρ Q=>u ρ fun d ρ'=>match d with
 | .int j=>(-(2^62)<=j/\j<2^62)/\Q (eO 0 j.toNat) ρ'
 | _=>False
theorem uR {p:Pos} (hg:Gl X "range") (hm:X.mg "range"=none) (h:PN X cl e ma) (hst:isStar e=false)
  (mk:∀{t},PA X [e] t->PI X tg (.Call (.Name "range" p) [e] [] pos) (xo t)):KW X cl tg (.Call (.Name "range" p) [e] [] pos) (Kv ma):=.of<|by
 obtain⟨t,pt,h⟩:=h.run
 refine⟨_,mk (bG pt Q4 hst),fun G ρ σ H fa Q R hG E hu k=>h G ρ σ H fa _ _ hG E hu fun v H' d B ρ' fa' E' c r n q=>?_⟩
 cases d<;>first | exact(show False from q).elim | skip
 rename_i j
 cases y4 r
 have q:(-(2^62)<=j/\j<2^62)/\Q (eO 0 j.toNat) ρ':=q
 exact⟨j,rfl,q.1.1,q.1.2,k _ H' _ [] ρ' fa' E' c (itR 0 _) (fun a ha=>(by cases ha)) (fun _ _ a ha=>(by cases ha)) q.2⟩
def eE(u:TU):yC:=fun ρ Q=>u ρ fun d=>match d with
 | .int j=>(-(2^62)<=j/\j<2^62)/\Q (eO 0 j.toNat)
 | _=>False
theorem R1 {p:Pos} (hg:Gl X "range") (hm:X.mg "range"=none) (h:PU X cl e f ua) (hst:isStar e=false)
  (mk:∀{t},PA X [e] t->PI X tg (.Call (.Name "range" p) [e] [] pos) (xo t)):bq X cl tg (.Call (.Name "range" p) [e] [] pos) .fresh (eE ua):=.of<|by
 obtain⟨t,pt,h⟩:=h.run
 refine⟨_,mk (bG pt Q4 hst),fun G ρ σ H fa Q R hG E hu k=>h G ρ σ H fa _ _ hG E hu fun v H' d B s r fo q=>?_⟩
 cases d<;>first | exact(show False from q).elim | skip
 rename_i j
 cases y4 r
 have q:(-(2^62)<=j/\j<2^62)/\Q (eO 0 j.toNat):=q
 exact⟨j,rfl,q.1.1,q.1.2,k _ H' _ [] s (itR 0 _) (fun a ha=>(by cases ha)) (B0.nil _) q.2⟩
def kindB(b:Bool)(d:D):Option (List D):=match b,d with
 | false,.lst ys=>some ys
 | false,.fz ys=>some ys
 | true,.tup ys=>some ys
 | _,_=>none
end
end L3
namespace L2
open PySem PySem.Spec PyProof.Rows
theorem jt{X:Cx}{N:List Str}{scope:Scope}{cap:List (Option Nat)}{fp:List Addr}{pins:List (Addr×Obj)}{σ:St}{H:Hp}{s:Shared}{elt target iter:Expr}{ifs:List Expr}{pos:Pos}{g:List (Str×Addr)->List Addr->Shared->Hp->TG}{tc:List (Str×Addr)->List Addr->Shared->Hp->TT}{te:List (Str×Addr)->List Addr->Shared->Hp->TE}{J:It}{it:Addr}{tn:Nat->Heap->Prop}
  {E:Value->Shared->Prop} {RR:Value->Addr->Result->Shared->Prop} {Q:VK} (hcalm:X.calm=true) (cf:O4 X N scope cap) (hk:scope.kind=.function)
  (hg:∀cl fp s H,PG (M4 X N scope cl fp s H) target (g cl fp s H)) (hc:∀cl fp s H,AG (M4 X N scope cl fp s H) ifs (tc cl fp s H)) (he:∀cl fp s H,PE (M4 X N scope cl fp s H) elt (te cl fp s H))
  (I:Inv X pins σ H s) (T:Turn X.prog X.w X.K target J fp it tn) (st:tn 0 s.heap) (hf:∀b∈fp,U8 X pins H b) (q:∀cl fp s H',KP J (g cl fp s H') (tc cl fp s H') (te cl fp s H') (P1 cap σ) Q H)
  (hRR:∀d C H' s' m,Inv X pins σ H' s'->s'.heap.Ns C m->U8 X pins H' C->Q (.ref d) H'->RR (.ref d) C (.ok .next) s') :
  wpAny (model X.prog X.w) X.A (newList []) (fun acc s3=>wpAny (model X.prog X.w) X.A (newFunctionEnv scope X.env.globals (D0 X.env scope.names []) [] X.env.qual none .none (some X.env)) (fun cenv s4=>
   codeAny (model X.prog X.w) X.A (.compStart (.ListComp elt [⟨target,iter,ifs,0⟩] scope pos) 0 (.ref it) acc { cenv with scope:=relabel scope X.env }) (RR acc cenv.locals) s4) E s3) E s:=by
 refine wpAny_newObj_type (wpAny_newFunctionEnv cf.nocell (by intro y hy;simp at hy) (fun h1 hns hsb=>?_) hk)
 have I3:Inv X pins σ (upd H s.heap.objs.size (.lst [])) { s with heap:=s.heap.push { cls:=.type "list",data:=.seq ([]:List Value).toArray } }:=I.BE (its:=[]) (t':=s.toks) .nil (Nat.zero_le _)
 have hfr:H s.heap.objs.size=none:=I.fresh
 obtain⟨W,⟨m0,w0⟩,turn⟩:=q (D0 X.env scope.names []) fp { s with heap:=s.heap.push { cls:=.type "list",data:=.seq ([]:List Value).toArray } } (upd H s.heap.objs.size (.lst [])) s.heap.objs.size hfr
 have hlt:∀b∈fp,b<s.heap.objs.size:=fun b hb=>by
  obtain⟨o,e,_⟩:=T.obj 0 _ st b hb
  exact Heap.lt_size e
 have hf3:∀b∈fp,U8 X pins (upd H s.heap.objs.size (.lst [])) b:=fun b hb=>⟨by rw[j9 (Nat.ne_of_lt (hlt b hb))];exact(hf b hb).1,(hf b hb).2⟩
 have hlt3:∀b∈fp,b<(s.heap.push { cls:=.type "list",data:=.seq ([]:List Value).toArray }).objs.size:=fun b hb=>by
  rw[Heap.size_push]
  exact Nat.lt_succ_of_lt (hlt b hb)
 dsimp only at hns hsb ⊢
 generalize hS3:({ s with heap:=s.heap.push { cls:=.type "list",data:=.seq ([]:List Value).toArray } }:Shared)=s3 at I3 turn
 have hheap:s3.heap=s.heap.push { cls:=.type "list",data:=.seq ([]:List Value).toArray }:=by rw[<-hS3]
 have htok:s3.toks=s.toks:=by rw[<-hS3]
 rw[<-hheap] at hns hsb hlt3
 have keep3:∀b o,s3.heap.get? b=some o->h1.get? b=some o:=fun b o e=>hsb.extBut b o (Nat.ne_of_lt (Heap.lt_size e)) (Heap.get?_push_of_some _ e)
 have keep:∀b o,s.heap.get? b=some o->h1.get? b=some o:=fun b o e=>keep3 b o (by rw[hheap];exact Heap.get?_push_of_some _ e)
 have Ic:=lh (tk:=s.toks) I3 cf hk hf3 hlt3 hns keep3
 have st1:tn 0 h1:=T.keep 0 _ _ st fun b _ o e=>keep b o e
 have fr0:∀b∈fp,(upd H s.heap.objs.size (.lst [])) b=none:=fun b hb=>(hf3 b hb).1
 have stat:∀{H':Hp},(∀b∈fp,H' b=none)->∀b∈fp,U8 (M4 X N scope (D0 X.env scope.names []) fp s3 (upd H s.heap.objs.size (.lst []))) [] H' b:=fun hn b hb=>
  ⟨hn b hb,Nat.ne_of_lt (hlt3 b hb),Ic.ok.exfs b hb,.inl hb,fun x c h=>(hf b hb).2.2.2.2.1 x c (Z8 h),fun p hp=>absurd (show p∈([]:List (Addr×Obj)) from hp) (by simp)⟩
 have hos:s3.os=s.os:=by rw[<-hS3]
 have hge:s3.gens=s.gens:=by rw[<-hS3]
 have loop:codeAny (model X.prog X.w) X.A (.compLoop (.ListComp elt [⟨target,iter,ifs,0⟩] scope pos) 0 (.ref it) (.ref s.heap.objs.size) (compEnvC scope (D0 X.env scope.names []) s3.heap.objs.size X.env))
   (RR (.ref s.heap.objs.size) s3.heap.objs.size) { s3 with heap:=h1,toks:=s.toks }:=by
  refine jH (fun n s'=>∃i H',Inv (M4 X N scope (D0 X.env scope.names []) fp s3 (upd H s.heap.objs.size (.lst []))) [] (P1 cap σ) H' s'/\tn i s'.heap/\(∀b∈fp,H' b=none)/\W i n H') ?_ m0 ⟨0,_,Ic,st1,fr0,w0⟩
  rintro n s4 ⟨i,H4,I4,st4,fr4,w4⟩
  rcases turn i n H4 w4 with⟨stop,qn⟩ | ⟨go,step⟩
  ·refine A4 (T.done (M4 X N scope (D0 X.env scope.names []) fp s3 (upd H s.heap.objs.size (.lst []))) rfl rfl rfl hcalm i [] s4 _ H4 (fun _ _=>False) I4 (stat fr4) st4 stop) fun r s5 ⟨hr,I5⟩=>?_
   subst hr
   obtain⟨m,hn5,_⟩:=I5.loc
   refine hRR _ _ H4 s5 m ?_ hn5 (I3.oF (Nat.le_refl _) I5.free) qn
   exact I3.Fg I5.os I5.base I5.hok I5.bare fun b hb=>⟨(hf b hb).2.2.2.1,(hf b hb).2.1,(hf b hb).2.2.2.2.1,(hf b hb).2.2.2.2.2⟩
  ·refine A4 (T.item (M4 X N scope (D0 X.env scope.names []) fp s3 (upd H s.heap.objs.size (.lst []))) rfl rfl rfl hcalm i [] s4 _ H4 (fun _ _=>False) I4 (stat fr4) st4 go) fun r s5 ⟨u,hr,h5⟩=>?_
   subst hr
   refine A4 h5 fun _ s6 ⟨x,H6,I6,r6,y6,st6,fr6⟩=>?_
   have I6':=I6.pinned (stat fr6) (T.obj _ _ st6)
   refine A4 (hg _ _ _ _ _ s6 _ H6 x u _ I6' r6 (step x H6 y6)) fun _ s7 ⟨σ7,H7,I7,q7⟩=>?_
   refine A4 (hc _ _ _ _ _ s7 σ7 H7 _ I7 q7) fun ok s8 ⟨H8,I8,q8⟩=>?_
   have again:∀{σ9:St} {H9:Hp} {s9:Shared},Inv (M4 X N scope (D0 X.env scope.names []) fp s3 (upd H s.heap.objs.size (.lst []))) ([]++cR fp s6.heap) σ9 H9 s9->(∃m',m'<n/\W (i+1) m' H9) ->
     ∃m,m<n/\∃i H',Inv (M4 X N scope (D0 X.env scope.names []) fp s3 (upd H s.heap.objs.size (.lst []))) [] (P1 cap σ) H' s9/\tn i s9.heap/\(∀b∈fp,H' b=none)/\W i m H':=fun {σ9 H9 s9} I9 ⟨m',hm,w9⟩=>by
    refine⟨m',hm,i+1,H9,jq I3 cf hf3 I9.au,T.keep _ _ _ st6 fun b hb o e=>(I9.pin (b,o) (List.mem_append_right _ (List.mem_append_right _ (M3 hb e)))).1,fun b hb=>?_,w9⟩
    obtain⟨o,e,d⟩:=T.obj _ _ st6 b hb
    exact(I9.pin (b,o) (List.mem_append_right _ (List.mem_append_right _ (M3 hb e)))).2.1
   cases ok with
   | false=>exact again I8 q8
   | true=>
    show wpAny _ _ (eval elt _) _ _ s8
    refine A4 (he _ _ _ _ _ s8 σ7 H8 _ I8 q8) fun y s9 ⟨v,H9,I9,r9,acc,hacc,hlen,m',hm,w9⟩=>?_
    refine A4 (E6 _ s9 σ7 H9 (.ref s.heap.objs.size) [v] (.ref s.heap.objs.size) [y] (fun _ H'=>H'=upd H9 s.heap.objs.size (.lst (acc++[v]))) I9 rfl (.cons r9 .nil) ⟨_,acc,v,rfl,rfl,hacc,hlen,rfl⟩) fun _ s10 ⟨_,H10,I10,_,e10⟩=>?_
    subst e10
    exact again I10 ⟨m',hm,w9⟩
 have e4:({ s with heap:=h1,toks:=s.toks+([]:List (Str×Value)).length }:Shared)={ s3 with heap:=h1,toks:=s.toks }:=by rw[<-hS3];rfl
 rw[<-hheap,e4]
 exact codeAny_compStart_list loop (T.self _ 0 _ _ _ st1 loop)
def Ka(cap:List (Option Nat))(wi:TI)(g:List (Str×Addr)->List Addr->Shared->Hp->TG)(tc:List (Str×Addr)->List Addr->Shared->Hp->TT)(te:List (Str×Addr)->List Addr->Shared->Hp->TE):TE:=fun σ H Q=>wi σ H fun J H1=>∀cl fp s H',KP J (g cl fp s H') (tc cl fp s H') (te cl fp s H') (P1 cap σ) Q H1
theorem GR{X:Cx}{XN N:List Str}{XS scope:Scope}{cap:List (Option Nat)}{elt target iter:Expr}{ifs:List Expr}{pos:Pos}{wi:TI}{g:List (Str×Addr)->List Addr->Shared->Hp->TG}{tc:List (Str×Addr)->List Addr->Shared->Hp->TT}{te:List (Str×Addr)->List Addr->Shared->Hp->TE}
  (hcap:ax XN N XS scope cap=true) (hN:X.N=XN) (hS:X.env.scope=XS) (hk:scope.kind=.function) (hcalm:X.calm=true) (hi:PI X target iter wi)
  (hg:∀cl fp s H,PG (M4 X N scope cl fp s H) target (g cl fp s H)) (hc:∀cl fp s H,AG (M4 X N scope cl fp s H) ifs (tc cl fp s H)) (he:∀cl fp s H,PE (M4 X N scope cl fp s H) elt (te cl fp s H))
  (hs:∀x,foldedSetIterable iter X.env x=pure x:=by intro _;rfl):PE X (.ListComp elt [⟨target,iter,ifs,0⟩] scope pos) (Ka cap wi g tc te):=by
 refine .of ?_
 intro pins s σ H Q I h
 have cf:=S2 hN hS hcap
 rw[eval_ListComp]
 refine wpAny_comprehension_free (use:=none) rfl hs (X9 (I.U7 cf)) hk cf.loc (A4 (hi pins s σ H _ I h) fun v s1 h1=>A4 h1 fun itv s2 h2=>?_)
 obtain⟨it,fp,tn,J,H2,rfl,I2,T,st2,f2,q⟩:=h2
 exact jt (RR:=fun acc C=>compPost (model X.prog X.w) X.A X.xe none (EP X pins σ Q) acc C) hcalm cf hk hg hc he I2 T st2 f2 q fun d C H' s' m I' hn hC q'=>⟨m,hn,fun h' sb=>⟨.ref d,H',I'.sR hC sb,rfl,q'⟩⟩
theorem iS{X:Cx}{i:Nat}{y:Str}{XN N:List Str}{XS scope:Scope}{cap:List (Option Nat)}{elt target iter:Expr}{ifs:List Expr}{pos spos py:Pos}{wi:TI}{g:List (Str×Addr)->List Addr->Shared->Hp->TG}{tc:List (Str×Addr)->List Addr->Shared->Hp->TT}{te:List (Str×Addr)->List Addr->Shared->Hp->TE}
  (hXN:X.N.Nodup) (hiN:X.N[i]?=some y) (hy:X.env.scope.names.lookup y=some .local)
  (hcap:ax XN N XS scope cap=true) (hN:X.N=XN) (hS:X.env.scope=XS) (hk:scope.kind=.function) (hcalm:X.calm=true) (hi:PI X target iter wi)
  (hg:∀cl fp s H,PG (M4 X N scope cl fp s H) target (g cl fp s H)) (hc:∀cl fp s H,AG (M4 X N scope cl fp s H) ifs (tc cl fp s H)) (he:∀cl fp s H,PE (M4 X N scope cl fp s H) elt (te cl fp s H))
  (hsw:swapsWith (.ListComp elt [⟨target,iter,ifs,0⟩] scope pos) (some (.Name y py)) spos.line X.env=pure true:=by rfl)
  (hs:∀x,foldedSetIterable iter X.env x=pure x:=by intro _;rfl):PS X (.Assign [.Name y py] (.ListComp elt [⟨target,iter,ifs,0⟩] scope pos) spos) (pU (Ka cap wi g tc te) (nX i)):=by
 refine .of ?_
 intro pins s σ H D I h
 have cf:=S2 hN hS hcap
 rw[exec_Assign_Name_used _ _ _ _ hsw]
 refine wpAny_bind (wpAny_standAt (wpAny_bind ?_))
 show wpAny _ X.A (do let _ <-comprehension (.ListComp elt [⟨target,iter,ifs,0⟩] scope pos) scope X.env _ (newList []) false (eval iter X.env) (some (assign (.Name y py) X.env))) _ _ s
 refine wpAny_bind (wpAny_mono (wpAny_comprehension_free (use:=some (assign (.Name y py) X.env)) (Q:=fun _ s'=>SP X pins D .next s') rfl hs (X9 (I.U7 cf)) hk cf.loc (A4 (hi pins s σ H _ I h) fun v s1 h1=>A4 h1 fun itv s2 h2=>?_))
  (fun _ s' hq=>wpAny_pure (wpAny_pure hq)) fun _ _ e=>e)
 obtain⟨it,fp,tn,J,H2,rfl,I2,T,st2,f2,q⟩:=h2
 refine jt (RR:=fun acc C=>compPost (model X.prog X.w) X.A X.xe (some (assign (.Name y py) X.env)) (fun _ s'=>SP X pins D .next s') acc C) hcalm cf hk hg hc he I2 T st2 f2 q fun d C H' s' m I' hn hC q'=>?_
 show wpAny _ _ (assign (.Name y py) X.env (.ref d)) _ _ s'
 refine wpAny_assign_Name (dq (v:=.ref d) I' hXN hiN (.inl hy) rfl (fun s2 I2 ⟨a,sb,ha⟩=>⟨m,hn.sameBut sb ?_,fun h' sb'=>⟨_,H',I2.sR hC sb',q'⟩⟩) (.inr hy))
 rcases ha with z | z
 ·rw[z];exact hC.2.1
 ·exact fun e=>hC.2.2.2.2.1 y a z e.symm
end L2
namespace L3
open PySem PySem.Spec L2
abbrev cQ:=D->Ev->(Ev->Prop)->Prop
abbrev pR:=List D->Ev->(Ev->Prop)->Prop
structure An(X:Cx)(cl:List Cl)(tg:Expr)(g:cQ):Prop where
 of ::
 run:∃t,PG X tg t/\∀(G:Ent) (ρ:Ev) (σ:St) (H:Hp) (fa:Nat->List Addr) (v:V) (d:D) (B:List Addr) (Q:Ev->Prop) (R:St->Hp->Prop),G.cl=cl->E3 X.K G ρ σ H fa->Rep X.K H v d B->(∀i,G.own i->∀a∈B,a∉fa i)->g d ρ Q ->
  (∀σ' ρ' fa',E3 X.K G ρ' σ' H fa'->(∀i,G.own i->fa' i=fa i/\σ'[i]?=σ[i]?)->(∀i,G.own i->ρ'[i]?=ρ[i]?)->Q ρ'->R σ' H)->t v σ H R
structure Bw(X:Cx)(cl:List Cl)(tgs:List Expr)(g:pR):Prop where
 of ::
 run:∃t,AE X tgs t/\∀(G:Ent) (ρ:Ev) (σ:St) (H:Hp) (fa:Nat->List Addr) (vs:List V) (ds:List D) (B:List Addr) (Q:Ev->Prop) (R:St->Hp->Prop),G.cl=cl->E3 X.K G ρ σ H fa->o5 X.K H vs ds B->(∀i,G.own i->∀a∈B,a∉fa i)->g ds ρ Q ->
  (∀σ' ρ' fa',E3 X.K G ρ' σ' H fa'->(∀i,G.own i->fa' i=fa i/\σ'[i]?=σ[i]?)->(∀i,G.own i->ρ'[i]?=ρ[i]?)->Q ρ'->R σ' H)->t vs σ H R
section
variable{X:Cx}{cl:List Cl}{tg e a b:Expr}{es:List Expr}{f:Fl}{pos pos':Pos}{ua ub:TU}{ma mb:TM}{x:Str}{i:Nat}
def g1(i:Nat):cQ:=fun d ρ Q=>Nat.blt i ρ.length=true/\Q (ρ.set i (some d))
theorem o4(h:PG X (.Name x pos) (nX i))(hc:cl[i]?=some .bor):An X cl (.Name x pos) (g1 i):=.of<|by
 refine⟨_,h,fun G ρ σ H fa v d B Q R hG E r n q k=>?_⟩
 have hb:G.cl[i]?=some .bor:=by rw[hG];exact hc
 have no:¬G.own i:=fun z=>by unfold Ent.own at z;rw[hb] at z;cases z
 refine k _ _ _ (E.set (Nat.le_of_ble_eq_true q.1) r ⟨fun j _ hj a ha=>n j hj a ha,by rw[hb];trivial⟩) (fun j hj=>?_) (fun j hj=>?_) q.2
 ·exact⟨if_neg fun e:j=i=>no (by rw[<-e];exact hj),List.getElem?_set_ne fun e=>no (by rw[e];exact hj)⟩
 ·exact List.getElem?_set_ne fun e=>no (by rw[e];exact hj)
def bR:pR:=fun ds ρ Q=>match ds with
 | []=>Q ρ
 | _=>False
def C6(g:cQ)(gs:pR):pR:=fun ds ρ Q=>match ds with
 | d::ds=>g d ρ fun ρ'=>gs ds ρ' Q
 | _=>False
theorem cT:Bw X cl [] bR:=.of<|by
 refine⟨_,CL,fun G ρ σ H fa vs ds B Q R hG E r n q k=>?_⟩
 cases ds with
 | cons _ _=>exact(show False from q).elim
 | nil=>
  cases r
  exact⟨rfl,k σ ρ fa E (fun _ _=>⟨rfl,rfl⟩) (fun _ _=>rfl) q⟩
theorem D9{g:cQ}{gs:pR}(h1:An X cl e g)(h2:Bw X cl es gs)(hs:(assignEach (e::es) X.env).map (·.2)=assign e X.env::(assignEach es X.env).map (·.2):=by rfl):Bw X cl (e::es) (C6 g gs):=.of<|by
 obtain⟨t1,p1,h1⟩:=h1.run
 obtain⟨t2,p2,h2⟩:=h2.run
 refine⟨_,xh p1 p2 hs,fun G ρ σ H fa vs ds B Q R hG E r n q k=>?_⟩
 cases ds with
 | nil=>exact(show False from q).elim
 | cons d ds=>
  cases r with
  | cons r1 r2=>
   refine⟨_,_,rfl,h1 G ρ σ H fa _ d _ _ _ hG E r1 (fun i hi a ha=>n i hi a (List.mem_append_left _ ha)) q fun σ' ρ' fa' E' k1 k1' q'=>?_⟩
   exact h2 G ρ' σ' H fa' _ ds _ Q R hG E' r2 (fun i hi a ha=>by rw[(k1 i hi).1];exact n i hi a (List.mem_append_right _ ha)) q' fun σ2 ρ2 fa2 E2 k2 k2' q2=>k σ2 ρ2 fa2 E2 (fun i hi=>⟨(k2 i hi).1.trans (k1 i hi).1,(k2 i hi).2.trans (k1 i hi).2⟩) (fun i hi=>(k2' i hi).trans (k1' i hi)) q2
def gT(gs:pR):cQ:=fun d ρ Q=>match d with
 | .tup ds=>gs ds ρ Q
 | _=>False
theorem AE.len{X:Cx}{tgs:List Expr}{t:Dz}(h:AE X tgs t):True:=trivial
theorem jk{gs:pR}{k n:Nat}(h:Bw X cl es gs)(hn:∀ds ρ Q,gs ds ρ Q->ds.length=n)(mk:∀{t},AE X es t->PG X (.Tuple es k pos) (Kh X.K n t)):An X cl (.Tuple es k pos) (gT gs):=.of<|by
 obtain⟨t,p,h⟩:=h.run
 refine⟨_,mk p,fun G ρ σ H fa v d B Q R hG E r nn q kk=>?_⟩
 cases d<;>first | exact(show False from q).elim | skip
 rename_i ds
 have q:gs ds ρ Q:=q
 obtain⟨a,vs,rfl,ha,rs⟩:=M7 r
 exact⟨a,vs,rfl,R8.of ha,by rw[rs.length];exact hn ds ρ Q q,h G ρ σ H fa vs ds B Q R hG E rs nn q kk⟩
structure Dl(g:cQ)(body:j7)(xs:List D)(T:Q6)(ρ:Ev):Prop where
 of ::
 ex:∃W:Nat->Ev->Prop,W 0 ρ/\(∀i d ρ,xs[i]?=some d->W i ρ->g d ρ fun ρ1=>body { nx:=W (i+1),rt:=T.rt,bk:=T.nx,ct:=W (i+1) } ρ1)/\∀ρ,W xs.length ρ->T.nx ρ
def Q5(ui:GC)(g:cQ)(body:j7):j7:=fun T ρ=>ui ρ fun xs ρ1=>Dl g body xs T ρ1
def frozen(G:Ent)(H:Hp)(C:List Addr):Ent:={ G with Z:=fun a=>G.Z a\/a∈C\/(H a≠none/\¬fe (H a)),Hz:=H }
theorem E3.freeze{K:PySem.W.Frag}{G:Ent}{ρ:Ev}{σ:St}{H:Hp}{fa:Nat->List Addr}{C:List Addr}(E:E3 K G ρ σ H fa)(h1:∀a∈C,H a≠none)(h2:∀i,G.own i->∀a∈C,a∉fa i):E3 K (frozen G H C) ρ σ H fa:=
 ⟨E.rep,E.emp,E.len,E.nd,E.dj,E.par,E.old,E.new,E.frm,E.stb,fun a _=>rfl,fun a z=>by
  rcases z with z | z | z
  ·show H a≠none
   rw[E.zk a z];exact E.zn a z
  ·exact h1 a z
  ·exact z.1,fun i hi a ha z=>by
  rcases z with z | z | z
  ·exact E.zo i hi a ha z
  ·exact h2 i hi a z ha
  ·exact z.2 (E.Y4 i a ha),⟨E.po.one,E.po.lk⟩⟩
theorem E3.Ii{K:PySem.W.Frag}{G:Ent}{ρ0 ρ:Ev}{σ0 σ:St}{H0 H:Hp}{fa0 fa:Nat->List Addr}{C:List Addr}(E0:E3 K G ρ0 σ0 H0 fa0)(E:E3 K (frozen G H0 C) ρ σ H fa):E3 K G ρ σ H fa:=
 ⟨E.rep,E.emp,E.len,E.nd,E.dj,E.par,E.old,E.new,E.frm,E.stb,fun a z=>(E.zk a (.inl z)).trans (E0.zk a z),E0.zn,fun i hi a ha z=>E.zo i hi a ha (.inl z),⟨E.po.one,E.po.lk⟩⟩
theorem E9{iter:Expr}{body:List Stmt}{ui:GC}{g:cQ}{sb:j7}(hi:KW X cl tg iter ui)(hg:An X cl tg g)(hb:je X cl body sb)
  (mk:∀{wi g tb},PI X tg iter wi->PG X tg g->oy X body tb->PS X (.For tg iter body [] pos) (Kt wi g tb)):K7 X cl (.For tg iter body [] pos) (Q5 ui g sb):=.of<|by
 obtain⟨wi,pi,hi⟩:=hi.run
 obtain⟨tg',pg,hg⟩:=hg.run
 obtain⟨tb,pb,hb⟩:=hb.run
 refine⟨_,mk pi pg pb,fun G T ρ σ H fa R hG E hu le=>hi G ρ σ H fa _ _ hG E hu fun J H1 xs C ρ1 fa1 E1 c1 it tr ap q=>?_⟩
 have F1:=E1.freeze tr ap
 obtain⟨W,w0,step,done⟩:=q.ex
 refine⟨fun i m σ' H'=>m=xs.length-i/\i<=xs.length/\∃ρ' fa',E3 X.K (frozen G H1 C) ρ' σ' H' fa'/\W i ρ',⟨xs.length,by simp,Nat.zero_le _,ρ1,fa1,F1,w0⟩,?_⟩
 rintro i m σ' H' ⟨rfl,hle,ρ',fa',E',q'⟩
 have tf:Tf H1 H':=⟨fun b ys h=>by
   rw[E'.zk b (.inr (.inr ⟨(by rw[h];intro z;cases z),(by rw[h];exact fun z=>z)⟩))];exact h,fun b o u h=>by
   rw[E'.zk b (.inr (.inr ⟨(by rw[h];intro z;cases z),(by rw[h];exact fun z=>z)⟩))];exact h⟩
 have kC:∀a∈C,H' a=H1 a:=fun a ha=>E'.zk a (.inr (.inl ha))
 by_cases hlt:i<xs.length
 ·right
  have ex:xs[i]?=some xs[i]:=List.getElem?_eq_getElem hlt
  obtain⟨go,yl⟩:=(it H' tf kC i).2 _ ex
  refine⟨go,vW X.K (frozen G H1 C) (W (i+1)),fun σ2 H2 hn=>?_,fun y H2 hy=>?_⟩
  ·obtain⟨ρ2,fa2,E2,q2⟩:=hn
   exact⟨xs.length-(i+1),by omega,rfl,hlt,ρ2,fa2,E2,q2⟩
  ·obtain⟨s2,B,rB,sB⟩:=yl y H2 hy
   refine hg (frozen G H1 C) ρ' σ' H2 fa' y _ B _ _ hG (E'.same s2) rB (fun j hj a ha z=>E'.zo j hj a z (.inr (.inl (sB.mem ha)))) (step i _ ρ' ex q') fun σ3 ρ3 fa3 E3' _ _ q3=>?_
   refine hb (frozen G H1 C) _ ρ3 σ3 H2 fa3 _ hG E3' q3 ⟨fun _ _ h=>h,fun v H3 h=>?_,fun σ4 H4 h=>?_,fun _ _ h=>h⟩
   ·obtain⟨d,ρ5,σ5,fa5,B5,E5,r5,n5,m5,l5,q5⟩:=h
    exact le.rt v H3 ⟨d,ρ5,σ5,fa5,B5,E1.Ii E5,r5,n5,m5,l5,q5⟩
   ·obtain⟨ρ5,fa5,E5,q5⟩:=h
    exact le.nx σ4 H4 ⟨ρ5,fa5,E1.Ii E5,q5⟩
 ·have ei:i=xs.length:=by omega
  subst ei
  left
  exact⟨(it H' tf kC _).1 rfl,le.nx _ _ ⟨ρ',fa',E1.Ii E',done ρ' q'⟩⟩
def yZ(mc:rQ)(body:j7):j7:=fun T ρ=>∃W:Nat->Ev->Prop,(∃m,W m ρ)/\∀m ρ,W m ρ->mc ρ fun b ρ'=>Br b (body { nx:=fun ρ2=>∃m',m'<m/\W m' ρ2,rt:=T.rt,bk:=T.nx,ct:=fun ρ2=>∃m',m'<m/\W m' ρ2 } ρ') (T.nx ρ')
theorem BZ{c:Expr}{body:List Stmt}{mc:rQ}{sb:j7}(hp:PassesOwn (model X.prog X.w) X.A X.env X.xe)(hc:Iu X cl c mc)(hb:je X cl body sb):K7 X cl (.While c body [] pos) (yZ mc sb):=.of<|by
 obtain⟨tc,pc,hc⟩:=hc.run
 obtain⟨tb,pb,hb⟩:=hb.run
 refine⟨_,wZ hp pc pb,fun G T ρ σ H fa R hG E hu le=>?_⟩
 obtain⟨W,⟨m0,w0⟩,step⟩:=hu
 refine⟨fun m σ' H'=>∃ρ' fa',E3 X.K G ρ' σ' H' fa'/\W m ρ',⟨m0,ρ,fa,E,w0⟩,?_⟩
 rintro m σ1 H1 ⟨ρ1,fa1,E1,w1⟩
 refine hc G ρ1 σ1 H1 fa1 _ _ hG E1 (step m ρ1 w1) fun b H2 ρ2 fa2 E2 c2 q=>?_
 cases b with
 | true=>
  rw[if_pos rfl]
  refine⟨vW X.K G (fun ρ2=>∃m',m'<m/\W m' ρ2),fun σ3 H3 h=>?_,hb G _ ρ2 σ1 H2 fa2 _ hG E2 (q.t rfl) ⟨fun _ _ h=>h,le.rt,le.nx,fun _ _ h=>h⟩⟩
  obtain⟨ρ3,fa3,E3',m',hm,w3⟩:=h
  exact⟨m',hm,ρ3,fa3,E3',w3⟩
 | false=>rw[if_neg Bool.false_ne_true];exact le.nx _ _ ⟨ρ2,fa2,E2,q.f rfl⟩
def aG(cap:List (Option Nat))(ρ:Ev):Ev:=cap.map fun o=>match o with
 | some j=>(ρ[j]?).join
 | none=>none
def J4(cap:List (Option Nat)):List Cl:=cap.map fun _=>.bor
theorem fU{cap:List (Option Nat)}{σ:St}{p j:Nat}{v:V}(h:cap[p]?=some (some j))(e:σ[j]?=some (some v)):(P1 cap σ)[p]?=some (some v):=by
 unfold P1
 rw[List.getElem?_map,h]
 show some ((σ[j]?).join)=_
 rw[e];rfl
theorem nF{cap:List (Option Nat)}{ρ:Ev}{p:Nat}{d:D}(h:(aG cap ρ)[p]?=some (some d)):∃j,cap[p]?=some (some j)/\ρ[j]?=some (some d):=by
 unfold aG at h
 rw[List.getElem?_map] at h
 cases e:cap[p]? with
 | none=>rw[e] at h;cases h
 | some o=>
  rw[e] at h
  cases o with
  | none=>cases h
  | some j=>
   have h:some ((ρ[j]?).join)=some (some d):=h
   cases e2:ρ[j]? with
   | none=>rw[e2] at h;cases h
   | some o=>rw[e2] at h;cases h;exact⟨j,rfl,e2⟩
def cN(cap:List (Option Nat))(ρ:Ev)(fa:Nat->List Addr)(p:Nat):List Addr:=match (aG cap ρ)[p]? with
 | some (some _)=>match cap[p]? with
  | some (some j)=>fa j
  | _=>[]
 | _=>[]
def gH(cap:List (Option Nat)):Ent:=⟨fun _=>none,fun _=>[],[],J4 cap,fun _=>False,fun _=>none⟩
theorem K8{cap:List (Option Nat)}{i:Nat}(h:(gH cap).own i):False:=by
 have h:(J4 cap)[i]?=some .own:=h
 unfold J4 at h
 rw[List.getElem?_map] at h
 cases e:cap[i]? with
 | none=>rw[e] at h;cases h
 | some o=>rw[e] at h;cases h
theorem lR{cap:List (Option Nat)}{i:Nat}(h:(gH cap).cl[i]?=some .loc):False:=by
 have h:(J4 cap)[i]?=some .loc:=h
 unfold J4 at h
 rw[List.getElem?_map] at h
 cases e:cap[i]? with
 | none=>rw[e] at h;cases h
 | some o=>rw[e] at h;cases h
theorem Cv{cap:List (Option Nat)}{i:Nat}{H':Hp}(h:(gH cap).cl[i]?=some (.mk H')):False:=by
 have h:(J4 cap)[i]?=some (.mk H'):=h
 unfold J4 at h
 rw[List.getElem?_map] at h
 cases e:cap[i]? with
 | none=>rw[e] at h;cases h
 | some o=>rw[e] at h;cases h
theorem E3.comp{K:PySem.W.Frag}{G:Ent}{ρ:Ev}{σ:St}{H:Hp}{fa:Nat->List Addr}(cap:List (Option Nat))(E:E3 K G ρ σ H fa):E3 K (gH cap) (aG cap ρ) (P1 cap σ) H (cN cap ρ fa):=by
 refine⟨fun i d e=>?_,fun i e=>?_,by unfold aG P1;simp,fun i h=>h.elim (fun z=>(K8 z).elim) fun z=>(lR z).elim,fun i j _ h=>(K8 h).elim,fun i _ h=>(K8 h).elim,fun i _ h=>(K8 h).elim,fun i h=>h.elim (fun z=>(lR z).elim) fun z=>(K8 z.1).elim,
  fun a o h=>(nomatch h),⟨fun b xs h=>(nomatch h),fun b o u h=>(nomatch h),fun _ _=>rfl⟩,fun a z=>z.elim,fun a z=>z.elim,fun i h=>(K8 h).elim,⟨fun i _ h=>(K8 h).elim,fun j H' h=>(Cv h).elim⟩⟩
 ·obtain⟨j,e1,e2⟩:=nF e
  obtain⟨v,e3,r⟩:=E.rep j d e2
  refine⟨v,fU e1 e3,?_⟩
  unfold cN
  rw[e,e1]
  exact r
 ·unfold cN
  split
  ·rename_i d h
   exact absurd h (e d)
  ·rfl
def oq(g:cQ)(tc:cL)(te:TU)(ρ0:Ev):List D->List D->(List D->Prop)->Prop
 | [],acc,Q=>Q acc
 | x::xs,acc,Q=>g x ρ0 fun ρ1=>tc ρ1 fun b=>Br b (te ρ1 fun d=>oq g tc te ρ0 xs (acc++[d]) Q) (oq g tc te ρ0 xs acc Q)
def mZ(cap:List (Option Nat))(ui:yC)(g:cQ)(tc:cL)(te:TU):TU:=fun ρ Q=>ui ρ fun xs=>xs.length<sizeLine/\oq g tc te (aG cap ρ) xs [] fun ds=>Q (.lst ds)
structure tE(X:Cx)(cl:List Cl)(es:List Expr)(u:cL):Prop where
 of ::
 run:∃t,AG X es t/\∀(G:Ent) (ρ:Ev) (σ:St) (H:Hp) (fa:Nat->List Addr) (Q:Bool->Prop) (R:Bool->Hp->Prop),G.cl=cl->E3 X.K G ρ σ H fa->u ρ Q ->
  (∀b H',i3 H H'->Q b->R b H')->t σ H R
def Y7:cL:=fun _ Q=>Q true
theorem G1:tE X cl [] Y7:=.of ⟨_,rR,fun G ρ σ H fa Q R _ E hu k=>k true H (i3.refl H) hu⟩
theorem ko{tc:cL}(h:T7 X cl e tc):tE X cl [e] tc:=.of<|let ⟨t,p,h⟩:=h.run;⟨t,Ds p,h⟩
theorem Mw{K:PySem.W.Frag}{cap:List (Option Nat)}{g3:cQ}{tc3:cL}{te3:TU}{J:It}{g:TG}{tc:TT}{te:TE}{xs:List D}{C:List Addr}{ρ:Ev}{σ:St}{G:Ent}{H1:Hp}{fa:Nat->List Addr}{Q:List D->Prop}{R:VK}
  (hg:∀(G:Ent) (ρ:Ev) (σ:St) (H:Hp) (fa:Nat->List Addr) (v:V) (d:D) (B:List Addr) (Q:Ev->Prop) (R:St->Hp->Prop),G.cl=J4 cap->E3 K G ρ σ H fa->Rep K H v d B->(∀i,G.own i->∀a∈B,a∉fa i)->g3 d ρ Q ->
   (∀σ' ρ' fa',E3 K G ρ' σ' H fa'->(∀i,G.own i->fa' i=fa i/\σ'[i]?=σ[i]?)->(∀i,G.own i->ρ'[i]?=ρ[i]?)->Q ρ'->R σ' H)->g v σ H R)
  (hc:∀(G:Ent) (ρ:Ev) (σ:St) (H:Hp) (fa:Nat->List Addr) (Q:Bool->Prop) (R:Bool->Hp->Prop),G.cl=J4 cap->E3 K G ρ σ H fa->tc3 ρ Q->(∀b H',i3 H H'->Q b->R b H')->tc σ H R)
  (he:∀(G:Ent) (ρ:Ev) (σ:St) (H:Hp) (fa:Nat->List Addr) (Q:D->Prop) (R:VK),G.cl=J4 cap->E3 K G ρ σ H fa->te3 ρ Q->(∀v H' d B,i3 H H'->Rep K H' v d B->B0 G H fa B .fresh->Q d->R v H')->te σ H R)
  (E:E3 K G ρ σ H1 fa) (it:fA K J xs C H1) (tr:∀a∈C,H1 a≠none) (hn:xs.length<sizeLine) (q:oq g3 tc3 te3 (aG cap ρ) xs [] Q)
  (k:∀d H' ds B,i3 H1 H'->Rep K H' (.ref d) (.lst ds) B->B.Nodup->(∀a∈B,H1 a=none)->Q ds->R (.ref d) H'):KP J g tc te (P1 cap σ) R H1:=by
 intro d hd
 refine⟨fun i m H=>m=xs.length-i/\i<=xs.length/\i3 H1 H/\∃acc ds B,H d=some (.lst acc)/\acc.length<=i/\o5 K H acc ds B/\B.Nodup/\d∉B/\(∀a∈B,H1 a=none)/\oq g3 tc3 te3 (aG cap ρ) (xs.drop i) ds Q,
  ⟨xs.length,by simp,Nat.zero_le _,i3.i8 hd,[],[],[],h9,Nat.le_refl _,.nil,List.nodup_nil,(by simp),(fun a ha=>by cases ha),q⟩,?_⟩
 rintro i m H ⟨rfl,hle,s1,acc,ds,B,hacc,hal,rs,nB,dB,hB,q⟩
 have tf:Tf H1 H:=⟨fun b ys h=>s1 _ _ h,fun b o u h=>s1 _ _ h⟩
 have kC:∀a∈C,H a=H1 a:=fun a ha=>by
  obtain⟨o,eo⟩:=Option.ne_none_iff_exists'.mp (tr a ha)
  rw[eo];exact s1 a o eo
 by_cases hlt:i<xs.length
 ·right
  obtain⟨go,yl⟩:=(it H tf kC i).2 _ (List.getElem?_eq_getElem hlt)
  rw[List.drop_eq_getElem_cons hlt] at q
  refine⟨go,fun y H2 hy=>?_⟩
  obtain⟨s2,By,rB,sB⟩:=yl y H2 hy
  have E2:=(E.same (s1.trans s2)).comp cap
  refine hg (gH cap) _ _ H2 _ y _ By _ _ rfl E2 rB (fun j hj=>(K8 hj).elim) q fun σ3 ρ3 fa3 E3' _ _ q3=>?_
  refine hc (gH cap) ρ3 σ3 H2 fa3 _ _ rfl E3' q3 fun b H3 s3 q4=>?_
  have hacc3:H3 d=some (.lst acc):=s3 _ _ (s2 _ _ hacc)
  cases b with
  | false=>
   rw[if_neg Bool.false_ne_true]
   exact⟨xs.length-(i+1),by omega,rfl,hlt,(s1.trans s2).trans s3,acc,ds,B,hacc3,by omega,(rs.same s2).same s3,nB,dB,hB,q4.f rfl⟩
  | true=>
   rw[if_pos rfl]
   refine he (gH cap) ρ3 σ3 H3 fa3 _ _ rfl (E3'.same s3) (q4.t rfl) fun v H4 dv Bv s4 rv fo q5=>?_
   have hacc4:H4 d=some (.lst acc):=s4 _ _ hacc3
   have s14:i3 H1 H4:=((s1.trans s2).trans s3).trans s4
   have hdBv:d∉Bv:=fun z=>by rw[fo.2 d z] at hacc3;cases hacc3
   have st:T3 H4 (upd H4 d (.lst (acc++[v]))):=⟨fun b ys h=>by
     by_cases e:b=d
     ·subst e;rw[hacc4] at h;cases h
     ·rw[j9 e];exact h,fun b u w' h=>by
     by_cases e:b=d
     ·subst e;rw[hacc4] at h;cases h
     ·rw[j9 e];exact h,fun b h=>by
     by_cases e:b=d
     ·subst e;rw[h9] at h;cases h
     ·rw[j9 e] at h;exact h⟩
   have rs4:=((rs.same s2).same s3).same s4
   refine⟨acc,hacc4,by omega,xs.length-(i+1),by omega,rfl,hlt,fun b o e=>?_,acc++[v],ds++[dv],B++(Bv++[]),h9,by rw[List.length_append,List.length_singleton];omega,?_,?_,?_,fun a ha=>?_,q5⟩
   ·rw[j9 (C3 e hd)]
    exact s14 _ _ e
   ·exact(rs4.mono st fun a ha=>j9 fun e=>dB (e▸ha)).append (.cons (rv.mono st fun a ha=>j9 fun e=>hdBv (e▸ha)) .nil)
   ·rw[List.append_nil]
    refine List.nodup_append.mpr ⟨nB,fo.1,fun a ha b hb e=>?_⟩
    subst e
    exact((rs.same s2).same s3).there a ha (fo.2 a hb)
   ·rw[List.append_nil]
    exact fun z=>(List.mem_append.mp z).elim dB hdBv
   ·rw[List.append_nil] at ha
    rcases List.mem_append.mp ha with z | z
    ·exact hB a z
    ·exact((s1.trans s2).trans s3).free (fo.2 a z)
 ·have ei:i=xs.length:=by omega
  subst ei
  left
  rw[List.drop_length] at q
  refine⟨(it H tf kC _).1 rfl,k d H ds (d::B) s1 (.lst hacc rs) (List.nodup_cons.mpr ⟨dB,nB⟩) (fun a ha=>?_) q⟩
  rcases List.mem_cons.mp ha with z | z
  ·rw[z];exact hd
  ·exact hB a z
section
variable{XN N:List Str}{XS scope:Scope}{cap:List (Option Nat)}{elt target iter:Expr}{ifs:List Expr}{ui:yC}{g3:cQ}{tc3:cL}{te3:TU}
theorem Y1(hcap:ax XN N XS scope cap=true)(hN:X.N=XN)(hS:X.env.scope=XS)(hk:scope.kind=.function)(hcalm:X.calm=true)(hi:bq X cl target iter f ui)
  (hg:∀c fp s H,An (M4 X N scope c fp s H) (J4 cap) target g3) (hc:∀c fp s H,tE (M4 X N scope c fp s H) (J4 cap) ifs tc3) (he:∀c fp s H,PU (M4 X N scope c fp s H) (J4 cap) elt .fresh te3)
  (hs:∀x,foldedSetIterable iter X.env x=pure x:=by intro _;rfl):PU X cl (.ListComp elt [⟨target,iter,ifs,0⟩] scope pos) .fresh (mZ cap ui g3 tc3 te3):=.of<|by
 obtain⟨wi,pi,hi⟩:=hi.run
 refine⟨_,GR (g:=fun c fp s H=>Classical.choose (hg c fp s H).run) (tc:=fun c fp s H=>Classical.choose (hc c fp s H).run) (te:=fun c fp s H=>Classical.choose (he c fp s H).run) hcap hN hS hk hcalm pi
  (fun c fp s H=>(Classical.choose_spec (hg c fp s H).run).1) (fun c fp s H=>(Classical.choose_spec (hc c fp s H).run).1) (fun c fp s H=>(Classical.choose_spec (he c fp s H).run).1) hs,fun G ρ σ H fa Q R hG E hu k=>?_⟩
 refine hi G ρ σ H fa _ _ hG E hu fun J H1 xs C s it tr fo q=>fun c fp s' H'=>?_
 refine Mw (K:=X.K) (Classical.choose_spec (hg c fp s' H').run).2 (Classical.choose_spec (hc c fp s' H').run).2 (Classical.choose_spec (he c fp s' H').run).2 (E.same s) it tr q.1 q.2 fun d H2 ds B s2 r n1 n2 q2=>?_
 exact k _ H2 _ B (s.trans s2) r ⟨n1,fun a ha=>s.free (n2 a ha)⟩ q2
theorem kc{i:Nat}{y:Str}{spos py:Pos}(hXN:X.N.Nodup)(hiN:X.N[i]?=some y)(hy:X.env.scope.names.lookup y=some .local)(hci:Dp cl[i]? .fresh i=true)
  (hcap:ax XN N XS scope cap=true) (hN:X.N=XN) (hS:X.env.scope=XS) (hk:scope.kind=.function) (hcalm:X.calm=true) (hi:bq X cl target iter f ui)
  (hg:∀c fp s H,An (M4 X N scope c fp s H) (J4 cap) target g3) (hc:∀c fp s H,tE (M4 X N scope c fp s H) (J4 cap) ifs tc3) (he:∀c fp s H,PU (M4 X N scope c fp s H) (J4 cap) elt .fresh te3)
  (hsw:swapsWith (.ListComp elt [⟨target,iter,ifs,0⟩] scope pos) (some (.Name y py)) spos.line X.env=pure true:=by rfl)
  (hs:∀x,foldedSetIterable iter X.env x=pure x:=by intro _;rfl):K7 X cl (.Assign [.Name y py] (.ListComp elt [⟨target,iter,ifs,0⟩] scope pos) spos) (y8 i (mZ cap ui g3 tc3 te3)):=.of<|by
 obtain⟨wi,pi,hi⟩:=hi.run
 refine⟨_,iS (g:=fun c fp s H=>Classical.choose (hg c fp s H).run) (tc:=fun c fp s H=>Classical.choose (hc c fp s H).run) (te:=fun c fp s H=>Classical.choose (he c fp s H).run) hXN hiN hy hcap hN hS hk hcalm pi
  (fun c fp s H=>(Classical.choose_spec (hg c fp s H).run).1) (fun c fp s H=>(Classical.choose_spec (hc c fp s H).run).1) (fun c fp s H=>(Classical.choose_spec (he c fp s H).run).1) hsw hs,fun G T ρ σ H fa R hG E hu le=>?_⟩
 refine hi G ρ σ H fa _ _ hG E hu fun J H1 xs C s it tr fo q=>fun c fp s' H'=>?_
 refine Mw (K:=X.K) (Classical.choose_spec (hg c fp s' H').run).2 (Classical.choose_spec (hc c fp s' H').run).2 (Classical.choose_spec (he c fp s' H').run).2 (E.same s) it tr q.1 q.2 fun d H2 ds B s2 r n1 n2 q2=>?_
 exact le.nx _ _ ⟨_,_,(E.same (s.trans s2)).set (Nat.le_of_ble_eq_true q2.1) r (fT.of (f:=.fresh) E ⟨n1,fun a ha=>s.free (n2 a ha)⟩ (by rw[hG];exact hci)),q2.2⟩
end
end
end L3
namespace L2
open PySem PySem.Spec PyProof.Rows
section
variable{X:Cx}
theorem gQ:∀{bs:List Str} {us:List Value},Vals (bs.map V.str) us->StrsAre us bs
 | [],_,r=>by cases r;exact .nil
 | b::bs,_,r=>by
  cases r with
  | cons h t=>obtain⟨u,rfl⟩:=h;exact .cons b u (gQ t)
def rJoin(K:PySem.W.Frag):V->List V->Hp->VK->Prop:=fun x vs H Q=>∃z p ys,x=.str z/\vs=[.ref p]/\N7 K H p (ys.map V.str)/\(ys.map (·.length)).sum+ys.length*z.length<=16777216/\Q (.str (Txt.join z ys)) H
theorem CH:Mp X "str.join" (rJoin X.K):=by
 intro pins s σ H x xs v us Q I rx rs h
 obtain⟨z,p,ys,rfl,rfl,hq,hn,q⟩:=h
 obtain⟨t,rfl⟩:=rx
 obtain⟨u,rfl,rp⟩:=vals1 rs
 cases rp
 obtain⟨its,rv,pl,hz⟩:=I.list hq
 exact join_list pl.isList (by simpa using gQ rv) hn fun t' k=>⟨.str _,H,I.tok _,⟨_,rfl⟩,q⟩
theorem AI:N0 X (binaryOp .Mult) (fun x y H Q=>∃z n,x=.str z/\y=.int n/\MulOk z n/\Q (.str (Txt.mul z n)) H):=by
 intro pins s σ H x y v u Q I rx ry h
 obtain⟨z,n,rfl,rfl,hm,q⟩:=h
 obtain⟨t,rfl⟩:=rx
 obtain⟨t',rfl⟩:=ry
 exact SB.mul hm fun t' k=>⟨.str _,H,I.tok _,⟨_,rfl⟩,q⟩
end
end L2
namespace L3
open PySem PySem.Spec L2
section
variable{X:Cx}{cl:List Cl}{e a b:Expr}{es:List Expr}{f:Fl}{pos:Pos}{ua ub:TU}{ma mb:TM}{fa fb:Fl}
theorem o5.strs{K:PySem.W.Frag}{H:Hp}:∀{bs:List Str} {vs:List V} {A:List Addr},o5 K H vs (bs.map D.str) A->vs=bs.map V.str
 | [],_,_,r=>by cases r;rfl
 | b::bs,_,_,r=>by
  cases r with
  | cons h t=>rw[C4 h,t.strs];rfl
theorem aP{K:PySem.W.Frag}{H:Hp}{v:V}{d:D}{A:List Addr}{xs:List D}(r:Rep K H v d A)(e:kindB false d=some xs):∃p vs B,v=.ref p/\N7 K H p vs/\o5 K H vs xs B/\B.Sublist A:=by
 cases d<;>first | cases e | skip
 ·obtain⟨p,vs,C,rfl,hp,rs,rfl⟩:=G8 r
  exact⟨p,vs,C,rfl,N7.of hp,rs,List.sublist_cons_self _ _⟩
 ·obtain⟨p,vs,rfl,hp,rs⟩:=kF r
  exact⟨p,vs,A,rfl,hp.sq,rs,List.Sublist.refl _⟩
def tyName:D->Option String
 | .non=>some "NoneType"
 | .bl _=>some "bool"
 | .int _=>some "int"
 | .str _=>some "str"
 | .lst _=>some "list"
 | .tup _=>some "tuple"
 | .dic _=>some "dict"
 | _=>none
def DF(a T:String):Bool:=a == T||(a =="bool" && T =="int")
def pz:List String:=["int","bool","str","list","tuple","dict"]
def GX:List D->(D->Prop)->Prop:=fun ds Q=>∃d a T,ds=[d,.ty T]/\tyName d=some a/\pz.contains T=true/\Q (.bl (DF a T))
theorem AV (K:PySem.W.Frag) {a T:String} (ha:["NoneType","bool","int","str","list","tuple","dict"].contains a=true) (hT:pz.contains T=true):PySem.W.kitOne K (.type a) (.type T)=some (DF a T):=by
 have h1:a="NoneType" \/ a="bool" \/ a="int" \/ a="str" \/ a="list" \/ a="tuple" \/ a="dict":=by simpa using ha
 have h2:T="int" \/ T="bool" \/ T="str" \/ T="list" \/ T="tuple" \/ T="dict":=by simpa[pz] using hT
 rcases h1 with rfl | rfl | rfl | rfl | rfl | rfl | rfl<;>rcases h2 with rfl | rfl | rfl | rfl | rfl | rfl<;>first | rfl | decide +kernel
theorem Kr{K:PySem.W.Frag}{H:Hp}{v:V}{d:D}{A:List Addr}{n:String}(r:Rep K H v d A)(e:tyName d=some n):bM K H v (.type n)/\["NoneType","bool","int","str","list","tuple","dict"].contains n=true:=by
 cases r<;>first | (cases e;done) | skip
 ·cases e;exact⟨.non,rfl⟩
 ·cases e;exact⟨.bl _,rfl⟩
 ·cases e;exact⟨.int _,rfl⟩
 ·cases e;exact⟨.str _,rfl⟩
 ·cases e;rename_i h _;exact⟨.tup h,rfl⟩
 ·cases e;rename_i h _;exact⟨.lst h,rfl⟩
 ·cases e;rename_i h _;exact⟨.dK (.inr ⟨_,h⟩),rfl⟩
theorem EH:Call3 X (fun xs H Q=>∃x c t cv b,xs=[x,c]/\Kl c=some cv/\bM X.K H x t/\PySem.W.kitOne X.K t cv=some b/\Q (.bl b) H) GX:=by
 intro H vs ds A Q R r q k
 obtain⟨d,n,T,rfl,e,hT,q⟩:=q
 obtain⟨v,w,B,C,rfl,r1,r2,_⟩:=r.two
 cases r2
 obtain⟨t1,t2⟩:=Kr r1 e
 exact⟨_,_,_,_,_,rfl,rfl,t1,AV X.K t2 hT,k _ H _ _ (i3.refl H) .bl List.nodup_nil (fun _ h=>(by cases h)) q⟩
theorem EA{x:Str}{T:String}(h:PE X (.Name x pos) (tC (.ty T))):PU X cl (.Name x pos) .fresh (uC (.ty T)):=.of ⟨_,h,fun G ρ σ H fa Q R _ E hu k=>k _ H _ _ (i3.refl H) .ty (B0.nil _) hu⟩
def EV:D->D->(D->Prop)->Prop:=fun d e Q=>∃(z:Str) (xs:List D) (ys:List Str),d=.str z/\kindB false e=some xs/\xs=ys.map D.str/\(ys.map (·.length)).sum+ys.length*z.length<=16777216/\Q (.str (Txt.join z ys))
theorem CS{H:Hp}{v w:V}{d e:D}{A B:List Addr}{Q:D->Prop}{R:VK}(r1:Rep X.K H v d A)(r2:Rep X.K H w e B)(q:EV d e Q)(k:∀y,Q (.str y)->R (.str y) H):rJoin X.K v [w] H R:=by
 obtain⟨z,xs,ys,rfl,e1,rfl,hn,q⟩:=q
 cases C4 r1
 obtain⟨p,ws,B,rfl,hq,rr,_⟩:=aP r2 e1
 cases rr.strs
 exact⟨z,p,ys,rfl,rfl,hq,hn,k _ q⟩
def Ad(ua ub:TU):TU:=fun ρ Q=>ua ρ fun x=>isStrD x=true/\ub ρ fun y=>EV x y Q
where isStrD:D->Bool
 | .str _=>true
 | _=>false
theorem uJ{d:D}(h:Ad.isStrD d=true):∃z,d=.str z:=by
 cases d<;>first | exact⟨_,rfl⟩ | cases h
theorem Dj {apos:Pos} (ha:PU X cl a fa ua) (hb:PU X cl b fb ub) (hst:isStar b=false) (mk:∀{to t},PE X a to->PA X [b] t->PE X (.Call (.Attribute a "join" apos) [b] [] pos) (LH X.K "str" (rJoin X.K) to t)):PU X cl (.Call (.Attribute a "join" apos) [b] [] pos) .fresh (Ad ua ub):=.of<|by
 obtain⟨ta,pa,ha⟩:=ha.run
 obtain⟨tb,pb,hb⟩:=hb.run
 refine⟨_,mk pa (bG pb Q4 hst),fun G ρ σ H fo Q R hG E hu k=>ha G ρ σ H fo _ _ hG E hu fun v H1 d A s1 r1 f1 q1=>?_⟩
 obtain⟨hz,q1⟩:=q1
 obtain⟨z,rfl⟩:=uJ hz
 cases C4 r1
 refine⟨rfl,hb G ρ σ H1 fo _ _ hG (E.same s1) q1 fun w H2 e B s2 r2 f2 q2=>?_⟩
 exact CS (r1.same s2) r2 q2 fun y qy=>k _ H2 _ _ (s1.trans s2) .str (B0.nil _) qy
def IK:D->D->(D->Prop)->Prop
 | .str z,.int n,Q=>MulOk z n/\Q (.str (Txt.mul z n))
 | _,_,_=>False
theorem GZ:br X (fun x y H Q=>∃z n,x=.str z/\y=.int n/\MulOk z n/\Q (.str (Txt.mul z n)) H) IK:=by
 intro H v w d e A B Q R r1 r2 q k
 cases d<;>cases e<;>first | exact q.elim | skip
 cases C4 r1;cases y4 r2
 exact⟨_,_,rfl,rfl,q.1,k _ H _ _ (i3.refl H) .str List.nodup_nil (fun _ h=>(by cases h)) q.2⟩
def Li:D->D->(D->Prop)->Prop
 | .lst xs,.lst ys,Q=>A2 xs=true/\A2 ys=true/\xs.length+ys.length<=sizeLine/\Q (.lst (xs++ys))
 | _,_,_=>False
theorem Ke:br X Im Li:=by
 intro H v w d e A B Q R r1 r2 q k
 cases d<;>cases e<;>first | exact q.elim | skip
 obtain⟨p1,vs,B1,rfl,h1,rs1,_⟩:=G8 r1
 obtain⟨p2,ws,B2,rfl,h2,rs2,_⟩:=G8 r2
 obtain⟨i1,i2,hn,q⟩:=q
 have e1:=rs1.C7 i1
 have e2:=rs2.C7 i2
 subst e1
 subst e2
 refine⟨p1,p2,vs,ws,rfl,rfl,h1,h2,by rw[rs1.length,rs2.length];exact hn,fun l hl=>k _ _ _ [l] (i3.i8 hl) (.lst h9 ((rs1.same (i3.i8 hl)).append (rs2.same (i3.i8 hl)))) (by simp) (fun a ha=>?_) q⟩
 have:a=l:=by simpa using ha
 rw[this];exact hl
def cutD(xs:List D)(lo hi:Option Int):List D:=(xs.drop (HT.D1 xs.length 0 lo)).take (HT.D1 xs.length xs.length hi-HT.D1 xs.length 0 lo)
abbrev Ge:=Ev->(Option Int->Prop)->Prop
structure KR(X:Cx)(cl:List Cl)(e:Option Expr)(u:Ge):Prop where
 of ::
 run:∃t,PO X e t/\∀(G:Ent) (ρ:Ev) (σ:St) (H:Hp) (fa:Nat->List Addr) (Q:Option Int->Prop) (R:Option Int->Hp->Prop),G.cl=cl->E3 X.K G ρ σ H fa->u ρ Q->(∀o H',i3 H H'->Q o->R o H')->t σ H R
def jz:Ge:=fun _ Q=>Q none
def bt(u:TU):Ge:=fun ρ Q=>u ρ fun d=>match d with
 | .int i=>Q (some i)
 | _=>False
theorem cM:KR X cl none jz:=.of ⟨_,BI,fun G ρ σ H fa Q R _ E hu k=>k none H (i3.refl H) hu⟩
theorem W8(h:PU X cl e f ua):KR X cl (some e) (bt ua):=.of<|by
 obtain⟨t,p,h⟩:=h.run
 refine⟨_,Cj p,fun G ρ σ H fa Q R hG E hu k=>h G ρ σ H fa _ _ hG E hu fun v H' d B s r _ q=>?_⟩
 cases d<;>first | exact(show False from q).elim | skip
 cases y4 r
 exact⟨_,rfl,k _ H' s q⟩
end
def N5:List (Option Nat)->Nat->List Cl
 | [],_=>[]
 | _::r,0=>.own::J4 r
 | _::r,p+1=>.bor::N5 r p
theorem jN{r:List (Option Nat)}{q:Nat}{c:Cl}(h:(J4 r)[q]?=some c):c=.bor:=by
 unfold J4 at h
 rw[List.getElem?_map] at h
 cases e:r[q]? with
 | none=>rw[e] at h;cases h
 | some o=>rw[e] at h;cases h;rfl
theorem aK:∀{cap:List (Option Nat)} {p q:Nat},(N5 cap p)[q]?=some .own->q=p
 | [],_,_,h=>by simp[N5] at h
 | _::r,0,0,_=>rfl
 | _::r,0,q+1,h=>by
  rw[N5,List.getElem?_cons_succ] at h
  exact nomatch jN h
 | _::r,p+1,0,h=>by rw[N5] at h;cases h
 | _::r,p+1,q+1,h=>by
  rw[N5,List.getElem?_cons_succ] at h
  rw[aK h]
theorem ot:∀{cap:List (Option Nat)} {p q:Nat},(N5 cap p)[q]?=some .loc->False
 | [],_,_,h=>by simp[N5] at h
 | _::r,0,0,h=>by rw[N5] at h;cases h
 | _::r,0,q+1,h=>by
  rw[N5,List.getElem?_cons_succ] at h
  exact nomatch jN h
 | _::r,p+1,0,h=>by rw[N5] at h;cases h
 | _::r,p+1,q+1,h=>by
  rw[N5,List.getElem?_cons_succ] at h
  exact ot h
theorem rT:∀{cap:List (Option Nat)} {p q:Nat} {H':Hp},(N5 cap p)[q]?=some (.mk H')->False
 | [],_,_,_,h=>by simp[N5] at h
 | _::r,0,0,_,h=>by rw[N5] at h;cases h
 | _::r,0,q+1,_,h=>by
  rw[N5,List.getElem?_cons_succ] at h
  exact nomatch jN h
 | _::r,p+1,0,_,h=>by rw[N5] at h;cases h
 | _::r,p+1,q+1,_,h=>by
  rw[N5,List.getElem?_cons_succ] at h
  exact rT h
def hW(cap:List (Option Nat))(p:Nat):Ent:=⟨fun _=>none,fun _=>[],[],N5 cap p,fun _=>False,fun _=>none⟩
theorem E3.JW{K:PySem.W.Frag}{G:Ent}{ρ:Ev}{σ:St}{H:Hp}{fa:Nat->List Addr}{cap:List (Option Nat)}{p j:Nat}(E:E3 K G ρ σ H fa)(own:G.own j)(hp:cap[p]?=some (some j))(hq:∀q,cap[q]?=some (some j)->q=p):E3 K (hW cap p) (aG cap ρ) (P1 cap σ) H (cN cap ρ fa):=by
 have fj:∀a∈cN cap ρ fa p,a∈fa j:=fun a ha=>by
  unfold cN at ha
  split at ha
  ·rw[hp] at ha;exact ha
  ·cases ha
 refine⟨fun i d e=>?_,fun i e=>?_,by unfold aG P1;simp,fun i h=>?_,fun i l n h a ha=>?_,fun i h=>absurd h (Nat.not_lt_zero _),fun i h=>absurd h (Nat.not_lt_zero _),fun i h a _=>rfl,
  fun a o h=>(nomatch h),⟨fun b xs h=>(nomatch h),fun b o u h=>(nomatch h),fun _ _=>rfl⟩,fun a z=>z.elim,fun a z=>z.elim,fun i h a _ z=>z,⟨fun i h=>absurd h (Nat.not_lt_zero _),fun j H' h=>(rT h).elim⟩⟩
 ·obtain⟨j',e1,e2⟩:=nF e
  obtain⟨v,e3,r⟩:=E.rep j' d e2
  refine⟨v,fU e1 e3,?_⟩
  unfold cN
  rw[e,e1]
  exact r
 ·unfold cN
  split
  ·rename_i d h
   exact absurd h (e d)
  ·rfl
 ·rcases h with h | h
  ·have e:=aK h
   subst e
   unfold cN
   split
   ·rw[hp];exact E.nd j (.inl own)
   ·exact List.nodup_nil
  ·exact(ot h).elim
 ·have e:=aK h
  subst e
  have ha':=fj a ha
  intro z
  unfold cN at z
  split at z
  ·split at z
   ·rename_i j' hj'
    by_cases ej:j'=j
    ·subst ej
     exact n (hq l hj').symm
    ·exact E.dj j j' (Ne.symm ej) own a ha' z
   ·cases z
  ·cases z
structure JX(p j:Nat)(cap:List (Option Nat))(g:cQ)(tc:rQ)(te:TM)(xs:List D)(ρ:Ev)(Q:List D->Ev->Prop):Prop where
 of ::
 ex:∃W:Nat->List D->Ev->Prop,W 0 [] ρ/\(∀i x acc ρ,xs[i]?=some x->W i acc ρ->g x (aG cap ρ) fun ρ1=>tc ρ1 fun b ρ2=>Br b (te ρ2 fun d ρ3=>e5 p ρ3 fun l=>W (i+1) (acc++[d]) (ρ.set j (some l))) (e5 p ρ2 fun l=>W (i+1) acc (ρ.set j (some l))))/\∀acc ρ,W xs.length acc ρ->Q acc ρ
def Ms(p j:Nat)(cap:List (Option Nat))(ui:GC)(g:cQ)(tc:rQ)(te:TM):TM:=fun ρ Q=>ui ρ fun xs ρ1=>xs.length<sizeLine/\e5 j ρ1 fun _=>JX p j cap g tc te xs ρ1 fun ds ρ2=>Q (.lst ds) ρ2
theorem wI{K:PySem.W.Frag}{G:Ent}{ρ ρi:Ev}{σ σi:St}{H H2 H4:Hp}{fa fi:Nat->List Addr}{cap:List (Option Nat)}{p j:Nat}{l:D}(E:E3 K G ρ σ H fa)(own:G.own j)(hp:cap[p]?=some (some j))(hj:∃d,ρ[j]?=some (some d))(s:i3 H H2)
  (Ei:E3 K (hW cap p) ρi σi H4 fi) (cf:∀a o,H2 a=some o->a∉fa j->H4 a=some o) (cs:T3 H2 H4) (cn:∀a∈fi p,a∈fa j\/H2 a=none) (hop:(hW cap p).own p) (hσ:σi[p]?=(P1 cap σ)[p]?) (el:ρi[p]?=some (some l)) :
  E3 K G (ρ.set j (some l)) σ H4 (fun q=>if q=j then fi p else fa q)/\P5 K G H fa H4 (fun q=>if q=j then fi p else fa q):=by
 obtain⟨d0,e0⟩:=hj
 obtain⟨v,hv,_⟩:=E.rep j d0 e0
 have lj:j<ρ.length:=(List.getElem?_eq_some_iff.mp e0).1
 have new:∀a∈fi p,a∈fa j\/H a=none:=fun a ha=>(cn a ha).imp id fun y=>s.free y
 have keep:∀a o,H a=some o->a∉fa j->H4 a=some o:=fun a o h n=>cf a o (s a o h) n
 have stb:T3 H H4:=(T3.of s).trans cs
 have ch:P5 K G H fa H4 (fun q=>if q=j then fi p else fa q):=by
  refine⟨fun a o h n=>keep a o h (n j own),stb,fun i hi a ha=>?_,fun i hi=>if_neg fun e:i=j=>hi (by rw[e];exact own)⟩
  by_cases q:i=j
  ·subst q;rw[if_pos rfl] at ha;exact new a ha
  ·rw[if_neg q] at ha;exact .inl ha
 refine⟨E.step ch (by simp) (fun i hi=>List.getElem?_set_ne fun e=>hi (by rw[<-e];exact own)) (fun i d' hi e=>?_) (fun i hi e=>?_) (fun i hi=>?_) fun i i' n hi hi' a ha z=>?_,ch⟩
 ·by_cases q:i=j
  ·subst q
   rw[List.getElem?_set_self lj] at e
   cases e
   obtain⟨v',e1,r1⟩:=Ei.rep p l el
   rw[hσ,fU hp hv] at e1
   cases e1
   exact⟨v,hv,by rw[if_pos rfl];exact r1⟩
  ·rw[List.getElem?_set_ne (Ne.symm q)] at e
   obtain⟨w,e2,r4⟩:=E.rep i d' e
   refine⟨w,e2,?_⟩
   rw[if_neg q]
   refine r4.mono stb fun a ha=>?_
   obtain⟨o,eo⟩:=fe.some (r4.Y4 a ha)
   rw[eo]
   exact keep a o eo fun z=>E.dj i j q hi a ha z
 ·by_cases q:i=j
  ·subst q
   exact absurd (List.getElem?_set_self lj) (e l)
  ·rw[if_neg q]
   exact E.emp i fun d z=>e d (by rw[List.getElem?_set_ne (Ne.symm q)];exact z)
 ·by_cases q:i=j
  ·rw[if_pos q];exact Ei.nd p (.inl hop)
  ·rw[if_neg q];exact E.nd i (.inl hi)
 ·by_cases q:i=j
  ·rw[if_pos q] at ha
   have q':i'≠j:=fun e=>n (q.trans e.symm)
   rw[if_neg q'] at z
   rcases new a ha with y | y
   ·exact E.dj j i' (Ne.symm q') own a y z
   ·exact E.there i' z y
  ·rw[if_neg q] at ha
   by_cases q':i'=j
   ·rw[if_pos q'] at z
    rcases new a z with y | y
    ·exact E.dj i j q hi a ha y
    ·exact E.there i ha y
   ·rw[if_neg q'] at z
    exact E.dj i i' n hi a ha z
theorem MD{K:PySem.W.Frag}{cap:List (Option Nat)}{p j:Nat}{g3:cQ}{tc3:rQ}{te3:TM}{J:It}{g:TG}{tc:TT}{te:TE}{xs:List D}{C:List Addr}{ρ:Ev}{σ:St}{G:Ent}{H1:Hp}{fa:Nat->List Addr}{Q:List D->Ev->Prop}{R:VK}
  (own:G.own j) (hp:cap[p]?=some (some j)) (hq:∀q,cap[q]?=some (some j)->q=p) (hop:(hW cap p).own p) (hj0:∃d,ρ[j]?=some (some d))
  (hg:∀(G:Ent) (ρ:Ev) (σ:St) (H:Hp) (fa:Nat->List Addr) (v:V) (d:D) (B:List Addr) (Q:Ev->Prop) (R:St->Hp->Prop),G.cl=N5 cap p->E3 K G ρ σ H fa->Rep K H v d B->(∀i,G.own i->∀a∈B,a∉fa i)->g3 d ρ Q ->
   (∀σ' ρ' fa',E3 K G ρ' σ' H fa'->(∀i,G.own i->fa' i=fa i/\σ'[i]?=σ[i]?)->(∀i,G.own i->ρ'[i]?=ρ[i]?)->Q ρ'->R σ' H)->g v σ H R)
  (hc:∀(G:Ent) (ρ:Ev) (σ:St) (H:Hp) (fa:Nat->List Addr) (Q:Bool->Ev->Prop) (R:Bool->Hp->Prop),G.cl=N5 cap p->E3 K G ρ σ H fa->tc3 ρ Q->(∀b H' ρ' fa',E3 K G ρ' σ H' fa'->P5 K G H fa H' fa'->Q b ρ'->R b H')->tc σ H R)
  (he:∀(G:Ent) (ρ:Ev) (σ:St) (H:Hp) (fa:Nat->List Addr) (Q:D->Ev->Prop) (R:VK),G.cl=N5 cap p->E3 K G ρ σ H fa->te3 ρ Q->(∀v H' d B ρ' fa',E3 K G ρ' σ H' fa'->P5 K G H fa H' fa'->Rep K H' v d B->B.Nodup->(∀a∈B,H a=none/\∀i,a∉fa' i)->Q d ρ'->R v H')->te σ H R)
  (E:E3 K G ρ σ H1 fa) (it:fA K J xs C H1) (tr:∀a∈C,H1 a≠none) (ap:∀i,G.own i->∀a∈C,a∉fa i) (hn:xs.length<sizeLine) (q:JX p j cap g3 tc3 te3 xs ρ Q)
  (k:∀d H' ds B ρ' fa',E3 K G ρ' σ H' fa'->P5 K G H1 fa H' fa'->Rep K H' (.ref d) (.lst ds) B->B.Nodup->(∀a∈B,H1 a=none/\∀i,a∉fa' i)->Q ds ρ'->R (.ref d) H'):KP J g tc te (P1 cap σ) R H1:=by
 intro d hd
 obtain⟨W,w0,step,done⟩:=q.ex
 have E1:E3 K G ρ σ (upd H1 d (.lst [])) fa:=E.same (i3.i8 hd)
 refine⟨fun i m H=>m=xs.length-i/\i<=xs.length/\∃ρ' fa' acc ds B,E3 K G ρ' σ H fa'/\P5 K G H1 fa H fa'/\(∃d,ρ'[j]?=some (some d))/\H d=some (.lst acc)/\(∀q,d∉fa' q)/\acc.length<=i/\o5 K H acc ds B/\B.Nodup/\d∉B/\(∀a∈B,H1 a=none/\∀q,a∉fa' q)/\W i ds ρ',
  ⟨xs.length,by simp,Nat.zero_le _,ρ,fa,[],[],[],E1,P5.same (i3.i8 hd),hj0,h9,fun q z=>E.there q z hd,Nat.le_refl _,.nil,List.nodup_nil,(by simp),(fun a ha=>by cases ha),w0⟩,?_⟩
 rintro i m H ⟨rfl,hle,ρ',fa',acc,ds,B,E',c',hj',hacc,hdf,hal,rs,nB,dB,hB,q⟩
 have tf:Tf H1 H:=c'.stb.tf
 have kC:∀a∈C,H a=H1 a:=fun a ha=>by
  obtain⟨o,eo⟩:=Option.ne_none_iff_exists'.mp (tr a ha)
  rw[eo];exact c'.frm a o eo fun i hi=>ap i hi a ha
 by_cases hlt:i<xs.length
 ·right
  obtain⟨go,yl⟩:=(it H tf kC i).2 _ (List.getElem?_eq_getElem hlt)
  refine⟨go,fun y H2 hy=>?_⟩
  obtain⟨s2,By,rB,sB⟩:=yl y H2 hy
  have E2:=(E'.same s2).JW (cap:=cap) (p:=p) own hp hq
  have capsub:∀a∈cN cap ρ' fa' p,a∈fa' j:=fun a ha=>by
   unfold cN at ha
   split at ha
   ·rw[hp] at ha;exact ha
   ·cases ha
  refine hg (hW cap p) _ _ H2 _ y _ By _ _ rfl E2 rB (fun l hl a ha z=>?_) (step i _ ds ρ' (List.getElem?_eq_getElem hlt) q) fun σ3 ρ3 fa3 E3' k3 k3' q3=>?_
  ·have e:=aK hl
   subst e
   exact c'.apart tr ap j own a (sB.mem ha) (capsub a z)
  refine hc (hW cap p) ρ3 σ3 H2 fa3 _ _ rfl E3' q3 fun b H3 ρ4 fa4 E4 c4 q4=>?_
  have oni:∀i,(hW cap p).own i->i=p:=fun i h=>aK h
  obtain⟨d0,e0⟩:=hj'
  have capj:cN cap ρ' fa' p=fa' j:=by
   have:(aG cap ρ')[p]?=some (some d0):=by
    unfold aG
    rw[List.getElem?_map,hp]
    show some ((ρ'[j]?).join)=_
    rw[e0];rfl
   unfold cN
   rw[this,hp]
  have f3:fa3 p=fa' j:=(k3 p hop).1.trans capj
  have σ3p:σ3[p]?=(P1 cap σ)[p]?:=(k3 p hop).2
  have turn:∀{H4:Hp} {fi:Nat->List Addr} {ρi:Ev} {l:D},E3 K (hW cap p) ρi σ3 H4 fi->P5 K (hW cap p) H2 fa3 H4 fi->ρi[p]?=some (some l) ->
    E3 K G (ρ'.set j (some l)) σ H4 (fun q=>if q=j then fi p else fa' q)/\P5 K G H fa' H4 (fun q=>if q=j then fi p else fa' q):=fun {H4 fi ρi l} Ei ci el=>
   wI E' own hp ⟨d0,e0⟩ s2 Ei (fun a o h n=>ci.frm a o h fun i hi=>by rw[oni i hi,f3];exact n) ci.stb (fun a ha=>by rw[<-f3];exact ci.new p hop a ha) hop σ3p el
  have lj:j<ρ'.length:=(List.getElem?_eq_some_iff.mp e0).1
  have djf:∀{fi:Nat->List Addr} {H4:Hp} {X':Addr},P5 K G H fa' H4 (fun q=>if q=j then fi p else fa' q)->H X'≠none->(∀q,X'∉fa' q)->∀q,X'∉(if q=j then fi p else fa' q):=fun {fi H4 X'} cc ht hnf q z=>by
   by_cases hqj:q=j
   ·rcases cc.new j own X' (by rw[if_pos rfl];rw[if_pos hqj] at z;exact z) with y | y
    ·exact hnf j y
    ·exact ht y
   ·rw[if_neg hqj] at z;exact hnf q z
  cases b with
  | false=>
   rw[if_neg Bool.false_ne_true]
   obtain⟨l,el,q5⟩:=u5 (q4.f rfl)
   obtain⟨Eo,co⟩:=turn E4 c4 el
   have hacc4:H3 d=some (.lst acc):=co.frm d _ hacc fun i _=>hdf i
   refine⟨xs.length-(i+1),by omega,rfl,hlt,_,_,acc,ds,B,Eo,c'.trans co,⟨l,List.getElem?_set_self lj⟩,hacc4,djf co (by rw[hacc];intro z;cases z) hdf,by omega,?_,nB,dB,fun a ha=>⟨(hB a ha).1,djf co (rs.there a ha) (hB a ha).2⟩,q5⟩
   exact rs.mono co.stb fun a ha=>by
    obtain⟨o,eo⟩:=fe.some (rs.Y4 a ha)
    rw[eo];exact co.frm a o eo fun i _=>(hB a ha).2 i
  | true=>
   rw[if_pos rfl]
   refine he (hW cap p) ρ4 σ3 H3 fa4 _ _ rfl E4 (q4.t rfl) fun v H4 dv Bv ρ5 fa5 E5 c5 rv nv mv q5=>?_
   obtain⟨l,el,q5⟩:=u5 q5
   have c45:=c4.trans c5
   obtain⟨Eo,co⟩:=turn E5 c45 el
   have hacc4:H4 d=some (.lst acc):=co.frm d _ hacc fun i _=>hdf i
   have hd4:=djf co (by rw[hacc];intro z;cases z) hdf
   have rs4:o5 K H4 acc ds B:=rs.mono co.stb fun a ha=>by
    obtain⟨o,eo⟩:=fe.some (rs.Y4 a ha)
    rw[eo];exact co.frm a o eo fun i _=>(hB a ha).2 i
   have hB4:∀a∈B,H1 a=none/\∀q,a∉(if q=j then fa5 p else fa' q):=fun a ha=>⟨(hB a ha).1,djf co (rs.there a ha) (hB a ha).2⟩
   have H3H:∀a,H3 a=none->H a=none:=fun a h=>s2.free (c4.stb.dom a h)
   have hBv:∀a∈Bv,H a=none:=fun a ha=>H3H a (mv a ha).1
   have fBv:∀a∈Bv,∀q,a∉(if q=j then fa5 p else fa' q):=fun a ha q z=>by
    by_cases hqj:q=j
    ·rw[if_pos hqj] at z;exact(mv a ha).2 p z
    ·rw[if_neg hqj] at z;exact E'.there q z (hBv a ha)
   have hdBv:d∉Bv:=fun z=>by rw[hBv d z] at hacc;cases hacc
   have st:T3 H4 (upd H4 d (.lst (acc++[v]))):=⟨fun b ys h=>by
     by_cases e:b=d
     ·subst e;rw[hacc4] at h;cases h
     ·rw[j9 e];exact h,fun b u w' h=>by
     by_cases e:b=d
     ·subst e;rw[hacc4] at h;cases h
     ·rw[j9 e];exact h,fun b h=>by
     by_cases e:b=d
     ·subst e;rw[h9] at h;cases h
     ·rw[j9 e] at h;exact h⟩
   have Ef:E3 K G (ρ'.set j (some l)) σ (upd H4 d (.lst (acc++[v]))) (fun q=>if q=j then fa5 p else fa' q):=Eo.away (A:=[d]) st (fun a o h n=>by rw[j9 (by simpa using n)];exact h)
    (fun q a ha=>by
     have:a=d:=by simpa using ha
     rw[this];exact hd4 q)
    (fun a ha=>by
     have:a=d:=by simpa using ha
     rw[this];exact E.stb.dom d hd)
    fun a ha=>by
     have:a=d:=by simpa using ha
     rw[this];exact E.kT hd
   have cfin:P5 K G H1 fa (upd H4 d (.lst (acc++[v]))) (fun q=>if q=j then fa5 p else fa' q):=by
    have ct:=c'.trans co
    exact⟨fun a o h n=>by rw[j9 (C3 h hd)];exact ct.frm a o h n,ct.stb.trans st,ct.new,ct.bor⟩
   refine⟨acc,hacc4,by omega,xs.length-(i+1),by omega,rfl,hlt,_,_,acc++[v],ds++[dv],B++(Bv++[]),Ef,cfin,⟨l,List.getElem?_set_self lj⟩,h9,hd4,by rw[List.length_append,List.length_singleton];omega,?_,?_,?_,fun a ha=>?_,q5⟩
   ·exact(rs4.mono st fun a ha=>j9 fun e=>dB (e▸ha)).append (.cons (rv.mono st fun a ha=>j9 fun e=>hdBv (e▸ha)) .nil)
   ·rw[List.append_nil]
    refine List.nodup_append.mpr ⟨nB,nv,fun a ha b hb e=>?_⟩
    subst e
    exact rs.there a ha (hBv a hb)
   ·rw[List.append_nil]
    exact fun z=>(List.mem_append.mp z).elim dB hdBv
   ·rw[List.append_nil] at ha
    rcases List.mem_append.mp ha with z | z
    ·exact hB4 a z
    ·exact⟨c'.stb.dom a (hBv a z),fBv a z⟩
 ·have ei:i=xs.length:=by omega
  subst ei
  left
  refine⟨(it H tf kC _).1 rfl,k d H ds (d::B) ρ' fa' E' c' (.lst hacc rs) (List.nodup_cons.mpr ⟨dB,nB⟩) (fun a ha=>?_) (done ds ρ' q)⟩
  rcases List.mem_cons.mp ha with z | z
  ·rw[z];exact⟨hd,hdf⟩
  ·exact hB a z
structure JO(X:Cx)(cl:List Cl)(es:List Expr)(u:rQ):Prop where
 of ::
 run:∃t,AG X es t/\∀(G:Ent) (ρ:Ev) (σ:St) (H:Hp) (fa:Nat->List Addr) (Q:Bool->Ev->Prop) (R:Bool->Hp->Prop),G.cl=cl->E3 X.K G ρ σ H fa->u ρ Q ->
  (∀b H' ρ' fa',E3 X.K G ρ' σ H' fa'->P5 X.K G H fa H' fa'->Q b ρ'->R b H')->t σ H R
section
variable{X:Cx}{cl:List Cl}{e:Expr}{pos:Pos}{XN N:List Str}{XS scope:Scope}{cap:List (Option Nat)}{elt target iter:Expr}{ifs:List Expr}{ui:GC}{g3:cQ}{tc3:rQ}{te3:TM}
def JH:rQ:=fun ρ Q=>Q true ρ
theorem AR:JO X cl [] JH:=.of ⟨_,rR,fun G ρ σ H fa Q R _ E hu k=>k true H ρ fa E P5.refl hu⟩
def pS(cap:List (Option Nat))(p j:Nat):Bool:=(cap[p]? == some (some j))&&(List.range cap.length).all fun q=>cap[q]? != some (some j)||q == p
theorem uj{cap:List (Option Nat)}{p j:Nat}(h:pS cap p j=true):cap[p]?=some (some j)/\∀q,cap[q]?=some (some j)->q=p:=by
 unfold pS at h
 rw[Bool.and_eq_true] at h
 refine⟨by simpa using h.1,fun q e=>?_⟩
 have hq:q<cap.length:=(List.getElem?_eq_some_iff.mp e).1
 have:=(List.all_eq_true.mp h.2) q (List.mem_range.mpr hq)
 rw[e] at this
 simpa using this
theorem xV{i:Nat}{y:Str}{spos py:Pos}(p j:Nat)(hXN:X.N.Nodup)(hiN:X.N[i]?=some y)(hy:X.env.scope.names.lookup y=some .local)(hci:eZ cl[i]? i=true)(hj:cl[j]?=some .own)(h1:pS cap p j=true)(h2:(N5 cap p)[p]?=some .own)
  (hcap:ax XN N XS scope cap=true) (hN:X.N=XN) (hS:X.env.scope=XS) (hk:scope.kind=.function) (hcalm:X.calm=true) (hi:KW X cl target iter ui)
  (hg:∀c fp s H,An (M4 X N scope c fp s H) (N5 cap p) target g3) (hc:∀c fp s H,JO (M4 X N scope c fp s H) (N5 cap p) ifs tc3) (he:∀c fp s H,PM (M4 X N scope c fp s H) (N5 cap p) elt te3)
  (hsw:swapsWith (.ListComp elt [⟨target,iter,ifs,0⟩] scope pos) (some (.Name y py)) spos.line X.env=pure true:=by rfl)
  (hs:∀x,foldedSetIterable iter X.env x=pure x:=by intro _;rfl):K7 X cl (.Assign [.Name y py] (.ListComp elt [⟨target,iter,ifs,0⟩] scope pos) spos) (G0 i (Ms p j cap ui g3 tc3 te3)):=.of<|by
 obtain⟨wi,pi,hi⟩:=hi.run
 obtain⟨hp,hq⟩:=uj h1
 refine⟨_,iS (g:=fun c fp s H=>Classical.choose (hg c fp s H).run) (tc:=fun c fp s H=>Classical.choose (hc c fp s H).run) (te:=fun c fp s H=>Classical.choose (he c fp s H).run) hXN hiN hy hcap hN hS hk hcalm pi
  (fun c fp s H=>(Classical.choose_spec (hg c fp s H).run).1) (fun c fp s H=>(Classical.choose_spec (hc c fp s H).run).1) (fun c fp s H=>(Classical.choose_spec (he c fp s H).run).1) hsw hs,fun G T ρ σ H fa R hG E hu le=>?_⟩
 have own:G.own j:=by unfold Ent.own;rw[hG];exact hj
 refine hi G ρ σ H fa _ _ hG E hu fun J H1 xs C ρ1 fa1 E1 c1 it tr ap q=>fun c fp s' H'=>?_
 obtain⟨d0,e0,q2⟩:=u5 q.2
 refine MD (K:=X.K) own hp hq h2 ⟨d0,e0⟩ (Classical.choose_spec (hg c fp s' H').run).2 (Classical.choose_spec (hc c fp s' H').run).2 (Classical.choose_spec (he c fp s' H').run).2 E1 it tr ap q.1 q2
  fun d H2 ds B ρ2 fa2 E2 c2 r n1 n2 q3=>?_
 exact le.nx _ _ ⟨_,_,E2.set (Nat.le_of_ble_eq_true q3.1) r (fT.new E2 E n1 (fun a ha=>⟨c1.stb.dom a (n2 a ha).1,(n2 a ha).2⟩) (by rw[hG];exact gg hci)),q3.2⟩
end
end L3
namespace L2
open PySem PySem.Spec PyProof.Rows
section
variable{κ:Type}[DecidableEq κ]
def Y8(kvs:List (κ×V))(k:κ):Option V:=(kvs.find? fun kv=>decide (kv.1=k)).map (·.2)
def putK(kvs:List (κ×V))(k:κ)(v:V):List (κ×V):=
 if (kvs.any fun kv=>decide (kv.1=k))=true then kvs.map (fun kv=>if kv.1=k then(kv.1,v) else kv) else kvs++[(k,v)]
theorem cI{p:κ×V}{r:List (κ×V)}{k:κ}(e:p.1=k):Y8 (p::r) k=some p.2:=by simp[Y8,List.find?_cons,e]
theorem ah{p:κ×V}{r:List (κ×V)}{k:κ}(e:¬p.1=k):Y8 (p::r) k=Y8 r k:=by simp[Y8,List.find?_cons,e]
theorem nS(k:κ):∀kvs:List (κ×V),(kvs.any fun kv=>decide (kv.1=k))=(Y8 kvs k).isSome
 | []=>rfl
 | p::r=>by
  rw[List.any_cons]
  by_cases e:p.1=k
  ·simp only[cI e,decide_eq_true e,Bool.true_or,Option.isSome_some]
  ·rw[ah e,decide_eq_false e,Bool.false_or];exact nS k r
theorem D4(kvs:List (κ×V))(k:κ)(v:V):(putK kvs k v).length<=kvs.length+1:=by
 unfold putK
 split
 ·rw[List.length_map];omega
 ·rw[List.length_append,List.length_cons,List.length_nil];omega
theorem bW.T8{o:Option V}{u:Option Value}(r:bW o u):o.isSome=u.isSome:=by
 cases o with
 | none=>cases u with
  | none=>rfl
  | some _=>exact(show False from r).elim
 | some _=>cases u with
  | none=>exact(show False from r).elim
  | some _=>rfl
theorem bW.getD{o:Option V}{u:Option Value}{d:V}{d':Value}(r:bW o u)(rd:RelV d d'):RelV (o.getD d) (u.getD d'):=by
 cases o with
 | none=>cases u with
  | none=>exact rd
  | some _=>exact(show False from r).elim
 | some _=>cases u with
  | none=>exact(show False from r).elim
  | some _=>exact r
theorem KV.val{kvs:List (κ×V)}{vs:List (κ×Value)}(r:KV kvs vs)(k:κ):bW (Y8 kvs k) (valueAt vs k):=by
 unfold KV at r
 induction r with
 | nil=>exact True.intro
 | @cons p q ps qs h t ih=>
  obtain⟨h1,h2⟩:=h
  by_cases e:p.1=k
  ·have e':q.1=k:=h1.symm.trans e
   have b:valueAt (q::qs) k=some q.2:=by simp[valueAt,List.find?_cons,e']
   rw[cI e,b];exact h2
  ·have e':¬q.1=k:=fun z=>e (h1.trans z)
   have b:valueAt (q::qs) k=valueAt qs k:=by simp[valueAt,List.find?_cons,e']
   rw[ah e,b];exact ih
theorem KV.any{kvs:List (κ×V)}{vs:List (κ×Value)}(r:KV kvs vs)(k:κ):(kvs.any fun kv=>decide (kv.1=k))=vs.any fun kv=>decide (kv.1=k):=by
 unfold KV at r
 induction r with
 | nil=>rfl
 | cons h t ih=>rw[List.any_cons,List.any_cons,ih,h.1]
theorem KV.tU{kvs:List (κ×V)}{vs:List (κ×Value)}(r:KV kvs vs)(k:κ){y:V}{u:Value}(ry:RelV y u) :
  KV (kvs.map fun kv=>if kv.1=k then(kv.1,y) else kv) (vs.map fun kv=>if kv.1=k then(kv.1,u) else kv):=by
 unfold KV at r ⊢
 induction r with
 | nil=>exact .nil
 | @cons p q ps qs h t ih=>
  rw[List.map_cons,List.map_cons]
  refine .cons ?_ ih
  obtain⟨h1,h2⟩:=h
  by_cases e:p.1=k
  ·rw[if_pos e,if_pos (h1.symm.trans e)];exact⟨h1,ry⟩
  ·rw[if_neg e,if_neg (fun z=>e (h1.trans z))];exact⟨h1,h2⟩
theorem KV.put{kvs:List (κ×V)}{vs:List (κ×Value)}(r:KV kvs vs)(k:κ){y:V}{u:Value}(ry:RelV y u):KV (putK kvs k y) (stored vs k u):=by
 unfold putK stored
 rw[r.any k]
 by_cases e:(vs.any fun kv=>decide (kv.1=k))=true
 ·rw[if_pos e,if_pos e];exact r.tU k ry
 ·rw[if_neg e,if_neg e];exact Paired.snoc r ⟨rfl,ry⟩
theorem KV.keys{kvs:List (κ×V)}{vs:List (κ×Value)}(r:KV kvs vs):kvs.map (·.1)=vs.map (·.1):=by
 unfold KV at r
 induction r with
 | nil=>rfl
 | cons h t ih=>rw[List.map_cons,List.map_cons,ih,h.1]
theorem KV.length{kvs:List (κ×V)}{vs:List (κ×Value)}(r:KV kvs vs):kvs.length=vs.length:=Paired.length r
end
theorem Y3{P:Program}{w:World}{k:Key}{u:Value}(r:RelV (kV k) u):(o6 P w).is k u=true:=by
 cases k with
 | inl i=>obtain⟨t,e⟩:=(show ∃t,u=Value.int i t from r);subst e;exact mm P w i t
 | inr x=>obtain⟨t,e⟩:=(show ∃t,u=Value.str x t from r);subst e;exact lz P w x t
theorem jb{P:Program}{w:World}:∀{ks:List Key} {us:List Value},Vals (ks.map kV) us->ItemsAre (o6 P w) ks us
 | [],_,r=>by rw[List.map_nil] at r;cases r;exact .nil
 | k::ks,_,r=>by
  rw[List.map_cons] at r
  cases r with
  | cons h t=>exact .cons (Y3 h) (jb t)
abbrev KT(H:Hp):List (List Key×V)->List (List Key×Addr×Value)->Prop:=Paired fun p q=>p.1=q.1/\H q.2.1=some (.tup (p.1.map kV))/\RelV p.2 q.2.2
theorem KT.val{H:Hp}{kvs:List (List Key×V)}{xs:List (List Key×Addr×Value)}(r:KT H kvs xs)(k:List Key):bW (Y8 kvs k) ((atKey xs k).map (·.2)):=by
 induction r with
 | nil=>exact True.intro
 | @cons p q ps qs h t ih=>
  obtain⟨h1,_,h2⟩:=h
  by_cases e:p.1=k
  ·have e':q.1=k:=h1.symm.trans e
   have b:atKey (q::qs) k=some q.2:=by simp[atKey,List.find?_cons,e']
   rw[cI e,b];exact h2
  ·have e':¬q.1=k:=fun z=>e (h1.trans z)
   have b:atKey (q::qs) k=atKey qs k:=by simp[atKey,List.find?_cons,e']
   rw[ah e,b];exact ih
theorem KT.tU{H:Hp}{kvs:List (List Key×V)}{xs:List (List Key×Addr×Value)}(r:KT H kvs xs)(k:List Key){y:V}{u:Value}(ry:RelV y u) :
  KT H (kvs.map fun kv=>if kv.1=k then(kv.1,y) else kv) (xs.map (putAt k u)):=by
 induction r with
 | nil=>exact .nil
 | @cons p q ps qs h t ih=>
  rw[List.map_cons,List.map_cons]
  refine .cons ?_ ih
  obtain⟨h1,h2,h3⟩:=h
  unfold putAt
  by_cases e:p.1=k
  ·rw[if_pos e,if_pos (h1.symm.trans e)];exact⟨h1,h2,ry⟩
  ·rw[if_neg e,if_neg (fun z=>e (h1.trans z))];exact⟨h1,h2,h3⟩
theorem KT.put{H:Hp}{kvs:List (List Key×V)}{xs:List (List Key×Addr×Value)}(r:KT H kvs xs)(k:List Key){b:Addr}{y:V}{u:Value}(hb:H b=some (.tup (k.map kV)))(ry:RelV y u) :
  KT H (putK kvs k y) (storedH xs k b u):=by
 have e:(kvs.any fun kv=>decide (kv.1=k))=(atKey xs k).isSome:=by
  rw[nS,(r.val k).T8,Option.isSome_map]
 unfold putK storedH
 rw[e]
 by_cases q:(atKey xs k).isSome=true
 ·rw[if_pos q,if_pos q];exact r.tU k ry
 ·rw[if_neg q,if_neg q];exact Paired.snoc r ⟨rfl,hb,ry⟩
theorem KT.keeps{H H':Hp}{kvs:List (List Key×V)}{xs:List (List Key×Addr×Value)}(r:KT H kvs xs)(ht:∀b ys,H b=some (.tup ys)->H' b=some (.tup ys)):KT H' kvs xs:=
 Paired.Ij r fun _ _ z=>⟨z.1,ht _ _ z.2.1,z.2.2⟩
section
variable{P:Program}{w:World}{H:Hp}{h:Heap}{a:Addr}
theorem JI{u:HO}(ok:S9 P w H h)(e:Rd H a u):u6 P w H h a u:=e.ok ok
def Ft(H:Hp)(a:Addr)(kvs:List (Key×V)):Prop:=Rd H a (.dK kvs)\/∃ep,H a=some (.dE kvs ep)
theorem Ft.of{H:Hp}{a:Addr}{kvs:List (Key×V)}(r:Dd H a kvs):Ft H a kvs:=r.elim (fun h=>.inl (.inl h)) .inr
theorem Ft.ok{P:Program}{w:World}{H:Hp}{h:Heap}{a:Addr}{kvs:List (Key×V)}(r:Ft H a kvs)(x:S9 P w H h):u6 P w H h a (.dK kvs):=r.elim (fun h=>h.ok x) fun h=>(show Dd H a kvs from .inr h).ok x
theorem bo{kvs:List (Key×V)}(ok:S9 P w H h)(e:Ft H a kvs):kvs.length<=sizeLine/\(a == sysModules)=false/\∃vs,KV kvs vs/\h.DictOf (o6 P w) a vs:=
 show u6 P w H h a (.dK kvs) from e.ok ok
theorem si{kvs:List (Key×V)}(ok:S9 P w H h)(e:H a=some (.dK kvs)):kvs.length<=sizeLine/\(a == sysModules)=false/\∃vs,KV kvs vs/\h.DictOf (o6 P w) a vs:=bo ok (.inl (.inl e))
theorem dD{ks:List Key}(ok:S9 P w H h)(e:H a=some (.tup (ks.map kV))):(tupleKind (o6 P w)).is h ks a:=by
 obtain⟨_,its,r,o,h1,h2,n,h3⟩:=(show u6 P w H h a (.tup (ks.map kV)) from ok a _ e)
 exact⟨o,its.toArray,n,h1,h2,h3,by simpa using jb r⟩
theorem fG{kvs:List (List Key×V)}(ok:S9 P w H h)(e:Rd H a (.dT kvs)):kvs.length<=sizeLine/\(a == sysModules)=false /\
  ∃xs,KT H kvs xs/\h.DictOfH (tupleKind (o6 P w)) a xs:=by
 obtain⟨z,y,xs,r,o,es,ep,h1,h2,h3,h4,h5⟩:=(show u6 P w H h a (.dT kvs) from JI ok e)
 refine⟨z,y,xs,r,o,es,ep,h1,h2,h3,h4,fun x hx=>?_,h5⟩
 have all:∀{l:List (List Key×V)} {m:List (List Key×Addr×Value)},KT H l m->∀x∈m,(tupleKind (o6 P w)).is h x.1 x.2.1:=by
  intro l m q
  induction q with
  | nil=>intro x hx;exact nomatch hx
  | @cons p q ps qs hq t ih=>
   intro x hx
   rcases List.mem_cons.mp hx with e | hx
   ·subst e
    exact dD ok (by rw[<-hq.1];exact hq.2.1)
   ·exact ih x hx
 exact all r x hx
theorem Jz{kvs:List (List Key×V)}(ok:S9 P w H h)(e:H a=some (.dT kvs)):kvs.length<=sizeLine/\(a == sysModules)=false /\
  ∃xs,KT H kvs xs/\h.DictOfH (tupleKind (o6 P w)) a xs:=fG ok (.inl e)
end
def X0(H:Hp)(a:Addr)(y:V)(r:Option V):Prop:=
 (∃kvs k,Ft H a kvs/\y=kV k/\r=Y8 kvs k)\/∃kvs k b,Rd H a (.dT kvs)/\y=.ref b/\H b=some (.tup (k.map kV))/\r=Y8 kvs k
def kA(H:Hp)(a:Addr)(y v:V)(H':Hp):Prop:=
 (∃kvs k,Dd H a kvs/\y=kV k/\kvs.length<sizeLine/\H'=upd H a (.dK (putK kvs k v))) \/
 ∃kvs k b,H a=some (.dT kvs)/\y=.ref b/\H b=some (.tup (k.map kV))/\kvs.length<sizeLine/\H'=upd H a (.dT (putK kvs k v))
theorem X0.k{H:Hp}{a:Addr}{kvs:List (Key×V)}{k:Key}(e:Dd H a kvs):X0 H a (kV k) (Y8 kvs k):=.inl ⟨kvs,k,.of e,rfl,rfl⟩
theorem X0.t{H:Hp}{a b:Addr}{kvs:List (List Key×V)}{k:List Key}(e:H a=some (.dT kvs))(eb:H b=some (.tup (k.map kV))):X0 H a (.ref b) (Y8 kvs k):=.inr ⟨kvs,k,b,.inl e,rfl,eb,rfl⟩
theorem kA.k{H:Hp}{a:Addr}{kvs:List (Key×V)}{k:Key}{v:V}(e:Dd H a kvs)(hl:kvs.length<sizeLine):kA H a (kV k) v (upd H a (.dK (putK kvs k v))):=.inl ⟨kvs,k,e,rfl,hl,rfl⟩
theorem kA.t{H:Hp}{a b:Addr}{kvs:List (List Key×V)}{k:List Key}{v:V}(e:H a=some (.dT kvs))(eb:H b=some (.tup (k.map kV)))(hl:kvs.length<sizeLine) :
  kA H a (.ref b) v (upd H a (.dT (putK kvs k v))):=.inr ⟨kvs,k,b,e,rfl,eb,hl,rfl⟩
section
variable{X:Cx}{pins:List (Addr×Obj)}{σ:St}{H:Hp}{s:Shared}{a:Addr}{y v:V}{u r:Value}{o:Option V}{A:Around}{E:Value->Shared->Prop}
theorem Inv.big(I:Inv X pins σ H s):sysModules<s.heap.objs.size:=by
 have h:mainGlobals<s.heap.objs.size:=(I.mod.glob.keeps I.bk).lt
 exact Nat.lt_trans (by decide) h
theorem ja{Q:Value->Shared->Prop}(hu:A.units+1<cLine)(I:Inv X pins σ H s)(g:X0 H a y (some v))(ry:RelV y u)(h:∀w' s',Inv X pins σ H s'->RelV v w'->Q w' s') :
  wpAny (model X.prog X.w) A (getItem (.ref a) u) Q E s:=by
 rcases g with⟨kvs,k,e,ey,l⟩ | ⟨kvs,k,b,e,ey,eb,l⟩
 ·subst ey
  obtain⟨z,hd,vs,rel,dd⟩:=bo I.hok e
  obtain⟨w',hw,rw'⟩:=bW.some_of (v:=v) (o:=valueAt vs k) (by rw[l];exact rel.val k)
  exact wpAny_getItem_of (Y3 ry) dd.mapOf hw (h w' _ (I.tok _) rw')
 ·subst ey
  cases(show u=Value.ref b from ry)
  obtain⟨z,hd,xs,rel,dd⟩:=fG I.hok e
  obtain⟨w',hw,rw'⟩:=bW.some_of (v:=v) (o:=(atKey xs k).map (·.2)) (by rw[l];exact rel.val k)
  obtain⟨p,hp,hp2⟩:=Option.map_eq_some_iff.mp hw
  refine wpAny_getItem_heap (tupleKind_room_in1 hu) (dD I.hok eb) dd hp ?_
  rw[hp2]
  exact h w' _ (I.tok _) rw'
theorem LD{Q:Value->Shared->Prop}(hu:A.units+1<cLine)(I:Inv X pins σ H s)(g:X0 H a y o)(ry:RelV y u)(h:∀s',Inv X pins σ H s'->Q (.bool o.isSome) s') :
  wpAny (model X.prog X.w) A (compareOp .In u (.ref a)) Q E s:=by
 rcases g with⟨kvs,k,e,ey,l⟩ | ⟨kvs,k,b,e,ey,eb,l⟩
 ·subst ey
  obtain⟨z,hd,vs,rel,dd⟩:=bo I.hok e
  refine wpAny_in_of (Y3 ry) hd dd.mapOf ?_
  rw[<-(rel.val k).T8,<-l]
  exact h _ (I.tok _)
 ·subst ey
  cases(show u=Value.ref b from ry)
  obtain⟨z,hd,xs,rel,dd⟩:=fG I.hok e
  refine wpAny_in_heap (tupleKind_room_in1 hu) (dD I.hok eb) hd dd ?_
  have q:=(rel.val k).T8
  rw[Option.isSome_map] at q
  rw[<-q,<-l]
  exact h _ (I.tok _)
theorem Df{Q:Value->Shared->Prop}(hu:A.units+1<cLine)(I:Inv X pins σ H s)(g:X0 H a y o)(ry:RelV y u)(h:∀s',Inv X pins σ H s'->Q (.bool (!o.isSome)) s') :
  wpAny (model X.prog X.w) A (compareOp .NotIn u (.ref a)) Q E s:=by
 rcases g with⟨kvs,k,e,ey,l⟩ | ⟨kvs,k,b,e,ey,eb,l⟩
 ·subst ey
  obtain⟨z,hd,vs,rel,dd⟩:=bo I.hok e
  refine wpAny_notIn_of (Y3 ry) hd dd.mapOf ?_
  rw[<-(rel.val k).T8,<-l]
  exact h _ (I.tok _)
 ·subst ey
  cases(show u=Value.ref b from ry)
  obtain⟨z,hd,xs,rel,dd⟩:=fG I.hok e
  refine wpAny_notIn_heap (tupleKind_room_in1 hu) (dD I.hok eb) hd dd ?_
  have q:=(rel.val k).T8
  rw[Option.isSome_map] at q
  rw[<-q,<-l]
  exact h _ (I.tok _)
theorem aW{h':Heap}{t':Nat}{ob:HO}(I:Inv X pins σ H s)(mu:fe (H a))(hs:Heap.SameBut a s.heap h')(he:∃q,h'.get? a=some q)(new:u6 X.prog X.w (upd H a ob) h' a ob) :
  Inv X pins σ (upd H a ob) { s with heap:=h',toks:=t' }:=
 I.write (x:=a) (e:=a) mu (.inl rfl) (fun b q hb z=>(hs.2 b hb).trans z) he new
theorem gi{P:Program}{w:World}{H':Hp}{h':Heap}{kvs:List (Key×V)}{vs:List (Key×Value)}(z:kvs.length<=sizeLine)(hd:(a == sysModules)=false)(rel:KV kvs vs)(dd:h'.DictOf (o6 P w) a vs) :
  u6 P w H' h' a (.dK kvs):=⟨z,hd,vs,rel,dd⟩
theorem Inv.zm{kvs:List (Key×V)}(I:Inv X pins σ H s)(e:H a=some (.dK kvs)):∃ep,Inv X pins σ (upd H a (.dE kvs ep)) s:=by
 obtain⟨z,hd,vs,rel,dd⟩:=si I.hok e
 obtain⟨ep,da⟩:=dd.dictAt
 exact⟨ep,I.write (x:=a) (e:=a) (h':=s.heap) (t':=s.toks) (o:=.dE kvs ep) (by rw[e];exact True.intro) (.inl rfl) (fun b q hb z=>z) (let ⟨q,_,_,hq,_⟩:=dd;⟨q,hq⟩) ⟨z,hd,vs,rel,da⟩⟩
theorem iI{H':Hp}{Q:Unit->Shared->Prop}(hu:A.units+1<cLine)(I:Inv X pins σ H s)(g:kA H a y v H')(ry:RelV y u)(rv:RelV v r)(h:∀s',Inv X pins σ H' s'->Q () s') :
  wpAny (model X.prog X.w) A (setItem (.ref a) u r) Q E s:=by
 rcases g with⟨kvs,k,e,ey,l,eH⟩ | ⟨kvs,k,b,e,ey,eb,l,eH⟩
 ·subst ey eH
  obtain⟨z,hd,vs,rel,dd⟩:=bo I.hok (.of e)
  have hz:vs.length<=sizeLine:=by rw[<-rel.length];exact z
  have hl:(putK kvs k v).length<=sizeLine:=by have:=D4 kvs k v;omega
  refine wpAny_setItem_pairs (hsz:=hz) (Y3 ry) dd fun h' dd' hs=>h _ ?_
  have he:∃q,h'.get? a=some q:=let ⟨q,_,_,hq,_⟩:=dd';⟨q,hq⟩
  exact aW I e.Ml hs he (gi hl hd (rel.put k rv) dd')
 ·subst ey eH
  cases(show u=Value.ref b from ry)
  obtain⟨z,hd,xs,rel,dd⟩:=Jz I.hok e
  have hz:xs.length<=sizeLine:=by rw[<-Paired.length rel];exact z
  have hl:(putK kvs k v).length<=sizeLine:=by have:=D4 kvs k v;omega
  refine wpAny_setItem_heap (hsz:=hz) (tupleKind_room_in1 hu) (dD I.hok eb) dd fun h' dd' hs=>h _ ?_
  obtain⟨q,es,ep,hq,h2,h3,h4,_,h5⟩:=dd'
  refine aW I (by rw[e];exact True.intro) hs ⟨q,hq⟩ ⟨hl,hd,_,(rel.put k eb rv).keeps fun c ys ec=>?_,q,es,ep,hq,h2,h3,h4,h5⟩
  rw[j9 (zS ec e (fun z=>nomatch z))]
  exact ec
end
section
variable{X:Cx}{pins:List (Addr×Obj)}{σ:St}{H:Hp}{s:Shared}{a:Addr}{kvs:List (Key×V)}{k:Key}{u:Value}{A:Around}{E:Value->Shared->Prop}
end
theorem lQ{X:Cx}{pins:List (Addr×Obj)}{σ:St}{H:Hp}{s:Shared}{a:Addr}{y:V}{o:Option V}(I:Inv X pins σ H s)(g:X0 H a y o):s.TypeIs (.ref a) "dict":=by
 rcases g with⟨kvs,k,e,_,_⟩ | ⟨kvs,k,b,e,_,_,_⟩
 ·obtain⟨_,_,vs,_,dd⟩:=bo I.hok e
  exact dd.typeIs
 ·obtain⟨_,_,xs,_,dd⟩:=fG I.hok e
  exact dd.typeIs
def JT(td ty tv:TE):TS:=fun D σ H=>tv σ H fun v H1=>td σ H1 fun x H2=>ty σ H2 fun y H3=>∃a H4,x=.ref a/\kA H3 a y v H4/\D.nx σ H4
def Jm(td ty tv:TE)(rd:V->V->Hp->VK->Prop):TS:=fun D σ H=>td σ H fun x H1=>ty σ H1 fun y H2=>∃a v,x=.ref a/\X0 H2 a y (some v) /\
 tv σ H2 fun y2 H3=>rd v y2 H3 fun z H4=>∃H5,kA H4 a y z H5/\D.nx σ H5
section
variable{X:Cx}{o i e value:Expr}{pos pos' tpos:Pos}{td ty tv:TE}
theorem BP(hu:X.A.units+1<cLine)(ho:PE X o td)(hi:PE X i ty)(hv:PE X value tv)(hs:swapsWith value (some (.Subscript o i pos')) pos.line X.env=pure false) :
  PS X (.Assign [.Subscript o i pos'] value pos) (JT td ty tv):=by
 refine .of ?_
 intro pins s σ H D I h
 refine wpAny_Assign_Subscript (A4 (hv pins s σ H _ I h) fun r s1 ⟨v,H1,I1,rv,q1⟩=>A4 (ho pins s1 σ H1 _ I1 q1) fun u s2 ⟨x,H2,I2,rx,q2⟩=>A4 (hi pins s2 σ H2 _ I2 q2) fun iv s3 ⟨y,H3,I3,ry,a,H4,ex,g,q3⟩=>?_) hs
 subst ex
 obtain rfl:u=Value.ref a:=rx
 exact iI hu I3 g ry rv fun s4 I4=>⟨σ,H4,I4,q3⟩
theorem DS{op:Operator}{rd:V->V->Hp->VK->Prop}(hu:X.A.units+1<cLine)(ho:PE X o td)(hi:PE X i ty)(hv:PE X value tv)(hop:Mc X op rd)
  (ha:∀ov iv new,augStore i ov iv new=(do holding [new,ov,iv] (setItem ov iv new);release [new,ov,iv] [];pure .next)):PS X (.AugAssign (.Subscript o i tpos) op value pos) (Jm td ty tv rd):=by
 refine .of ?_
 intro pins s σ H D I h
 refine wpAny_AugAssign_SubscriptAny (A4 (ho pins s σ H _ I h) fun u s1 ⟨x,H1,I1,rx,q1⟩=>A4 (hi pins s1 σ H1 _ I1 q1) fun iv s2 ⟨y,H2,I2,ry,a,v,ex,g,q2⟩=>?_) ha
 subst ex
 obtain rfl:u=Value.ref a:=rx
 refine ja hu I2 g ry fun w' s3 I3 rw'=>A4 (hv pins s3 σ H2 _ I3 q2) fun w2 s4 ⟨y2,H3,I4,ry2,q3⟩=>A4 (hop pins s4 σ H3 v y2 w' w2 _ I4 rw' ry2 q3) fun w3 s5 ⟨z,H4,I5,rz,H5,g5,q4⟩=>?_
 exact iI hu I5 g5 ry rz fun s6 I6=>⟨σ,H5,I6,q4⟩
end
theorem ar{P:Program}{w:World}{H:Hp}(h:Heap)(hb:sysModules<h.objs.size):u6 P w H (h.push { cls:=.type "dict",data:=.dict #[] }) h.objs.size (.dK []):=
 ⟨Nat.zero_le _,beq_eq_false_iff_ne.mpr (Ne.symm (Nat.ne_of_lt hb)),[],.nil,Heap.DictOf.new h⟩
def HY:TE:=fun _ H Q=>∀p,H p=none->Q (.ref p) (upd H p (.dK []))
section
variable{X:Cx}{pos:Pos}
theorem xH:PE X (.Dict [] [] pos) HY:=.of <| fun pins s σ H Q I h=>
 wpAny_Dict_empty ⟨.ref s.heap.objs.size,_,I.laid (a:=s.heap.objs.size) (o:=.dK []) (t':=s.toks) (fun _ _ q=>Heap.get?_push_of_some _ q) (Nat.le_refl _) (ar s.heap I.big),rfl,h _ (I.hok.fresh (Nat.le_refl _))⟩
end
def qI:List (TE×TE)->St->Hp->(List (V×V)->Hp->Prop)->Prop
 | [],_,H,Q=>Q [] H
 | (tk,tv)::r,σ,H,Q=>tk σ H fun x H1=>tv σ H1 fun y H2=>qI r σ H2 fun ps H3=>Q ((x,y)::ps) H3
abbrev VV:List (V×V)->List (Value×Value)->Prop:=Paired fun p q=>RelV p.1 q.1/\RelV p.2 q.2
def KI(X:Cx)(pos:Pos)(keys:List (Option Expr))(values:List Expr)(trs:List (TE×TE)):Prop:=
 ∀(pins:List (Addr×Obj)) (s:Shared) (σ:St) (H:Hp) (Q:List (V×V)->Hp->Prop),Inv X pins σ H s->qI trs σ H Q ->
  wpAny (model X.prog X.w) X.A (evalPairs (pairTrees keys values X.env pos)) (fun vs s'=>∃ps H',Inv X pins σ H' s'/\VV ps vs/\Q ps H') X.xe s
theorem Dg{X:Cx}{pos:Pos}:KI X pos [] [] []:=fun pins s σ H Q I h=>pairTrees_nil_walk ⟨[],H,I,.nil,h⟩
theorem yJ{X:Cx}{pos:Pos}{k v:Expr}{ks:List (Option Expr)}{vs:List Expr}{tk tv:TE}{trs:List (TE×TE)}(hk:PE X k tk)(hv:PE X v tv)(hr:KI X pos ks vs trs) :
  KI X pos (some k::ks) (v::vs) ((tk,tv)::trs):=fun pins s σ H Q I h=>
 pairTrees_cons_walk (A4 (hk pins s σ H _ I h) fun u s1 ⟨x,H1,I1,rx,q1⟩=>A4 (hv pins s1 σ H1 _ I1 q1) fun w2 s2 ⟨y,H2,I2,ry,q2⟩=>
  A4 (hr pins s2 σ H2 _ I2 q2) fun ws s3 ⟨ps,H3,I3,rel,q3⟩=>⟨(x,y)::ps,H3,I3,.cons ⟨rx,ry⟩ rel,q3⟩)
def B6(kvs more:List (Key×V)):List (Key×V):=more.foldl (fun acc kv=>putK acc kv.1 kv.2) kvs
theorem KV.merge:∀{more:List (Key×V)} {rs:List (Key×Value)} {kvs:List (Key×V)} {vs:List (Key×Value)},KV more rs->KV kvs vs->KV (B6 kvs more) (merged vs rs):=by
 intro more rs kvs vs r
 unfold KV at r
 induction r generalizing kvs vs with
 | nil=>intro q;exact q
 | @cons p q ps qs h t ih=>
  intro r0
  have e:KV (putK kvs p.1 p.2) (stored vs q.1 q.2):=by
   have:=r0.put p.1 h.2
   rw[<-h.1];exact this
  exact ih e
theorem T6:∀(more kvs:List (Key×V)),(B6 kvs more).length<=kvs.length+more.length
 | [],kvs=>by show kvs.length<=kvs.length+0;omega
 | p::r,kvs=>by
  have h1:=T6 r (putK kvs p.1 p.2)
  have h2:=D4 kvs p.1 p.2
  show(B6 (putK kvs p.1 p.2) r).length<=_
  rw[List.length_cons];omega
theorem fh{P:Program}{w:World}:∀{kvs:List (Key×V)} {ws:List (Value×Value)},VV (kvs.map fun kv=>(kV kv.1,kv.2)) ws->∃rs,Carries (o6 P w) ws rs/\KV kvs rs
 | [],_,r=>by rw[List.map_nil] at r;cases r;exact⟨[],True.intro,.nil⟩
 | p::kvs,_,r=>by
  rw[List.map_cons] at r
  cases r with
  | @cons a b as bs h t=>
   obtain⟨rs,c,q⟩:=fh (P:=P) (w:=w) t
   obtain⟨b1,b2⟩:=b
   exact⟨(p.1,b2)::rs,⟨Y3 h.1,rfl,c⟩,.cons ⟨rfl,h.2⟩ q⟩
def JL(trs:List (TE×TE)):TE:=fun σ H Q=>∀p,H p=none->qI trs σ (upd H p (.dK [])) fun ps H2=>H2 p=some (.dK [])/\∃kvs:List (Key×V),ps=kvs.map (fun kv=>(kV kv.1,kv.2))/\kvs.length<=15/\Q (.ref p) (upd H2 p (.dK (B6 [] kvs)))
theorem BV{X:Cx}{pos:Pos}{keys:List (Option Expr)}{values:List Expr}{trs:List (TE×TE)}(h:KI X pos keys values trs)(hall:keys.all (·.isSome)=true)(hl:keys.length=values.length)(h0:keys≠[])
  (h15:keys.length<=15):PE X (.Dict keys values pos) (JL trs):=by
 refine .of ?_
 intro pins s σ H Q I q
 have hn:=I.hok.fresh (Nat.le_refl s.heap.objs.size)
 have I1:=I.laid (a:=s.heap.objs.size) (o:=.dK []) (h':=s.heap.push { cls:=.type "dict",data:=.dict #[] }) (t':=s.toks) (fun _ _ q=>Heap.get?_push_of_some _ q) (Nat.le_refl _) (ar s.heap I.big)
 refine wpAny_Dict_walk (knd:=o6 X.prog X.w) hall hl h0 h15 (A4 (h pins _ σ _ _ I1 (q _ hn)) fun ws s2 ⟨ps,H2,I2,rel,e,kvs,ep,lk,q2⟩=>?_)
 subst ep
 obtain⟨rs,c,rk⟩:=fh (P:=X.prog) (w:=X.w) rel
 obtain⟨z,hd,vs0,r0,dd⟩:=si I2.hok e
 cases r0
 refine⟨rs,c,dd,fun h' dd' hs=>⟨.ref s.heap.objs.size,_,?_,rfl,q2⟩⟩
 have hz:(B6 [] kvs).length<=sizeLine:=by
  have h1:=T6 kvs []
  rw[List.length_nil] at h1
  rw[sizeLine_eq];omega
 have he:∃q,h'.get? s.heap.objs.size=some q:=let ⟨q,_,_,hq,_⟩:=dd';⟨q,hq⟩
 exact aW I2 (by rw[e];exact True.intro) hs he (gi hz hd (rk.merge .nil) dd')
structure M2(X:Cx)(o:Expr)(m:Str)(apos:Pos)(e f:Expr)(cpos:Pos):Prop where
 base:attributeBase o m X.env (eval o X.env)=eval o X.env
 few:((backTo cpos (starEach [e,f] X.env)).all (fun x=>!x.1)&&(backToKw cpos (keywordEach [] X.env)).all (fun x=>x.1.isSome)
  && decide (([e,f]:List Expr).length+([]:List Keyword).length+(if ([]:List Keyword).isEmpty then 0 else 1)<30))=true
 line:(apos.endLine == cpos.line)=true
 trees:backTo cpos (starEach [e,f] X.env)=[(false,eval e X.env),(false,eval f X.env)]
def Mg(H:Hp)(a:Addr):Prop:=(∃kvs,Ft H a kvs)\/∃kvs,Rd H a (.dT kvs)
theorem FL{X:Cx}{pins:List (Addr×Obj)}{σ:St}{H:Hp}{s:Shared}{a:Addr}(I:Inv X pins σ H s)(d:Mg H a) :
  s.TypeIs (.ref a) "dict" /\ (∀b,Value.ref a=.ref b->∃ob,s.heap.get? b=some ob/\ob.dict=none)/\(a == sysModules)=false:=by
 rcases d with⟨kvs,e⟩ | ⟨kvs,e⟩
 ·obtain⟨_,hd,vs,_,dd⟩:=bo I.hok e
  refine⟨dd.typeIs,fun b q=>?_,hd⟩
  cases q
  obtain⟨ob,_,_,h1,h2,_⟩:=dd
  exact⟨ob,h1,h2.2.1⟩
 ·obtain⟨_,hd,xs,_,dd⟩:=fG I.hok e
  refine⟨dd.typeIs,fun b q=>?_,hd⟩
  cases q
  obtain⟨ob,_,_,h1,h2,_⟩:=dd
  exact⟨ob,h1,h2.2.1⟩
section
variable{X:Cx}{pins:List (Addr×Obj)}{σ:St}{H:Hp}{s:Shared}{a:Addr}{y d:V}{u r:Value}{o:Option V}{A:Around}{E:Value->Shared->Prop}
theorem GW{Q:Value->Shared->Prop}(hu:A.units+1<cLine)(I:Inv X pins σ H s)(g:X0 H a y o)(ry:RelV y u)(rd:RelV d r)(h:∀w' s',Inv X pins σ H s'->RelV (o.getD d) w'->Q w' s') :
  wpAny (model X.prog X.w) A (call (.builtin "dict.get") [.ref a,u,r]) Q E s:=by
 rcases g with⟨kvs,k,e,ey,l⟩ | ⟨kvs,k,b,e,ey,eb,l⟩
 ·subst ey
  obtain⟨z,hd,vs,rel,dd⟩:=bo I.hok e
  refine call_meetsIn PySem.F.slot_dict_get dd.typeIs PySem.F.entry_dict_get (PySem.F.args_dict_get_3 _ _ _) (meets_dict_get_default (o6 X.prog X.w) a (Y3 ry) hd r) ⟨_,dd.mapOf,h _ _ (I.tok _) ?_⟩
  rw[l]
  exact(rel.val k).getD rd
 ·subst ey
  cases(show u=Value.ref b from ry)
  obtain⟨z,hd,xs,rel,dd⟩:=fG I.hok e
  refine call_meetsIn PySem.F.slot_dict_get dd.typeIs PySem.F.entry_dict_get (PySem.F.args_dict_get_3 _ _ _) (meetsH_dict_get_default (tupleKind (o6 X.prog X.w)) a b hd r) ⟨tupleKind_room_in1 hu,k,xs,dD I.hok eb,dd,h _ _ (I.tok _) ?_⟩
  rw[l]
  exact(rel.val k).getD rd
end
section
variable{X:Cx}{o e f:Expr}{apos cpos:Pos}{td ty tx:TE}
end
section
variable{X:Cx}{pins:List (Addr×Obj)}{σ:St}{H:Hp}{s:Shared}{a:Addr}{kvs:List (Key×V)}{A:Around}{E:Value->Shared->Prop}
end
section
variable{X:Cx}{pins:List (Addr×Obj)}{σ:St}{H:Hp}{s:Shared}{a:Addr}{y:V}{u:Value}{A:Around}{E:Value->Shared->Prop}
end
section
variable{X:Cx}
end
section
variable{κ:Type}[DecidableEq κ]
end
theorem FZ{P:Program}{w:World}{h:Heap}{a:Addr}{f:Key->Option Value}(m:h.MapOf (o6 P w) a f):h.MapOf (aF P w) a (fun k=>k.bind f):=by
 obtain⟨o,es,ep,h1,h2,h3,h4,h5⟩:=m
 refine⟨o,es,ep,h1,h2,h3,fun e he=>?_,fun k=>?_⟩
 ·obtain⟨k,e1,e2⟩:=h4 e he
  exact⟨some k,e1,e2⟩
 ·cases k with
  | some k=>exact h5 k
  | none=>
   show findBy gB es none=none
   have no:∀e∈es,gB none e.key=false:=fun e he=>by
    cases q:gB none e.key with
    | false=>rfl
    | true=>
     obtain⟨k,e1,_⟩:=h4 e he
     rw[B9 q] at e1
     rcases r8 (show aB k Value.none=true from e1) with⟨i,t,_,e⟩ | ⟨x,t,_,e⟩<;>cases e
   unfold findBy
   simp
   exact no
def vU(H:Hp)(a:Addr)(y:V)(r:Option V):Prop:=X0 H a y r\/(y=.non/\(∃kvs,Dd H a kvs)/\r=none)
def Be(td ty tx:TE):TE:=fun σ H Q=>td σ H fun x H1=>∃a,x=.ref a/\Mg H1 a/\ty σ H1 fun y H2=>tx σ H2 fun z H3=>∃o,vU H3 a y o/\Q (o.getD z) H3
theorem tu {X:Cx} {o e f:Expr} {apos cpos:Pos} {td ty tx:TE} (hu:X.A.units+1<cLine) (ho:PE X o td) (he:PE X e ty) (hf:PE X f tx) (m:M2 X o "get" apos e f cpos):PE X (.Call (.Attribute o "get" apos) [e,f] [] cpos) (Be td ty tx):=by
 refine .of ?_
 intro pins s σ H Q I h
 refine wpAny_Call_method m.base m.few m.line PySem.F.plainAttrs_dict PySem.F.slot_dict_get PySem.F.type_dict_get (A4 (ho pins s σ H _ I h) fun u s1 ⟨x,H1,I1,rx,a,ex,d,q1⟩=>?_)
 subst ex
 obtain rfl:u=Value.ref a:=rx
 obtain⟨t1,t2,_⟩:=FL I1 d
 refine⟨t1,t2,?_⟩
 rw[m.trees]
 refine Calls.callWith_builtin rfl (Calls.evalArgs_plain (Calls.spliced_cons (A4 (he pins s1 σ H1 _ I1 q1) fun iv s2 ⟨y,H2,I2,ry,q2⟩=>
  Calls.spliced_cons (A4 (hf pins s2 σ H2 _ I2 q2) fun fv s3 ⟨z,H3,I3,rz,ov,g,q3⟩=>Calls.spliced_nil ?_))))
 rcases g with g | ⟨rfl,⟨kvs,hk⟩,rfl⟩
 ·exact GW hu I3 g ry rz fun w' s4 I4 rw'=>⟨_,H3,I4,rw',q3⟩
 ·cases ry
  obtain⟨zz,hd,vs,rel,dd⟩:=bo I3.hok (.of hk)
  refine call_meetsIn PySem.F.slot_dict_get dd.typeIs PySem.F.entry_dict_get (PySem.F.args_dict_get_3 _ _ _) (meets_dict_get_default (aF X.prog X.w) (k:=none) a (by rfl) hd fv) ⟨_,FZ dd.mapOf,⟨_,H3,I3.tok _,rz,q3⟩⟩
def IB(Q:VK):VK:=fun v H'=>∃p kvs,v=.ref p/\H' p=some (.dK kvs)/\∀ep,Q v (upd H' p (.dE kvs ep))
def Ends.IB(D:Ends):Ends:={ D with nx:=fun σ' H'=>∃p kvs,H' p=some (.dK kvs)/\∀ep,D.nx σ' (upd H' p (.dE kvs ep)) }
section
variable{X:Cx}
theorem qp{e:Expr}{t:TE}(h:PE X e t):PE X e (fun σ H Q=>t σ H (IB Q)):=by
 refine .of ?_
 intro pins s σ H Q I q
 exact A4 (h pins s σ H _ I q) fun v s1 ⟨x,H1,I1,r1,p,kvs,e1,e2,q1⟩=>let ⟨ep,I2⟩:=I1.zm e2;⟨x,_,I2,r1,q1 ep⟩
theorem wx{f:Value}{r:List V->Hp->VK->Prop}(h:E7 X f r):E7 X f (fun xs H Q=>r xs H (IB Q)):=by
 intro pins s σ H xs us Q I rv q
 exact A4 (h pins s σ H xs us _ I rv q) fun v s1 ⟨x,H1,I1,r1,p,kvs,e1,e2,q1⟩=>let ⟨ep,I2⟩:=I1.zm e2;⟨x,_,I2,r1,q1 ep⟩
theorem qo{st:Stmt}{t:TS}(h:PS X st t):PS X st (fun D σ H=>t D.IB σ H):=by
 refine .of ?_
 intro pins s σ H D I q
 refine A4 (h pins s σ H _ I q) fun f s1 h1=>?_
 cases f with
 | next=>
  obtain⟨σ',H',I',p,kvs,e,q'⟩:=h1
  obtain⟨ep,I2⟩:=I'.zm e
  exact⟨_,_,I2,q' ep⟩
 | brk=>exact h1
 | cont=>exact h1
 | ret v=>exact h1
end
theorem Jj{P:Program}{w:World}{k:Key}{u:Value}(h:(o6 P w).is k u=true):RelV (kV k) u:=by
 rcases r8 (show aB k u=true from h) with⟨i,t,rfl,rfl⟩ | ⟨x,t,rfl,rfl⟩
 ·exact⟨t,rfl⟩
 ·exact⟨t,rfl⟩
end L2
namespace L3
open PySem PySem.Spec L2
def S5:D->Option Key
 | .int i=>some (.inl i)
 | .str x=>some (.inr x)
 | _=>none
def y7(kvs:List (Key×D))(k:Key):Option D:=(kvs.find? fun kv=>decide (kv.1=k)).map (·.2)
def putD(kvs:List (Key×D))(k:Key)(v:D):List (Key×D):=
 if (kvs.any fun kv=>decide (kv.1=k))=true then kvs.map (fun kv=>if kv.1=k then(kv.1,v) else kv) else kvs++[(k,v)]
section
variable{K:PySem.W.Frag}{H:Hp}
theorem A6.val:∀{kvs:List (Key×V)} {kds:List (Key×D)} {A:List Addr} (k:Key),A6 K H kvs kds A->(∀d,y7 kds k=some d->∃v B,Y8 kvs k=some v/\Rep K H v d B/\B.Sublist A)/\(y7 kds k=none->Y8 kvs k=none)
 | _,_,_,k,.nil=>⟨fun d e=>by simp[y7] at e,fun _=>rfl⟩
 | _,_,_,k,.cons (k:=k0) (A:=A) (B:=B) h r=>by
  obtain⟨ih1,ih2⟩:=r.val k
  by_cases e:k0=k
  ·subst e
   refine⟨fun d e=>?_,fun e=>?_⟩
   ·simp[y7,List.find?_cons] at e
    subst e
    exact⟨_,_,cI rfl,h,List.sublist_append_left _ _⟩
   ·simp[y7,List.find?_cons] at e
  ·have e1:∀(x:D) (ds:List (Key×D)),y7 ((k0,x)::ds) k=y7 ds k:=fun x ds=>by simp[y7,List.find?_cons,e]
   refine⟨fun d e2=>?_,fun e2=>?_⟩
   ·rw[e1] at e2
    obtain⟨v,B,a1,a2,a3⟩:=ih1 d e2
    exact⟨v,B,by rw[ah (p:=(k0,_)) e];exact a1,a2,a3.trans (List.sublist_append_right _ _)⟩
   ·rw[e1] at e2
    rw[ah (p:=(k0,_)) e];exact ih2 e2
theorem A6.any:∀{kvs:List (Key×V)} {kds:List (Key×D)} {A:List Addr} (k:Key),A6 K H kvs kds A->(kvs.any fun kv=>decide (kv.1=k))=kds.any fun kv=>decide (kv.1=k)
 | _,_,_,k,.nil=>rfl
 | _,_,_,k,.cons h r=>by rw[List.any_cons,List.any_cons,r.any k]
theorem A6.length:∀{kvs:List (Key×V)} {kds:List (Key×D)} {A:List Addr},A6 K H kvs kds A->kvs.length=kds.length
 | _,_,_,.nil=>rfl
 | _,_,_,.cons h r=>by simp[r.length]
theorem A6.C7:∀{kvs:List (Key×V)} {kds:List (Key×D)} {A:List Addr},A6 K H kvs kds A->(kds.all fun kv=>A7 kv.2)=true->A=[]
 | _,_,_,.nil,_=>rfl
 | _,_,_,.cons h r,e=>by
  rw[List.all_cons,Bool.and_eq_true] at e
  rw[h.C7 e.1,r.C7 e.2];rfl
theorem A6.tU{v:V}{d:D}(k:Key)(rv:Rep K H v d []):∀{kvs:List (Key×V)} {kds:List (Key×D)} {A:List Addr},A6 K H kvs kds A->∃C,A6 K H (kvs.map fun kv=>if kv.1=k then(kv.1,v) else kv) (kds.map fun kv=>if kv.1=k then(kv.1,d) else kv) C/\C.Sublist A
 | _,_,_,.nil=>⟨[],.nil,List.Sublist.refl _⟩
 | _,_,_,.cons (k:=k0) (A:=A) (B:=B) h r=>by
  obtain⟨C,r2,s2⟩:=A6.tU k rv r
  rw[List.map_cons,List.map_cons]
  by_cases e:k0=k
  ·rw[if_pos e,if_pos e]
   exact⟨[]++C,.cons rv r2,s2.trans (List.sublist_append_right _ _)⟩
  ·rw[if_neg e,if_neg e]
   exact⟨A++C,.cons h r2,s2.append_left A⟩
theorem A6.snoc:∀{kvs:List (Key×V)} {kds:List (Key×D)} {A B:List Addr} {k:Key} {v:V} {d:D},A6 K H kvs kds A->Rep K H v d B->A6 K H (kvs++[(k,v)]) (kds++[(k,d)]) (A++B)
 | _,_,_,B,k,_,_,.nil,rv=>by
  have q:=A6.cons (k:=k) rv A6.nil
  rw[List.append_nil] at q
  exact q
 | _,_,_,_,_,_,_,.cons h r,rv=>by rw[List.append_assoc];exact .cons h (r.snoc rv)
theorem A6.put{kvs:List (Key×V)}{kds:List (Key×D)}{A:List Addr}{v:V}{d:D}(k:Key)(r:A6 K H kvs kds A)(rv:Rep K H v d []):∃C,A6 K H (putK kvs k v) (putD kds k d) C/\C.Sublist A:=by
 unfold putK putD
 rw[r.any k]
 by_cases e:(kds.any fun kv=>decide (kv.1=k))=true
 ·rw[if_pos e,if_pos e]
  exact r.tU k rv
 ·rw[if_neg e,if_neg e]
  have q:=r.snoc (k:=k) rv
  rw[List.append_nil] at q
  exact⟨A,q,List.Sublist.refl _⟩
theorem aV{v:V}{kds:List (Key×D)}{A:List Addr}(h:Rep K H v (.dic kds) A):∃p kvs B,v=.ref p/\Dd H p kvs/\A6 K H kvs kds B/\A=p::B:=by
 cases h with
 | dic h r=>exact⟨_,_,_,rfl,.inr ⟨_,h⟩,r,rfl⟩
theorem nY{v:V}{kds:List (Key×D)}{A:List Addr}(h:Rep K H v (.dic kds) A):∃p kvs ep B,v=.ref p/\H p=some (.dE kvs ep)/\A6 K H kvs kds B/\A=p::B:=by
 cases h with
 | dic h r=>exact⟨_,_,_,_,rfl,h,r,rfl⟩
theorem T3.FR{p:Addr}{o:HO}(m:fe (H p)):T3 H (upd H p o):=⟨fun b ys h=>by
  by_cases e:b=p
  ·subst e;rw[h] at m;exact m.elim
  ·rw[j9 e];exact h,fun b u w' h=>by
  by_cases e:b=p
  ·subst e;rw[h] at m;exact m.elim
  ·rw[j9 e];exact h,fun b h=>by
  by_cases e:b=p
  ·subst e;rw[h9] at h;cases h
  ·rw[j9 e] at h;exact h⟩
theorem sh{H1:Hp}{d ep:Nat}{acc:List (Key×V)}{ds:List (Key×D)}(s1:i3 H1 H)(hd:H1 d=none)(ha:H d=some (.dK acc))(r:A6 K H acc ds []):i3 H1 (upd H d (.dE acc ep))/\Rep K (upd H d (.dE acc ep)) (.ref d) (.dic ds) [d]:=by
 refine⟨fun b o e=>?_,.dic h9 (r.mono (T3.FR (by rw[ha];exact True.intro)) fun a h=>by cases h)⟩
 rw[j9 (C3 e hd)]
 exact s1 _ _ e
theorem M9{v:V}{d:D}{A:List Addr}{k:Key}(h:Rep K H v d A)(e:S5 d=some k):v=kV k:=by
 cases h<;>first | cases e | skip
 ·rfl
 ·rfl
end
section
variable{X:Cx}{cl:List Cl}{e a b c:Expr}{f:Fl}{pos:Pos}{ua ub uc:TU}{ma mb mc:TM}{fa fb fc:Fl}{x:Str}{i:Nat}
theorem rO:PU X cl (.Dict [] [] pos) .fresh (uC (.dic [])):=.of<|by
 refine⟨_,qp xH,fun G ρ σ H fo Q R _ E hu k=>fun p hp=>⟨p,[],rfl,h9,fun ep=>?_⟩⟩
 rw[X7]
 refine k _ _ _ [p] (i3.i8 hp) (.dic h9 .nil) ⟨by simp,fun a ha=>?_⟩ hu
 have:a=p:=by simpa using ha
 rw[this];exact hp
def EI:D->D->(D->Prop)->Prop:=fun d y Q=>match d with
 | .dic kvs=>∃k v,S5 y=some k/\y7 kvs k=some v/\Q v
 | _=>False
theorem DE{H:Hp}{v w:V}{d e:D}{A B:List Addr}{Q:D->Prop}(r1:Rep X.K H v d A)(r2:Rep X.K H w e B)(q:EI d e Q):∃a u z C,v=.ref a/\X0 H a w (some u)/\Rep X.K H u z C/\C.Sublist A/\Q z:=by
 cases d<;>first | exact(show False from q).elim | skip
 rename_i kds
 obtain⟨k,z,hk,hz,q⟩:∃k v,S5 e=some k/\y7 kds k=some v/\Q v:=q
 obtain⟨p,kvs,B',rfl,hp,rs,rfl⟩:=aV r1
 cases M9 r2 hk
 obtain⟨u,C,e1,r3,s3⟩:=(rs.val k).1 z hz
 refine⟨p,u,z,C,rfl,?_,r3,s3.trans (List.sublist_cons_self _ _),q⟩
 rw[<-e1]
 exact X0.k hp
def xY:D->D->D->(D->Prop)->Prop:=fun d y z Q=>match d with
 | .dic kvs=>match y with
  | .non=>A7 z=true/\Q z
  | y=>∃k,S5 y=some k/\A7 ((y7 kvs k).getD z)=true/\Q ((y7 kvs k).getD z)
 | _=>False
def Jc:D->Bool
 | .dic _=>true
 | _=>false
def gA(ua ub uc:TU):TU:=fun ρ Q=>ua ρ fun x=>Jc x=true/\ub ρ fun y=>uc ρ fun z=>xY x y z Q
theorem zL{H:Hp}{v w u:V}{d e z:D}{A B C:List Addr}{Q:D->Prop}(r1:Rep X.K H v d A)(r2:Rep X.K H w e B)(r3:Rep X.K H u z C)(q:xY d e z Q):∃a o y,v=.ref a/\vU H a w o/\Rep X.K H (o.getD u) y []/\Q y:=by
 cases d<;>first | exact(show False from q).elim | skip
 rename_i kds
 obtain⟨p,kvs,B',rfl,hp,rs,rfl⟩:=aV r1
 have go:∀k,S5 e=some k->A7 ((y7 kds k).getD z)=true->Q ((y7 kds k).getD z)->∃a o y,V.ref p=.ref a/\vU H a w o/\Rep X.K H (o.getD u) y []/\Q y:=fun k hk im q=>by
  cases M9 r2 hk
  refine⟨p,Y8 kvs k,_,rfl,.inl (X0.k hp),?_,q⟩
  cases ev:y7 kds k with
  | none=>
   rw[(rs.val k).2 ev]
   rw[ev] at im
   have e0:=r3.C7 im
   subst e0
   exact r3
  | some y=>
   obtain⟨v',C',e1,r4,_⟩:=(rs.val k).1 y ev
   rw[e1]
   rw[ev] at im
   have e0:=r4.C7 im
   subst e0
   exact r4
 cases e with
 | non=>
  have q:A7 z=true/\Q z:=q
  cases cb r2
  have e0:=r3.C7 q.1
  subst e0
  exact⟨p,none,z,rfl,.inr ⟨rfl,⟨kvs,hp⟩,rfl⟩,r3,q.2⟩
 | int i=>obtain⟨k,hk,im,q⟩:=q;exact go k hk im q
 | str i=>obtain⟨k,hk,im,q⟩:=q;exact go k hk im q
 | _=>obtain⟨k,hk,im,q⟩:=q;cases hk
theorem cF {apos:Pos} (hu:X.A.units+1<cLine) (ha:PU X cl a fa ua) (hb:PU X cl b fb ub) (hc:PU X cl c fc uc) (m:M2 X a "get" apos b c pos):PU X cl (.Call (.Attribute a "get" apos) [b,c] [] pos) .fresh (gA ua ub uc):=.of<|by
 obtain⟨ta,pa,ha⟩:=ha.run
 obtain⟨tb,pb,hb⟩:=hb.run
 obtain⟨tc,pc,hc⟩:=hc.run
 refine⟨_,tu hu pa pb pc m,fun G ρ σ H fo Q R hG E hu' k=>ha G ρ σ H fo _ _ hG E hu' fun v H1 d A s1 r1 f1 q1=>?_⟩
 obtain⟨hd,q1⟩:=q1
 cases d<;>first | cases hd | skip
 have r1':=r1
 obtain⟨p,kvs,B',rfl,hp,rs,rfl⟩:=aV r1
 refine⟨p,rfl,.inl ⟨kvs,.of hp⟩,hb G ρ σ H1 fo _ _ hG (E.same s1) q1 fun w H2 e B s2 r2 f2 q2=>hc G ρ σ H2 fo _ _ hG (E.same (s1.trans s2)) q2 fun u H3 z C s3 r3 f3 q3=>?_⟩
 obtain⟨p',o,y,ep,g,r4,q4⟩:=zL ((r1'.same s2).same s3) (r2.same s3) r3 q3
 cases ep
 exact⟨o,g,k _ H3 y [] ((s1.trans s2).trans s3) r4 (B0.nil _) q4⟩
def FW(i:Nat)(y d:D)(ρ:Ev)(Q:Ev->Prop):D->Prop
 | .dic kvs=>∃k,S5 y=some k/\kvs.length<sizeLine/\Q (ρ.set i (some (.dic (putD kvs k d))))
 | _=>False
def bF(i:Nat)(mv mk:TM):j7:=fun T ρ=>mv ρ fun d ρ1=>A7 d=true/\e5 i ρ1 fun _=>mk ρ1 fun y ρ2=>e5 i ρ2 (FW i y d ρ2 T.nx)
theorem cX{vp tp:Pos}{ik:Expr}{mk:TM}(hu:X.A.units+1<cLine)(i:Nat)(hv:PE X (.Name x vp) (dC i))(hi:cl[i]?=some .own)(he:PN X cl e ma)(hk:PN X cl ik mk)(hs:swapsWith e (some (.Subscript (.Name x vp) ik tp)) pos.line X.env=pure false:=by rfl) :
  K7 X cl (.Assign [.Subscript (.Name x vp) ik tp] e pos) (bF i ma mk):=.of<|by
 obtain⟨t,p,h⟩:=he.run
 obtain⟨t2,p2,h2⟩:=hk.run
 refine⟨_,qo (BP hu hv p2 p hs),fun G T ρ σ H fa R hG E hu' le=>?_⟩
 have own:G.own i:=by unfold Ent.own;rw[hG];exact hi
 refine h G ρ σ H fa _ _ hG E hu' fun w H1 d B1 ρ1 fa1 E1 c1 r1 n1 q=>?_
 obtain⟨im,q⟩:=q
 have eB:=r1.C7 im
 subst eB
 obtain⟨l0,e0,q⟩:=u5 q
 obtain⟨v,hvi,r0⟩:=E1.rep i l0 e0
 refine⟨_,hvi,h2 G ρ1 σ H1 fa1 _ _ hG E1 q fun wk H2 dk Bk ρ2 fa2 E2 c2 rk nk q=>?_⟩
 obtain⟨l1,e1,q⟩:=u5 q
 obtain⟨v',hv',r2⟩:=E2.rep i l1 e1
 have ev:v'=v:=by rw[hvi] at hv';cases hv';rfl
 subst ev
 cases l1<;>first | exact(show False from q).elim | skip
 rename_i kds
 obtain⟨k,hk,hn,q⟩:∃k,S5 dk=some k/\kds.length<sizeLine/\T.nx (ρ2.set i (some (.dic (putD kds k d)))):=q
 obtain⟨p,kvs,B,rfl,hp,rs,eA⟩:=aV r2
 cases M9 rk hk
 have r1':Rep X.K H2 w d []:=c2.keep r1 fun i _ a ha=>(by cases ha)
 have nd:=E2.nd i (.inl own)
 have pin:p∈fa2 i:=by rw[eA];exact List.mem_cons_self
 rw[eA] at nd
 obtain⟨np,ndB⟩:=List.nodup_cons.mp nd
 obtain⟨C,rC,sC⟩:=rs.put k r1'
 have hpC:p∉C:=fun z=>np (sC.mem z)
 have rn:∀ep,Rep X.K (upd H2 p (.dE (putK kvs k w) ep)) (.ref p) (.dic (putD kds k d)) (p::C):=fun ep=>.dic h9 (rC.mono (T3.FR hp.Ml) fun a ha=>j9 fun e=>hpC (e▸ha))
 have n3:∀a∈p::C,a∈fa2 i:=fun a ha=>by
  rcases List.mem_cons.mp ha with z | z
  ·exact z▸pin
  ·rw[eA];exact List.mem_cons_of_mem _ (sC.mem z)
 have li:i<ρ2.length:=(List.getElem?_eq_some_iff.mp e1).1
 refine⟨p,_,rfl,kA.k hp (by rw[rs.length];exact hn),p,_,h9,fun ep=>?_⟩
 rw[X7]
 exact le.nx _ _ ⟨_,_,E2.put own li hv' pin aU (by rw[h9];exact fun z=>nomatch z) (rn ep) (List.nodup_cons.mpr ⟨hpC,ndB.sublist sC⟩) fun a ha=>.inl (n3 a ha),q⟩
theorem o5.rev{K:PySem.W.Frag}{H:Hp}:∀{vs:List V} {ds:List D} {A:List Addr},o5 K H vs ds A->∃B,o5 K H vs.reverse ds.reverse B/\(∀a,a∈B ↔ a∈A)/\(A.Nodup->B.Nodup)
 | _,_,_,.nil=>⟨[],.nil,fun _=>Iff.rfl,fun h=>h⟩
 | _,_,_,.cons (A:=A) (B:=B) h r=>by
  obtain⟨C,r1,m1,n1⟩:=r.rev
  refine⟨C++(A++[]),by rw[List.reverse_cons,List.reverse_cons];exact r1.append (.cons h .nil),fun a=>?_,fun n=>?_⟩
  ·rw[List.append_nil,List.mem_append,List.mem_append,m1 a]
   exact Or.comm
  ·rw[List.append_nil]
   obtain⟨nA,nB,dj⟩:=List.nodup_append.mp n
   exact List.nodup_append.mpr ⟨n1 nB,nA,fun a ha b hb e=>dj b hb a ((m1 a).mp ha) e.symm⟩
end
section
variable{X:Cx}{cl:List Cl}
theorem R7{b:List Stmt}{s1:Stmt}{t1:j7}(e:b=[s1])(h1:K7 X cl s1 t1):je X cl b t1:=by
 rw[e]
 exact(dS h1)
theorem yp{b:List Stmt}{s1 s2:Stmt}{t1 t2:j7}(e:b=[s1,s2])(h1:K7 X cl s1 t1)(h2:K7 X cl s2 t2):je X cl b (i5 t1 t2):=by
 rw[e]
 exact(y3 h1 (dS h2))
theorem Ex{b:List Stmt}{s1 s2 s3:Stmt}{t1 t2 t3:j7}(e:b=[s1,s2,s3])(h1:K7 X cl s1 t1)(h2:K7 X cl s2 t2)(h3:K7 X cl s3 t3):je X cl b (i5 t1 (i5 t2 t3)):=by
 rw[e]
 exact(y3 h1 (y3 h2 (dS h3)))
theorem AB{b:List Stmt}{s1 s2 s3 s4:Stmt}{t1 t2 t3 t4:j7}(e:b=[s1,s2,s3,s4])(h1:K7 X cl s1 t1)(h2:K7 X cl s2 t2)(h3:K7 X cl s3 t3)(h4:K7 X cl s4 t4):je X cl b (i5 t1 (i5 t2 (i5 t3 t4))):=by
 rw[e]
 exact(y3 h1 (y3 h2 (y3 h3 (dS h4))))
theorem Ek{b:List Stmt}{s1 s2 s3 s4 s5:Stmt}{t1 t2 t3 t4 t5:j7}(e:b=[s1,s2,s3,s4,s5])(h1:K7 X cl s1 t1)(h2:K7 X cl s2 t2)(h3:K7 X cl s3 t3)(h4:K7 X cl s4 t4)(h5:K7 X cl s5 t5):je X cl b (i5 t1 (i5 t2 (i5 t3 (i5 t4 t5)))):=by
 rw[e]
 exact(y3 h1 (y3 h2 (y3 h3 (y3 h4 (dS h5)))))
theorem Me{b:List Stmt}{s1 s2 s3 s4 s5 s6:Stmt}{t1 t2 t3 t4 t5 t6:j7}(e:b=[s1,s2,s3,s4,s5,s6])(h1:K7 X cl s1 t1)(h2:K7 X cl s2 t2)(h3:K7 X cl s3 t3)(h4:K7 X cl s4 t4)(h5:K7 X cl s5 t5)(h6:K7 X cl s6 t6):je X cl b (i5 t1 (i5 t2 (i5 t3 (i5 t4 (i5 t5 t6))))):=by
 rw[e]
 exact(y3 h1 (y3 h2 (y3 h3 (y3 h4 (y3 h5 (dS h6))))))
theorem MI{b:List Stmt}{s1 s2 s3 s4 s5 s6 s7:Stmt}{t1 t2 t3 t4 t5 t6 t7:j7}(e:b=[s1,s2,s3,s4,s5,s6,s7])(h1:K7 X cl s1 t1)(h2:K7 X cl s2 t2)(h3:K7 X cl s3 t3)(h4:K7 X cl s4 t4)(h5:K7 X cl s5 t5)(h6:K7 X cl s6 t6)(h7:K7 X cl s7 t7):je X cl b (i5 t1 (i5 t2 (i5 t3 (i5 t4 (i5 t5 (i5 t6 t7)))))):=by
 rw[e]
 exact(y3 h1 (y3 h2 (y3 h3 (y3 h4 (y3 h5 (y3 h6 (dS h7)))))))
theorem MG{b:List Stmt}{s1 s2 s3 s4 s5 s6 s7 s8:Stmt}{t1 t2 t3 t4 t5 t6 t7 t8:j7}(e:b=[s1,s2,s3,s4,s5,s6,s7,s8])(h1:K7 X cl s1 t1)(h2:K7 X cl s2 t2)(h3:K7 X cl s3 t3)(h4:K7 X cl s4 t4)(h5:K7 X cl s5 t5)(h6:K7 X cl s6 t6)(h7:K7 X cl s7 t7)(h8:K7 X cl s8 t8):je X cl b (i5 t1 (i5 t2 (i5 t3 (i5 t4 (i5 t5 (i5 t6 (i5 t7 t8))))))):=by
 rw[e]
 exact(y3 h1 (y3 h2 (y3 h3 (y3 h4 (y3 h5 (y3 h6 (y3 h7 (dS h8))))))))
end
section
variable{X:Cx}{cl:List Cl}{a:Expr}{f:Fl}{pos:Pos}{ua:TU}
def vo:D->(D->Prop)->Prop
 | .int i,Q=>Q (.int (-i))
 | _,_=>False
def Iz(g:D->(D->Prop)->Prop)(ua:TU):TU:=fun ρ Q=>ua ρ fun d=>g d Q
theorem gN(ha:PU X cl a f ua):PU X cl (.UnaryOp .USub a pos) .fresh (Iz vo ua):=.of<|by
 obtain⟨t,p,h⟩:=ha.run
 refine⟨_,JK Hi p,fun G ρ σ H fo Q R hG E hu k=>h G ρ σ H fo _ _ hG E hu fun v H' d B s r _ q=>?_⟩
 cases d<;>first | exact(show False from q).elim | skip
 cases y4 r
 exact⟨_,rfl,k _ H' _ [] s .int (B0.nil _) q⟩
end
abbrev bP:=uQ fun i j=>D.int (i-j)
abbrev CD:=gI V0 fun i j=>D.int (i/j)
abbrev gz:=gI (fun _ j=>0<j) fun i j=>D.int (i%j)
abbrev Cq:=gI aZ fun i j=>D.int (i^j.toNat)
abbrev KD:=uQ fun i j=>D.bl (decide (i<j))
abbrev IV:=uQ fun i j=>D.bl (decide (j<i))
abbrev Ly:=uQ fun i j=>D.bl (decide (j<=i))
theorem lF{i j:Nat}{ds:List D}{ρ:Ev}{Q:Ev->Prop}(h:C6 (g1 i) (C6 (g1 j) bR) ds ρ Q):ds.length=2:=by
 match ds,h with
 | [_,_],_=>rfl
 | [_],h=>exact h.2.elim
 | _::_::_::_,h=>exact h.2.2.elim
theorem IL{i j k:Nat}{ds:List D}{ρ:Ev}{Q:Ev->Prop}(h:C6 (g1 i) (C6 (g1 j) (C6 (g1 k) bR)) ds ρ Q):ds.length=3:=by
 match ds,h with
 | [_,_,_],_=>rfl
 | [_],h=>exact h.2.elim
 | [_,_],h=>exact h.2.2.elim
 | _::_::_::_::_,h=>exact h.2.2.2.elim
section
variable{X:Cx}{cl:List Cl}{e a b tg:Expr}{es:List Expr}{f:Fl}{pos pos':Pos}{ua ub:TU}{ma mb:TM}{fa fb:Fl}{x:Str}{i:Nat}
def Ay(g:cQ)(u:TU):j7:=fun T ρ=>u ρ fun d=>g d ρ T.nx
theorem rG{g:cQ}(he:PU X cl e f ua)(hf:gP f .stab=true)(hg:An X cl tg g)(mk:∀{te g},PE X e te->PG X tg g->PS X (.Assign [tg] e pos) (pU te g)):K7 X cl (.Assign [tg] e pos) (Ay g ua):=.of<|by
 obtain⟨t,p,h⟩:=he.run
 obtain⟨t2,p2,h2⟩:=hg.run
 refine⟨_,mk p p2,fun G T ρ σ H fa R hG E hu le=>h G ρ σ H fa _ _ hG E hu fun v H' d B s r fo q=>?_⟩
 exact h2 G ρ σ H' fa v d B _ _ hG (E.same s) r (fo.weak E hf) q fun σ' ρ' fa' E' _ _ q'=>le.nx _ _ ⟨ρ',fa',E',q'⟩
def ET(g:cQ)(u:TM):j7:=fun T ρ=>u ρ fun d ρ'=>g d ρ' T.nx
theorem FY{g:cQ}(he:PN X cl e ma)(hg:An X cl tg g)(mk:∀{te g},PE X e te->PG X tg g->PS X (.Assign [tg] e pos) (pU te g)):K7 X cl (.Assign [tg] e pos) (ET g ma):=.of<|by
 obtain⟨t,p,h⟩:=he.run
 obtain⟨t2,p2,h2⟩:=hg.run
 refine⟨_,mk p p2,fun G T ρ σ H fa R hG E hu le=>h G ρ σ H fa _ _ hG E hu fun v H' d B ρ' fa' E' c r n q=>?_⟩
 exact h2 G ρ' σ H' fa' v d B _ _ hG E' r n q fun σ2 ρ2 fa2 E2 _ _ q'=>le.nx _ _ ⟨ρ2,fa2,E2,q'⟩
def JS:D->D->(D->Prop)->Prop
 | .tup xs,.tup ys,Q=>A2 xs=true/\A2 ys=true/\xs.length+ys.length<=sizeLine/\Q (.tup (xs++ys))
 | _,_,_=>False
theorem GD:br X zK JS:=by
 intro H v w d e A B Q R r1 r2 q k
 cases d<;>cases e<;>first | exact q.elim | skip
 obtain⟨p1,vs,rfl,h1,rs1⟩:=M7 r1
 obtain⟨p2,ws,rfl,h2,rs2⟩:=M7 r2
 obtain⟨i1,i2,hn,q⟩:=q
 have e1:=rs1.C7 i1
 have e2:=rs2.C7 i2
 subst e1
 subst e2
 exact⟨p1,p2,vs,ws,rfl,rfl,h1,h2,by rw[rs1.length,rs2.length];exact hn,fun r H' s hr=>k _ _ _ [] s (.tup hr ((rs1.same s).append (rs2.same s))) List.nodup_nil (fun a ha=>(by cases ha)) q⟩
theorem o5.nums{K:PySem.W.Frag}{H:Hp}:∀{bs:List Int} {vs:List V} {A:List Addr},o5 K H vs (bs.map D.int) A->vs=bs.map V.int
 | [],_,_,r=>by cases r;rfl
 | b::bs,_,_,r=>by
  cases r with
  | cons h t=>rw[y4 h,t.nums];rfl
end
end L3
namespace L2
open PySem PySem.Spec PyProof.Rows
theorem hX{prog:Program}{w:World}{A:Around}{R:Result->Shared->Prop}{s:Shared}{kx vx target iter:Expr}{ifs:List Expr}{scope:Scope}{pos:Pos}{it:Value}{D:Addr}{env:Env}(I:Nat->Shared->Prop)
  (turn:∀n s,I n s->wpAny (model prog w) A (pyNext it) (fun r s1=>match r with
   | none=>R (.ok .next) s1
   | some v=>wpAny (model prog w) A (letOwnedTupleGo target it v) (fun _ s2=>wpAny (model prog w) A (assign target env v) (fun _ s3=>
     wpAny (model prog w) A (forIn ifs true fun c r=>if r=true then do let ok <-isTrue c env (eval c env);pure (ForInStep.yield ok) else pure (ForInStep.yield r)) (fun ok s4=>
      if ok=true then wpAny (model prog w) A (eval kx env) (fun kv s5=>wpAny (model prog w) A (eval vx env) (fun vv s5'=>
       wpAny (model prog w) A (dictSet D kv vv) (fun _ s6=>∃m,m<n/\I m s6) (fun _ _=>False) s5') (fun _ _=>False) s5) (fun _ _=>False) s4
      else ∃m,m<n/\I m s4) (fun _ _=>False) s3) (fun _ _=>False) s2) (fun _ _=>False) s1) (fun _ _=>False) s)
  (n:Nat) (h:I n s) :
  codeAny (model prog w) A (.compLoop (.DictComp kx vx [⟨target,iter,ifs,0⟩] scope pos) 0 it (.ref D) env) R s:=by
 refine codeAny_loop rfl I (fun n s hI=>?_) n h
 show wpAny _ A ((compTurn (.DictComp kx vx [⟨target,iter,ifs,0⟩] scope pos) 0 it (.ref D) env).onRaise (fun x=>do noteFrame x env;theTreesLotGoes x)) _ _ s
 refine wpAny_noted ?_
 rw[compTurn_dict]
 refine wpAny_bind (wpAny_standAt (wpAny_bind (wpAny_mono (turn n s hI) (fun r s1 h1=>?_) fun _ _ h'=>h'.elim)))
 cases r with
 | none=>exact wpAny_pure h1
 | some v=>
  refine wpAny_bind (wpAny_mono h1 (fun _ s2 h2=>?_) fun _ _ h'=>h'.elim)
  refine wpAny_bind (wpAny_mono h2 (fun _ s3 h3=>wpAny_bind (wpAny_mono h3 (fun ok s4 h4=>?_) fun _ _ h'=>h'.elim)) fun _ _ h'=>h'.elim)
  cases ok with
  | false=>exact wpAny_pure ⟨rfl,h4⟩
  | true=>
   exact wpAny_bind (wpAny_bind (wpAny_mono h4 (fun kv s5 h5=>wpAny_bind (wpAny_holding (wpAny_mono h5 (fun vv s6 h6=>wpAny_bind (wpAny_standAt (wpAny_holding (wpAny_mono h6 (fun _ s7 h7=>wpAny_pure ⟨rfl,h7⟩) fun _ _ h'=>h'.elim)))) fun _ _ h'=>h'.elim))) fun _ _ h'=>h'.elim))
theorem vz{X:Cx}{pins:List (Addr×Obj)}{σ:St}{H:Hp}{s:Shared}{a:Addr}{v:V}{u r:Value}{A:Around}{E:Value->Shared->Prop}{kvs:List (Key×V)}{k:Key}{Q:Unit->Shared->Prop}(I:Inv X pins σ H s)(e:H a=some (.dK kvs))(l:kvs.length<sizeLine)(ry:RelV (kV k) u)(rv:RelV v r)
  (h:∀s',Inv X pins σ (upd H a (.dK (putK kvs k v))) s'->Q () s'):wpAny (model X.prog X.w) A (dictSet a u r) Q E s:=by
 obtain⟨z,hd,vs,rel,dd⟩:=si I.hok e
 have hz:vs.length<=sizeLine:=by rw[<-rel.length];exact z
 have hl:(putK kvs k v).length<=sizeLine:=by have:=D4 kvs k v;omega
 refine wpAny_dictSet_pairs (hsz:=hz) (Y3 ry) dd fun h' dd' hs=>h _ ?_
 have he:∃q,h'.get? a=some q:=let ⟨q,_,_,hq,_⟩:=dd';⟨q,hq⟩
 exact aW I (by rw[e];exact True.intro) hs he (gi hl hd (rel.put k rv) dd')
def Lu(J:It)(g:TG)(tc:TT)(tk te:TE)(σ0:St)(Q:VK)(H1:Hp):Prop:=∀d,H1 d=none ->
 ∃W:Nat->Nat->Hp->Prop,(∃m,W 0 m (upd H1 d (.dK [])))/\∀i m H,W i m H ->
  (J.stop i H/\Q (.ref d) H) \/
  (J.go i H/\∀x H',J.yld i H x H'->g x σ0 H' fun σ2 H2=>tc σ2 H2 fun b H3=>
   if b=true then tk σ2 H3 fun kv H4=>te σ2 H4 fun v H5=>∃acc k,kv=kV k/\H5 d=some (.dK acc)/\acc.length<sizeLine/\∃m',m'<m/\W (i+1) m' (upd H5 d (.dK (putK acc k v)))
   else ∃m',m'<m/\W (i+1) m' H3)
theorem jv{X:Cx}{N:List Str}{scope:Scope}{cap:List (Option Nat)}{fp:List Addr}{pins:List (Addr×Obj)}{σ:St}{H:Hp}{s:Shared}{kx vx target iter:Expr}{ifs:List Expr}{pos:Pos}{g:List (Str×Addr)->List Addr->Shared->Hp->TG}{tc:List (Str×Addr)->List Addr->Shared->Hp->TT}{tk te:List (Str×Addr)->List Addr->Shared->Hp->TE}{J:It}{it:Addr}{tn:Nat->Heap->Prop}
  {E:Value->Shared->Prop} {RR:Value->Addr->Result->Shared->Prop} {Q:VK} (hcalm:X.calm=true) (cf:O4 X N scope cap) (hk:scope.kind=.function)
  (hg:∀cl fp s H,PG (M4 X N scope cl fp s H) target (g cl fp s H)) (hc:∀cl fp s H,AG (M4 X N scope cl fp s H) ifs (tc cl fp s H)) (hx:∀cl fp s H,PE (M4 X N scope cl fp s H) kx (tk cl fp s H)) (he:∀cl fp s H,PE (M4 X N scope cl fp s H) vx (te cl fp s H))
  (I:Inv X pins σ H s) (T:Turn X.prog X.w X.K target J fp it tn) (st:tn 0 s.heap) (hf:∀b∈fp,U8 X pins H b) (q:∀cl fp s H',Lu J (g cl fp s H') (tc cl fp s H') (tk cl fp s H') (te cl fp s H') (P1 cap σ) Q H)
  (hRR:∀d C H' s' m,Inv X pins σ H' s'->s'.heap.Ns C m->U8 X pins H' C->Q (.ref d) H'->RR (.ref d) C (.ok .next) s') :
  wpAny (model X.prog X.w) X.A newDict (fun acc s3=>wpAny (model X.prog X.w) X.A (newFunctionEnv scope X.env.globals (D0 X.env scope.names []) [] X.env.qual none .none (some X.env)) (fun cenv s4=>
   codeAny (model X.prog X.w) X.A (.compStart (.DictComp kx vx [⟨target,iter,ifs,0⟩] scope pos) 0 (.ref it) acc { cenv with scope:=relabel scope X.env }) (RR acc cenv.locals) s4) E s3) E s:=by
 refine wpAny_newObj_type (wpAny_newFunctionEnv cf.nocell (by intro y hy;simp at hy) (fun h1 hns hsb=>?_) hk)
 have I3:Inv X pins σ (upd H s.heap.objs.size (.dK [])) { s with heap:=s.heap.push { cls:=.type "dict",data:=.dict #[] } }:=I.laid (a:=s.heap.objs.size) (o:=.dK []) (t':=s.toks) (fun _ _ q=>Heap.get?_push_of_some _ q) (Nat.le_refl _) (ar s.heap I.big)
 have hfr:H s.heap.objs.size=none:=I.fresh
 obtain⟨W,⟨m0,w0⟩,turn⟩:=q (D0 X.env scope.names []) fp { s with heap:=s.heap.push { cls:=.type "dict",data:=.dict #[] } } (upd H s.heap.objs.size (.dK [])) s.heap.objs.size hfr
 have hlt:∀b∈fp,b<s.heap.objs.size:=fun b hb=>by
  obtain⟨o,e,_⟩:=T.obj 0 _ st b hb
  exact Heap.lt_size e
 have hf3:∀b∈fp,U8 X pins (upd H s.heap.objs.size (.dK [])) b:=fun b hb=>⟨by rw[j9 (Nat.ne_of_lt (hlt b hb))];exact(hf b hb).1,(hf b hb).2⟩
 have hlt3:∀b∈fp,b<(s.heap.push { cls:=.type "dict",data:=.dict #[] }).objs.size:=fun b hb=>by
  rw[Heap.size_push]
  exact Nat.lt_succ_of_lt (hlt b hb)
 dsimp only at hns hsb ⊢
 generalize hS3:({ s with heap:=s.heap.push { cls:=.type "dict",data:=.dict #[] } }:Shared)=s3 at I3 turn
 have hheap:s3.heap=s.heap.push { cls:=.type "dict",data:=.dict #[] }:=by rw[<-hS3]
 have htok:s3.toks=s.toks:=by rw[<-hS3]
 rw[<-hheap] at hns hsb hlt3
 have keep3:∀b o,s3.heap.get? b=some o->h1.get? b=some o:=fun b o e=>hsb.extBut b o (Nat.ne_of_lt (Heap.lt_size e)) (Heap.get?_push_of_some _ e)
 have keep:∀b o,s.heap.get? b=some o->h1.get? b=some o:=fun b o e=>keep3 b o (by rw[hheap];exact Heap.get?_push_of_some _ e)
 have Ic:=lh (tk:=s.toks) I3 cf hk hf3 hlt3 hns keep3
 have st1:tn 0 h1:=T.keep 0 _ _ st fun b _ o e=>keep b o e
 have fr0:∀b∈fp,(upd H s.heap.objs.size (.dK [])) b=none:=fun b hb=>(hf3 b hb).1
 have stat:∀{H':Hp},(∀b∈fp,H' b=none)->∀b∈fp,U8 (M4 X N scope (D0 X.env scope.names []) fp s3 (upd H s.heap.objs.size (.dK []))) [] H' b:=fun hn b hb=>
  ⟨hn b hb,Nat.ne_of_lt (hlt3 b hb),Ic.ok.exfs b hb,.inl hb,fun x c h=>(hf b hb).2.2.2.2.1 x c (Z8 h),fun p hp=>absurd (show p∈([]:List (Addr×Obj)) from hp) (by simp)⟩
 have hos:s3.os=s.os:=by rw[<-hS3]
 have hge:s3.gens=s.gens:=by rw[<-hS3]
 have loop:codeAny (model X.prog X.w) X.A (.compLoop (.DictComp kx vx [⟨target,iter,ifs,0⟩] scope pos) 0 (.ref it) (.ref s.heap.objs.size) (compEnvC scope (D0 X.env scope.names []) s3.heap.objs.size X.env))
   (RR (.ref s.heap.objs.size) s3.heap.objs.size) { s3 with heap:=h1,toks:=s.toks }:=by
  refine hX (fun n s'=>∃i H',Inv (M4 X N scope (D0 X.env scope.names []) fp s3 (upd H s.heap.objs.size (.dK []))) [] (P1 cap σ) H' s'/\tn i s'.heap/\(∀b∈fp,H' b=none)/\W i n H') ?_ m0 ⟨0,_,Ic,st1,fr0,w0⟩
  rintro n s4 ⟨i,H4,I4,st4,fr4,w4⟩
  rcases turn i n H4 w4 with⟨stop,qn⟩ | ⟨go,step⟩
  ·refine A4 (T.done (M4 X N scope (D0 X.env scope.names []) fp s3 (upd H s.heap.objs.size (.dK []))) rfl rfl rfl hcalm i [] s4 _ H4 (fun _ _=>False) I4 (stat fr4) st4 stop) fun r s5 ⟨hr,I5⟩=>?_
   subst hr
   obtain⟨m,hn5,_⟩:=I5.loc
   refine hRR _ _ H4 s5 m ?_ hn5 (I3.oF (Nat.le_refl _) I5.free) qn
   exact I3.Fg I5.os I5.base I5.hok I5.bare fun b hb=>⟨(hf b hb).2.2.2.1,(hf b hb).2.1,(hf b hb).2.2.2.2.1,(hf b hb).2.2.2.2.2⟩
  ·refine A4 (T.item (M4 X N scope (D0 X.env scope.names []) fp s3 (upd H s.heap.objs.size (.dK []))) rfl rfl rfl hcalm i [] s4 _ H4 (fun _ _=>False) I4 (stat fr4) st4 go) fun r s5 ⟨u,hr,h5⟩=>?_
   subst hr
   refine A4 h5 fun _ s6 ⟨x,H6,I6,r6,y6,st6,fr6⟩=>?_
   have I6':=I6.pinned (stat fr6) (T.obj _ _ st6)
   refine A4 (hg _ _ _ _ _ s6 _ H6 x u _ I6' r6 (step x H6 y6)) fun _ s7 ⟨σ7,H7,I7,q7⟩=>?_
   refine A4 (hc _ _ _ _ _ s7 σ7 H7 _ I7 q7) fun ok s8 ⟨H8,I8,q8⟩=>?_
   have again:∀{σ9:St} {H9:Hp} {s9:Shared},Inv (M4 X N scope (D0 X.env scope.names []) fp s3 (upd H s.heap.objs.size (.dK []))) ([]++cR fp s6.heap) σ9 H9 s9->(∃m',m'<n/\W (i+1) m' H9) ->
     ∃m,m<n/\∃i H',Inv (M4 X N scope (D0 X.env scope.names []) fp s3 (upd H s.heap.objs.size (.dK []))) [] (P1 cap σ) H' s9/\tn i s9.heap/\(∀b∈fp,H' b=none)/\W i m H':=fun {σ9 H9 s9} I9 ⟨m',hm,w9⟩=>by
    refine⟨m',hm,i+1,H9,jq I3 cf hf3 I9.au,T.keep _ _ _ st6 fun b hb o e=>(I9.pin (b,o) (List.mem_append_right _ (List.mem_append_right _ (M3 hb e)))).1,fun b hb=>?_,w9⟩
    obtain⟨o,e,d⟩:=T.obj _ _ st6 b hb
    exact(I9.pin (b,o) (List.mem_append_right _ (List.mem_append_right _ (M3 hb e)))).2.1
   cases ok with
   | false=>exact again I8 q8
   | true=>
    show wpAny _ _ (eval kx _) _ _ s8
    refine A4 (hx _ _ _ _ _ s8 σ7 H8 _ I8 q8) fun y0 s8' ⟨v0,H8',I8',r8',q8'⟩=>?_
    refine A4 (he _ _ _ _ _ s8' σ7 H8' _ I8' q8') fun y s9 ⟨v,H9,I9,r9,acc,k,ek,hacc,hlen,m',hm,w9⟩=>?_
    subst ek
    exact vz (X:=M4 X N scope (D0 X.env scope.names []) fp s3 (upd H s.heap.objs.size (.dK []))) I9 hacc hlen r8' r9 fun s10 I10=>again I10 ⟨m',hm,w9⟩
 have e4:({ s with heap:=h1,toks:=s.toks+([]:List (Str×Value)).length }:Shared)={ s3 with heap:=h1,toks:=s.toks }:=by rw[<-hS3];rfl
 rw[<-hheap,e4]
 exact codeAny_compStart_dict loop (T.self _ 0 _ _ _ st1 loop)
def JA(cap:List (Option Nat))(wi:TI)(g:List (Str×Addr)->List Addr->Shared->Hp->TG)(tc:List (Str×Addr)->List Addr->Shared->Hp->TT)(tk te:List (Str×Addr)->List Addr->Shared->Hp->TE):TE:=fun σ H Q=>wi σ H fun J H1=>∀cl fp s H',Lu J (g cl fp s H') (tc cl fp s H') (tk cl fp s H') (te cl fp s H') (P1 cap σ) Q H1
theorem Gb{X:Cx}{XN N:List Str}{XS scope:Scope}{cap:List (Option Nat)}{kx vx target iter:Expr}{ifs:List Expr}{pos:Pos}{wi:TI}{g:List (Str×Addr)->List Addr->Shared->Hp->TG}{tc:List (Str×Addr)->List Addr->Shared->Hp->TT}{tk te:List (Str×Addr)->List Addr->Shared->Hp->TE}
  (hcap:ax XN N XS scope cap=true) (hN:X.N=XN) (hS:X.env.scope=XS) (hk:scope.kind=.function) (hcalm:X.calm=true) (hi:PI X target iter wi)
  (hg:∀cl fp s H,PG (M4 X N scope cl fp s H) target (g cl fp s H)) (hc:∀cl fp s H,AG (M4 X N scope cl fp s H) ifs (tc cl fp s H)) (hx:∀cl fp s H,PE (M4 X N scope cl fp s H) kx (tk cl fp s H)) (he:∀cl fp s H,PE (M4 X N scope cl fp s H) vx (te cl fp s H))
  (hs:∀x,foldedSetIterable iter X.env x=pure x:=by intro _;rfl):PE X (.DictComp kx vx [⟨target,iter,ifs,0⟩] scope pos) (JA cap wi g tc tk te):=by
 refine .of ?_
 intro pins s σ H Q I h
 have cf:=S2 hN hS hcap
 rw[arm_eval_DictComp]
 refine wpAny_comprehension_free (use:=none) rfl hs (X9 (I.U7 cf)) hk cf.loc (A4 (hi pins s σ H _ I h) fun v s1 h1=>A4 h1 fun itv s2 h2=>?_)
 obtain⟨it,fp,tn,J,H2,rfl,I2,T,st2,f2,q⟩:=h2
 exact jv (RR:=fun acc C=>compPost (model X.prog X.w) X.A X.xe none (EP X pins σ Q) acc C) hcalm cf hk hg hc hx he I2 T st2 f2 q fun d C H' s' m I' hn hC q'=>⟨m,hn,fun h' sb=>⟨.ref d,H',I'.sR hC sb,rfl,q'⟩⟩
theorem um{X:Cx}{i:Nat}{y:Str}{XN N:List Str}{XS scope:Scope}{cap:List (Option Nat)}{kx vx target iter:Expr}{ifs:List Expr}{pos spos py:Pos}{wi:TI}{g:List (Str×Addr)->List Addr->Shared->Hp->TG}{tc:List (Str×Addr)->List Addr->Shared->Hp->TT}{tk te:List (Str×Addr)->List Addr->Shared->Hp->TE}
  (hXN:X.N.Nodup) (hiN:X.N[i]?=some y) (hy:X.env.scope.names.lookup y=some .local)
  (hcap:ax XN N XS scope cap=true) (hN:X.N=XN) (hS:X.env.scope=XS) (hk:scope.kind=.function) (hcalm:X.calm=true) (hi:PI X target iter wi)
  (hg:∀cl fp s H,PG (M4 X N scope cl fp s H) target (g cl fp s H)) (hc:∀cl fp s H,AG (M4 X N scope cl fp s H) ifs (tc cl fp s H)) (hx:∀cl fp s H,PE (M4 X N scope cl fp s H) kx (tk cl fp s H)) (he:∀cl fp s H,PE (M4 X N scope cl fp s H) vx (te cl fp s H))
  (hsw:swapsWith (.DictComp kx vx [⟨target,iter,ifs,0⟩] scope pos) (some (.Name y py)) spos.line X.env=pure true:=by rfl)
  (hs:∀x,foldedSetIterable iter X.env x=pure x:=by intro _;rfl):PS X (.Assign [.Name y py] (.DictComp kx vx [⟨target,iter,ifs,0⟩] scope pos) spos) (pU (JA cap wi g tc tk te) (nX i)):=by
 refine .of ?_
 intro pins s σ H D I h
 have cf:=S2 hN hS hcap
 rw[exec_Assign_Name_used _ _ _ _ hsw]
 refine wpAny_bind (wpAny_standAt (wpAny_bind ?_))
 show wpAny _ X.A (do let _ <-comprehension (.DictComp kx vx [⟨target,iter,ifs,0⟩] scope pos) scope X.env _ newDict false (eval iter X.env) (some (assign (.Name y py) X.env))) _ _ s
 refine wpAny_bind (wpAny_mono (wpAny_comprehension_free (use:=some (assign (.Name y py) X.env)) (Q:=fun _ s'=>SP X pins D .next s') rfl hs (X9 (I.U7 cf)) hk cf.loc (A4 (hi pins s σ H _ I h) fun v s1 h1=>A4 h1 fun itv s2 h2=>?_))
  (fun _ s' hq=>wpAny_pure (wpAny_pure hq)) fun _ _ e=>e)
 obtain⟨it,fp,tn,J,H2,rfl,I2,T,st2,f2,q⟩:=h2
 refine jv (RR:=fun acc C=>compPost (model X.prog X.w) X.A X.xe (some (assign (.Name y py) X.env)) (fun _ s'=>SP X pins D .next s') acc C) hcalm cf hk hg hc hx he I2 T st2 f2 q fun d C H' s' m I' hn hC q'=>?_
 show wpAny _ _ (assign (.Name y py) X.env (.ref d)) _ _ s'
 refine wpAny_assign_Name (dq (v:=.ref d) I' hXN hiN (.inl hy) rfl (fun s2 I2 ⟨a,sb,ha⟩=>⟨m,hn.sameBut sb ?_,fun h' sb'=>⟨_,H',I2.sR hC sb',q'⟩⟩) (.inr hy))
 rcases ha with z | z
 ·rw[z];exact hC.2.1
 ·exact fun e=>hC.2.2.2.2.1 y a z e.symm
end L2
namespace L3
open PySem PySem.Spec L2
theorem A6.same{K:PySem.W.Frag}{H H':Hp}(s:i3 H H'){v:List (Key×V)}{d:List (Key×D)}{A:List Addr}(r:A6 K H v d A):A6 K H' v d A:=
 r.mono (T3.of s) fun a ha=>by
  obtain⟨o,e⟩:=fe.some (r.Y4 a ha)
  rw[e];exact s a o e
def jZ(g:cQ)(tc:cL)(tk te:TU)(ρ0:Ev):List D->List (Key×D)->(List (Key×D)->Prop)->Prop
 | [],acc,Q=>Q acc
 | x::xs,acc,Q=>g x ρ0 fun ρ1=>tc ρ1 fun b=>Br b (tk ρ1 fun y=>te ρ1 fun d=>∃k,S5 y=some k/\A7 d=true/\jZ g tc tk te ρ0 xs (putD acc k d) Q) (jZ g tc tk te ρ0 xs acc Q)
def FK(cap:List (Option Nat))(ui:yC)(g:cQ)(tc:cL)(tk te:TU):TU:=fun ρ Q=>ui ρ fun xs=>xs.length<sizeLine/\jZ g tc tk te (aG cap ρ) xs [] fun ds=>Q (.dic ds)
theorem KO{K:PySem.W.Frag}{cap:List (Option Nat)}{g3:cQ}{tc3:cL}{tk3 te3:TU}{fk fv:Fl}{J:It}{g:TG}{tc:TT}{tk te:TE}{xs:List D}{C:List Addr}{ρ:Ev}{σ:St}{G:Ent}{H1:Hp}{fa:Nat->List Addr}{Q:List (Key×D)->Prop}{R:VK}
  (hg:∀(G:Ent) (ρ:Ev) (σ:St) (H:Hp) (fa:Nat->List Addr) (v:V) (d:D) (B:List Addr) (Q:Ev->Prop) (R:St->Hp->Prop),G.cl=J4 cap->E3 K G ρ σ H fa->Rep K H v d B->(∀i,G.own i->∀a∈B,a∉fa i)->g3 d ρ Q ->
   (∀σ' ρ' fa',E3 K G ρ' σ' H fa'->(∀i,G.own i->fa' i=fa i/\σ'[i]?=σ[i]?)->(∀i,G.own i->ρ'[i]?=ρ[i]?)->Q ρ'->R σ' H)->g v σ H R)
  (hc:∀(G:Ent) (ρ:Ev) (σ:St) (H:Hp) (fa:Nat->List Addr) (Q:Bool->Prop) (R:Bool->Hp->Prop),G.cl=J4 cap->E3 K G ρ σ H fa->tc3 ρ Q->(∀b H',i3 H H'->Q b->R b H')->tc σ H R)
  (hk:∀(G:Ent) (ρ:Ev) (σ:St) (H:Hp) (fa:Nat->List Addr) (Q:D->Prop) (R:VK),G.cl=J4 cap->E3 K G ρ σ H fa->tk3 ρ Q->(∀v H' d B,i3 H H'->Rep K H' v d B->B0 G H fa B fk->Q d->R v H')->tk σ H R)
  (he:∀(G:Ent) (ρ:Ev) (σ:St) (H:Hp) (fa:Nat->List Addr) (Q:D->Prop) (R:VK),G.cl=J4 cap->E3 K G ρ σ H fa->te3 ρ Q->(∀v H' d B,i3 H H'->Rep K H' v d B->B0 G H fa B fv->Q d->R v H')->te σ H R)
  (E:E3 K G ρ σ H1 fa) (it:fA K J xs C H1) (tr:∀a∈C,H1 a≠none) (hn:xs.length<sizeLine) (q:jZ g3 tc3 tk3 te3 (aG cap ρ) xs [] Q)
  (k:∀d H' acc ds,i3 H1 H'->H1 d=none->H' d=some (.dK acc)->A6 K H' acc ds []->Q ds->R (.ref d) H'):Lu J g tc tk te (P1 cap σ) R H1:=by
 intro d hd
 refine⟨fun i m H=>m=xs.length-i/\i<=xs.length/\i3 H1 H/\∃acc ds,H d=some (.dK acc)/\acc.length<=i/\A6 K H acc ds []/\jZ g3 tc3 tk3 te3 (aG cap ρ) (xs.drop i) ds Q,
  ⟨xs.length,by simp,Nat.zero_le _,i3.i8 hd,[],[],h9,Nat.le_refl _,.nil,q⟩,?_⟩
 rintro i m H ⟨rfl,hle,s1,acc,ds,hacc,hal,rs,q⟩
 have tf:Tf H1 H:=⟨fun b ys h=>s1 _ _ h,fun b o u h=>s1 _ _ h⟩
 have kC:∀a∈C,H a=H1 a:=fun a ha=>by
  obtain⟨o,eo⟩:=Option.ne_none_iff_exists'.mp (tr a ha)
  rw[eo];exact s1 a o eo
 by_cases hlt:i<xs.length
 ·right
  obtain⟨go,yl⟩:=(it H tf kC i).2 _ (List.getElem?_eq_getElem hlt)
  rw[List.drop_eq_getElem_cons hlt] at q
  refine⟨go,fun y H2 hy=>?_⟩
  obtain⟨s2,By,rB,sB⟩:=yl y H2 hy
  have E2:=(E.same (s1.trans s2)).comp cap
  refine hg (gH cap) _ _ H2 _ y _ By _ _ rfl E2 rB (fun j hj=>(K8 hj).elim) q fun σ3 ρ3 fa3 E3' _ _ q3=>?_
  refine hc (gH cap) ρ3 σ3 H2 fa3 _ _ rfl E3' q3 fun b H3 s3 q4=>?_
  have hacc3:H3 d=some (.dK acc):=s3 _ _ (s2 _ _ hacc)
  cases b with
  | false=>
   rw[if_neg Bool.false_ne_true]
   exact⟨xs.length-(i+1),by omega,rfl,hlt,(s1.trans s2).trans s3,acc,ds,hacc3,by omega,(rs.same s2).same s3,q4.f rfl⟩
  | true=>
   rw[if_pos rfl]
   refine hk (gH cap) ρ3 σ3 H3 fa3 _ _ rfl (E3'.same s3) (q4.t rfl) fun vk H4 dk Bk s4 rk fok q5=>?_
   refine he (gH cap) ρ3 σ3 H4 fa3 _ _ rfl ((E3'.same s3).same s4) q5 fun v H5 dv Bv s5 rv fo q6=>?_
   obtain⟨kk,ek,im,q6⟩:=q6
   have hacc5:H5 d=some (.dK acc):=s5 _ _ (s4 _ _ hacc3)
   have s15:i3 H1 H5:=(((s1.trans s2).trans s3).trans s4).trans s5
   have st:T3 H5 (upd H5 d (.dK (putK acc kk v))):=⟨fun b ys h=>by
     by_cases e:b=d
     ·subst e;rw[hacc5] at h;cases h
     ·rw[j9 e];exact h,fun b u w' h=>by
     by_cases e:b=d
     ·subst e;rw[hacc5] at h;cases h
     ·rw[j9 e];exact h,fun b h=>by
     by_cases e:b=d
     ·subst e;rw[h9] at h;cases h
     ·rw[j9 e] at h;exact h⟩
   have rs5:=(((rs.same s2).same s3).same s4).same s5
   have eB:=rv.C7 im
   subst eB
   obtain⟨C',rp,sC⟩:=rs5.put kk rv
   have eC:C'=[]:=List.sublist_nil.mp sC
   subst eC
   refine⟨acc,kk,M9 rk ek,hacc5,by omega,xs.length-(i+1),by omega,rfl,hlt,fun b o e=>?_,putK acc kk v,putD ds kk dv,h9,by have:=D4 acc kk v;omega,?_,q6⟩
   ·rw[j9 (C3 e hd)]
    exact s15 _ _ e
   ·exact rp.mono st fun a ha=>by cases ha
 ·have ei:i=xs.length:=by omega
  subst ei
  left
  rw[List.drop_length] at q
  refine⟨(it H tf kC _).1 rfl,k d H acc ds s1 hd hacc rs q⟩
section
variable{X:Cx}{cl:List Cl}{pos:Pos}{f fk fv:Fl}{XN N:List Str}{XS scope:Scope}{cap:List (Option Nat)}{kx vx target iter:Expr}{ifs:List Expr}{ui:yC}{g3:cQ}{tc3:cL}{tk3 te3:TU}
theorem Fp(hcap:ax XN N XS scope cap=true)(hN:X.N=XN)(hS:X.env.scope=XS)(hk:scope.kind=.function)(hcalm:X.calm=true)(hi:bq X cl target iter f ui)
  (hg:∀c fp s H,An (M4 X N scope c fp s H) (J4 cap) target g3) (hc:∀c fp s H,tE (M4 X N scope c fp s H) (J4 cap) ifs tc3) (hx:∀c fp s H,PU (M4 X N scope c fp s H) (J4 cap) kx fk tk3) (he:∀c fp s H,PU (M4 X N scope c fp s H) (J4 cap) vx fv te3)
  (hs:∀x,foldedSetIterable iter X.env x=pure x:=by intro _;rfl):PU X cl (.DictComp kx vx [⟨target,iter,ifs,0⟩] scope pos) .fresh (FK cap ui g3 tc3 tk3 te3):=.of<|by
 obtain⟨wi,pi,hi⟩:=hi.run
 refine⟨_,qp<|Gb (g:=fun c fp s H=>Classical.choose (hg c fp s H).run) (tc:=fun c fp s H=>Classical.choose (hc c fp s H).run) (tk:=fun c fp s H=>Classical.choose (hx c fp s H).run) (te:=fun c fp s H=>Classical.choose (he c fp s H).run) hcap hN hS hk hcalm pi
  (fun c fp s H=>(Classical.choose_spec (hg c fp s H).run).1) (fun c fp s H=>(Classical.choose_spec (hc c fp s H).run).1) (fun c fp s H=>(Classical.choose_spec (hx c fp s H).run).1) (fun c fp s H=>(Classical.choose_spec (he c fp s H).run).1) hs,fun G ρ σ H fa Q R hG E hu k=>?_⟩
 refine hi G ρ σ H fa _ _ hG E hu fun J H1 xs C s it tr fo q=>fun c fp s' H'=>?_
 refine KO (K:=X.K) (Classical.choose_spec (hg c fp s' H').run).2 (Classical.choose_spec (hc c fp s' H').run).2 (Classical.choose_spec (hx c fp s' H').run).2 (Classical.choose_spec (he c fp s' H').run).2 (E.same s) it tr q.1 q.2 fun d H2 acc ds s2 hd hacc rs q2=>⟨d,acc,rfl,hacc,fun ep=>?_⟩
 obtain⟨s3,r⟩:=sh (ep:=ep) s2 hd hacc rs
 exact k _ _ _ [d] (s.trans s3) r ⟨by simp,fun a ha=>by cases List.mem_singleton.mp ha;exact s.free hd⟩ q2
theorem kB{i:Nat}{y:Str}{spos py:Pos}(hXN:X.N.Nodup)(hiN:X.N[i]?=some y)(hy:X.env.scope.names.lookup y=some .local)(hci:Dp cl[i]? .fresh i=true)
  (hcap:ax XN N XS scope cap=true) (hN:X.N=XN) (hS:X.env.scope=XS) (hk:scope.kind=.function) (hcalm:X.calm=true) (hi:bq X cl target iter f ui)
  (hg:∀c fp s H,An (M4 X N scope c fp s H) (J4 cap) target g3) (hc:∀c fp s H,tE (M4 X N scope c fp s H) (J4 cap) ifs tc3) (hx:∀c fp s H,PU (M4 X N scope c fp s H) (J4 cap) kx fk tk3) (he:∀c fp s H,PU (M4 X N scope c fp s H) (J4 cap) vx fv te3)
  (hsw:swapsWith (.DictComp kx vx [⟨target,iter,ifs,0⟩] scope pos) (some (.Name y py)) spos.line X.env=pure true:=by rfl)
  (hs:∀x,foldedSetIterable iter X.env x=pure x:=by intro _;rfl):K7 X cl (.Assign [.Name y py] (.DictComp kx vx [⟨target,iter,ifs,0⟩] scope pos) spos) (y8 i (FK cap ui g3 tc3 tk3 te3)):=.of<|by
 obtain⟨wi,pi,hi⟩:=hi.run
 refine⟨_,qo<|um (g:=fun c fp s H=>Classical.choose (hg c fp s H).run) (tc:=fun c fp s H=>Classical.choose (hc c fp s H).run) (tk:=fun c fp s H=>Classical.choose (hx c fp s H).run) (te:=fun c fp s H=>Classical.choose (he c fp s H).run) hXN hiN hy hcap hN hS hk hcalm pi
  (fun c fp s H=>(Classical.choose_spec (hg c fp s H).run).1) (fun c fp s H=>(Classical.choose_spec (hc c fp s H).run).1) (fun c fp s H=>(Classical.choose_spec (hx c fp s H).run).1) (fun c fp s H=>(Classical.choose_spec (he c fp s H).run).1) hsw hs,fun G T ρ σ H fa R hG E hu le=>?_⟩
 refine hi G ρ σ H fa _ _ hG E hu fun J H1 xs C s it tr fo q=>fun c fp s' H'=>?_
 refine KO (K:=X.K) (Classical.choose_spec (hg c fp s' H').run).2 (Classical.choose_spec (hc c fp s' H').run).2 (Classical.choose_spec (hx c fp s' H').run).2 (Classical.choose_spec (he c fp s' H').run).2 (E.same s) it tr q.1 q.2 fun d H2 acc ds s2 hd hacc rs q2=>⟨d,acc,hacc,fun ep=>?_⟩
 obtain⟨s3,r⟩:=sh (ep:=ep) s2 hd hacc rs
 exact le.nx _ _ ⟨_,_,(E.same (s.trans s3)).set (Nat.le_of_ble_eq_true q2.1) r (fT.of (f:=.fresh) E ⟨by simp,fun a ha=>by cases List.mem_singleton.mp ha;exact s.free hd⟩ (by rw[hG];exact hci)),q2.2⟩
end
mutual
def pyd:D->PyData
 | .bl b=>.bool b
 | .int i=>.int i
 | .str x=>.str x
 | .tup xs=>.tuple (ba xs)
 | .lst xs=>.list (ba xs)
 | .fz xs=>.list (ba xs)
 | _=>.none
def ba:List D->List PyData
 | []=>[]
 | x::xs=>pyd x::ba xs
end
mutual
def mM:D->Bool
 | .non=>true
 | .bl _=>true
 | .int _=>true
 | .str _=>true
 | .tup xs=>nz xs
 | .lst xs=>nz xs
 | .fz xs=>nz xs
 | _=>false
def nz:List D->Bool
 | []=>true
 | x::xs=>mM x&&nz xs
end
section
variable{X:Cx}{pins:List (Addr×Obj)}{σ:St}{H:Hp}{s:Shared}
mutual
theorem U6(I:Inv X pins σ H s):∀{v:V} {d:D} {A:List Addr} {u:Value},Rep X.K H v d A->mM d=true->RelV v u->∃as,Reads s.heap u (pyd d) as
 | _,_,_,_,.non,_,r=>by cases r;exact⟨_,.none⟩
 | _,_,_,_,.bl,_,r=>by cases r;exact⟨_,.bool _⟩
 | _,_,_,_,.int,_,r=>by obtain⟨t,rfl⟩:=r;exact⟨_,.int _ t⟩
 | _,_,_,_,.str,_,r=>by obtain⟨t,rfl⟩:=r;exact⟨_,.str _ t⟩
 | _,_,_,_,.tup h rs,p,r=>by
  cases r
  obtain⟨its,rv,⟨o,ho,hc,n,hd⟩,_⟩:=I.tuple (R8.of h)
  obtain⟨as,q⟩:=aX I rs (by simpa[mM] using p) rv
  exact⟨_,.tuple ho hc hd (by simpa using q)⟩
 | _,_,_,_,.lst h rs,p,r=>by
  cases r
  obtain⟨its,rv,pl,_⟩:=I.list (N7.of h)
  obtain⟨o,ho,hc,n,hd⟩:=pl.isList
  obtain⟨as,q⟩:=aX I rs (by simpa[mM] using p) rv
  exact⟨_,.list ho hc hd (by simpa using q)⟩
 | _,_,_,_,.frz h rs,p,r=>by
  cases r
  obtain⟨its,rv,pl,_⟩:=I.list h.sq
  obtain⟨o,ho,hc,n,hd⟩:=pl.isList
  obtain⟨as,q⟩:=aX I rs (by simpa[mM] using p) rv
  exact⟨_,.list ho hc hd (by simpa using q)⟩
 | _,_,_,_,.dic _ _,p,_=>by simp[mM] at p
 | _,_,_,_,.obj _ _,p,_=>by simp[mM] at p
 | _,_,_,_,.st _ _,p,_=>by simp[mM] at p
 | _,_,_,_,.dn _,p,_=>by simp[mM] at p
 | _,_,_,_,.xc _,p,_=>by simp[mM] at p
 | _,_,_,_,.ty,p,_=>by simp[mM] at p
 | _,_,_,_,.adr,p,_=>by simp[mM] at p
theorem aX(I:Inv X pins σ H s):∀{v:List V} {d:List D} {A:List Addr} {u:List Value},o5 X.K H v d A->nz d=true->Vals v u->∃as,ReadsAll s.heap u (ba d) as
 | _,_,_,_,.nil,_,r=>by cases r;exact⟨_,.nil⟩
 | _,_,_,_,.cons h rs,p,r=>by
  cases r with
  | cons a b=>
   simp only[nz,Bool.and_eq_true] at p
   obtain⟨as,q⟩:=U6 I h p.1 a
   obtain⟨bs,q2⟩:=aX I rs p.2 b
   exact⟨_,.cons q q2⟩
end
end
mutual
def X3:D->Bool
 | .non=>true
 | .bl _=>true
 | .int i=>decide (i.natAbs<10^150)
 | .str x=>x.cps.toList.all fun c=>decide (c<16^8)
 | .tup xs=>oC xs
 | .lst xs=>oC xs
 | .fz xs=>oC xs
 | _=>false
def oC:List D->Bool
 | []=>true
 | x::xs=>X3 x&&oC xs
end
mutual
theorem sV:∀d:D,X3 d=true->mM d=true
 | .non,_=>rfl
 | .bl _,_=>rfl
 | .int _,_=>rfl
 | .str _,_=>rfl
 | .tup xs,h=>by rw[mM];exact cD xs (by simpa[X3] using h)
 | .lst xs,h=>by rw[mM];exact cD xs (by simpa[X3] using h)
 | .fz xs,h=>by rw[mM];exact cD xs (by simpa[X3] using h)
 | .dic _,h=>by simp[X3] at h
 | .obj _ _,h=>by simp[X3] at h
 | .st _,h=>by simp[X3] at h
 | .dn _,h=>by simp[X3] at h
 | .xc _ _ _,h=>by simp[X3] at h
 | .ty _,h=>by simp[X3] at h
 | .adr _,h=>by simp[X3] at h
theorem cD:∀d:List D,oC d=true->nz d=true
 | [],_=>rfl
 | x::xs,h=>by
  simp only[oC,Bool.and_eq_true] at h
  simp only[nz,Bool.and_eq_true]
  exact⟨sV x h.1,cD xs h.2⟩
end
theorem rq{i:Int}(h:i.natAbs<10^150):i.natAbs.log2<1920:=by
 by_cases e:i.natAbs=0
 ·rw[e];decide
 ·exact(Nat.log2_lt e).mpr (Nat.lt_of_lt_of_le h (by decide +kernel))
mutual
theorem fR:∀d:D,X3 d=true->(pyd d).showable=true/\(pyd d).leavesShort 151=true/\(pyd d).hasDict=false
 | .non,_=>⟨by simp[pyd,PyData.showable],by simp[pyd,PyData.leavesShort],by simp[pyd,PyData.hasDict]⟩
 | .bl _,_=>⟨by simp[pyd,PyData.showable],by simp[pyd,PyData.leavesShort],by simp[pyd,PyData.hasDict]⟩
 | .int i,h=>by
  have h:i.natAbs<10^150:=by simpa[X3] using h
  refine⟨?_,?_,by simp[pyd,PyData.hasDict]⟩
  ·simp only[pyd,PyData.showable];exact decide_eq_true (rq h)
  ·simp only[pyd,PyData.leavesShort,PyData.shown]
   refine decide_eq_true ?_
   rw[ofString_length]
   exact int_text_length_le10 (by decide) h
 | .str x,h=>⟨by simp[pyd,PyData.showable],by simpa[pyd,PyData.leavesShort,X3] using h,by simp[pyd,PyData.hasDict]⟩
 | .tup xs,h=>by
  have:=aO xs (by simpa[X3] using h)
  exact⟨by simpa[pyd,PyData.showable] using this.1,by simpa[pyd,PyData.leavesShort] using this.2.1,by simpa[pyd,PyData.hasDict] using this.2.2⟩
 | .lst xs,h=>by
  have:=aO xs (by simpa[X3] using h)
  exact⟨by simpa[pyd,PyData.showable] using this.1,by simpa[pyd,PyData.leavesShort] using this.2.1,by simpa[pyd,PyData.hasDict] using this.2.2⟩
 | .fz xs,h=>by
  have:=aO xs (by simpa[X3] using h)
  exact⟨by simpa[pyd,PyData.showable] using this.1,by simpa[pyd,PyData.leavesShort] using this.2.1,by simpa[pyd,PyData.hasDict] using this.2.2⟩
 | .dic _,h=>by simp[X3] at h
 | .obj _ _,h=>by simp[X3] at h
 | .st _,h=>by simp[X3] at h
 | .dn _,h=>by simp[X3] at h
 | .xc _ _ _,h=>by simp[X3] at h
 | .ty _,h=>by simp[X3] at h
 | .adr _,h=>by simp[X3] at h
theorem aO:∀d:List D,oC d=true->PyData.showableAll (ba d)=true/\PyData.leavesShortAll 151 (ba d)=true/\PyData.hasDictAll (ba d)=false
 | [],_=>⟨by simp[ba,PyData.showableAll],by simp[ba,PyData.leavesShortAll],by simp[ba,PyData.hasDictAll]⟩
 | x::xs,h=>by
  simp only[oC,Bool.and_eq_true] at h
  have a:=fR x h.1
  have b:=aO xs h.2
  exact⟨by simp[ba,PyData.showableAll,a.1,b.1],by simp[ba,PyData.leavesShortAll,a.2.1,b.2.1],by simp[ba,PyData.hasDictAll,a.2.2,b.2.2]⟩
end
def zY(d:D):Prop:=X3 d=true/\(pyd d).weight<=100000/\(pyd d).depth<=50
theorem zY.fits{d:D}(h:zY d):(pyd d).shown.length<=sizeLine:=by
 have:=PyData.shown_le 151 (by decide) (pyd d) (fR d h.1).2.1
 rw[sizeLine_eq]
 have:=h.2.1
 omega
section
variable{X:Cx}{cl:List Cl}{e a b:Expr}{es:List Expr}{f:Fl}{pos:Pos}{ua ub:TU}{ma mb:TM}{fa fb:Fl}
def Fb(X:Cx):List V->Hp->VK->Prop:=fun xs H Q=>∃v d A,xs=[v]/\Rep X.K H v d A/\zY d/\Q (.str (pyd d).shown) H
theorem V2{k:Nat}(hr:J1 k X.A):E7 X (.builtin "repr") (Fb X):=by
 intro pins s σ H xs us Q I r h
 obtain⟨v,d,A,rfl,rp,hs,q⟩:=h
 obtain⟨u,rfl,rx⟩:=vals1 r
 have fin:∀(h':Heap) (u:Tok) (tk:Nat),(∀b o,s.heap.get? b=some o->h'.get? b=some o)->EP X pins σ Q (.str (pyd d).shown u) { s with heap:=h',toks:=tk }:=fun h' u tk hk=>
  ⟨.str _,H,I.kept (t':=tk) hk,⟨_,rfl⟩,q⟩
 obtain⟨as,rd⟩:=U6 I rp (sV d hs.1) rx
 have sd:=fR d hs.1
 have hu:=hr.units
 have hd:=hs.2.2
 have big:∀{a:Addr},u=.ref a->wpAny (model X.prog X.w) X.A (call (.builtin "repr") [u]) (EP X pins σ Q) X.xe s:=fun {a} e=>by
  subst e
  exact repr_of_reads' rd sd.1 (PyData.noDict_hsm sd.2.2) hr.gd (by omega) (fun _ _ e=>e) fin hs.fits
 cases rp with
 | non=>cases rx;exact PySem.P.repr_of_none (fin _ _ _ fun _ _ e=>e)
 | bl=>cases rx;exact PySem.P.repr_of_bool (fin _ _ _ fun _ _ e=>e)
 | int=>obtain⟨t,rfl⟩:=rx;exact PySem.P.repr_of_int (rq (by simpa[X3] using hs.1)) (fin _ _ _ fun _ _ e=>e)
 | str=>obtain⟨t,rfl⟩:=rx;exact PySem.P.repr_of_str (fin _ _ _ fun _ _ e=>e) hs.fits
 | tup _ _=>cases rx;exact big rfl
 | lst _ _=>cases rx;exact big rfl
 | frz _ _=>cases rx;exact big rfl
 | dic _ _=>have:=hs.1;simp[X3] at this
 | obj _ _=>have:=hs.1;simp[X3] at this
 | st _ _=>have:=hs.1;simp[X3] at this
 | dn _=>have:=hs.1;simp[X3] at this
 | xc _=>have:=hs.1;simp[X3] at this
 | ty=>have:=hs.1;simp[X3] at this
 | adr=>have:=hs.1;simp[X3] at this
def fL:List D->(D->Prop)->Prop
 | [d],Q=>zY d/\Q (.str (pyd d).shown)
 | _,_=>False
theorem fO:Call3 X (Fb X) fL:=by
 intro H vs ds A Q R r q k
 unfold fL at q
 split at q
 ·obtain⟨v,rfl,rr⟩:=r.one
  exact⟨v,_,_,rfl,rr,q.1,k _ H _ _ (i3.refl H) .str List.nodup_nil (fun _ h=>(by cases h)) q.2⟩
 ·exact q.elim
def Bx(d:D):Prop:=mM d=true/\(pyd d).canLay0=true/\(pyd d).depth<=64
def Ba(X:Cx)(neg:Bool):R2:=fun x y H Q=>∃d e A B,Rep X.K H x d A/\Rep X.K H y e B/\Bx d/\Bx e/\Q (.bl (ng neg (PyData.eqv (pyd d) (pyd e)))) H
theorem pL{k:Nat}(hr:J1 k X.A):N0 X (compareOp .Eq) (Ba X false):=by
 intro pins s σ H x y v u Q I rx ry h
 obtain⟨d,e,A,B,r1,r2,o1,o2,q⟩:=h
 obtain⟨as,rd⟩:=U6 I r1 o1.1 rx
 obtain⟨bs,re⟩:=U6 I r2 o2.1 ry
 have hu:=hr.units
 exact PySem.SeqAt.compareEq_shaped rd re (by unfold PySem.SeqAt.shaped;rw[o1.2.1,decide_eq_true o1.2.2];rfl) (by unfold PySem.SeqAt.shaped;rw[o2.2.1,decide_eq_true o2.2.2];rfl) hu ⟨.bl _,H,I,rfl,q⟩
theorem FA{k:Nat}(hr:J1 k X.A):N0 X (compareOp .NotEq) (Ba X true):=by
 intro pins s σ H x y v u Q I rx ry h
 obtain⟨d,e,A,B,r1,r2,o1,o2,q⟩:=h
 obtain⟨as,rd⟩:=U6 I r1 o1.1 rx
 obtain⟨bs,re⟩:=U6 I r2 o2.1 ry
 have hu:=hr.units
 exact PySem.SeqAt.compareNe_shaped rd re (by unfold PySem.SeqAt.shaped;rw[o1.2.1,decide_eq_true o1.2.2];rfl) (by unfold PySem.SeqAt.shaped;rw[o2.2.1,decide_eq_true o2.2.2];rfl) hu ⟨.bl _,H,I,rfl,q⟩
def Ju(neg:Bool):D->D->(D->Prop)->Prop:=fun d e Q=>Bx d/\Bx e/\Q (.bl (ng neg (PyData.eqv (pyd d) (pyd e))))
theorem Jn{neg:Bool}:br X (Ba X neg) (Ju neg):=by
 intro H v w d e A B Q R r1 r2 q k
 exact⟨d,e,A,B,r1,r2,q.1,q.2.1,k _ H _ _ (i3.refl H) .bl List.nodup_nil (fun _ h=>(by cases h)) q.2.2⟩
end
end L3
namespace L2
open PySem PySem.Spec PySem.Builtin PySem.Builtin.Str PyProof.Rows
section
variable{X:Cx}
variable{e:Expr}{es:List Expr}{te:TE}{pos:Pos}
end
end L2
namespace L3
open PySem PySem.Spec L2
section
variable{X:Cx}{cl:List Cl}{e a b:Expr}{es:List Expr}{f:Fl}{pos:Pos}{ua ub:TU}{ma mb:TM}{fa fb:Fl}
end
end L3
namespace L2
open PySem PySem.Spec PyProof.Rows
section
variable{X:Cx}
def IU:R2:=fun x y H Q=>∃a v,x=.ref a/\X0 H a y (some v)/\Q v H
theorem sk(hu:X.A.units+1<cLine):AD X IU:=by
 intro value slice pins s σ H x y v u Q I rx ry h hs
 obtain⟨a,z,rfl,g,q⟩:=h
 cases rx
 exact tail_any (lQ I g) PySem.F.slot_dict_getitem.lookup (ja hu I g ry fun w' s3 I3 rw'=>⟨z,H,I3,rw',q⟩) hs
def Bc(neg:Bool):R2:=fun y x H Q=>∃a o,x=.ref a/\X0 H a y o/\Q (.bl (match neg with | true=>!o.isSome | false=>o.isSome)) H
theorem wN(hu:X.A.units+1<cLine):N0 X (compareOp .In) (Bc false):=by
 intro pins s σ H x y v u Q I rx ry h
 obtain⟨a,o,rfl,g,q⟩:=h
 cases ry
 exact LD hu I g rx fun s3 I3=>⟨.bl o.isSome,H,I3,rfl,q⟩
theorem va(hu:X.A.units+1<cLine):N0 X (compareOp .NotIn) (Bc true):=by
 intro pins s σ H x y v u Q I rx ry h
 obtain⟨a,o,rfl,g,q⟩:=h
 cases ry
 exact Df hu I g rx fun s3 I3=>⟨.bl (!o.isSome),H,I3,rfl,q⟩
end
end L2
namespace L3
open PySem PySem.Spec L2
section
variable{X:Cx}{cl:List Cl}{e a b tg:Expr}{es:List Expr}{f:Fl}{pos:Pos}{ua ub:TU}{ma mb:TM}{fa fb:Fl}
def x9:D->D->(D->Prop)->Prop:=fun d e Q=>match d,e with
 | .int i,.int j=>Q (.int (i+j))
 | .str i,.str j=>i.length+j.length<=sizeLine/\Q (.str (i++j))
 | .lst xs,.lst ys=>A2 xs=true/\A2 ys=true/\xs.length+ys.length<=sizeLine/\Q (.lst (xs++ys))
 | .tup xs,.tup ys=>A2 xs=true/\A2 ys=true/\xs.length+ys.length<=sizeLine/\Q (.tup (xs++ys))
 | _,_=>False
abbrev IX:R2:=fun x y H Q=>∃i j,x=.str i/\y=.str j/\i.length+j.length<=sizeLine/\Q (.str (i++j)) H
def Eu:R2:=fun x y H Q=>(vJ fun i j=>.int (i+j)) x y H Q\/IX x y H Q\/Im x y H Q\/zK x y H Q
theorem sQ:N0 X (binaryOp .Add) Eu:=GL.or (pX.or (FI.or Dn))
theorem wA:br X Eu x9:=by
 intro H v w d e A B Q R r1 r2 q k
 cases d<;>cases e<;>first | exact(show False from q).elim | skip
 ·exact .inl (wG H v w _ _ A B Q R r1 r2 q k)
 ·exact .inr (.inl (IE H v w _ _ A B Q R r1 r2 q k))
 ·exact .inr (.inr (.inr (GD H v w _ _ A B Q R r1 r2 q k)))
 ·exact .inr (.inr (.inl (Ke H v w _ _ A B Q R r1 r2 q k)))
theorem x3(ha:PU X cl a fa ua)(hb:PU X cl b fb ub):PU X cl (.BinOp a .Add b pos) .fresh (w8 x9 ua ub):=fw sQ wA ha hb
theorem I0(ha:PN X cl a ma)(hb:PN X cl b mb):PM X cl (.BinOp a .Add b pos) (Z5 x9 ma mb):=zM sQ wA ha hb
def F0:D->D->(D->Prop)->Prop:=fun d e Q=>match d,e with
 | .int i,.int j=>P0 i j/\Q (.int (i*j))
 | .str z,.int n=>MulOk z n/\Q (.str (Txt.mul z n))
 | .lst xs,.int n=>A2 xs=true/\-(2^63)<=n/\n<2^63/\xs.length*n.toNat<=sizeLine/\Q (.lst (List.replicate n.toNat xs).flatten)
 | _,_=>False
abbrev Kq:R2:=fun x y H Q=>∃z n,x=.str z/\y=.int n/\MulOk z n/\Q (.str (Txt.mul z n)) H
def Er:R2:=fun x y H Q=>(rI P0 fun i j=>.int (i*j)) x y H Q\/Kq x y H Q\/IY x y H Q
theorem sT:N0 X (binaryOp .Mult) Er:=GV.or (AI.or Gg)
theorem iT{K:PySem.W.Frag}{H:Hp}{vs:List V}{xs:List D}(r:o5 K H vs xs []):∀n:Nat,o5 K H (List.replicate n vs).flatten (List.replicate n xs).flatten []
 | 0=>.nil
 | n+1=>by
  rw[List.replicate_succ,List.replicate_succ,List.flatten_cons,List.flatten_cons]
  exact r.append (iT r n)
theorem Ap:br X Er F0:=by
 intro H v w d e A B Q R r1 r2 q k
 cases d<;>cases e<;>first | exact(show False from q).elim | skip
 ·exact .inl (lT H v w _ _ A B Q R r1 r2 q k)
 ·exact .inr (.inl (GZ H v w _ _ A B Q R r1 r2 q k))
 ·obtain⟨im,h1,h2,h3,q⟩:=q
  obtain⟨p,vs,B1,rfl,hp,rs,_⟩:=G8 r1
  cases y4 r2
  have eB:=rs.C7 im
  subst eB
  refine .inr (.inr ⟨p,_,vs,rfl,rfl,hp,h1,h2,by rw[rs.length];exact h3,fun l hl=>k _ _ (.lst _) [l] (i3.i8 hl) (.lst h9 ((iT rs _).same (i3.i8 hl))) (by simp) (fun a ha=>?_) q⟩)
  have:a=l:=by simpa using ha
  rw[this];exact hl
theorem J0(ha:PU X cl a fa ua)(hb:PU X cl b fb ub):PU X cl (.BinOp a .Mult b pos) .fresh (w8 F0 ua ub):=fw sT Ap ha hb
theorem W6(ha:PN X cl a ma)(hb:PN X cl b mb):PM X cl (.BinOp a .Mult b pos) (Z5 F0 ma mb):=zM sT Ap ha hb
def bx(neg:Bool):D->D->(D->Prop)->Prop:=fun d e Q=>match aJ d&&aJ e with
 | true=>Iw neg d e Q
 | false=>Ju neg d e Q
theorem sI{neg:Bool}{r:R2}(o:br X r (Iw neg)):br X (fun x y H Q=>r x y H Q\/Ba X neg x y H Q) (bx neg):=by
 intro H v w d e A B Q R r1 r2 q k
 unfold bx at q
 split at q
 ·exact .inl (o H v w d e A B Q R r1 r2 q k)
 ·exact .inr (Jn H v w d e A B Q R r1 r2 q k)
section
variable{kr:Nat}(hr:J1 kr X.A)
include hr
theorem FH(ha:PU X cl a fa ua)(hb:PU X cl b fb ub)(hm:behindInMarks .Eq b=false):PU X cl (.Compare a [.Eq] [b] pos) .fresh (w8 (bx false) ua ub):=fq (xS.or (pL hr)) (sI GI) ha hb hm
theorem jE(ha:PU X cl a fa ua)(hb:PU X cl b fb ub)(hm:behindInMarks .Eq b=false):T7 X cl (.Compare a [.Eq] [b] pos) (uT (w8 (bx false) ua ub)):=S7 (xS.or (pL hr)) (sI GI) ha hb hm
theorem qh(ha:PU X cl a fa ua)(hb:PU X cl b fb ub)(hm:behindInMarks .NotEq b=false):T7 X cl (.Compare a [.NotEq] [b] pos) (uT (w8 (bx true) ua ub)):=S7 (IZ.or (FA hr)) (sI LZ) ha hb hm
theorem HS(ha:PN X cl a ma)(hb:PN X cl b mb)(hm:behindInMarks .Eq b=false):Iu X cl (.Compare a [.Eq] [b] pos) (mT (Z5 (bx false) ma mb)):=yP (xS.or (pL hr)) (sI GI) ha hb hm
def Jx(neg:Bool):D->D->(D->Prop)->Prop:=fun d e Q=>match e with
 | .dic kvs=>∃k,S5 d=some k/\Q (.bl (ng neg (y7 kvs k).isSome))
 | _=>Mr neg d e Q
end
theorem JD{neg:Bool}:br X (fun x y H Q=>JV X.K neg x y H Q\/Bc neg x y H Q) (Jx neg):=by
 intro H v w d e A B Q R r1 r2 q k
 cases e with
 | dic kvs=>
  obtain⟨j,hk,q⟩:∃k,S5 d=some k/\Q (.bl (ng neg (y7 kvs k).isSome)):=q
  obtain⟨p,vs,B',rfl,hp,rs,rfl⟩:=aV r2
  cases M9 r1 hk
  have hv:=rs.val j
  refine .inr ?_
  cases ev:y7 kvs j with
  | none=>
   rw[ev] at q
   exact⟨p,none,rfl,(by have:=X0.k (k:=j) hp;rwa [hv.2 ev] at this),k _ H _ _ (i3.refl H) .bl List.nodup_nil (fun _ h=>(by cases h)) (by cases neg<;>exact q)⟩
  | some z=>
   rw[ev] at q
   obtain⟨u,C,e1,r3,s3⟩:=hv.1 z ev
   exact⟨p,some u,rfl,(by have:=X0.k (k:=j) hp;rwa [e1] at this),k _ H _ _ (i3.refl H) .bl List.nodup_nil (fun _ h=>(by cases h)) (by cases neg<;>exact q)⟩
 | _=>exact .inl (LJ H v w _ _ A B Q R r1 r2 q k)
def Hh:D->D->(D->Prop)->Prop:=fun d y Q=>match d with
 | .dic kvs=>∃k v,S5 y=some k/\y7 kvs k=some v/\Q v
 | _=>Mm d y Q
theorem sM{v w:V}{H:Hp}{d e:D}{A B:List Addr}{Q:D->Prop}{R:VK}(r1:Rep X.K H v d A)(r2:Rep X.K H w e B)(q:Hh d e Q)(k:∀x z C,Rep X.K H x z C->C.Sublist A->Q z->R x H):KN X.K v w H R\/IU v w H R:=by
 cases d with
 | dic kvs=>
  obtain⟨a,u,z,C,e1,g,r3,s3,q3⟩:=DE r1 r2 (show EI (.dic kvs) e Q from q)
  exact .inr ⟨a,u,e1,g,k u z C r3 s3 q3⟩
 | _=>exact .inl (Gj r1 r2 q k)
def i6(ua ub:TU):TU:=fun ρ Q=>ua ρ fun x=>ub ρ fun y=>Hh x y Q
theorem g4(hu:X.A.units+1<cLine)(ha:PU X cl a fa ua)(hb:PU X cl b fb ub)(hs:km b):PU X cl (.Subscript a b pos) fa (i6 ua ub):=.of<|by
 obtain⟨ta,tb,pa,pb,h⟩:=u2 ha hb
 refine⟨_,EU (yK.or (sk hu)) pa pb hs,fun G ρ σ H fo Q R hG E hq k=>?_⟩
 refine h G ρ σ H fo _ _ hG E hq fun v w H' d e A B s r1 r2 f1 f2 q=>?_
 exact sM r1 r2 q fun x z C r sb q2=>k x H' z C s r (f1.sub sb) q2
def iy(ma mb:TM):TM:=fun ρ Q=>ma ρ fun x ρ1=>mb ρ1 fun y ρ2=>Hh x y fun d=>Q d ρ2
theorem W9(hu:X.A.units+1<cLine)(ha:PN X cl a ma)(hb:PN X cl b mb)(hs:km b):PN X cl (.Subscript a b pos) (iy ma mb):=.of<|by
 obtain⟨ta,tb,pa,pb,h⟩:=m2 ha hb
 refine⟨_,EU (yK.or (sk hu)) pa pb hs,fun G ρ σ H fo Q R hG E hq k=>?_⟩
 refine h G ρ σ H fo _ _ hG E hq fun v w H' d e A B ρ' fa' E' c r1 r2 n1 _ q=>?_
 exact sM r1 r2 q fun x z C r s q2=>k x H' z C ρ' fa' E' c r (fun i hi a ha=>n1 i hi a (s.mem ha)) q2
end
section
variable{X:Cx}{cl:List Cl}{e a b tg:Expr}{es:List Expr}{f:Fl}{pos:Pos}{ua ub:TU}{ma mb:TM}{fa fb:Fl}
def vi(ua:TU)(lo hi:Ge):TU:=fun ρ Q=>ua ρ fun d=>lo ρ fun l=>hi ρ fun h=>match d with
 | .tup xs=>A2 xs=true/\Q (.tup (cutD xs l h))
 | .lst xs=>A2 xs=true/\Q (.lst (cutD xs l h))
 | .fz xs=>A2 xs=true/\Q (.lst (cutD xs l h))
 | _=>False
theorem gG{lo hi:Option Expr}{ul uh:Ge}{p2:Pos}(ha:PU X cl a fa ua)(hl:KR X cl lo ul)(hh:KR X cl hi uh):PU X cl (.Subscript a (.Slice lo hi none p2) pos) .fresh (vi ua ul uh):=.of<|by
 obtain⟨ta,pa,ha⟩:=ha.run
 obtain⟨tl,pl,hl⟩:=hl.run
 obtain⟨th,ph,hh⟩:=hh.run
 refine⟨_,yh (Cw.or Fu) pa pl ph,fun G ρ σ H fo Q R hG E hu k=>ha G ρ σ H fo _ _ hG E hu fun v H1 d A s1 r1 f1 q1=>hl G ρ σ H1 fo _ _ hG (E.same s1) q1 fun o1 H2 s2 q2=>hh G ρ σ H2 fo _ _ hG (E.same (s1.trans s2)) q2 fun o2 H3 s3 q3=>?_⟩
 have s13:=(s1.trans s2).trans s3
 have lists:∀{xs:List D},kindB false d=some xs->A2 xs=true->Q (.lst (cutD xs o1 o2))->JQ X.K v o1 o2 H3 R:=fun {xs} e1 im q=>by
  obtain⟨p,vs,B,rfl,hq,rs,_⟩:=aP ((r1.same s2).same s3) e1
  have eB:=rs.C7 im
  subst eB
  refine⟨p,vs,rfl,hq,fun l hl=>?_⟩
  obtain⟨B,sB,rc⟩:=rs.cut (HT.D1 xs.length 0 o1) (HT.D1 xs.length xs.length o2-HT.D1 xs.length 0 o1)
  have eB:B=[]:=List.sublist_nil.mp sB
  subst eB
  refine k _ _ _ [l] (s13.trans (i3.i8 hl)) (.lst h9 ?_) ⟨by simp,fun a ha=>?_⟩ q
  ·have rc2:o5 X.K H3 (fE vs o1 o2) (cutD xs o1 o2) []:=by
    unfold fE cutD
    rw[rs.length]
    exact rc
   exact rc2.same (i3.i8 hl)
  ·have:a=l:=by simpa using ha
   rw[this];exact s13.free hl
 cases d<;>first | exact(show False from q3).elim | skip
 ·rename_i xs
  obtain⟨im,q3⟩:=q3
  obtain⟨p,vs,rfl,hq,rs⟩:=M7 ((r1.same s2).same s3)
  have eB:=rs.C7 im
  subst eB
  refine .inr ⟨p,vs,rfl,hq,fun r H4 s4 hr=>?_⟩
  obtain⟨B,sB,rc⟩:=rs.cut (HT.D1 xs.length 0 o1) (HT.D1 xs.length xs.length o2-HT.D1 xs.length 0 o1)
  have eB:B=[]:=List.sublist_nil.mp sB
  subst eB
  refine k _ _ (.tup (cutD xs o1 o2)) [] (s13.trans s4) (.tup hr ?_) (B0.nil _) q3
  have rc':=rc.same s4
  unfold fE cutD
  rw[rs.length]
  exact rc'
 ·exact .inl (lists rfl q3.1 q3.2)
 ·exact .inl (lists rfl q3.1 q3.2)
end
end L3
namespace L2
open PySem PySem.Spec PySem.Builtin PySem.Builtin.Str PyProof.Rows
section
variable{X:Cx}
def JJ:R2:=fun x y H Q=>∃i j,x=.str i/\y=.str j/\Q (.bl (!decide (j.cps.toList<i.cps.toList))) H
theorem uf:N0 X (compareOp .LtE) JJ:=by
 intro pins s σ H x y v u Q I rx ry h
 obtain⟨i,j,rfl,rfl,q⟩:=h
 obtain⟨t,rfl⟩:=rx
 obtain⟨t',rfl⟩:=ry
 exact PySem.P.le_str ⟨.bl _,H,I,rfl,q⟩
def AN(neg:Bool):R2:=fun x y H Q=>∃b,y=.bl b/\Q (.bl (match neg with | true=>!decide (x=.bl b) | false=>decide (x=.bl b))) H
def Ln(x:Str):It:=⟨fun i _=>i<x.cps.size,fun i H v H'=>H'=H/\∃c,x.cps[i]?=some c/\v=.str ⟨#[c]⟩,fun i _=>i=x.cps.size⟩
theorem mS{P:Program}{w:World}{K:PySem.W.Frag}{tg:Expr}{x:Str}{ty:String}{t:Tok}(it:Addr)
  (W:∀A:Around,A.handled=none->Walks P w A it [it] [it] x.cps.size (SignAt x) (fun i h=>h.IsStrIter it ty x t i)) (hne:["enumerate","zip","dict_itemiterator","dict_reverseitemiterator","odict_iterator","itertools.zip_longest","itertools.pairwise"].contains ty=false)
  (hs:∀(A:Around) (i:Nat) (s:Shared) (Q:Value->Shared->Prop) (E:Value->Shared->Prop),s.heap.IsStrIter it ty x t i->Q (.ref it) s->wpAny (model P w) A (pyIter (.ref it)) Q E s):Turn P w K tg (Ln x) [it] it (fun i h=>h.IsStrIter it ty x t i) where
 mem:=by simp
 obj:=fun i h st b hb=>by
  have e:b=it:=by simpa using hb
  subst e
  obtain⟨o,e,c,d⟩:=st
  exact⟨o,e,fun v z=>by rw[d] at z;cases z⟩
 keep:=fun i h h' st k=>let ⟨o,ho,r⟩:=st;⟨o,k it (by simp) o ho,r⟩
 item:=by
  intro X hP hw hK hc i pins s σ H E I hf st hg
  subst hP hw hK
  obtain⟨f0,f1,f2,f3,f4,f5⟩:=hf it (by simp)
  refine(W X.A (I.ok.hd hc)).item i s _ _ hg st fun v h' tk hv st' kk=>?_
  obtain⟨c,u,hx,rfl⟩:=hv
  have I1:Inv X pins σ H { s with heap:=h',toks:=tk }:=I.turned (fun b o hb e=>kk b o (by simpa using hb) e) f0 f1 f3 f4 f5
  obtain⟨o,e,cc,d⟩:=id st'
  exact⟨_,rfl,oo (s:={ s with heap:=h',toks:=tk }) e cc d hne ⟨.str ⟨#[c]⟩,H,I1,⟨u,rfl⟩,⟨rfl,c,hx,rfl⟩,st',fun b hb=>(hf b hb).1⟩⟩
 done:=by
  intro X hP hw hK hc i pins s σ H E I hf st hg
  subst hP hw hK
  obtain⟨f0,f1,f2,f3,f4,f5⟩:=hf it (by simp)
  have hg:i=x.cps.size:=hg
  subst hg
  exact(W X.A (I.ok.hd hc)).done s _ _ st fun h' tk kk=>⟨rfl,I.turned (fun b o hb e=>kk b o (by simpa using hb) e) f0 f1 f3 f4 f5⟩
 self:=hs
def LP(K:PySem.W.Frag)(tl:TE):TI:=fun σ H R=>tl σ H fun x H1=>(∃z,x=.str z/\R (Ln z) H1)\/∃a,x=.ref a/\((∃xs,N7 K H1 a xs/\R (KH K a) H1)\/∃xs,R8 K H1 a xs/\R (Lc K a) H1)
theorem FX{tg l:Expr}{tl:TE}(hl:PE X l tl):PI X tg l (LP X.K tl):=.of fun pins s σ H R I q=>by
 refine A4 (hl pins s σ H _ I q) fun v s1 ⟨x,H1,I1,r1,q1⟩=>?_
 rcases q1 with⟨z,rfl,q⟩ | ⟨a,rfl,q1⟩
 ·obtain⟨t,rfl⟩:=r1
  have fp:∀b∈[s1.heap.objs.size],U8 X pins H1 b:=fun b hb=>by
   have e:b=s1.heap.objs.size:=by simpa using hb
   subst e
   exact I1.oF (Nat.le_refl _) (I1.hok.fresh (Nat.le_refl _))
  cases ha:z.cps.all (·<128)
  ·exact wpAny_pyIter_wide ha ⟨s1.heap.objs.size,[s1.heap.objs.size],_,_,H1,rfl,I1.kept (t':=s1.toks) fun b o e=>Heap.get?_push_of_some _ e,mS (t:=t) _ (fun A hA=>Walks.strWide hA _ z t) (by decide) (fun A i s Q E st h=>wpAny_pyIter_striter_wide st h),⟨_,Heap.get?_push_size _ rfl,rfl,rfl⟩,fp,q⟩
  ·exact wpAny_pyIter_ascii ha ⟨s1.heap.objs.size,[s1.heap.objs.size],_,_,H1,rfl,I1.kept (t':=s1.toks) fun b o e=>Heap.get?_push_of_some _ e,mS (t:=t) _ (fun A hA=>Walks.strAscii hA _ z t) (by decide) (fun A i s Q E st h=>wpAny_pyIter_striter_ascii st h),⟨_,Heap.get?_push_size _ rfl,rfl,rfl⟩,fp,q⟩
 ·cases r1
  rcases q1 with⟨xs,hq,q⟩ | ⟨xs,hq,q⟩
  ·obtain⟨its,rv,p,hz⟩:=I1.list hq
   refine wpAny_pyIter_list p.isList ?_
   refine⟨s1.heap.objs.size,[s1.heap.objs.size],_,_,H1,rfl,I1.kept (t':=s1.toks) fun b o e=>Heap.get?_push_of_some _ e,ur a _,⟨_,Heap.get?_push_size _ rfl,rfl,rfl⟩,fun b hb=>?_,q⟩
   have e:b=s1.heap.objs.size:=by simpa using hb
   subst e
   exact I1.oF (Nat.le_refl _) (I1.hok.fresh (Nat.le_refl _))
  ·obtain⟨its,rv,p,hz⟩:=I1.tuple hq
   refine wpAny_pyIter_tuple (show s1.heap.IsTuple a its.toArray from p) ?_
   refine⟨s1.heap.objs.size,[s1.heap.objs.size],_,_,H1,rfl,I1.kept (t':=s1.toks) fun b o e=>Heap.get?_push_of_some _ e,qC a _,⟨_,Heap.get?_push_size _ rfl,rfl,rfl⟩,fun b hb=>?_,q⟩
   have e:b=s1.heap.objs.size:=by simpa using hb
   subst e
   exact I1.oF (Nat.le_refl _) (I1.hok.fresh (Nat.le_refl _))
def EC:List V->Hp->VK->Prop:=fun xs H Q=>((∃i,xs=[.int i]/\Q (.int i) H)\/∃k,xs=[.bl k]/\Q (.int (if k then 1 else 0)) H)\/∃x n,xs=[.str x]/\PySem.intText? x=some n/\x.length<=640/\Q (.int n) H
theorem di:E7 X (.type "int") EC:=by
 intro pins s σ H xs us Q I r h
 rcases h with h | ⟨x,n,rfl,hn,hl,q⟩
 ·exact uB pins s σ H xs us Q I r h
 ·obtain⟨u,rfl,t,rfl⟩:=vals1 r
  exact PySem.W.KIN.call_text hn hl ⟨.int n,H,I.tok _,⟨_,rfl⟩,q⟩
end
end L2
namespace L2
open PySem PySem.Spec PyProof.Rows
section
variable{X:Cx}
theorem nQ{x:V}{v:Value}(r:RelV x v)(b:Bool):(v == .bool b)=decide (x=.bl b):=by
 cases x<;>first
  | (cases r;first | rfl | (rename_i c;cases b<;>cases c<;>rfl))
  | (obtain⟨t,rfl⟩:=r;rfl)
theorem wq:N0 X (compareOp .Is) (AN false):=by
 intro pins s σ H x y v u Q I rx ry h
 obtain⟨b,rfl,q⟩:=h
 cases ry
 have f:EP X pins σ Q (.bool (v == .bool b)) s:=⟨.bl _,H,I,by rw[nQ rx];rfl,q⟩
 cases x<;>first
  | (cases rx;exact wpAny_pure f)
  | (obtain⟨t,rfl⟩:=rx;exact wpAny_pure f)
theorem xk:N0 X (compareOp .IsNot) (AN true):=by
 intro pins s σ H x y v u Q I rx ry h
 obtain⟨b,rfl,q⟩:=h
 cases ry
 have f:EP X pins σ Q (.bool (!(v == .bool b))) s:=⟨.bl _,H,I,by rw[nQ rx];rfl,q⟩
 cases x<;>first
  | (cases rx;exact wpAny_pure f)
  | (obtain⟨t,rfl⟩:=rx;exact wpAny_pure f)
end
end L2
namespace L3
open PySem PySem.Spec L2
section
variable{X:Cx}{cl:List Cl}{e a b tg:Expr}{es:List Expr}{f:Fl}{pos:Pos}{ua ub uc:TU}{ma mb:TM}{fa fb fc:Fl}
def xQ:D->D->(D->Prop)->Prop:=fun d e Q=>match d,e with
 | .int i,.int j=>Q (.bl (decide (i<=j)))
 | .str x,.str y=>Q (.bl (!decide (y.cps.toList<x.cps.toList)))
 | _,_=>False
abbrev Kn:R2:=fun x y H Q=>(vJ fun i j=>.bl (decide (i<=j))) x y H Q\/JJ x y H Q
theorem HC:N0 X (compareOp .LtE) Kn:=IM.or uf
theorem Jo:br X Kn xQ:=by
 intro H v w d e A B Q R r1 r2 q k
 cases d<;>cases e<;>first | exact(show False from q).elim | skip
 ·exact .inl (gf H v w _ _ A B Q R r1 r2 q k)
 ·cases C4 r1;cases C4 r2
  exact .inr ⟨_,_,rfl,rfl,k _ H _ _ (i3.refl H) .bl List.nodup_nil (fun _ h=>(by cases h)) q⟩
theorem pD(ha:PU X cl a fa ua)(hb:PU X cl b fb ub)(hm:behindInMarks .LtE b=false):T7 X cl (.Compare a [.LtE] [b] pos) (uT (w8 xQ ua ub)):=S7 HC Jo ha hb hm
def HB(d:D)(b:Bool):Bool:=match d with
 | .bl c=>c == b
 | _=>false
def eM(neg:Bool):D->D->(D->Prop)->Prop:=fun d e Q=>match e with
 | .non=>Q (.bl (ng neg (sj d)))
 | .bl b=>Q (.bl (ng neg (HB d b)))
 | _=>False
theorem rK{K:PySem.W.Frag}{H:Hp}{v:V}{d:D}{A:List Addr}(h:Rep K H v d A)(b:Bool):decide (v=.bl b)=HB d b:=by
 cases h<;>first | (simp[HB];done) | skip
 rename_i c
 cases b<;>cases c<;>rfl
abbrev LF:R2:=fun x y H Q=>y=.non/\Q (.bl (decide (x=.non))) H
abbrev Hc:R2:=fun x y H Q=>y=.non/\Q (.bl (!decide (x=.non))) H
theorem Ee:br X (fun x y H Q=>LF x y H Q\/AN false x y H Q) (eM false):=by
 intro H v w d e A B Q R r1 r2 q k
 cases e<;>first | exact(show False from q).elim | skip
 ·exact .inl (Lb H v w d .non A B Q R r1 r2 q k)
 ·cases X5 r2
  refine .inr ⟨_,rfl,?_⟩
  show R (.bl (decide (v=.bl _))) H
  rw[rK r1]
  exact k _ H _ _ (i3.refl H) .bl List.nodup_nil (fun _ h=>(by cases h)) q
theorem BY:br X (fun x y H Q=>Hc x y H Q\/AN true x y H Q) (eM true):=by
 intro H v w d e A B Q R r1 r2 q k
 cases e<;>first | exact(show False from q).elim | skip
 ·exact .inl (FV H v w d .non A B Q R r1 r2 q k)
 ·cases X5 r2
  refine .inr ⟨_,rfl,?_⟩
  show R (.bl (!decide (v=.bl _))) H
  rw[rK r1]
  exact k _ H _ _ (i3.refl H) .bl List.nodup_nil (fun _ h=>(by cases h)) q
theorem FC(ha:PU X cl a fa ua)(hb:PU X cl b fb ub)(hm:behindInMarks .Is b=false):PU X cl (.Compare a [.Is] [b] pos) .fresh (w8 (eM false) ua ub):=fq (yi.or wq) Ee ha hb hm
theorem Hf(ha:PU X cl a fa ua)(hb:PU X cl b fb ub)(hm:behindInMarks .Is b=false):T7 X cl (.Compare a [.Is] [b] pos) (uT (w8 (eM false) ua ub)):=S7 (yi.or wq) Ee ha hb hm
theorem ak(ha:PU X cl a fa ua)(hb:PU X cl b fb ub)(hm:behindInMarks .IsNot b=false):T7 X cl (.Compare a [.IsNot] [b] pos) (uT (w8 (eM true) ua ub)):=S7 (BM.or xk) BY ha hb hm
def Mi(x y:Str):Bool:=!(Builtin.Str.occurrences x y 0 x.length 1).isEmpty
def mH(neg:Bool):D->D->(D->Prop)->Prop:=fun d e Q=>match e with
 | .str z=>(match d with | .str y=>Q (.bl (ng neg (Mi z y))) | _=>False)
 | _=>Jx neg d e Q
abbrev Hu(neg:Bool):R2:=fun x y H Q=>∃i j,x=.str i/\y=.str j/\Q (.bl (ng neg (Mi j i))) H
theorem yM:N0 X (compareOp .In) (Hu false):=vI
theorem uO:N0 X (compareOp .NotIn) (Hu true):=jL
theorem we{neg:Bool}:br X (fun x y H Q=>(JV X.K neg x y H Q\/Bc neg x y H Q)\/Hu neg x y H Q) (mH neg):=by
 intro H v w d e A B Q R r1 r2 q k
 cases e with
 | str z=>
  cases d<;>first | exact(show False from q).elim | skip
  cases C4 r1;cases C4 r2
  exact .inr ⟨_,_,rfl,rfl,k _ H _ _ (i3.refl H) .bl List.nodup_nil (fun _ h=>(by cases h)) q⟩
 | _=>exact .inl (JD H v w _ _ A B Q R r1 r2 q k)
theorem vO(hu:X.A.units+1<cLine)(ha:PU X cl a fa ua)(hb:PU X cl b fb ub)(hm:behindInMarks .In b=false):PU X cl (.Compare a [.In] [b] pos) .fresh (w8 (mH false) ua ub):=fq ((iO.or (wN hu)).or yM) we ha hb hm
theorem Gk(hu:X.A.units+1<cLine)(ha:PU X cl a fa ua)(hb:PU X cl b fb ub)(hm:behindInMarks .In b=false):T7 X cl (.Compare a [.In] [b] pos) (uT (w8 (mH false) ua ub)):=S7 ((iO.or (wN hu)).or yM) we ha hb hm
theorem vg(hu:X.A.units+1<cLine)(ha:PU X cl a fa ua)(hb:PU X cl b fb ub)(hm:behindInMarks .NotIn b=false):T7 X cl (.Compare a [.NotIn] [b] pos) (uT (w8 (mH true) ua ub)):=S7 ((jP.or (va hu)).or uO) we ha hb hm
def DM(z:Str):List D:=z.cps.toList.map fun c=>.str ⟨#[c]⟩
def D7(u:TU):yC:=fun ρ Q=>u ρ fun d=>match d with
 | .lst xs=>Q xs
 | .fz xs=>Q xs
 | .tup xs=>Q xs
 | .str z=>Q (DM z)
 | _=>False
theorem MO{K:PySem.W.Frag}{H:Hp}(z:Str):fA K (Ln z) (DM z) [] H:=fun H' tf k i=>by
 refine⟨fun hl=>?_,fun d e=>?_⟩
 ·show i=z.cps.size
  rw[<-hl];simp[DM]
 ·unfold DM at e
  rw[List.getElem?_map] at e
  cases ec:z.cps.toList[i]? with
  | none=>rw[ec] at e;cases e
  | some c=>
   rw[ec] at e
   cases e
   have hi:i<z.cps.size:=by
    have:=(List.getElem?_eq_some_iff.mp ec).1
    simpa using this
   have ec':z.cps[i]?=some c:=by simpa using ec
   refine⟨hi,fun x H2 hy=>?_⟩
   obtain⟨rfl,c',e',rfl⟩:=hy
   rw[ec'] at e'
   cases e'
   exact⟨i3.refl _,[],.str,List.nil_sublist _⟩
theorem u4(h:PU X cl e f ua):bq X cl tg e f (D7 ua):=.of<|by
 obtain⟨t,p,h⟩:=h.run
 refine⟨_,FX p,fun G ρ σ H fa Q R hG E hq k=>h G ρ σ H fa _ _ hG E hq fun v H' d B s r fo q=>?_⟩
 cases d<;>first | exact(show False from q).elim | skip
 ·cases C4 r
  exact .inl ⟨_,rfl,k _ H' _ [] s (MO _) (fun a ha=>by cases ha) (B0.nil _) q⟩
 ·obtain⟨p,vs,rfl,hp,rs⟩:=M7 r
  exact .inr ⟨p,rfl,.inr ⟨vs,R8.of hp,k _ H' _ _ s (Mh hp rs) rs.there fo q⟩⟩
 ·have r0:=r
  obtain⟨p,vs,C,rfl,hp,rs,rfl⟩:=G8 r
  exact .inr ⟨p,rfl,.inl ⟨vs,N7.of hp,k _ H' _ _ s (MP hp rs) (fun a ha=>r0.there ha) fo q⟩⟩
 ·obtain⟨p,vs,rfl,hp,rs⟩:=kF r
  exact .inr ⟨p,rfl,.inl ⟨vs,hp.sq,k _ H' _ _ s (MQ hp rs) rs.there fo q⟩⟩
def oD:List D->(D->Prop)->Prop
 | [.int i],Q=>Q (.int i)
 | [.bl k],Q=>Q (.int (if k then 1 else 0))
 | [.str x],Q=>x.length<=640/\∃n,PySem.intText? x=some n/\Q (.int n)
 | _,_=>False
theorem rl:Call3 X EC oD:=by
 intro H vs ds A Q R r q k
 unfold oD at q
 split at q
 ·exact .inl (EW H vs _ A Q R r q k)
 ·exact .inl (EW H vs _ A Q R r q k)
 ·obtain⟨hl,n,hn,q⟩:=q
  obtain⟨v,rfl,rr⟩:=r.one
  cases C4 rr
  exact .inr ⟨_,n,rfl,hn,hl,k _ H _ _ (i3.refl H) .int List.nodup_nil (fun _ h=>(by cases h)) q⟩
 ·exact q.elim
end
end L3
namespace L2
open PySem PySem.Spec PyProof.Rows
end L2
namespace L3
open PySem PySem.Spec L2
section
variable{X:Cx}{cl:List Cl}{e a b tg:Expr}{es:List Expr}{f:Fl}{pos:Pos}{ua ub uc:TU}{ma mb:TM}{fa fb fc:Fl}
end
end L3
namespace My
open PySem L2 L3
theorem O0{α:Type}(x:α)(xs:List α):P4 (x::xs) 0=some x:=by
 have:(0:Int)<((xs.length+1:Nat):Int):=by omega
 unfold P4 kO
 rw[if_pos (Int.le_refl 0),List.length_cons,if_pos this]
 rfl
theorem M1{α:Type}{g:cQ}{tc:cL}{te:TU}{ρ0:Ev}{F f:α->D}{Q:List D->Prop}:∀(as:List α) (acc:List D),(∀a∈as,∀(K:D->Prop) (R:Prop),K (f a)->g (F a) ρ0 fun ρ1=>tc ρ1 fun b=>Br b (te ρ1 K) R)->Q (acc++as.map f)->oq g tc te ρ0 (as.map F) acc Q
 | [],acc,_,q=>by
  rw[List.map_nil,List.append_nil] at q
  exact q
 | a::as,acc,h,q=>by
  rw[List.map_cons]
  refine h a List.mem_cons_self _ _ (M1 as (acc++[f a]) (fun b hb=>h b (List.mem_cons_of_mem _ hb)) ?_)
  rw[List.append_assoc]
  exact q
theorem U9{α:Type}{g:cQ}{tc:cL}{te:TU}{ρ0:Ev}{F f:α->D}{Q:List D->Prop}(p:α->Bool):∀(as:List α) (acc:List D),(∀a∈as,∀(K:D->Prop) (R:Prop),(p a=true->K (f a))->(p a=false->R)->g (F a) ρ0 fun ρ1=>tc ρ1 fun b=>Br b (te ρ1 K) R)->Q (acc++(as.filter p).map f)->oq g tc te ρ0 (as.map F) acc Q
 | [],acc,_,q=>by
  rw[List.filter_nil,List.map_nil,List.append_nil] at q
  exact q
 | a::as,acc,h,q=>by
  rw[List.map_cons]
  refine h a List.mem_cons_self _ _ (fun e=>U9 p as (acc++[f a]) (fun b hb=>h b (List.mem_cons_of_mem _ hb)) ?_) (fun e=>U9 p as acc (fun b hb=>h b (List.mem_cons_of_mem _ hb)) ?_)
  ·rw[List.filter_cons,if_pos e,List.map_cons] at q
   rw[List.append_assoc];exact q
  ·rw[List.filter_cons,if_neg (by rw[e];exact Bool.false_ne_true)] at q
   exact q
theorem get_map{α:Type}{F:α->D}{as:List α}{i:Nat}{d:D}(h:(as.map F)[i]?=some d):∃a,as[i]?=some a/\d=F a:=by
 rw[List.getElem?_map] at h
 cases e:as[i]? with
 | none=>rw[e] at h;cases h
 | some a=>rw[e] at h;cases h;exact⟨a,rfl,rfl⟩
theorem j8{n:Nat}(h:n<=100000):n<sizeLine:=by rw[sizeLine_eq];omega
theorem zx(ns:List Int):A2 (ns.map D.int)=true:=by
 induction ns with
 | nil=>rfl
 | cons n ns ih=>rw[List.map_cons];exact ih
theorem Z6(ns:List Str):A2 (ns.map D.str)=true:=by
 induction ns with
 | nil=>rfl
 | cons n ns ih=>rw[List.map_cons];exact ih
theorem nh{xs:List D}(h:∀x∈xs,A7 x=true):A2 xs=true:=by
 induction xs with
 | nil=>rfl
 | cons n ns ih=>
  show(A7 n&&A2 ns)=true
  rw[h n List.mem_cons_self,ih fun x hx=>h x (List.mem_cons_of_mem _ hx)];rfl
theorem G9{α:Type}{f:α->D}{xs:List α}{i:Int}(h0:0<=i)(h1:i<xs.length):∃x,x∈xs/\xs[i.toNat]?=some x/\P4 (xs.map f) i=some (f x):=by
 have hi:i.toNat<xs.length:=by omega
 refine⟨xs[i.toNat],List.getElem_mem hi,List.getElem?_eq_getElem hi,?_⟩
 unfold P4 kO
 rw[if_pos h0,List.length_map,if_pos h1]
 simp[hi]
theorem Kc{n:Int}(h:n<=10^70)(h0:0<n):n.natAbs.log2<9000:=by
 have h1:n.natAbs<2^9000:=Nat.lt_of_le_of_lt (m:=10^70) (by omega) (by decide +kernel)
 exact(Nat.log2_lt (by omega)).mpr h1
abbrev EM(Q:D->D->Prop):Q6:={ nx:=fun ρ=>e5 0 ρ fun l=>Q .non l,rt:=fun d ρ=>e5 0 ρ fun l=>Q d l }
abbrev EP(Q:D->Prop):Q6:={ nx:=fun _=>Q .non,rt:=fun d _=>Q d }
def nums(xs:List Int):D:=.lst (xs.map D.int)
theorem A9(n:Nat):eO 0 n=(List.range n).map fun(k:Nat)=>D.int (0+(k:Int)):=rfl
theorem dG(p:Key×D)(r:List (Key×D))(j:Key):y7 (p::r) j=if p.1=j then some p.2 else y7 r j:=by
 unfold y7
 rw[List.find?_cons]
 by_cases e:p.1=j
 ·rw[if_pos e,decide_eq_true e];rfl
 ·rw[if_neg e,decide_eq_false e]
theorem iQ(k j:Key)(y:D):∀kvs:List (Key×D),y7 (kvs.map fun kv=>if kv.1=k then(kv.1,y) else kv) j=if j=k then(y7 kvs j).map (fun _=>y) else y7 kvs j
 | []=>by simp[y7]
 | p::r=>by
  rw[List.map_cons,dG,dG,iQ k j y r]
  by_cases e1:p.1=k
  ·rw[if_pos e1]
   by_cases e2:p.1=j
   ·have e3:j=k:=e2.symm.trans e1
    simp[e2,e3]
   ·simp[e2]
  ·rw[if_neg e1]
   by_cases e2:p.1=j
   ·have e3:¬j=k:=fun z=>e1 (e2.trans z)
    simp[e2,e3]
   ·simp[e2]
theorem fX(k:Key):∀kvs:List (Key×D),(kvs.any fun kv=>decide (kv.1=k))=(y7 kvs k).isSome
 | []=>rfl
 | p::r=>by
  rw[List.any_cons,fX k r,dG]
  by_cases e:p.1=k
  ·simp[e]
  ·simp[e]
theorem nD(k j:Key)(y:D):∀kvs:List (Key×D),y7 (kvs++[(k,y)]) j=(y7 kvs j).or (if k=j then some y else none)
 | []=>by rw[List.nil_append,dG];simp[y7]
 | p::r=>by
  rw[List.cons_append,dG,dG,nD k j y r]
  by_cases e:p.1=j
  ·simp[e]
  ·simp[e]
theorem nG(kvs:List (Key×D))(k j:Key)(y:D):y7 (putD kvs k y) j=if j=k then some y else y7 kvs j:=by
 unfold putD
 by_cases a:(kvs.any fun kv=>decide (kv.1=k))=true
 ·rw[if_pos a,iQ]
  rw[fX] at a
  obtain⟨v,hv⟩:=Option.isSome_iff_exists.mp a
  by_cases e:j=k
  ·subst e;simp[hv]
  ·simp[e]
 ·rw[if_neg a,nD]
  rw[fX] at a
  have hn:y7 kvs k=none:=by
   cases q:y7 kvs k with
   | none=>rfl
   | some v=>rw[q] at a;exact(a rfl).elim
  by_cases e:j=k
  ·subst e;simp[hn]
  ·have e':¬k=j:=fun z=>e z.symm
   simp[e,e']
theorem bb(a b:D)(l:List D):P4 (a::b::l) 1=some b:=by
 unfold P4 kO
 rw[if_pos (by decide),if_pos (by simp only[List.length_cons];omega)]
 rfl
theorem ku{α:Type}{g:cQ}{tc:cL}{tk te:TU}{ρ0:Ev}{F v:α->D}{k:α->Key}{Q:List (Key×D)->Prop}:∀(as:List α) (acc:List (Key×D)),(∀a∈as,∀(K:Key->D->Prop) (R:Prop),K (k a) (v a)->g (F a) ρ0 fun ρ1=>tc ρ1 fun b=>Br b (tk ρ1 fun y=>te ρ1 fun d=>∃k,S5 y=some k/\A7 d=true/\K k d) R) ->
  Q (as.foldl (fun acc a=>putD acc (k a) (v a)) acc)->jZ g tc tk te ρ0 (as.map F) acc Q
 | [],acc,_,q=>q
 | a::as,acc,h,q=>by
  rw[List.map_cons]
  exact h a List.mem_cons_self (fun k d=>jZ g tc tk te ρ0 (as.map F) (putD acc k d) Q) _ (ku as _ (fun b hb=>h b (List.mem_cons_of_mem _ hb)) q)
theorem dr{α:Type}{v:α->D}{k:α->Key}(j:Key):∀(as:List α) (acc:List (Key×D)),(∀a∈as,k a≠j)->y7 (as.foldl (fun acc a=>putD acc (k a) (v a)) acc) j=y7 acc j
 | [],acc,_=>rfl
 | a::as,acc,h=>by
  rw[List.foldl_cons,dr j as _ fun b hb=>h b (List.mem_cons_of_mem _ hb),nG,if_neg fun z=>h a List.mem_cons_self z.symm]
theorem fK{α:Type}{v:α->D}{k:α->Key}:∀(as:List α) (acc:List (Key×D)),(as.map k).Nodup->∀a∈as,y7 (as.foldl (fun acc a=>putD acc (k a) (v a)) acc) (k a)=some (v a)
 | [],_,_,a,ha=>by cases ha
 | b::as,acc,h,a,ha=>by
  rw[List.map_cons] at h
  obtain⟨h1,h2⟩:=List.nodup_cons.mp h
  rw[List.foldl_cons]
  rcases List.mem_cons.mp ha with e | e
  ·subst e
   rw[dr (k a) as _ fun c hc z=>h1 (List.mem_map.mpr ⟨c,hc,z⟩),nG,if_pos rfl]
  ·exact fK as _ h2 a e
def Bb(d:D)(ns:List Int):Prop:=d=.fz (ns.map D.int)\/d=.lst (ns.map D.int)
def feed(c d k:Int):D:=.lst [.int c,.int d,.int k]
abbrev Rw:=Str×List D
def row(r:Rw):D:=.tup (.str r.1::r.2)
def gZ(xs:List Str):D:=.lst (xs.map D.str)
def uD:Option Str->D
 | none=>.non
 | some x=>.str x
abbrev Pr:=Int×Int
def pr(p:Pr):D:=.tup [.int p.1,.int p.2]
def oB(ps:List Pr):D:=.tup (ps.map pr)
def Lj(p:Pr):Prop:=1<=p.1/\p.1<10^59/\0<=p.2/\p.2<10^60
theorem W0:∀ps:List Pr,A2 (ps.map pr)=true
 | []=>rfl
 | p::ps=>by
  show((true&&(true&&true))&&A2 (ps.map pr))=true
  rw[W0 ps];rfl
def O2(ps:List Pr):Prop:=1<=ps.length/\ps.length<=5/\(∀p∈ps,1<=p.1/\p.1<10^60/\1<=p.2/\p.2<10^60)/\ps.Pairwise fun p q=>p.1<q.1/\q.2<p.2
def nm(n:Nat)(x:Str):Prop:=1<=x.cps.toList.length/\x.cps.toList.length<=n/\∀c∈x.cps.toList,97<=c/\c<=122
instance (n:Nat) (x:Str):Decidable (nm n x):=by unfold nm;infer_instance
theorem aQ(ps:List Pr):A7 (oB ps)=true:=W0 ps
def S1:Cp:=fun ds Q=>∃(d:D) (ns:List Int) (k:Int),ds=[d,.int k]/\Bb d ns/\0<=k/\∀c,Q (.int c)
def O3:Cp:=fun ds Q=>∃(d:D) (ns:List Int) (k:Int),ds=[d,.int k]/\Bb d ns/\0<=k/\k<=1000/\∀c,Q (feed c c (100*k))
def p9:Cm:=fun ds Q=>∃(c d k n:Int),ds=[feed c d k,.int n]/\0<=k/\k<=10^9/\0<n/\n<=10^70/\∀(r d':Int),0<=r->r<n->Q (.int r) (feed c d' (k+1))
def ka:Str:="abcdefghijklmnopqrstuvwxyz"
def hV(i:Int):Nat:=(P4 ka.cps.toList i).getD 0
theorem Dm:∀n:Nat,n<26->hV (n:Int)=97+n:=by decide +kernel
theorem jM{i:Int}(h0:0<=i)(h1:i<26):hV i=97+i.toNat:=by
 have e:((i.toNat:Nat):Int)=i:=Int.toNat_of_nonneg h0
 have q:=Dm i.toNat (by omega)
 rw[e] at q
 exact q
theorem sX{i j:Int}(i0:0<=i)(i1:i<26)(j0:0<=j)(j1:j<26)(h:hV i=hV j):i=j:=by
 rw[jM i0 i1,jM j0 j1] at h;omega
theorem qF{i:Int}(h0:0<=i)(h1:i<26):97<=hV i/\hV i<=122:=by rw[jM h0 h1];omega
theorem sW{c:Nat}{n:Int}(h0:0<=n)(h1:n<=4):(Txt.mul ⟨#[c]⟩ n).cps.toList=List.replicate n.toNat c:=by
 have h:n=0\/n=1\/n=2\/n=3\/n=4:=by omega
 rcases h with rfl | rfl | rfl | rfl | rfl
 all_goals rfl
theorem vA(xs:List Int):∀acc:Array Nat,((xs.map fun b=>(⟨#[hV b]⟩:Str)).foldl (fun acc p=>acc++(Str.cps "")++p.cps) acc).toList=acc.toList++xs.map hV:=by
 induction xs with
 | nil=>intro acc;simp
 | cons b B ih=>
  intro acc
  rw[List.map_cons,List.foldl_cons,ih,List.map_cons]
  show(acc++#[]++#[hV b]).toList++_=_
  simp
theorem wY(xs:List Int):(Txt.join "" (xs.map fun b=>(⟨#[hV b]⟩:Str))).cps.toList=xs.map hV:=by
 unfold Txt.join Builtin.Str.glued
 cases xs with
 | nil=>rfl
 | cons b B=>
  exact(vA B #[hV b]).trans rfl
theorem AS(x y:Str):(x++y).cps.toList=x.cps.toList++y.cps.toList:=by
 show(x.cps++y.cps).toList=_
 simp
theorem Y5{α:Type}(f:Nat->α)(n:Nat)(h:∀i j,i<n->j<n->f i=f j->i=j):((List.range n).map f).Nodup:=by
 rw[List.Nodup,List.pairwise_map]
 refine List.Pairwise.imp_of_mem ?_ (List.nodup_range (n:=n))
 intro a b ha hb hne e
 exact hne (h a b (List.mem_range.mp ha) (List.mem_range.mp hb) e)
theorem jj{α:Type}{x:α}:∀{xs:List α} (i:Nat),xs.Nodup->x∉xs->(xs.set i x).Nodup
 | [],_,_,_=>List.nodup_nil
 | y::ys,0,h,hx=>List.nodup_cons.mpr ⟨fun z=>hx (List.mem_cons_of_mem _ z),(List.nodup_cons.mp h).2⟩
 | y::ys,i+1,h,hx=>by
  rw[List.set_cons_succ]
  refine List.nodup_cons.mpr ⟨fun z=>?_,jj i (List.nodup_cons.mp h).2 fun z=>hx (List.mem_cons_of_mem _ z)⟩
  rcases List.mem_or_eq_of_mem_set z with w | w
  ·exact(List.nodup_cons.mp h).1 w
  ·exact hx (w▸List.mem_cons_self)
def nameA(f:Int)(i:Nat):Str:=Txt.mul ⟨#[hV ((f+(0+(i:Int)))%26)]⟩ (1+(0+(i:Int))/26)
theorem dF{f:Int}{i:Nat}(hi:i<100):(nameA f i).cps.toList=List.replicate (1+i/26) (hV ((f+(0+(i:Int)))%26)):=by
 unfold nameA
 rw[sW (by omega) (by omega)]
 congr 1
 omega
theorem tw{f:Int}{i j:Nat}(hi:i<100)(hj:j<100)(h:nameA f i=nameA f j):i=j:=by
 have e:=congrArg (fun x:Str=>x.cps.toList) h
 rw[dF hi,dF hj] at e
 have el:=congrArg List.length e
 rw[List.length_replicate,List.length_replicate] at el
 rw[el] at e
 have e2:hV ((f+(0+(i:Int)))%26)=hV ((f+(0+(j:Int)))%26):=by
  have e3:=congrArg (fun l:List Nat=>l.head?) e
  simpa[Nat.add_comm 1,List.replicate_succ] using e3
 have e4:=sX (Int.emod_nonneg _ (by decide)) (Int.emod_lt_of_pos _ (by decide)) (Int.emod_nonneg _ (by decide)) (Int.emod_lt_of_pos _ (by decide)) e2
 omega
theorem Aa{f:Int}{i n:Nat}(hi:i<100)(h:1+i/26<=n):nm n (nameA f i):=by
 unfold nm
 rw[dF hi,List.length_replicate]
 refine⟨by omega,h,fun c hc=>?_⟩
 rw[(List.mem_replicate.mp hc).2]
 exact qF (Int.emod_nonneg _ (by decide)) (Int.emod_lt_of_pos _ (by decide))
def eJ(bs:List Int)(a o b1 b2:Int)(i:Nat):List Int:=(bs.set a.toNat ((b1+(0+(i:Int)))%26)).set o.toNat ((b2+(0+(i:Int))/26)%26)
def dP(bs:List Int)(a o b1 b2 f l:Int)(i:Nat):Str:=Txt.join "" ((eJ bs a o b1 b2 i).map fun b=>(⟨#[hV b]⟩:Str))++Txt.mul ⟨#[hV f]⟩ (l*((0+(i:Int))%2))
theorem ay{bs:List Int}{a o b1 b2:Int}{i:Nat}:(eJ bs a o b1 b2 i).length=bs.length:=by unfold eJ;rw[List.length_set,List.length_set]
theorem jV{bs:List Int}{a o b1 b2:Int}{i:Nat}(hb:∀b∈bs,0<=b/\b<26):∀b∈eJ bs a o b1 b2 i,0<=b/\b<26:=fun b hb'=>by
 rcases List.mem_or_eq_of_mem_set hb' with w | w
 ·rcases List.mem_or_eq_of_mem_set w with w | w
  ·exact hb b w
  ·rw[w];exact⟨Int.emod_nonneg _ (by decide),Int.emod_lt_of_pos _ (by decide)⟩
 ·rw[w];exact⟨Int.emod_nonneg _ (by decide),Int.emod_lt_of_pos _ (by decide)⟩
theorem Js{l:Int}(l0:0<=l)(l1:l<=1)(i:Nat):0<=l*((0+(i:Int))%2)/\l*((0+(i:Int))%2)<=1:=by
 have h:l=0\/l=1:=by omega
 rcases h with rfl | rfl<;>omega
theorem cV{bs:List Int}{a o b1 b2 f l:Int}{i:Nat}(l0:0<=l)(l1:l<=1):(dP bs a o b1 b2 f l i).cps.toList=(eJ bs a o b1 b2 i).map hV++List.replicate (l*((0+(i:Int))%2)).toNat (hV f):=by
 unfold dP
 have:=Js l0 l1 i
 rw[AS,wY,sW this.1 (by omega)]
theorem vE{bs:List Int}{a o b1 b2 f l:Int}{i j:Nat}(hi:i<100)(hj:j<100)(l0:0<=l)(l1:l<=1)(a0:0<=a)(a1:a<bs.length)(o0:0<=o)(o1:o<bs.length)(ao:a≠o)(hb:∀b∈bs,0<=b/\b<26)
  (h:dP bs a o b1 b2 f l i=dP bs a o b1 b2 f l j):i=j:=by
 have e:=congrArg (fun x:Str=>x.cps.toList) h
 rw[cV l0 l1,cV l0 l1] at e
 have e1:=(List.append_inj e (by rw[List.length_map,List.length_map,ay,ay])).1
 have at_:∀(n:Nat) (x y:Int),(eJ bs a o b1 b2 i)[n]?=some x->(eJ bs a o b1 b2 j)[n]?=some y->x=y:=fun n x y hx hy=>by
  have e2:=congrArg (fun z:List Nat=>z[n]?) e1
  rw[List.getElem?_map,List.getElem?_map,hx,hy] at e2
  have:=jV hb x (List.mem_of_getElem? hx)
  have:=jV hb y (List.mem_of_getElem? hy)
  exact sX (by omega) (by omega) (by omega) (by omega) (Option.some.inj e2)
 have ga:∀k:Nat,(eJ bs a o b1 b2 k)[a.toNat]?=some ((b1+(0+(k:Int)))%26):=fun k=>by
  unfold eJ
  rw[List.getElem?_set_ne (by omega),List.getElem?_set_self (by omega)]
 have go:∀k:Nat,(eJ bs a o b1 b2 k)[o.toNat]?=some ((b2+(0+(k:Int))/26)%26):=fun k=>by
  unfold eJ
  rw[List.getElem?_set_self (by rw[List.length_set];omega)]
 have q1:=at_ _ _ _ (ga i) (ga j)
 have q2:=at_ _ _ _ (go i) (go j)
 omega
theorem xv{bs:List Int}{a o b1 b2 f l:Int}{i n:Nat}(l0:0<=l)(l1:l<=1)(f0:0<=f)(f1:f<26)(hb:∀b∈bs,0<=b/\b<26)(h1:1<=bs.length)(h2:bs.length+l<=n):nm n (dP bs a o b1 b2 f l i):=by
 have:=Js l0 l1 i
 have h:l=0\/l=1:=by omega
 unfold nm
 rw[cV l0 l1,List.length_append,List.length_map,ay,List.length_replicate]
 refine⟨by omega,?_,fun c hc=>?_⟩
 ·rcases h with rfl | rfl
  ·rw[Int.zero_mul];show bs.length+0<=n;omega
  ·omega
 ·rcases List.mem_append.mp hc with w | w
  ·obtain⟨b,hb',rfl⟩:=List.mem_map.mp w
   have:=jV hb b hb'
   exact qF this.1 this.2
  ·rw[(List.mem_replicate.mp w).2]
   exact qF f0 f1
theorem zv{a r n:Int}(a0:0<=a)(a1:a<n)(r0:0<=r)(r1:r<n-1):a≠(a+1+r)%n:=by
 by_cases h:a+1+r<n
 ·rw[Int.emod_eq_of_lt (by omega) h];omega
 ·have e:(a+1+r)%n=a+1+r-n:=by
   have e2:a+1+r=(a+1+r-n)+n:=by omega
   rw[e2,Int.add_emod_right,Int.emod_eq_of_lt (by omega) (by omega)]
   omega
  rw[e];omega
def aa:Cm:=fun ds Q=>∃(c d k m:Int),ds=[feed c d k,.int m]/\0<=k/\k<=10^6/\1<=m/\m<=100/\∀(xs:List Str) (d' k':Int),xs.length=m->xs.Nodup->(∀x∈xs,nm 8 x)->Q (gZ xs) (feed c d' k')
local macro_rules | `(tactic| walk_at "w")=>`(tactic| conv=>whnf)
local macro_rules | `(tactic| walk_at "a")=>`(tactic| first | refine⟨rfl,?_⟩ | refine⟨_,rfl,?_⟩ | refine⟨(show(0:Int)<_ from by decide),?_⟩ | refine⟨(show V0 _ _ from⟨by decide,by decide⟩),?_⟩ | refine⟨(show aZ _ _ from⟨by decide,by decide,by decide⟩),?_⟩ | refine⟨(show P0 _ _ from .inr ⟨by decide,by decide⟩),?_⟩ | refine⟨(show P0 _ _ from .inl ⟨by decide,by decide⟩),?_⟩ | refine⟨_,_,_,rfl,rfl,rfl,?_⟩ | refine⟨_,O0 _ _,?_⟩ | refine⟨_,_,rfl,rfl,?_⟩)
local macro_rules | `(tactic| walk_at "r")=>`(tactic| ((repeat ((conv=>whnf);(walk_at "a")));(try (conv=>whnf))))
structure Jh(xs:List Str)(gs:List Rw)(ds:List Nat)(i:Nat)(g:Rw)(u:Option Str)(e:Nat)(cv:List Pr)(n1 n2:Int):Prop where
 name:xs[i]?=some g.1
 row:g.2=[uD u,oB cv,.int n1,.int n2]
 cv:O2 cv
 n1:0<=n1/\n1<10^60
 n2:0<=n2/\n2<10^60
 dep:ds[i]?=some e
 top:u=none->e=1
 under:∀y,u=some y->∃j f gj,j<i/\gs[j]?=some gj/\gj.1=y/\ds[j]?=some f/\e=f+1
 ge:1<=e
 le:e<=8
def Kw(xs:List Str)(gs:List Rw)(ds:List Nat):Prop:=ds.length=gs.length/\∀i g,gs[i]?=some g->∃u e cv n1 n2,Jh xs gs ds i g u e cv n1 n2
theorem Kw.A2{xs:List Str}{gs:List Rw}{ds:List Nat}(h:Kw xs gs ds):∀g∈gs,A2 g.2=true:=fun g hg=>by
 obtain⟨i,hi⟩:=List.getElem?_of_mem hg
 obtain⟨u,e,cv,n1,n2,a⟩:=h.2 i g hi
 rw[a.row]
 show(A7 (uD u)&&(A7 (oB cv)&&(true&&(true&&true))))=true
 rw[aQ]
 cases u<;>rfl
theorem Jh.more{xs:List Str}{gs:List Rw}{ds:List Nat}{i:Nat}{g:Rw}{u:Option Str}{e:Nat}{cv:List Pr}{n1 n2:Int}(a:Jh xs gs ds i g u e cv n1 n2)(gs':List Rw)(ds':List Nat):Jh xs (gs++gs') (ds++ds') i g u e cv n1 n2:=by
 refine⟨a.name,a.row,a.cv,a.n1,a.n2,?_,a.top,fun y hy=>?_,a.ge,a.le⟩
 ·rw[List.getElem?_append_left (List.getElem?_eq_some_iff.mp a.dep).1];exact a.dep
 ·obtain⟨j,f,gj,h1,h2,h3,h4,h5⟩:=a.under y hy
  exact⟨j,f,gj,h1,by rw[List.getElem?_append_left (List.getElem?_eq_some_iff.mp h2).1];exact h2,h3,by rw[List.getElem?_append_left (List.getElem?_eq_some_iff.mp h4).1];exact h4,h5⟩
theorem Kw.snoc{xs:List Str}{gs:List Rw}{ds:List Nat}{g:Rw}{e:Nat}{u:Option Str}{cv:List Pr}{n1 n2:Int}(h:Kw xs gs ds)(a:Jh xs (gs++[g]) (ds++[e]) gs.length g u e cv n1 n2):Kw xs (gs++[g]) (ds++[e]):=by
 refine⟨by simp[h.1],fun i x hi=>?_⟩
 by_cases hl:i<gs.length
 ·rw[List.getElem?_append_left hl] at hi
  obtain⟨u',e',cv',n1',n2',a'⟩:=h.2 i x hi
  exact⟨u',e',cv',n1',n2',a'.more _ _⟩
 ·have hi2:=(List.getElem?_eq_some_iff.mp hi).1
  rw[List.length_append,List.length_singleton] at hi2
  have ei:i=gs.length:=by omega
  subst ei
  rw[List.getElem?_append_right (Nat.le_refl _),Nat.sub_self] at hi
  cases hi
  exact⟨_,_,_,_,_,a⟩
structure Ll(xs:List Str)(gs:List Rw)(i:Nat)(l:Rw)(y:Str)(ps:List Pr)(n:Int)(b:Bool):Prop where
 name:xs[i]?=some l.1
 row:l.2=[.str y,oB ps,.int n,.bl b]
 at_:∃g∈gs,g.1=y
 len:ps.length<=4
 prs:∀p∈ps,Lj p
 n:0<=n/\n<10^60
def Md(xs:List Str)(gs ls:List Rw):Prop:=ls.length=xs.length/\∀i l,ls[i]?=some l->∃y ps n b,Ll xs gs i l y ps n b
theorem Ll.A2{xs:List Str}{gs:List Rw}{i:Nat}{l:Rw}{y:Str}{ps:List Pr}{n:Int}{b:Bool}(a:Ll xs gs i l y ps n b):A2 l.2=true:=by
 rw[a.row]
 show(true&&(L3.A2 (ps.map pr)&&(true&&(true&&true))))=true
 rw[W0];rfl
theorem Md.A2{xs:List Str}{gs ls:List Rw}(h:Md xs gs ls):∀l∈ls,A2 l.2=true:=fun l hl=>by
 obtain⟨i,hi⟩:=List.getElem?_of_mem hl
 obtain⟨y,ps,n,b,a⟩:=h.2 i l hi
 exact a.A2
end My
namespace My
open PySem L2 L3
structure Gd where
 nm:Str
 un:Option Str
 cv:List Pr
 de:Int
 wa:Int
structure Ld where
 nm:Str
 at_:Str
 cs:List Pr
 la:Int
 on:Bool
structure Bd where
 gs:List Gd
 ls:List Ld
def gD(g:Gd):D:=.tup [.str g.nm,uD g.un,oB g.cv,.int g.de,.int g.wa]
def lD(l:Ld):D:=.tup [.str l.nm,.str l.at_,oB l.cs,.int l.la,.bl l.on]
def bD(b:Bd):D:=.tup [.tup (b.gs.map gD),.tup (b.ls.map lD)]
def CF(gs:List Gd):Prop:=∃dp:Nat->Nat,∀i g,gs[i]?=some g->1<=dp i/\dp i<=8/\(g.un=none->dp i=1)/\∀y,g.un=some y->∃j gj,j<i/\gs[j]?=some gj/\gj.nm=y/\dp i=dp j+1
structure p5(b:Bd):Prop where
 g1:1<=b.gs.length
 g16:b.gs.length<=16
 l24:b.ls.length<=24
 nd:(b.gs.map (·.nm)++b.ls.map (·.nm)).Nodup
 nmg:∀g∈b.gs,nm 8 g.nm
 nml:∀l∈b.ls,nm 8 l.nm
 cv:∀g∈b.gs,O2 g.cv
 de:∀g∈b.gs,0<=g.de/\g.de<10^60
 wa:∀g∈b.gs,0<=g.wa/\g.wa<10^60
 un:CF b.gs
 cs4:∀l∈b.ls,l.cs.length<=4
 cs:∀l∈b.ls,∀p∈l.cs,1<=p.1/\p.1<10^60/\0<=p.2/\p.2<10^60
 la:∀l∈b.ls,0<=l.la/\l.la<10^60
 at_:∀l∈b.ls,∃g∈b.gs,g.nm=l.at_
theorem fV(u:Option Str):A7 (uD u)=true:=by cases u<;>rfl
theorem Z7(g:Gd):A7 (gD g)=true:=by
 show(true&&(A7 (uD g.un)&&(A7 (oB g.cv)&&(true&&(true&&true)))))=true
 rw[fV,aQ];rfl
theorem HQ(g:Ld):A7 (lD g)=true:=by
 show(true&&(true&&(A7 (oB g.cs)&&(true&&(true&&true)))))=true
 rw[aQ];rfl
theorem R3{α:Type}{f:α->D}(h:∀a,A7 (f a)=true)(as:List α):A2 (as.map f)=true:=nh fun x hx=>by
 obtain⟨a,_,rfl⟩:=List.mem_map.mp hx
 exact h a
theorem cA(gs:List Gd):A2 (gs.map gD)=true:=R3 Z7 gs
theorem ke(gs:List Ld):A2 (gs.map lD)=true:=R3 HQ gs
theorem vY(b:Bd):A7 (bD b)=true:=by
 show(A2 (b.gs.map gD)&&(A2 (b.ls.map lD)&&true))=true
 rw[cA,ke];rfl
end My
namespace L2
open PySem PySem.Spec PyProof.Rows
theorem GA(h:Heap)(a:Addr):∃h0:Heap,h0.get? a=none/\∀b,b≠a->h0.get? b=h.get? b:=by
 refine⟨h.update a fun o=>⟨o.cls,o.dict,.freed,o.slots⟩,?_,fun b hb=>Heap.get?_update_ne h b a _ hb⟩
 obtain⟨objs,l⟩:=h
 unfold Heap.update Heap.get?
 dsimp only
 rw[Array.getElem?_modify,if_pos rfl]
 cases objs[a]?<;>rfl
theorem EJ(h:Heap):∀l:List Addr,∃h0:Heap,(∀b∈l,h0.get? b=none)/\∀b,b∉l->h0.get? b=h.get? b
 | []=>⟨h,fun b hb=>(by cases hb),fun b _=>rfl⟩
 | a::l=>by
  obtain⟨h1,p1,p2⟩:=EJ h l
  obtain⟨h0,q1,q2⟩:=GA h1 a
  refine⟨h0,fun b hb=>?_,fun b hb=>?_⟩
  ·by_cases e:b=a
   ·rw[e];exact q1
   ·rw[q2 b e]
    exact p1 b ((List.mem_cons.mp hb).resolve_left e)
  ·rw[q2 b fun z=>hb (z▸List.mem_cons_self)]
   exact p2 b fun z=>hb (List.mem_cons_of_mem _ z)
theorem rebase{h base base':Heap}:∀{l:List Env},(∀b∈Y2 l,base'.get? b=none)->h.FunFrames base l->h.FunFrames base' l
 | [],_,_=>trivial
 | env::l,hb,⟨h1,⟨L,o,h2,h3,h4,h5⟩,h6⟩=>by
  refine⟨h1,⟨L,o,h2,hb L ?_,h4,h5⟩,rebase (fun b hb'=>hb b ?_) h6⟩
  ·unfold Y2;rw[List.filterMap_cons,h2];exact List.mem_cons_self
  ·unfold Y2 at hb' ⊢;rw[List.filterMap_cons,h2];exact List.mem_cons_of_mem _ hb'
def Iv(h:Heap)(e:Addr)(cls a0:Value)(T:Addr):Prop:=
 ∃oe vs oT ts,h.get? e=some oe/\oe.cls=cls/\vs[0]?=some a0/\oe.data=.fields vs/\vs[1]?=some (.ref T)/\T≠e/\h.get? T=some oT/\oT.data=.fields ts/\ts[3]?=some .none
structure Hn(l:List Env)(old:List Addr)(h h':Heap)(e:Addr)(cls a0:Value)(T:Addr):Prop where
 keep:∀b o,h.get? b=some o->b≠e->b∉old->b∉Y2 l->h'.get? b=some o
 slot:∀b o,h.get? b=some o->b∈Y2 l->∃sl,h'.get? b=some { o with slots:=sl }
 AF:Iv h' e cls a0 T
 new:T∈old\/h.get? T=none
section
variable{M:Model}{A:Around}{E:Value->Shared->Prop}{s:Shared}{base:Heap}{env:Env}{outer:List Env}{L e:Addr}{Q:Unit->Shared->Prop}
theorem Cu{base':Heap}{l:List Env}{old:List Addr}{h h':Heap}{cls a0:Value}(hl:h.FunFrames base' l)(hb:∀b,b∉e::(Y2 l++old)->base'.get? b=h.get? b)(x:Heap.LeftW base' l e cls a0 h h'):∃T,Hn l old h h' e cls a0 T:=by
 obtain⟨x1,x2,⟨oe,vs,T,oT,ts,he,⟨hc,h0⟩,hd,h1,hnT,hTe,hT,hdT,h3⟩,x4⟩:=x
 refine⟨T,fun b o hbo h1 h2 h3=>x1 b o ?_,fun b o hbo hm=>?_,⟨oe,vs,oT,ts,he,hc,h0,hd,h1,hTe,hT,hdT,h3⟩,?_⟩
 ·rw[hb b fun z=>?_]
  ·exact hbo
  ·rcases List.mem_cons.mp z with z | z
   ·exact h1 z
   ·exact(List.mem_append.mp z).elim h3 h2
 ·obtain⟨_,o',ho',hn⟩:=hl.mem hm
  rw[hbo] at ho'
  cases ho'
  exact x4 b o hbo hn
 ·by_cases hTo:T∈old
  ·exact .inl hTo
  ·right
   rw[<-hb T fun z=>?_]
   ·exact hnT
   ·rcases List.mem_cons.mp z with z | z
    ·exact hTe z
    ·rcases List.mem_append.mp z with z | z
     ·obtain⟨_,o',ho',hn⟩:=x2.mem z
      rw[hT] at ho'
      cases ho'
      exact hn ts hdT
     ·exact hTo z
theorem kS{oe:Obj}{vs:Array Value}{a0:Value}(hfr:A.frames=some (env::outer))(hl:s.heap.FunFrames base (env::outer))(hf:env.frame=some L)(he:s.heap.get? e=some oe)(hd:oe.data=.fields vs)(h1:vs[1]?=some .none)(h0:vs[0]?=some a0)
  (h:∀h' T,Hn (env::outer) [] s.heap h' e oe.cls a0 T->Q () { s with heap:=h' }):wpAny M A (leaving env (.ref e)) Q E s:=by
 obtain⟨b',p1,p2⟩:=EJ s.heap (e::(Y2 (env::outer)++[]))
 have hl':s.heap.FunFrames b' (env::outer):=rebase (fun b hb=>p1 b (List.mem_cons_of_mem _ (List.mem_append_left _ hb))) hl
 refine wpAny_leaving_firstW hfr hl' hf he (fun b o hb=>?_) (p1 e List.mem_cons_self) hd h1 h0 fun h' hL=>?_
 ·by_cases hm:b∈e::(Y2 (env::outer)++[])
  ·rw[p1 b hm] at hb;cases hb
  ·rw[<-p2 b hm];exact hb
 ·obtain⟨T,g⟩:=Cu hl' p2 hL
  exact h h' T g
end
theorem u6.is{P:Program}{w:World}{H:Hp}{h:Heap}{a:Addr}{o:HO}(x:u6 P w H h a o):∃u,h.get? a=some u:=by
 cases o with
 | lst xs=>obtain⟨_,_,_,_,e⟩:=x;exact⟨_,e⟩
 | tup xs=>obtain⟨_,_,_,⟨o,e,_⟩⟩:=x;exact⟨_,e⟩
 | dK kvs=>obtain⟨_,_,_,_,o,_,_,e,_⟩:=x;exact⟨_,e⟩
 | dE kvs ep=>obtain⟨_,_,_,_,o,_,e,_⟩:=x;exact⟨_,e⟩
 | dN kvs=>obtain⟨_,_,_,_,o,_,_,e,_⟩:=x;exact⟨_,e⟩
 | dT kvs=>obtain⟨_,_,_,_,o,_,_,e,_⟩:=x;exact⟨_,e⟩
 | set S n=>obtain⟨o,_,_,_,e,_⟩:=x;exact⟨_,e⟩
 | ins C dx fs=>obtain⟨_,_,_,e,_⟩:=x;exact⟨_,e⟩
 | own y=>exact x
 | xd fs=>obtain⟨_,⟨_,_,_,e,_⟩,_⟩:=x;exact⟨_,e⟩
 | rng lo hi=>obtain⟨_,_,_,e⟩:=x;exact⟨_,e⟩
 | frz ob u=>obtain⟨e,_⟩:=x;exact⟨_,e⟩
 | tbl ps=>exact⟨_,(show h.get? a=some _ from x)⟩
 | met f y=>exact⟨_,(show h.get? a=some _ from x)⟩
 | ext φ=>exact x.2.1
theorem S9.none_of{P:Program}{w:World}{H:Hp}{h:Heap}{a:Addr}(x:S9 P w H h)(e:h.get? a=none):H a=none:=by
 cases q:H a with
 | none=>rfl
 | some o=>
  obtain⟨u,hu⟩:=(x a o q).is
  rw[e] at hu;cases hu
theorem S9.Ko{P:Program}{w:World}{H:Hp}{h h':Heap}(x:S9 P w H h)(k:∀b u,H b≠none->h.get? b=some u->h'.get? b=some u):S9 P w H h':=fun a o e=>
 (x a o e).kb (fun b u hb q=>k b u (hb.elim (fun hb=>by rw[hb,e];intro z;cases z) fun hb=>by rw[hb];intro z;cases z) q) (fun _ q=>q) fun _ _ q=>q
def El(P:Program)(w:World):oV:=fun outer H s E x s'=>∃(e:Addr) (cls a0:Value) (T:Addr) (H':Hp),x=.ref e/\Iv s'.heap e cls a0 T/\s.heap.get? e=none/\s.heap.get? T=none/\H' e=none/\H' T=none /\
 s'.os=s.os/\AllBare s'.gens/\Un (Y2 outer) [] H H' s.heap s'.heap/\S9 P w H' s'.heap/\E cls none H'
theorem AY{P:Program}{w:World}{env:Env}{outer:List Env}{L e T:Addr}{old:List Addr}{H H1:Hp}{h h1 h2:Heap}{cls a0:Value}(hf:env.frame=some L)(U:Un (Y2 outer) [] H H1 h h1)(ok:S9 P w H1 h1)
  (hL:h.get? L=none) (he:h.get? e=none) (ho:∀b∈old,h.get? b=none) (tL:H1 L=none) (te:H1 e=none) (to:∀b∈old,H1 b=none) (tf:∀b∈Y2 outer,H1 b=none)
  (g:Hn (env::outer) old h1 h2 e cls a0 T):Un (Y2 outer) [] H H1 h h2/\S9 P w H1 h2/\H1 T=none/\h.get? T=none:=by
 have inF:∀b,b∈Y2 (env::outer)->b=L\/b∈Y2 outer:=fun b hb=>by
  unfold Y2 at hb
  rw[List.filterMap_cons,hf] at hb
  exact List.mem_cons.mp hb
 have ofF:∀b,b∈Y2 outer->b∈Y2 (env::outer):=fun b hb=>by
  unfold Y2 at hb ⊢
  rw[List.filterMap_cons,hf]
  exact List.mem_cons_of_mem _ hb
 have gk:∀b o,h1.get? b=some o->b≠L->b≠e->b∉old->b∉Y2 outer->h2.get? b=some o:=fun b o hb n1 n2 n3 n4=>g.keep b o hb n2 n3 fun z=>(inF b z).elim n1 n4
 have st:∀b o,h.get? b=some o->b≠L/\b≠e/\b∉old:=fun b o hb=>⟨fun z=>(by rw[z,hL] at hb;cases hb),fun z=>(by rw[z,he] at hb;cases hb),fun z=>(by rw[ho b z] at hb;cases hb)⟩
 refine⟨⟨fun b o hb hn hF _=>?_,fun b o hb hn hF hx=>?_,U.free,fun b o hb hx=>?_,U.R9,U.frzs,U.tbls⟩,ok.Ko fun b u hb hu=>?_,?_,?_⟩
 ·obtain⟨n1,n2,n3⟩:=st b o hb
  exact gk b o (U.keep b o hb hn hF (by simp)) n1 n2 n3 hF
 ·obtain⟨sl,h3⟩:=U.slot b o hb hn hF hx
  obtain⟨sl',h4⟩:=g.slot b _ h3 (ofF b hF)
  exact⟨sl',h4⟩
 ·obtain⟨n1,n2,n3⟩:=st b o hb
  obtain⟨o',h3⟩:=U.there b o hb hx
  by_cases hF:b∈Y2 outer
  ·obtain⟨sl',h4⟩:=g.slot b _ h3 (ofF b hF)
   exact⟨_,h4⟩
  ·exact⟨o',gk b o' h3 n1 n2 n3 hF⟩
 ·exact gk b u hu (fun z=>hb (z▸tL)) (fun z=>hb (z▸te)) (fun z=>hb (to b z)) fun z=>hb (tf b z)
 ·rcases g.new with z | z
  ·exact to T z
  ·exact ok.none_of z
 ·rcases g.new with z | z
  ·exact ho T z
  ·cases q:h.get? T with
   | none=>rfl
   | some o=>
    obtain⟨o',h3⟩:=U.there T o q (by simp)
    rw[z] at h3;cases h3
section
variable{P:Program}{w:World}{K:PySem.W.Frag}{mg:Str->Option Value}{base:Heap}{N:List Str}{qual:Str}{scope:Scope}{f:Addr}{cd:Value}{A:Around}{outer:List Env}{s:Shared}{H:Hp}{E:XK}
 {pins:List (Addr×Obj)} {σ:St} {H1:Hp} {s1:Shared}
theorem uz:s.heap.get? s.heap.objs.size=none:=by
 cases e:s.heap.get? s.heap.objs.size with
 | none=>rfl
 | some o=>exact absurd (Heap.lt_size e) (Nat.lt_irrefl _)
theorem Fz{e:Addr}{cls:Value}{vs:List Value}{h':Heap}(I:Inv (dJ (El P w) P w K mg base N qual scope f cd A outer s H E) pins σ H1 s1)(mk:Heap.MadeExcOf s1.heap h' e cls vs)(hE:E cls none H1) :
  (dJ (El P w) P w K mg base N qual scope f cd A outer s H E).xe (.ref e) { s1 with heap:=h' }:=by
 obtain⟨t,he,_,_⟩:=mk.there
 have hst:s1.heap.FunFrames base (envOfC qual scope s.heap.objs.size f cd::outer):=I.stack
 have hst':h'.FunFrames base (envOfC qual scope s.heap.objs.size f cd::outer):=hst.of_keeps fun b o hb _=>⟨o,mk.keeps b o hb,rfl⟩
 have ok1:S9 P w H1 h':=S9.kept I.hok mk.keeps
 have U0:Un (Y2 outer) [] H H1 s.heap s1.heap:=I.base
 have U1:Un (Y2 outer) [] H H1 s.heap h':=U0.trans (Un.kept mk.keeps)
 have en:s.heap.get? e=none:=by
  cases q:s.heap.get? e with
  | none=>rfl
  | some o=>
   obtain⟨o',h3⟩:=U0.there e o q (by simp)
   rw[mk.new] at h3;cases h3
 have te:H1 e=none:=S9.none_of I.hok mk.new
 refine kS (L:=s.heap.objs.size) (I.ok.frames) hst' rfl he rfl (a0:=.ref t) rfl rfl fun h2 T g=>?_
 obtain⟨a,b,c,d⟩:=AY (L:=s.heap.objs.size) rfl U1 ok1 uz en (fun b hb=>by cases hb) I.free te (fun b hb=>by cases hb) (fun b hb=>I.kK b (by
  show b∈Y2 (envOfC qual scope s.heap.objs.size f cd::outer)
  exact List.mem_cons_of_mem _ hb)) g
 exact⟨e,cls,.ref t,T,H1,rfl,g.AF,en,d,te,c,I.os,I.bare,a,b,hE⟩
end
def Makes(X:Cx)(E:XK):Prop:=∀(pins:List (Addr×Obj)) (σ:St) (H1:Hp) (s1:Shared) (e:Addr) (cls:Value) (vs:List Value) (h':Heap),Inv X pins σ H1 s1->Heap.MadeExcOf s1.heap h' e cls vs->E cls none H1->X.xe (.ref e) { s1 with heap:=h' }
theorem uK{P:Program}{w:World}{K:PySem.W.Frag}{mg:Str->Option Value}{base:Heap}{N:List Str}{qual:Str}{scope:Scope}{f:Addr}{cd:Value}{A:Around}{outer:List Env}{s:Shared}{H:Hp}{E:XK} :
  Makes (dJ (El P w) P w K mg base N qual scope f cd A outer s H E) E:=fun pins σ H1 s1 e cls vs h' I mk hE=>Fz I mk hE
def Gy(C:Addr)(E:XK)(t:TA):TS:=fun _ σ H=>t σ H fun vs H1=>vs.length<=sizeLine/\E (.ref C) none H1
theorem yV{X:Cx}{x:Str}{C:Addr}{B Bn newId nid initId inN:String}{bm bmN:List Value}{np cpos pos:Pos}{e₀:Expr}{rest:List Expr}{E:XK}{t:TA}(O:OwnCls x C bm newId X.mg X.base)(Fn:ExcBaseFacts Bn newId inN bmN)(hBn:bm.contains (.type Bn)=true)
  (FB:ExcBaseFacts B nid initId bm) (hc:X.calm=true) (mk:Makes X E) (hg:Gl X x) (ha:PA X (e₀::rest) t) (hdb:(x == ("__debug__" : Str))=false:=by decide)
  (he:starEach (e₀::rest) X.env=(false,eval e₀ X.env)::starEach rest X.env:=by rfl) (hpl:(backTo cpos (starEach rest X.env)).any (·.1)=false:=by rfl) :
  PS X (.Raise (some (.Call (.Name x np) (e₀::rest) [] cpos)) none pos) (Gy C E t):=by
 refine .of ?_
 intro pins s σ H D I h
 obtain⟨tl,N,nm,q,bs,hdct,sn,sub,ab,col,dd,k0,k1,k2,k3,k5,mN,hC,hN,hni,T⟩:=O.obj
 refine wpAny_Raise_call_subU (C:=C) (nm:=nm) (q:=q) (N:=N) (bs:=bs) (bm:=tl) (hdct:=hdct) (sn:=sn) (sub:=sub) (ab:=ab) (col:=col) (dd:=dd) (k0:=k0) (k1:=k1) (k2:=k2) (k3:=k3) (k5:=k5)
  Fn hBn FB (mN:=mN) (T.hasType FB.hasBase) (I.ok.hd hc) (by rw[he];show(false||(backTo cpos (starEach rest X.env)).any (·.1))=false;rw[hpl];rfl) hni (sE I hg O.bound ⟨rfl,?_⟩ hdb)
 have ha':=ha cpos pins s σ H _ I h
 rw[he] at ha' ⊢
 refine Calls.evalArgs_plain (A4 ha' fun us s1 ⟨vs,H1,I1,r,hl,hE⟩=>⟨rfl,by rw[<-r.length];exact hl,I1.bk _ _ hC,hN.keeps I1.bk,T.keeps I1.bk,fun h' e m=>mk pins σ H1 s1 e _ _ h' I1 m hE⟩)
section
variable{M:Model}{A:Around}{E:Value->Shared->Prop}{s:Shared}{base:Heap}{env:Env}{outer:List Env}{L e:Addr}{Q:Unit->Shared->Prop}
end
section
variable{M:Model}{A:Around}{E:Value->Shared->Prop}{h:Heap}{g:Array GenState}{d:Drawn}{t:Nat}{os:OsState}{e C C':Addr}{oe:Obj}{Q:Bool->Shared->Prop}
 {nm q:Str} {N:Addr} {bs bm:List Value} {hdct:Bool} {sn:List Str} {sub:List Value} {ab:Bool} {col:Option Bool} {dd:Option Addr} {k0 k1 k2 k3 k5:Option Value} {newId:String}
 {nm' q':Str} {N':Addr} {bs' bm':List Value} {hdct':Bool} {sn':List Str} {sub':List Value} {ab':Bool} {col':Option Bool} {dd':Option Addr} {k0' k1' k2' k3' k5':Option Value} {newId':String}
end
def Cx.Z1(X:Cx)(e:Addr)(oe:Obj)(F:Value->Shared->Prop):Cx:={ X with A:=X.A.mark (some (.ref e)),calm:=false,pn:=X.pn++[(e,oe)],xe:=F }
section
variable{X:Cx}{pins:List (Addr×Obj)}{σ:St}{H:Hp}{s:Shared}{e:Addr}{oe:Obj}{F:Value->Shared->Prop}
theorem Cx.Ok.Z1(ok:X.Ok):(X.Z1 e oe F).Ok:=
 ⟨ok.mod,ok.kind,ok.glob,ok.blt,ok.above,ok.inj,ok.has,ok.cab,fun z=>absurd (show false=true from z) Bool.false_ne_true,ok.frames,ok.stk,ok.exf,ok.bs,ok.bsz,ok.noex,ok.exfs,ok.eF,ok.frf⟩
theorem Inv.Z1(I:Inv X pins σ H s)(h1:s.heap.get? e=some oe)(h2:H e=none)(h3:e≠X.env.locals)(h4:e∉X.fs)(h5:∀v,oe.data≠.cell v):Inv (X.Z1 e oe F) pins σ H s:=by
 refine⟨I.ok.Z1,I.os,I.bare,I.base,I.loc,I.cell,I.free,I.freeC,fun p hp=>?_,I.hok,I.len⟩
 have hp:p∈(X.pn++[(e,oe)])++pins:=hp
 rcases List.mem_append.mp hp with z | z
 ·rcases List.mem_append.mp z with z | z
  ·exact I.pin p (List.mem_append_left _ z)
  ·rw[List.mem_singleton.mp z];exact⟨h1,h2,h3,h4,h5⟩
 ·exact I.pin p (List.mem_append_right _ z)
end
structure Gr(X:Cx)(pins:List (Addr×Obj))(σ:St)(H:Hp)(s:Shared)(e T:Addr)(cls a0:Value):Prop where
 inv:Inv X pins σ H s
 AF:Iv s.heap e cls a0 T
 te:H e=none
 tT:H T=none
 from_:∃H1 s1,Inv X pins σ H1 s1/\s.os=s1.os/\AllBare s.gens/\Un (Y2 X.stack) [] H1 H s1.heap s.heap/\s1.heap.get? e=none/\s1.heap.get? T=none
section
variable{X:Cx}{pins:List (Addr×Obj)}{σ:St}{H:Hp}{s:Shared}{e T:Addr}{cls a0:Value}{E:XK}{x:Value}{Q:Unit->Shared->Prop}{M:Model}{A:Around}{E2:Value->Shared->Prop}
theorem Iv.apart{base:Heap}{l:List Env}{h:Heap}(f:Iv h e cls a0 T)(hl:h.FunFrames base l):e∉Y2 l/\T∉Y2 l:=by
 obtain⟨oe,vs,oT,ts,he,hc,h0,hd,h1,hTe,hT,hdT,h3⟩:=f
 refine⟨fun z=>?_,fun z=>?_⟩
 ·obtain⟨_,o,ho,hn⟩:=hl.mem z
  rw[he] at ho;cases ho;exact hn vs hd
 ·obtain⟨_,o,ho,hn⟩:=hl.mem z
  rw[hT] at ho;cases ho;exact hn ts hdT
theorem Gr.pin(hh:Gr X pins σ H s e T cls a0){F:Value->Shared->Prop}:∃oe,oe.cls=cls/\Inv (X.Z1 e oe F) pins σ H s:=by
 have ap:=hh.AF.apart hh.inv.stack
 obtain⟨oe,vs,oT,ts,he,hc,h0,hd,_⟩:=hh.AF
 refine⟨oe,hc,hh.inv.Z1 he hh.te (fun z=>?_) (fun z=>?_) fun v z=>by rw[hd] at z;cases z⟩
 ·obtain⟨m,⟨o,es,ep,ho,hdd,_⟩,_⟩:=hh.inv.loc
  rw[<-z,he] at ho
  cases ho
  rw[hd] at hdd;cases hdd
 ·have f2:s.heap.FunFrames X.base X.outer:=by
   rcases hh.inv.ok.stk with q | ⟨q,_⟩
   ·rw[<-q];exact hh.inv.stack
   ·have:=hh.inv.stack
    rw[q] at this
    exact this.2.2
  exact(hh.AF.apart f2).1 z
end
section
variable{X:Cx}{pins:List (Addr×Obj)}{σ:St}{H:Hp}{s:Shared}{i:Nat}{n:Str}{M:Model}{A:Around}{E:Value->Shared->Prop}{Q:Unit->Shared->Prop}
end
end L2
namespace L3
open PySem PySem.Spec PySem.Calls PyProof.Rows L2
abbrev IJ:=List D->(D->Prop)->(Str->Prop)->Prop
def jD(mg:Str->Option Value)(W:Str->Prop)(H:Hp)(E:XK):Prop:=∀(y:Str) (C:Addr) (H':Hp),W y->mg y=some (.ref C)->i3 H H'->E (.ref C) none H'
def JM(K:PySem.W.Frag)(mg:Str->Option Value)(c:IJ):Sp:=fun vs H Q E=>∃ds A Qd W,o5 K H vs ds A/\c ds Qd W/\(∀r v H' B,Qd r->i3 H H'->Rep K H' v r B->B.Nodup->(∀a∈B,H a=none)->Q v H')/\jD mg W H E
structure Ik(P:Program)(w:World)(K:PySem.W.Frag)(mg:Str->Option Value)(base:Heap)(x:Str)(k:Nat)(ps:List Str)(sp:Sp)(f:Addr)(fd:FuncData):Prop where
 ok:x5 P w K mg base (El P w) k f fd ps sp
 mgf:mg x=some (.ref f)
 kp:PySem.W.keepIn K (.ref f)=true
 bd:Binds K fd ps []
def calm(c:IJ):Cp:=fun ds Q=>c ds Q fun _=>False
theorem IT{X:Cx}{P:Program}{w:World}:Passes (El P w) X E0:=fun _ _ _ _ _ _ _ h=>by
 obtain⟨_,_,_,_,_,_,_,_,_,_,_,_,_,_,_,h⟩:=h
 exact(show False from h).elim
section
variable{X:Cx}{cl:List Cl}{e:Expr}{es:List Expr}{pos p:Pos}{us:cE}{k:Nat}{fn:Addr}{fd:FuncData}{ps:List Str}{x:Str}
theorem wR {c:IJ} (C:Ik X.prog X.w X.K X.mg X.base x k ps (JM X.K X.mg c) fn fd) (hr:J1 k X.A) (hg:Gl X x) (ha:zR X cl (e::es) us) (hst:isStar e=false) (hdb:(x == ("__debug__" : Str))=false:=by decide)
  (hpl:(backTo pos (starEach es X.env)).any (·.1)=false:=by rfl):PU X cl (.Call (.Name x p) (e::es) [] pos) .fresh (p4 (calm c) us):=.of<|by
 obtain⟨t,pt,h⟩:=ha.run
 refine⟨_,cJ C.ok hr hg C.mgf C.kp C.bd .nil IT pt hdb (L6 hst) hpl,fun G ρ σ H fa Q R hG E hu kk=>?_⟩
 refine h G ρ σ H fa _ _ hG E hu fun vs H1 ds A s r n3 q=>?_
 rw[List.append_nil]
 exact⟨ds,A,Q,_,r,q,fun r v H2 B qd s2 rp n1 n2=>kk v H2 r B (s.trans s2) rp ⟨n1,fun a ha=>s.free (n2 a ha)⟩ qd,fun _ _ _ z=>z.elim⟩
end
theorem MF{CX:oV}{Wt:Type}{Wi:Wt->Hp->XK->Prop}{P:Program}{w:World}{K:PySem.W.Frag}{mg:Str->Option Value}{base:Heap}{x qual:Str}{st:Stmt}{f:Addr}{fd:FuncData}{N ps:List Str}{k:Nat}{c:List D->(D->Prop)->Wt->Prop}{s:Wt->j7}{cl:List Cl}(F:P6 K x qual st f fd)(S:j6 N ps (e6 st))(hcl:noOwn cl ps.length=true)
  (hl:∀ds Q W,c ds Q W->ds.length=ps.length)
  (hb:∀(W:Wt) (cdv:Value) (A:Around) (outer:List Env) (s0:Shared) (H:Hp) (E:XK),J1 k (A.deeper (envOfC qual (e6 st) s0.heap.objs.size f cdv))->Wi W H E->je (dJ CX P w K mg base N qual (e6 st) f cdv A outer s0 H E) (cl++[.mk H]) (i9 st) (s W))
  (hc:∀ds Q W,c ds Q W->s W { nx:=fun _=>Q .non,rt:=fun d _=>Q d } (g7 N.length ds)):x5 P w K mg base CX (k+1) f fd ps (fun vs H Q E=>∃ds A Qd W,o5 K H vs ds A/\c ds Qd W/\(∀r v H' B,Qd r->i3 H H'->Rep K H' v r B->B.Nodup->(∀a∈B,H a=none)->Q v H')/\Wi W H E):=by
 obtain⟨oc,od,kV,doc,pm,an,cdv,ct,osl,rfl,lk,hcd⟩:=F.ex
 refine Fj lk hcd S (fun vs H Q E h=>?_) fun A outer s0 H vs Q E hr h=>?_
 ·obtain⟨ds,A,Qd,W,r,q,_⟩:=h
  rw[r.length];exact hl ds Qd W q
 ·obtain⟨ds,B,Qd,W,r,q,kk,wi⟩:=h
  have hlen:=hl ds Qd W q
  obtain⟨t,pt,h⟩:=(hb W cdv A outer s0 H E hr wi).run
  obtain⟨fa,h1,h2⟩:=r.each
  let G:Ent:=⟨H,fun _=>[],vs,cl++[.mk H],fun _=>False,H⟩
  have vl:vs.length=ps.length:=r.length.trans hlen
  have bor:∀i,i<vs.length->(cl++[Cl.mk H])[i]?=some .bor:=fun i hi=>by
   have q:=aN hcl (show i<ps.length by omega)
   rw[List.getElem?_append_left (List.getElem?_eq_some_iff.mp q).1];exact q
  have nown:∀i,i<vs.length->¬G.own i:=fun i hi z=>by
   have z':(cl++[Cl.mk H])[i]?=some .own:=z
   rw[bor i hi] at z';cases z'
  have far:∀i,G.own i->fa i=[]:=fun i hi=>h2 i (by
   have q1:¬i<vs.length:=fun q=>nown i q hi
   have q2:=r.length
   omega)
  have mkI:∀(j:Nat) (H':Hp),(cl++[Cl.mk H])[j]?=some (.mk H')->H'=H:=fun j H' e=>by
   by_cases hj:j<cl.length
   ·rw[List.getElem?_append_left hj] at e
    exact(cO hcl e).elim
   ·rw[List.getElem?_append_right (by omega)] at e
    cases hk:j-cl.length with
    | zero=>rw[hk] at e;cases e;rfl
    | succ m=>rw[hk] at e;cases e
  have E0:E3 K G (g7 N.length ds) (L2.start N vs) H fa:=by
   refine⟨fun i d e=>?_,fun i e=>h2 i ?_,bK r.length.symm,fun i hi=>?_,fun i j _ hi a ha=>?_,fun i hi ho=>absurd ho (nown i hi),fun i hi ho=>absurd ho (nown i hi),fun i hi a ha=>?_,fun a o h _=>h,T3.refl H,fun a z=>z.elim,fun a z=>z.elim,fun i _ a _ z=>z,⟨fun i hi ho=>absurd ho (nown i hi),fun j H' e a o hao=>?_⟩⟩
   ·obtain⟨v,e1,r1⟩:=h1 i d (bE e)
    exact⟨v,V3 e1,r1⟩
   ·by_cases hi:i<ds.length
    ·exact absurd (aS (List.getElem?_eq_getElem hi)) (e _)
    ·omega
   ·rw[h2 i (by
     by_cases q:i<ds.length
     ·rcases hi with hi | hi
      ·exact absurd hi (nown i (by have:=r.length;omega))
      ·have z':(cl++[Cl.mk H])[i]?=some .loc:=hi
       rw[bor i (by have:=r.length;omega)] at z';cases z'
     ·omega)];exact List.nodup_nil
   ·rw[far i hi] at ha;cases ha
   ·rcases hi with hi | hi
    ·have:¬i<vs.length:=fun q=>by
      have z':(cl++[Cl.mk H])[i]?=some .loc:=hi
      rw[bor i q] at z';cases z'
     rw[h2 i (by have:=r.length;omega)] at ha;cases ha
    ·rw[far i hi.1] at ha;cases ha
   ·have e:H'=H:=mkI j H' e
    subst e
    exact⟨hao,fun i hi ho=>absurd ho (nown i hi)⟩
  refine⟨t,pt,h G _ _ _ H fa _ rfl E0 (hc ds Qd W q) ⟨fun σ' H' q'=>?_,fun v H' q'=>?_,fun _ _ z=>?_,fun _ _ z=>?_⟩⟩
  ·obtain⟨ρ',fa',E',q'⟩:=q'
   exact kk .non .non H' [] q' (E'.kept (j:=cl.length) (show(cl++[Cl.mk H])[cl.length]?=some (.mk H) from by rw[List.getElem?_append_right (Nat.le_refl _),Nat.sub_self];rfl)) .non List.nodup_nil (fun _ h=>(by cases h))
  ·obtain⟨d,ρ',σ',fa',B',E',r',n',new',_,q'⟩:=q'
   exact kk d v H' B' q' (E'.kept (j:=cl.length) (show(cl++[Cl.mk H])[cl.length]?=some (.mk H) from by rw[List.getElem?_append_right (Nat.le_refl _),Nat.sub_self];rfl)) r' n' new'
  ·obtain⟨_,_,_,z⟩:=z;exact z
  ·obtain⟨_,_,_,z⟩:=z;exact z
theorem fnX{P:Program}{w:World}{K:PySem.W.Frag}{mg:Str->Option Value}{base:Heap}{x qual:Str}{st:Stmt}{f:Addr}{fd:FuncData}{N ps:List Str}{k:Nat}{c:IJ}{s:(Str->Prop)->j7}{cl:List Cl}(F:P6 K x qual st f fd)(S:j6 N ps (e6 st))(hcl:noOwn cl ps.length=true)
  (hl:∀ds Q W,c ds Q W->ds.length=ps.length)
  (hb:∀(W:Str->Prop) (cdv:Value) (A:Around) (outer:List Env) (s0:Shared) (H:Hp) (E:XK),J1 k (A.deeper (envOfC qual (e6 st) s0.heap.objs.size f cdv))->jD mg W H E->je (dJ (El P w) P w K mg base N qual (e6 st) f cdv A outer s0 H E) (cl++[.mk H]) (i9 st) (s W))
  (hc:∀ds Q W,c ds Q W->s W { nx:=fun _=>Q .non,rt:=fun d _=>Q d } (g7 N.length ds)):x5 P w K mg base (El P w) (k+1) f fd ps (JM K mg c):=MF (Wi:=fun W H E=>jD mg W H E) F S hcl hl hb hc
section
variable{X:Cx}{cl:List Cl}{e:Expr}{es:List Expr}{pos cpos hpos np p:Pos}{us:cE}{k:Nat}{fn:Addr}{fd:FuncData}{ps:List Str}{x y bn n:Str}{i:Nat}
def xg(W:Str->Prop)(y:Str)(us:cE):j7:=fun _ ρ=>us ρ fun ds=>Nat.ble ds.length 9=true/\W y
theorem BL{C:Addr}{B Bn newId nid initId inN:String}{bm bmN:List Value}{W:Str->Prop}{H0:Hp}{Ew:XK}{j:Nat}(O:OwnCls y C bm newId X.mg X.base)(Fn:ExcBaseFacts Bn newId inN bmN)(hBn:bm.contains (.type Bn)=true)(FB:ExcBaseFacts B nid initId bm)(hc:X.calm=true)
  (mk:Makes X Ew) (wi:jD X.mg W H0 Ew) (hj:cl[j]?=some (.mk H0)) (hg:Gl X y) (ha:zR X cl (e::es) us) (hst:isStar e=false) (hdb:(y == ("__debug__" : Str))=false:=by decide) (hpl:(backTo cpos (starEach es X.env)).any (·.1)=false:=by rfl) :
  K7 X cl (.Raise (some (.Call (.Name y np) (e::es) [] cpos)) none pos) (xg W y us):=.of<|by
 obtain⟨t,pt,h⟩:=ha.run
 refine⟨_,yV O Fn hBn FB hc mk hg pt hdb (L6 hst) hpl,fun G T ρ σ H fa R hG E hu le=>?_⟩
 refine h G ρ σ H fa _ _ hG E hu fun vs H1 ds A s r n3 q=>⟨?_,wi y C H1 q.2 O.bound ((E.same s).kept (j:=j) (by rw[hG];exact hj))⟩
 have:=Nat.le_of_ble_eq_true q.1
 rw[r.length,sizeLine_eq];omega
end
end L3
namespace PySem.W
open PySem PySem.Calls PyProof.Rows Builtin Builtin.ObjectAttr Builtin.Getset_descriptor
section
variable{K:Frag}{prog:Program}{w:World}{A:Around}{E:Value->Shared->Prop}{s:Shared}{e D:Addr}{oe:Obj}
end
end PySem.W
namespace PySem.W
open PySem PySem.Calls PyProof.Rows Builtin Builtin.ObjectAttr Builtin.Getset_descriptor
section
variable{K:Frag}{prog:Program}{w:World}{A:Around}{E:Value->Shared->Prop}{s:Shared}{e D:Addr}{oe:Obj}
end
end PySem.W
namespace PySem.W
open PySem PySem.Calls PyProof.Rows
structure EE(K:Frag)(D:Addr):Prop where
 ga:findIn K (.ref D) "__getattribute__"=some (some (.builtin "BaseException.__getattribute__"))
 gn:findIn K (.ref D) "__getattr__"=some none
 cl:findIn K (.ref D) "__class__"=some (some (.builtin "object.__class__"))
 sp:specialIn K (.builtin "object.__class__") "__get__"=some (some (.builtin "getset_descriptor.__get__"))
 tk:takesIn K (.builtin "object.__class__")=some true
 ob:mroIn K D (.type "object")=some true
 be:mroIn K D (.type "BaseException")=some true
section
variable{K:Frag}{D e:Addr}
theorem EE.at(B:EE K D):∃c d cd sl,K.lookup D=some ⟨c,d,.cls cd,sl⟩:=by
 have h:=B.ob
 unfold mroIn clsIn at h
 split at h
 ·rename_i c d cd sl ho
  exact⟨_,_,_,_,ho⟩
 ·cases h
theorem BH{h:Heap}{C:Addr}{bmB:List Value}{newId:String}(X:K.In h)(q:excIn K C bmB newId=true) :
  ∃bm N nm qn bs hd sn sub ab col dd k0 k1 k2 k3 k5 mN,h.get? C=some (excClassObj nm qn C N bs bm hd sn sub ab col dd k0 k1 k2 k3 k5 newId)/\h.Ns N mN/\mN "__init__"=none/\OwnTail h bmB bm/\∀v r,mroIn K C v=some r->(Value.ref C::bm).contains v=r:=by
 unfold excIn at q
 split at q
 case h_2=>cases q
 rename_i dd cd sl ho
 split at q
 case h_2=>cases q
 rename_i C' bm k0 k1 k2 k3 n k5 hm hs
 simp only[Bool.and_eq_true,beq_iff_eq,Bool.not_eq_true'] at q
 obtain⟨⟨⟨⟨⟨rfl,rfl⟩,hdel⟩,ht⟩,hok⟩,hni⟩:=q
 have hv:∀v r,mroIn K C' v=some r->(Value.ref C'::bm).contains v=r:=fun v r e=>by
  unfold mroIn clsIn at e
  rw[ho] at e
  simp only[Option.bind_some,hm,List.isEmpty_cons] at e
  exact Option.some.inj e
 obtain⟨nm,bs,mro,ns,qn,hd,sn,sub,ab,col,del⟩:=cd
 dsimp only at hm hdel hok hni
 subst hm hdel
 have hsl:sl=#[k0,k1,k2,k3,some (.builtin n),k5]:=by
  obtain⟨l⟩:=sl
  exact congrArg Array.mk hs
 subst hsl
 exact⟨bm,ns,nm,qn,bs,hd,sn,sub,ab,col,dd,k0,k1,k2,k3,k5,_,X _ _ ho,.of_isNs (isNs_of_in X hok),nsMap_none_of_in X hok hni,tail_of_in X ht,hv⟩
theorem Ji{h:Heap}{C:Addr}{bmB:List Value}{newId:String}{mg:Str->Option Value}{x:Str}(X:K.In h)(G:h.Ns mainGlobals mg)(e:nsIn K mainGlobals x=some (some (.ref C)))(q:excIn K C bmB newId=true):OwnCls x C bmB newId mg h:=by
 obtain⟨bm,N,nm,qn,bs,hd,sn,sub,ab,col,dd,k0,k1,k2,k3,k5,mN,a,b,c,d,_⟩:=BH X q
 exact⟨mg_of X G e,bm,N,nm,qn,bs,hd,sn,sub,ab,col,dd,k0,k1,k2,k3,k5,mN,a,b,c,d⟩
end
end PySem.W
namespace L3
open PySem PySem.Spec PySem.Calls PyProof.Rows PySem.W L2
section
variable{X:Cx}{cl:List Cl}{e C:Addr}{oe:Obj}{pos p p1 p2:Pos}{n y:Str}{i:Nat}{b:Bool}
end
end L3
namespace L2
open PySem PySem.Spec PyProof.Rows
end L2
namespace L3
open PySem PySem.Spec PyProof.Rows L2
section
variable{X:Cx}{cl:List Cl}{tg e a kx:Expr}{f fb:Fl}{ua ub:TU}{pos p:Pos}
def Ab(uk uv:TU):TU:=fun ρ Q=>uk ρ fun x=>match S5 x with
 | some k=>uv ρ fun y=>A7 y=true/\Q (.dic [(k,y)])
 | none=>False
theorem xi(hk:PU X cl kx f ua)(hv:PU X cl e fb ub):PU X cl (.Dict [some kx] [e] pos) .fresh (Ab ua ub):=.of<|by
 obtain⟨tk,pk,hk⟩:=hk.run
 obtain⟨tv,pv,hv⟩:=hv.run
 refine⟨_,qp<|BV (yJ pk pv Dg) rfl rfl (by simp) (show 1<=15 by decide),fun G ρ σ H fo Q R hG E hu k=>?_⟩
 intro d hd
 have s0:i3 H (upd H d (.dK [])):=i3.i8 hd
 refine hk G ρ σ _ fo _ _ hG (E.same s0) hu fun v H1 x A s1 r1 f1 q1=>?_
 cases ek:S5 x with
 | none=>rw[ek] at q1;exact q1.elim
 | some key=>
  rw[ek] at q1
  refine hv G ρ σ H1 fo _ _ hG ((E.same s0).same s1) q1 fun w H2 y B s2 r2 f2 q2=>?_
  have hd2:H2 d=some (.dK []):=s2 _ _ (s1 _ _ h9)
  cases M9 r1 ek
  have hB:=r2.C7 q2.1
  subst hB
  refine⟨hd2,[(key,w)],rfl,by show 1<=15;decide,d,_,rfl,h9,fun ep=>?_⟩
  rw[X7]
  have s3:i3 H (upd H2 d (.dE (B6 [] [(key,w)]) ep)):=fun b o hb=>by
   have hne:b≠d:=fun z=>by subst z;rw[hd] at hb;cases hb
   rw[j9 hne]
   exact s2 _ _ (s1 _ _ (s0 _ _ hb))
  have rw2:Rep X.K (upd H2 d (.dE (B6 [] [(key,w)]) ep)) w y []:=r2.G4 ⟨fun b xs e=>by
    have hne:b≠d:=fun z=>by subst z;rw[hd2] at e;cases e
    rw[j9 hne];exact e,fun b o u e=>by
    have hne:b≠d:=fun z=>by subst z;rw[hd2] at e;cases e
    rw[j9 hne];exact e⟩ (fun a ha=>by cases ha)
  exact k _ _ _ [d] s3 (.dic h9 (.cons rw2 .nil)) ⟨List.nodup_cons.mpr ⟨(fun z=>nomatch z),List.nodup_nil⟩,fun a ha=>by cases List.mem_singleton.mp ha;exact hd⟩ q2.2
end
end L3
namespace PySem.SeqAt
open PySem MeetsSeq MeetsSeq2 MeetsSeq3 SeqRoads2
end PySem.SeqAt
namespace PySem.SeqAt
open PySem MeetsSeq MeetsSeq2 MeetsSeq3 SeqRoads2
section
variable{A:Around}{s:Shared}
end
end PySem.SeqAt
namespace L2
open PySem PySem.Spec PyProof.Rows
section
variable{X:Cx}
end
end L2
namespace L3
open PySem PySem.Spec PyProof.Rows L2
section
variable{X:Cx}{cl:List Cl}{a b:Expr}{fa fb:Fl}{ua ub:TU}{pos:Pos}
end
end L3
namespace L2
open PySem PySem.Spec PyProof.Rows
section
variable{X:Cx}
end
end L2
namespace L3
open PySem PySem.Spec L2
section
variable{X:Cx}{cl:List Cl}{a:Expr}{fa:Fl}{ua:TU}{pos:Pos}
end
end L3
namespace PySem
theorem kj:typeLookup (.type "list") "keys"=pure none:=by rw[typeLookup_type,builtinLookup_eq_fast];kernel_rfl
theorem CB{prog:Program}{w:World}{A:Around}{E:Value->Shared->Prop}{s:Shared}{a:Addr}{o:Obj}{xs:Array Value}{k:Nat}{Q:Option Value->Shared->Prop}
  (hx:s.heap.get? a=some o) (hc:o.cls=.type "list") (hdat:o.data=.seq xs k) (hd:o.dict=none) (hA:A.handled=none)
  (h:∀h' tk e,Heap.NewExcOf s.heap h' e "AttributeError"->Q none { s with heap:=h',toks:=tk }):wpAny (model prog w) A (getAttr? (.ref a) "keys") Q E s:=by
 obtain⟨c,dct,dat,sl⟩:=o
 simp only at hc hdat hd
 subst hc hdat hd
 obtain⟨hp,g,d,tk,os⟩:=s
 have hT:∀tk',(⟨hp,g,d,tk',os⟩:Shared).TypeIs (.ref a) "list":=fun _=>⟨_,hx,rfl⟩
 have f1:=sub_AttributeError
 have f3:=F.slot_list_getattribute.lookup
 have f4:=F.slot_list_getattribute.bind (.ref a)
 have f5:=am_list_getattr_none
 unfold getAttr? getAttrBy? getAttrBy
 repeat (any_goals (first | assumption | exact hT _ | ((with_reducible show wpAny _ _ (call (Value.builtin "list.__getattribute__") _ _) _ _ _);refine call_meets F.slot_list_getattribute (hT _) am_entry_list_getattribute (F.args_list_getattribute_2 _ _) (meets_getattribute_miss_list a xs k sl "keys" _ kj (by decide +kernel) (by size_fits)) ⟨hx,hA,fun h' tk' e hx'=>?_⟩) | wp_step))
 obtain⟨t',u',he⟩:=hx'.there
 show wpAny _ _ (getattributeRaised _ _ _ _ _ _ _) _ _ _
 unfold getattributeRaised
 repeat (any_goals (first | assumption | wp_step))
 exact h _ _ _ hx'.of
end PySem
namespace L2
open PySem PySem.Spec PyProof.Rows
theorem nE:entryFor table "dict.update.loop"=some Builtin.«dict.update.loop»:=entryFor_of_tree (by kernel_rfl)
theorem bX:plainId "dict.update.loop"=true:=by decide +kernel
def sF(H:Hp)(t:V)(kv:Key×V):Prop:=∃a,t=.ref a/\H a=some (.tup [kV kv.1,kv.2])
theorem js{α β:Type}{F:α->β->Prop}:∀{l:List α} {m:List β},Paired F l m->∀(i:Nat) (a:α) (b:β),l[i]?=some a->m[i]?=some b->F a b
 | _,_,.nil,i,a,b,h,_=>by simp at h
 | _,_,.cons r t,0,a,b,h,g=>by simp at h g;subst h g;exact r
 | _,_,.cons r t,i+1,a,b,h,g=>js t i a b (by simpa using h) (by simpa using g)
section
variable{X:Cx}{pins:List (Addr×Obj)}{σ:St}
theorem qM{H:Hp}{s:Shared}{a:Addr}{v:V}{u r:Value}{A:Around}{E:Value->Shared->Prop}{kvs:List (Key×V)}{k:Key}{Q:Unit->Shared->Prop}(I:Inv X pins σ H s)(e:H a=some (.dK kvs))(l:kvs.length<sizeLine)(ry:RelV (kV k) u)(rv:RelV v r)
  (h:∀s',Inv X pins σ (upd H a (.dK (putK kvs k v))) s'->Heap.SameBut a s.heap s'.heap->Q () s'):wpAny (model X.prog X.w) A (dictSet a u r) Q E s:=by
 obtain⟨z,hd,vs,rel,dd⟩:=si I.hok e
 have hz:vs.length<=sizeLine:=by rw[<-rel.length];exact z
 have hl:(putK kvs k v).length<=sizeLine:=by have:=D4 kvs k v;omega
 refine wpAny_dictSet_pairs (hsz:=hz) (Y3 ry) dd fun h' dd' hs=>h _ ?_ hs
 exact aW I (by rw[e];exact True.intro) hs (let ⟨q,_,_,hq,_⟩:=dd';⟨q,hq⟩) (gi hl hd (rel.put k rv) dd')
theorem DW{A:Around}{R:Result->Shared->Prop}{H:Hp}{d p it:Addr}{ts:List V}{kvs:List (Key×V)}(hh:A.handled=none)(hp:N7 X.K H p ts)(hd:H d=none)(ht:Paired (sF H) ts kvs)(hl:kvs.length<sizeLine)(hit:it≠d)(hfp:∀o,U8 X pins (upd H d o) it)(res:∀s',Inv X pins σ (upd H d (.dK (B6 [] kvs))) s'->R (.ok (.ret .none)) s') :
  ∀(n i:Nat) (s:Shared),kvs.length-i=n->i<=kvs.length->Inv X pins σ (upd H d (.dK (B6 [] (kvs.take i)))) s->s.heap.IsListIter it p i ->
   codeAny (model X.prog X.w) A (.builtin "dict.update.loop" ⟨[.ref d,.ref it,rawInt i,.none],[]⟩) R s:=by
 intro n
 induction n with
 | zero=>
  intro i s hn hi I st
  have e:i=kvs.length:=by omega
  subst e
  rw[List.take_length] at I
  have hq:N7 X.K (upd H d (.dK (B6 [] kvs))) p ts:=i3.seq (i3.i8 hd) hp
  obtain⟨its,rv,pl,hz⟩:=I.list hq
  obtain⟨f0,f1,f2,f3,f4,f5⟩:=hfp (.dK (B6 [] kvs))
  have e1:=ht.length
  have e2:=rv.length
  refine codeAny_builtin nE ?_
  rw[Around.under_plainId bX _]
  show wpAny _ A.in1 (pyNext (.ref it) >>= _) _ _ s
  refine wpAny_bind (wpAny_pyNext_list_end hh st pl.isList (by simp;omega) fun h' eb=>?_)
  have I1:=I.turned (t':=s.toks) (h':=h') (fun b o hb e=>eb b o hb e) f0 f1 f3 f4 f5
  exact wpAny_bind (wpAny_pure (wpAny_pure (res _ I1)))
 | succ n ih=>
  intro i s hn hi I st
  have hi:i<kvs.length:=by omega
  have sm:i3 H (upd H d (.dK (B6 [] (kvs.take i)))):=i3.i8 hd
  obtain⟨its,rv,pl,hz⟩:=I.list (i3.seq sm hp)
  obtain⟨f0,f1,f2,f3,f4,f5⟩:=hfp (.dK (B6 [] (kvs.take i)))
  have e1:=ht.length
  have hx:ts[i]?=some (ts[i]'(by omega)):=List.getElem?_eq_getElem (by omega)
  have hk:kvs[i]?=some (kvs[i]'hi):=List.getElem?_eq_getElem hi
  obtain⟨a,ea,ha⟩:=js ht i _ _ hx hk
  obtain⟨u,hu,ru⟩:=rv.get hx
  rw[ea] at ru
  cases(show u=Value.ref a from ru)
  refine codeAny_builtin nE ?_
  rw[Around.under_plainId bX _]
  show wpAny _ A.in1 (pyNext (.ref it) >>= _) _ _ s
  refine wpAny_bind (wpAny_pyNext_list_item st pl.isList (x:=.ref a) (by simpa using hu) fun h' st' sb=>?_)
  have I1:=I.turned (t':=s.toks) (h':=h') (fun b o hb e=>(sb.2 b hb).trans e) f0 f1 f3 f4 f5
  obtain⟨_,its2,rv2,o2,g1,g2,n2,g3⟩:=(show u6 X.prog X.w _ h' a (.tup _) from I1.hok a _ (sm _ _ ha))
  obtain⟨k1,v1,rfl,rk,rv1⟩:=vals2 rv2
  have hlen:(B6 [] (kvs.take i)).length<sizeLine:=by
   have h1:=T6 (kvs.take i) []
   rw[List.length_take] at h1
   simp at h1
   omega
  have em:B6 [] (kvs.take (i+1))=putK (B6 [] (kvs.take i)) (kvs[i]'hi).1 (kvs[i]'hi).2:=by
   rw[List.take_add_one,hk]
   unfold B6
   rw[List.foldl_append];rfl
  refine wpAny_bind (wpAny_holding (wpAny_bind (wpAny_tryCatch ?_)))
  unfold Builtin.Dict.pairItems
  refine wpAny_bind (wpAny_typeOf ⟨o2,g1,g2⟩ ?_)
  rw[if_pos (by decide)]
  refine wpAny_bind (wpAny_seqItems g1 g3 (wpAny_pure ?_))
  show wpAny _ _ (holding [k1,v1] (dictSet d k1 v1)) _ _ _
  refine wpAny_holding (qM I1 h9 hlen rk rv1 fun s' I2 hs=>?_)
  rw[X7,<-em] at I2
  exact wpAny_pure ⟨plainId_quiet bX _,ih (i+1) s' (by omega) hi I2 (st'.at fun o e=>(hs.2 it hit).trans e)⟩
theorem pd(hc:X.calm=true):E7 X (.type "dict") (fun xs H Q=>∃p ts kvs,xs=[.ref p]/\N7 X.K H p ts/\Paired (sF H) ts kvs/\kvs.length<sizeLine/\∀d,H d=none->Q (.ref d) (upd H d (.dK (B6 [] kvs)))):=by
 intro pins s σ H xs us Q I r h
 obtain⟨p,ts,kvs,rfl,hp,ht,hl,q⟩:=h
 obtain⟨u,rfl,ru⟩:=vals1 r
 cases(show u=Value.ref p from ru)
 refine callType_codes (Q₁:=fun obj s1=>obj=.ref s.heap.objs.size/\s1={ s with heap:=s.heap.push { cls:=.type "dict",data:=.dict #[] } }) F.kt_called_dict (F.kt_typeCall_dict_1 _) F.entry_dict_init (kt_code_dict_new _ ⟨rfl,rfl⟩) ?_
 rintro obj s1 ⟨rfl,rfl⟩
 have hn:=I.hok.fresh (Nat.le_refl s.heap.objs.size)
 have I1:=I.laid (a:=s.heap.objs.size) (o:=.dK []) (h':=s.heap.push { cls:=.type "dict",data:=.dict #[] }) (t':=s.toks) (fun _ _ q=>Heap.get?_push_of_some _ q) (Nat.le_refl _) (ar s.heap I.big)
 obtain⟨its,rv,pl,hz⟩:=I1.list (i3.seq (i3.i8 hn) hp)
 have hT:Shared.TypeIs { s with heap:=s.heap.push { cls:=.type "dict",data:=.dict #[] } } (.ref s.heap.objs.size) "dict":=⟨_,Heap.get?_push_size _ rfl,rfl⟩
 refine⟨hT,F.args_dict_init_2 _ _,?_⟩
 unfold Builtin.«dict.__init__»
 refine wpAny_bind ?_
 unfold Builtin.Dict.selfAndRest
 refine wpAny_bind (wpAny_notOrdered_dict hT ?_)
 show wpAny _ _ (pure (s.heap.objs.size,[Value.ref p])) _ _ _
 refine wpAny_pure ?_
 show wpAny _ _ (Builtin.Dict.updateFrom "dict.__init__" s.heap.objs.size (.ref p) [] .none) _ _ _
 unfold Builtin.Dict.updateFrom
 refine wpAny_bind (wpAny_typeOf pl.isList.typeIs ?_)
 rw[if_pos (by decide)]
 obtain⟨ob,n0,hg0,hg1,hg2,hg3⟩:=pl
 refine wpAny_bind (CB hg0 hg1 hg3 hg2 (I.ok.hd hc) fun h2 tk2 e2 nx=>?_)
 have I2:=I1.kept (t':=tk2) (h':=h2) nx.keeps
 rw[if_pos (show(none:Option Value).isNone=true from rfl)]
 refine wpAny_bind (wpAny_rule ?_)
 refine wpAny_bind (wpAny_pyIter_list (items:=its.toArray) ⟨ob,nx.keeps _ _ hg0,hg1,n0,hg3⟩ ?_)
 refine wpAny_pure ⟨plainId_quiet bX _,?_⟩
 have sz2:s.heap.objs.size<h2.objs.size:=by
  have:=Heap.lt_size (nx.keeps _ _ (Heap.get?_push_size s.heap (o:={ cls:=.type "dict",data:=.dict #[] }) rfl))
  exact this
 refine DW (X:=X) (pins:=pins) (σ:=σ) (A:=X.A.in1) (H:=H) (d:=s.heap.objs.size) (p:=p) (it:=h2.objs.size) (ts:=ts) (kvs:=kvs) (I.ok.hd hc) hp hn ht hl (Nat.ne_of_gt sz2) (fun o=>?_) (fun s' I'=>?_) kvs.length 0 _ rfl (Nat.zero_le _) ?_ ?_
 ·exact I2.oF (Nat.le_refl _) (by rw[j9 (Nat.ne_of_gt sz2)];exact(i3.i8 hn).free (I2.hok.fresh (Nat.le_refl _)))
 ·exact⟨rfl,.ref s.heap.objs.size,_,I',rfl,q _ hn⟩
 ·exact I2.kept (t':=tk2) fun b o e=>Heap.get?_push_of_some _ e
 ·exact⟨_,Heap.get?_push_size _ rfl,rfl,rfl⟩
end
end L2
namespace L3
open PySem PySem.Spec PyProof.Rows L2
def pairD:D->Option (Key×D)
 | .tup [k,v]=>(S5 k).map fun j=>(j,v)
 | _=>none
def bz:List D->Option (List (Key×D))
 | []=>some []
 | x::xs=>match pairD x,bz xs with
  | some p,some ps=>some (p::ps)
  | _,_=>none
def gh(more:List (Key×D)):List (Key×D):=more.foldl (fun acc kv=>putD acc kv.1 kv.2) []
section
variable{X:Cx}
theorem om{K:PySem.W.Frag}{H:Hp}:∀{ts:List V} {xs:List D} {A:List Addr} {ps:List (Key×D)},o5 K H ts xs A->bz xs=some ps->A2 xs=true ->
  ∃kvs:List (Key×V),Paired (sF H) ts kvs/\A6 K H kvs ps []/\kvs.length=ps.length
 | _,_,_,_,.nil,e,_=>by cases e;exact⟨[],.nil,.nil,rfl⟩
 | _,_,_,ps,.cons (d:=d) (ds:=ds) h t,e,im=>by
  have im':(A7 d&&A2 ds)=true:=im
  rw[Bool.and_eq_true] at im'
  unfold bz at e
  cases e1:pairD d with
  | none=>rw[e1] at e;cases e
  | some p=>
   cases e2:bz ds with
   | none=>rw[e1,e2] at e;cases e
   | some qs=>
    rw[e1,e2] at e
    cases e
    obtain⟨kvs,a,b,c⟩:=om t e2 im'.2
    unfold pairD at e1
    split at e1
    ·rename_i k v
     obtain⟨j,hj,rfl⟩:=Option.map_eq_some_iff.mp e1
     obtain⟨q,vs,rfl,hq,rs⟩:=M7 h
     obtain⟨x,y,B,C,rfl,r1,r2,_⟩:=rs.two
     cases M9 r1 hj
     have iv:A7 v=true:=by
      have z:(A7 k&&(A7 v&&true))=true:=im'.1
      simp only[Bool.and_eq_true] at z
      exact z.2.1
     have hC:=r2.C7 iv
     subst hC
     exact⟨(j,y)::kvs,.cons ⟨q,rfl,hq⟩ a,A6.cons (A:=[]) (B:=[]) r2 b,by rw[List.length_cons,List.length_cons,c]⟩
    ·cases e1
theorem jd{K:PySem.W.Frag}{H:Hp}:∀{kvs:List (Key×V)} {ps:List (Key×D)} {A:List Addr} {acc:List (Key×V)} {ad:List (Key×D)},A6 K H kvs ps A->A=[]->A6 K H acc ad []->A6 K H (B6 acc kvs) (ps.foldl (fun a kv=>putD a kv.1 kv.2) ad) []
 | _,_,_,_,_,.nil,_,q=>q
 | _,_,_,acc,ad,.cons (k:=k) h t,e,q=>by
  obtain⟨e1,e2⟩:=List.append_eq_nil_iff.mp e
  subst e1
  obtain⟨C,rp,sC⟩:=q.put k h
  rw[List.sublist_nil.mp sC] at rp
  show A6 K H (B6 (putK acc k _) _) (List.foldl _ (putD ad k _) _) []
  exact jd t e2 rp
def qE:List D->(D->Prop)->Prop:=fun ds Q=>(∃(d:D) (xs:List D) (ps:List (Key×D)),ds=[d]/\kindB false d=some xs/\A2 xs=true/\bz xs=some ps/\ps.length<sizeLine/\Q (.dic (gh ps))) \/
 ∃kds:List (Key×D),ds=[.dic kds]/\(kds.all fun kv=>A7 kv.2)=true/\Q (.dic kds)
def pE(K:PySem.W.Frag)(xs:List V)(H:Hp)(Q:VK):Prop:=(∃p ts kvs,xs=[.ref p]/\N7 K H p ts/\Paired (sF H) ts kvs/\kvs.length<sizeLine/\∀d,H d=none->Q (.ref d) (upd H d (.dK (B6 [] kvs)))) \/
  ∃p kvs,xs=[.ref p]/\Dd H p kvs/\∀d,H d=none->Q (.ref d) (upd H d (.dK kvs))
theorem nj(hc:X.calm=true):E7 X (.type "dict") (pE X.K):=by
 intro pins s σ H xs us Q I r h
 rcases h with h | ⟨p,kvs,rfl,hp,q⟩
 ·exact pd hc pins s σ H xs us Q I r h
 ·obtain⟨u,rfl,ru⟩:=vals1 r
  cases(show u=Value.ref p from ru)
  obtain⟨z,hd,vs,rel,dd⟩:=bo I.hok (.of hp)
  refine kt_call_dict hd dd (by rw[<-rel.length];exact z) fun h' dd' hs=>?_
  have hn:=I.hok.fresh (Nat.le_refl s.heap.objs.size)
  have kp:∀b o,s.heap.get? b=some o->h'.get? b=some o:=fun b o e=>by
   have hb:b≠s.heap.objs.size:=Nat.ne_of_lt (Heap.lt_size e)
   exact(hs.2 b hb).trans (Heap.get?_push_of_some _ e)
  have bg:(s.heap.objs.size == sysModules)=false:=(ar (P:=X.prog) (w:=X.w) (H:=H) s.heap I.big).2.1
  exact⟨.ref s.heap.objs.size,_,I.laid (t':=s.toks) kp (Nat.le_refl _) (gi z bg rel dd'),rfl,q _ hn⟩
theorem fu(hc:X.calm=true):E7 X (.type "dict") (fun xs H Q=>pE X.K xs H (IB Q)):=wx (nj hc)
theorem rJ:Call3 X (fun xs H Q=>pE X.K xs H (IB Q)) qE:=by
 intro H vs ds A Q R r q k
 rcases q with⟨d,xs,ps,rfl,e1,im,e2,hl,q⟩ | ⟨kds,rfl,im,q⟩
 ·obtain⟨v,rfl,rr⟩:=r.one
  obtain⟨p,ts,B,rfl,hq,r2,_⟩:=aP rr e1
  obtain⟨kvs,pp,rk,el⟩:=om r2 e2 im
  refine .inl ⟨p,ts,kvs,rfl,hq,pp,by rw[el];exact hl,fun a ha=>?_⟩
  have rm:A6 X.K H (B6 [] kvs) (gh ps) []:=jd rk rfl .nil
  refine⟨a,_,rfl,h9,fun ep=>?_⟩
  rw[X7]
  refine k _ _ _ [a] (i3.i8 ha) (.dic h9 (rm.mono (T3.of (i3.i8 ha)) fun b hb=>by cases hb)) (List.nodup_cons.mpr ⟨(fun z=>nomatch z),List.nodup_nil⟩) (fun b hb=>by cases List.mem_singleton.mp hb;exact ha) q
 ·obtain⟨v,rfl,rr⟩:=r.one
  obtain⟨p,kvs,B,rfl,hp,rk,_⟩:=aV rr
  have hB:=rk.C7 im
  subst hB
  refine .inr ⟨p,kvs,rfl,hp,fun a ha=>?_⟩
  refine⟨a,_,rfl,h9,fun ep=>?_⟩
  rw[X7]
  exact k _ _ _ [a] (i3.i8 ha) (.dic h9 (rk.mono (T3.of (i3.i8 ha)) fun b hb=>by cases hb)) (List.nodup_cons.mpr ⟨(fun z=>nomatch z),List.nodup_nil⟩) (fun b hb=>by cases List.mem_singleton.mp hb;exact ha) q
end
end L3
namespace L2
open PySem PySem.Spec PyProof.Rows
section
variable{X:Cx}{e c:Expr}{te:TE}{pos p2:Pos}
def JR(K:PySem.W.Frag)(te:TE)(tc:TO):TE:=fun σ H Q=>te σ H fun x H1=>tc σ H1 fun l H2=>l=some (-1)/\∃a xs,x=.ref a/\N7 K H2 a xs/\∀p,H2 p=none->Q (.ref p) (upd H2 p (.lst xs.reverse))
theorem CO{tc:TO}(he:PE X e te)(hc:PO X (some c) tc):PE X (.Subscript e (.Slice none none (some c) p2) pos) (JR X.K te tc):=by
 refine .of ?_
 intro pins s σ H Q I h
 refine Subscript_ (A4 (he pins s σ H _ I h) fun v s1 ⟨x,H1,I1,r1,q1⟩=>?_)
 refine wpAny_Slice ?_
 rw[evalPart_none]
 refine wpAny_pure (wpAny_pure ?_)
 refine A4 (hc pins s1 σ H1 _ I1 q1) fun vc s2 ⟨l,H2,I2,pc,e1,a,xs,ex,hq,q2⟩=>?_
 subst e1 ex
 cases r1
 have I4:Inv X pins σ H2 { s2 with heap:=s2.heap.push { cls:=.type "slice",data:=.fields #[.none,.none,vc] } }:=I2.kept (t':=s2.toks) fun b ob q=>Heap.get?_push_of_some _ q
 obtain⟨its,r,ht,hz⟩:=I4.list hq
 have hlen:=r.length
 show wpAny (model X.prog X.w) X.A (subscriptTail e (.Slice none none (some c) p2) (.ref a) (.ref s2.heap.objs.size)) (EP X pins σ Q) X.xe { s2 with heap:=s2.heap.push { cls:=.type "slice",data:=.fields #[.none,.none,vc] } }
 refine tail_any (ops:=[.ref a,.ref s2.heap.objs.size]) ht.isList.typeIs slot_list_getitem.lookup ?_ (by with_unfolding_all rfl)
 refine wpAny_getItem_list_slice ht.isList (Heap.IsSliceOf.new ..) .none .none pc (by decide) ?_ (by rw[List.size_toArray];omega)
 rw[PySem.W.krv_pick]
 refine⟨.ref _,_,I4.laid (t':=s2.toks) (o:=.lst xs.reverse) (fun b ob q=>Heap.get?_push_of_some _ q) (Nat.le_refl _) ?_,rfl,q2 _ (I4.hok.fresh (Nat.le_refl _))⟩
 exact⟨by rw[List.length_reverse];exact hz,_,0,r.reverse,Heap.get?_push_size _ rfl⟩
end
end L2
namespace L3
open PySem PySem.Spec L2
section
variable{X:Cx}{cl:List Cl}{a c:Expr}{fa:Fl}{ua uc:TU}{pos p2:Pos}
def Em(ua:TU)(uc:Ge):TU:=fun ρ Q=>ua ρ fun d=>uc ρ fun l=>l=some (-1)/\match d with
 | .lst xs=>A2 xs=true/\Q (.lst xs.reverse)
 | _=>False
theorem nc{K:PySem.W.Frag}{H:Hp}{vs:List V}{ds:List D}(r:o5 K H vs ds []):o5 K H vs.reverse ds.reverse []:=by
 obtain⟨C,rC,mC,_⟩:=r.rev
 have e:C=[]:=by
  cases C with
  | nil=>rfl
  | cons a C=>exact absurd ((mC a).mp List.mem_cons_self) (by simp)
 rw[e] at rC
 exact rC
theorem BD{f:Fl}{uc:TU}(ha:PU X cl a fa ua)(hc:PU X cl c f uc):PU X cl (.Subscript a (.Slice none none (some c) p2) pos) .fresh (Em ua (bt uc)):=.of<|by
 obtain⟨ta,pa,ha⟩:=ha.run
 obtain⟨tl,pl,hl⟩:=(W8 hc).run
 refine⟨_,CO pa pl,fun G ρ σ H fo Q R hG E hu k=>ha G ρ σ H fo _ _ hG E hu fun v H1 d A s1 r1 f1 q1=>hl G ρ σ H1 fo _ _ hG (E.same s1) q1 fun o1 H2 s2 q2=>?_⟩
 obtain⟨e1,q2⟩:=q2
 cases d<;>first | exact(show False from q2).elim | skip
 obtain⟨p,vs,B,rfl,hp,rs,_⟩:=G8 (r1.same s2)
 have eB:=rs.C7 q2.1
 subst eB
 refine⟨e1,p,vs,rfl,N7.of hp,fun l hl=>?_⟩
 exact k _ _ _ [l] ((s1.trans s2).trans (i3.i8 hl)) (.lst h9 ((nc rs).same (i3.i8 hl))) ⟨List.nodup_cons.mpr ⟨(fun z=>nomatch z),List.nodup_nil⟩,fun b hb=>by cases List.mem_singleton.mp hb;exact(s1.trans s2).free hl⟩ q2.2
end
end L3
namespace L2
open PySem PySem.Spec PySem.Calls PyProof.Rows
section
variable{X:Cx}{pins:List (Addr×Obj)}{σ:St}{H:Hp}{s:Shared}
end
end L2
namespace L3
open PySem PySem.Spec PySem.Calls PyProof.Rows L2
section
variable{X:Cx}{cl:List Cl}{e:Expr}{es:List Expr}{pos cpos hpos np p:Pos}{us:cE}{k m:Nat}{x y bn n:Str}{i j:Nat}{AP:Addr->Prop}
end
end L3
namespace My
open PySem L2 L3
abbrev cs(x:Str):List Nat:=x.cps.toList
def nt(n:Int):Str:=Str.ofString (toString n)
theorem Il{n:Int}(h:0<=n)(h1:n<10^60):(nt n).length<=61:=by
 unfold nt
 rw[ofString_length]
 exact int_text_length_le10 (by decide) (by omega)
def num(n:Int):Prop:=0<=n/\n<10^60
theorem num.len{n:Int}(h:num n):(nt n).length<=61:=Il h.1 h.2
def JC(x:Str):Prop:=10∉cs x
instance (x:Str):Decidable (JC x):=by unfold JC;infer_instance
mutual
def kn:D->Bool
 | .non=>true
 | .bl _=>true
 | .int _=>true
 | .str x=>decide (x.length<=100000)
 | .tup xs=>Lg xs
 | .lst xs=>Lg xs
 | .dic _=>true
 | _=>false
def Lg:List D->Bool
 | []=>true
 | x::xs=>kn x&&Lg xs
end
theorem ES{d:D}(h:kn d=true):∃a,tyName d=some a:=by
 cases d<;>first | exact⟨_,rfl⟩ | (simp[kn] at h)
def uY(q:D)(xs:List D):Prop:=q=.tup xs\/q=.lst xs
def IA:D->Str
 | .tup (.str x::_)=>x
 | _=>Str.empty
def Gs(d:D):Prop:=∃x r,d=.tup (.str x::r)
def G7:Cp:=fun ds Q=>∃(q:D) (xs:List D),ds=[q]/\uY q xs/\xs.length<=100/\(∀x∈xs,Gs x)/\Q (gZ (xs.map IA))
structure Kg(gs:List Gd):Prop where
 len:gs.length<=16
 nd:(gs.map (·.nm)).Nodup
 un:CF gs
def kY(gs:List Gd)(x:Str):Option Str:=match gs.find? (fun g=>decide (g.nm=x)) with
 | some g=>g.un
 | none=>none
def ups(gs:List Gd):Nat->Option Str->List Str
 | 0,_=>[]
 | _+1,none=>[]
 | n+1,some x=>x::ups gs n (kY gs x)
def aq:Cp:=fun ds Q=>∃(q:D) (gs:List Gd) (x:Str),ds=[q,.str x]/\uY q (gs.map gD)/\Kg gs/\(∃g∈gs,g.nm=x)/\Q (gZ (ups gs 8 (some x)))
def y9(b:Bd):List Str:=b.gs.map (·.nm)
def L1(b:Bd):List Str:=b.ls.map (·.nm)
def kz(xs:List Str):D->Bool
 | .str x=>decide (x∈xs)
 | _=>false
def V4(b:Bd)(x:Str):Str:=match b.ls.find? (fun l=>decide (l.nm=x)) with
 | some l=>l.at_
 | none=>x
def p3(b:Bd)(x:Str):List Str:=ups b.gs 8 (some (V4 b x))
def C8:Cp:=fun ds Q=>∃(b:Bd),ds=[bD b]/\p5 b/\Q (gZ (y9 b))
def N1:Cp:=fun ds Q=>∃(b:Bd),ds=[bD b]/\p5 b/\Q (gZ (L1 b))
def J9:Cp:=fun ds Q=>∃(b:Bd) (d:D),ds=[bD b,d]/\p5 b/\kn d=true/\Q (.bl (kz (y9 b) d))
def N6:Cp:=fun ds Q=>∃(b:Bd) (d:D),ds=[bD b,d]/\p5 b/\kn d=true/\Q (.bl (kz (L1 b) d))
def K2:Cp:=fun ds Q=>∃(b:Bd) (d:D),ds=[bD b,d]/\p5 b/\kn d=true/\Q (.bl (kz (y9 b) d||kz (L1 b) d))
def eh:IJ:=fun ds Q W=>∃(b:Bd) (d:D),ds=[bD b,d]/\p5 b/\kn d=true/\((∃x,d=.str x/\x∈y9 b++L1 b/\Q (gZ (p3 b x)))\/(kz (y9 b) d=false/\kz (L1 b) d=false/\W "NoPlace"))
end My
namespace L3
open PySem PySem.Spec PySem.Calls PyProof.Rows L2
section
variable{X:Cx}{cl:List Cl}{e:Expr}{es:List Expr}{pos p:Pos}{us:cE}{k:Nat}{fn:Addr}{fd:FuncData}{ps:List Str}{x:Str}{ua:TU}{f:Fl}{ma:TM}
structure Kz(X:Cx)(cl:List Cl)(es:List Expr)(u:cE):Prop where
 of ::
 run:∃t,PA X es t/\∀(G:Ent) (ρ:Ev) (σ:L2.St) (H:Hp) (fa:Nat->List Addr) (Q:List D->Prop) (R:List V->Hp->Prop),G.cl=cl->E3 X.K G ρ σ H fa->u ρ Q ->
  (∀vs H' ds A,i3 H H'->o5 X.K H' vs ds A->ds.length=es.length->(∀i,G.own i->∀a∈A,a∉fa i)->Q ds->R vs H')->t σ H R
theorem Gf:Kz X cl [] j4:=.of ⟨_,Q4,fun G ρ σ H fa Q R _ E hu k=>k [] H [] [] (i3.refl H) .nil rfl (fun _ _ _ h=>(by cases h)) hu⟩
theorem rM(ha:PU X cl e f ua)(hr:Kz X cl es us)(hs:isStar e=false)(hf:gP f .stab=true):Kz X cl (e::es) (e9 ua us):=.of<|by
 obtain⟨t1,p1,h1⟩:=ha.run
 obtain⟨t2,p2,h2⟩:=hr.run
 refine⟨_,bG p1 p2 hs,fun G ρ σ H fa Q R hG E hu k=>?_⟩
 refine h1 G ρ σ H fa _ _ hG E hu fun v H1 d A s1 r1 f1 q1=>?_
 refine h2 G ρ σ H1 fa _ _ hG (E.same s1) q1 fun vs H2 ds B s2 r2 n3 n4 q2=>?_
 refine k (v::vs) H2 (d::ds) (A++B) (s1.trans s2) (.cons (r1.same s2) r2) (by simp[n3]) (fun i hi a ha=>?_) q2
 rcases List.mem_append.mp ha with z | z
 ·exact f1.weak E hf i hi a z
 ·exact n4 i hi a z
theorem DB{x1}(h:Kz X cl es us)(hn:Nat.ble es.length 1000=true):PU X cl (.Tuple es x1 pos) .stab (bH us):=.of<|by
 obtain⟨t,p,h⟩:=h.run
 refine⟨_,jJ p,fun G ρ σ H fa Q R hG E hu k=>?_⟩
 refine h G ρ σ H fa _ _ hG E hu fun vs H1 ds A s r n3 n4 q=>⟨by rw[r.length,n3];exact aC (Nat.le_of_ble_eq_true hn),fun x hx=>?_⟩
 exact k _ _ (.tup ds) A (s.trans (i3.i8 hx)) (.tup h9 (r.same (i3.i8 hx))) n4 q
end
end L3
namespace My
open PySem L2 L3
def Fx(d:D)(xs:List Str):Prop:=d=.lst (xs.map D.str)\/d=.tup (xs.map D.str)
def D6(b:Bd)(op:List Str)(x:Str):Bool:=(p3 b x).all fun g=>decide (g∉op)
end My
namespace L2
open PySem PySem.Spec PyProof.Rows
theorem xB{prog:Program}{w:World}{A:Around}{E:Value->Shared->Prop}{s:Shared}{T newId initId:String}{Bi:Builtin}{args:List Value}{Q Q1:Value->Shared->Prop}(ft:TypeCalled T newId initId)(ct:checkTypeCall T ⟨args,[]⟩=pure ())(en:entryFor table initId=some Bi)
  (hnew:codeAny (model prog w) A.in1 (.call (.builtin newId) ⟨.type T::args,[]⟩) (wants Q1 E) s)
  (next:∀x s1,Q1 x s1->s1.TypeIs x T/\(∀{A':Around} {Q':Unit->Shared->Prop} {E':Value->Shared->Prop},Q' () s1->wpAny (model prog w) A' (checkBuiltinCall initId ⟨x::args,[]⟩) Q' E' s1) /\
   wpAny (model prog w) A.in1.in1 (Bi ⟨x::args,[]⟩)
    (fun f s'=>match f with | .done r=>wants (fun r s2=>r=.none/\Q x s2) E (.ok r) s' | .again c=>c.quiet=true/\codeAny (model prog w) A.in1 c (wants (fun r s2=>r=.none/\Q x s2) E) s')
    (fun e s'=>wants (fun r s2=>r=.none/\Q x s2) E (.error e) s') s1) :
  wpAny (model prog w) A (call (.type T) args) Q E s:=by
 have⟨c,tl,f1⟩:=ft.mro;have f2:=ft.made;have f3:=ft.sub;have f4:=ft.notType;have f5:=ft.canCreate
 refine wpAny_call (codeAny_of_tree (show wpAny _ _ (callAny (.type T) _) _ _ _ from wpAny_pure ⟨Code.quiet_builtin _ (by decide +kernel),codeAny_builtin F.entry_type_call ?_⟩))
 rw[Around.under_plain (weight_type_call_type T args []) rfl];repeat (any_goals (first | assumption | wp_step))
 refine codeAny_mono hnew fun r s1 hr=>?_
 cases r with
 | error e=>exact hr
 | ok fl=>
  cases fl with
  | ret x=>
   have⟨f6,ck,run⟩:=next _ _ hr;have f7:=ft.init.lookup;have f8:=ft.init.bind x;repeat (any_goals (first | assumption | wp_step))
   refine codeAny_mono (codeAny_call_builtin ft.init.plain en (ck run)) fun r2 s2 hr2=>?_
   cases r2 with
   | error e=>exact hr2
   | ok fl2=>
    cases fl2 with
    | ret r=>obtain⟨rfl,hq⟩:=hr2;repeat (any_goals (first | assumption | wp_step))
    | _=>exact hr2.elim
  | _=>exact hr.elim
theorem mJ{prog:Program}{w:World}{A:Around}{R:Result->Shared->Prop}{I:Addr}{fp wr:List Addr}{n:Nat}{P:Nat->Value->Prop}{St:Nat->Heap->Prop}(W:Walks prog w A.in1 I fp wr n P St)(S:Addr)(hS:S∉fp)(key:Nat->Key)(hv:∀i v,P i v->aB (key i) v=true)(hb:n+1<scanBound) :
  ∀(k i:Nat) (s:Shared),n-i=k->i<=n->St i s.heap->(∃m,m<=i/\s.heap.SetOf (o6 prog w) S (fun x=>((List.range i).map key).any fun z=>decide (z=x)) m) ->
   (∀h' tk m,(∀b o,b∉S::wr->s.heap.get? b=some o->h'.get? b=some o)->h'.SetOf (o6 prog w) S (fun x=>((List.range n).map key).any fun z=>decide (z=x)) m->R (.ok (.ret .none)) { s with heap:=h',toks:=tk }) ->
   codeAny (model prog w) A (.builtin "set.update.loop" ⟨[.ref S,.ref I],[]⟩) R s:=by
 have nw:S∉wr:=fun h=>hS (W.sub _ h)
 have kb:∀{h h':Heap} {T:Key->Bool} {m:Nat},(∀b o,b∉wr->h.get? b=some o->h'.get? b=some o)->h.SetOf (o6 prog w) S T m->h'.SetOf (o6 prog w) S T m:=fun k ⟨o,es,ep,t,ho,r⟩=>⟨o,es,ep,t,k S _ nw ho,r⟩
 have same:∀{h:Heap} {T T':Key->Bool} {m:Nat},h.SetOf (o6 prog w) S T m->T=T'->h.SetOf (o6 prog w) S T' m:=fun a e=>e▸a
 intro k
 induction k with
 | zero=>
  intro i s hk hi st ⟨m,_,hm⟩ res
  have e:i=n:=by omega
  subst e
  refine codeAny_builtin PyProof.Rows.F.entry_set_update_loop ?_
  rw[Around.under_plainId PyProof.Rows.F.plain_set_update_loop _]
  show wpAny _ A.in1 (pyNext (.ref I) >>= _) _ _ s
  refine wpAny_bind (W.done s _ _ st fun h' tk kp=>?_)
  exact wpAny_pure (res h' tk m (fun b o hb e=>kp b o (fun z=>hb (List.mem_cons_of_mem _ z)) e) (kb kp hm))
 | succ k ih=>
  intro i s hk hi st ⟨m,hmi,hm⟩ res
  have hlt:i<n:=by omega
  refine codeAny_builtin PyProof.Rows.F.entry_set_update_loop ?_
  rw[Around.under_plainId PyProof.Rows.F.plain_set_update_loop _]
  show wpAny _ A.in1 (pyNext (.ref I) >>= _) _ _ s
  refine wpAny_bind (W.item i s _ _ hlt st fun v h' tk hP st' kp=>?_)
  have hkv:=hv i v hP
  have hsc:v.scannable=true:=by rcases r8 hkv with⟨j,t,_,rfl⟩ | ⟨x,t,_,rfl⟩<;>rfl
  have hm1:=kb kp hm
  show wpAny _ A.in1 (holding [v] (setAdd S v) >>= _) _ _ _
  refine wpAny_bind (wpAny_holding ?_)
  unfold setAdd
  refine wpAny_holding (wpAny_bind ((o6 prog w).pyHash (k:=key i) hkv ?_))
  refine wpAny_setAddHashed_of (knd:=o6 prog w) (n:=m) (s:={ s with heap:=h',toks:=tk+1 }) hkv hsc hm1 (by omega) fun h2 sb hm2=>?_
  refine wpAny_pure ⟨plainId_quiet PyProof.Rows.F.plain_set_update_loop _,ih (i+1) _ (by omega) hlt (W.frame (i+1) h' h2 st' fun b hb o e=>(sb.2 b fun z=>hS (z▸hb)).trans e) ⟨_,?_,same hm2 (funext fun x=>?_)⟩ fun h3 tk3 m3 kp3 hm3=>?_⟩
  ·split<;>omega
  ·rw[List.range_succ,List.map_append]
   rw[List.any_append]
   show((_:Bool)||decide (x=key i))=(_||(decide (key i=x)||false))
   rw[Bool.or_false,show decide (x=key i)=decide (key i=x) from decide_eq_decide.mpr eq_comm]
  ·refine res h3 tk3 m3 (fun b o hb e=>kp3 b o hb ?_) hm3
   exact(sb.2 b fun z=>hb (by rw[z];exact List.mem_cons_self)).trans (kp b o (fun z=>hb (List.mem_cons_of_mem _ z)) e)
theorem jo(P:Program)(w:World){ts:List V}{its:List Value}{ks:List Key}(r:Vals ts its)(e:ts=ks.map kV)(i:Nat)(v:Value)(h:its.toArray[i]?=some v):aB (ks.getD i (.inl 0)) v=true:=by
 subst e
 have h1:its[i]?=some v:=by simpa using h
 have hl:=r.length
 rw[List.length_map] at hl
 have hi:=(List.getElem?_eq_some_iff.mp h1).1
 have hk:ks[i]?=some (ks[i]'(by omega)):=List.getElem?_eq_getElem (by omega)
 obtain⟨u,hu,ru⟩:=r.get (show(ks.map kV)[i]?=some (kV (ks[i]'(by omega))) by rw[List.getElem?_map,hk];rfl)
 rw[h1] at hu
 cases hu
 rw[List.getD_eq_getElem?_getD,hk]
 exact Y3 (P:=P) (w:=w) ru
theorem range_getD(ks:List Key):(List.range ks.length).map (fun i=>ks.getD i (.inl 0))=ks:=by
 refine List.ext_getElem? fun i=>?_
 rw[List.getElem?_map]
 by_cases h:i<ks.length
 ·rw[List.getElem?_range h,List.getElem?_eq_getElem h]
  show some (ks.getD i (.inl 0))=_
  rw[List.getD_eq_getElem?_getD,List.getElem?_eq_getElem h];rfl
 ·rw[List.getElem?_eq_none (by simpa using h),List.getElem?_eq_none (by simpa using h)];rfl
section
variable{X:Cx}
theorem sub_tuple_set:isSubtype (.type "tuple") (.type "set")=pure false:=by rw[isSubtype_type];kernel_rfl
theorem fB:isSubtype (.type "tuple") (.type "frozenset")=pure false:=by rw[isSubtype_type];kernel_rfl
theorem uL(hc:X.calm=true):E7 X (.type "set") (fun xs H Q=>∃(p:Addr) (ts:List V) (ks:List Key),xs=[.ref p]/\(N7 X.K H p ts\/R8 X.K H p ts)/\ts=ks.map kV/\ks.length+1<scanBound/\∀d n,H d=none->Q (.ref d) (upd H d (.set (fun k=>ks.any fun z=>decide (z=k)) n))):=by
 intro pins s σ H xs us Q I r h
 obtain⟨p,ts,ks,rfl,hp,ht,hl,q⟩:=h
 obtain⟨u,rfl,ru⟩:=vals1 r
 cases(show u=Value.ref p from ru)
 refine xB (Q1:=fun x s1=>∃led:Bool,x=.ref s.heap.objs.size/\s1={ s with heap:=s.heap.push { cls:=.type "set",dict:=none,data:=.set #[] 0 (.fresh 0 0 led) } }) F.called_set (F.typeCall_set_1 _) F.entry_set_init (code_set_new_1 _ fun led=>⟨led,rfl,rfl⟩) ?_
 rintro x s1 ⟨led,rfl,rfl⟩
 have hn:=I.hok.fresh (Nat.le_refl s.heap.objs.size)
 have hS:(s.heap.push { cls:=.type "set",dict:=none,data:=.set #[] 0 (.fresh 0 0 led) }).get? s.heap.objs.size=some { cls:=.type "set",dict:=none,data:=.set #[] 0 (.fresh 0 0 led) }:=Heap.get?_push_size _ rfl
 have hT:Shared.TypeIs { s with heap:=s.heap.push { cls:=.type "set",dict:=none,data:=.set #[] 0 (.fresh 0 0 led) } } (.ref s.heap.objs.size) "set":=⟨_,hS,rfl⟩
 refine⟨hT,fun hq=>check_set_init_1 hT hq,?_⟩
 have fin:∀(h':Heap) (tk m:Nat),(∀b o,b<s.heap.objs.size->s.heap.get? b=some o->h'.get? b=some o)->h'.SetOf (o6 X.prog X.w) s.heap.objs.size (fun x=>ks.any fun z=>decide (z=x)) m ->
   EP X pins σ Q (.ref s.heap.objs.size) { s with heap:=h',toks:=tk }:=fun h' tk m kp hm=>
  ⟨.ref s.heap.objs.size,_,I.laid (a:=s.heap.objs.size) (o:=.set (fun k=>ks.any fun z=>decide (z=k)) m) (h':=h') (t':=tk) (fun b o e=>kp b o (Heap.lt_size e) e) (Nat.le_refl _) hm,rfl,q _ m hn⟩
 have hh:=I.ok.hd hc
 have e0:((List.range 0).map fun i=>ks.getD i (.inl 0))=[]:=rfl
 have start:∀{h2:Heap},h2.get? s.heap.objs.size=some { cls:=.type "set",dict:=none,data:=.set #[] 0 (.fresh 0 0 led) }->h2.SetOf (o6 X.prog X.w) s.heap.objs.size (fun x=>((List.range 0).map fun i=>ks.getD i (.inl 0)).any fun z=>decide (z=x)) 0:=fun g=>
  ⟨_,#[],0,_,g,⟨rfl,rfl,rfl⟩,rfl,fun e he=>by simp at he,fun k=>by simp,by decide,by rfl,rfl⟩
 have plt:p<s.heap.objs.size:=by
  rcases hp with hp | hp
  ·obtain⟨_,_,pl,_⟩:=I.list hp
   obtain⟨o,_,e,_⟩:=pl
   exact Heap.lt_size e
  ·obtain⟨_,_,pl,_⟩:=I.tuple hp
   exact pl.lt
 have np:s.heap.objs.size∉[(s.heap.push { cls:=.type "set",dict:=none,data:=.set #[] 0 (.fresh 0 0 led) }).objs.size,p]:=by
  rw[Heap.size_push]
  intro z
  rcases List.mem_cons.mp z with z | z
  ·exact absurd z (Nat.ne_of_lt (Nat.lt_succ_self _))
  ·exact absurd (List.mem_singleton.mp z) (Nat.ne_of_gt plt)
 have nI:p≠(s.heap.push { cls:=.type "set",dict:=none,data:=.set #[] 0 (.fresh 0 0 led) }).objs.size:=by
  rw[Heap.size_push];exact Nat.ne_of_lt (Nat.lt_succ_of_lt plt)
 have kp2:∀{h2 h':Heap},(∀b o,s.heap.get? b=some o->h2.get? b=some o)->(∀b o,b∉[s.heap.objs.size,(s.heap.push { cls:=.type "set",dict:=none,data:=.set #[] 0 (.fresh 0 0 led) }).objs.size]->h2.get? b=some o->h'.get? b=some o)->∀b o,b<s.heap.objs.size->s.heap.get? b=some o->h'.get? b=some o:=fun k1 k2 b o hb e=>k2 b o (fun z=>by
  rw[Heap.size_push] at z
  rcases List.mem_cons.mp z with z | z
  ·exact absurd z (Nat.ne_of_lt hb)
  ·exact absurd (List.mem_singleton.mp z) (Nat.ne_of_lt (Nat.lt_succ_of_lt hb))) (k1 b o e)
 rcases hp with hp | hp
 ·obtain⟨its,rv,pl,hz⟩:=I.list hp
  have hlen:its.length=ks.length:=by rw[<-rv.length,ht,List.length_map]
  obtain⟨ob,n0,hg0,hg1,hg2,hg3⟩:=pl
  obtain⟨oc,od,odt,osl⟩:=ob
  simp only at hg1 hg2 hg3
  subst hg1 hg2 hg3
  have hol:(s.heap.push { cls:=.type "set",dict:=none,data:=.set #[] 0 (.fresh 0 0 led) }).get? p=some { cls:=.type "list",dict:=none,data:=.seq its.toArray n0,slots:=osl }:=Heap.get?_push_of_some _ hg0
  have f1:=F.sub_list_set;have f2:=F.sub_list_frozenset;have f3:(Value.type "list" == Value.type "dict")=false:=by decide
  unfold Builtin.«set.__init__» noKeywords Builtin.Frozenset.updateFrom
  generalize hPI:pyIter=PI
  wp_walk
  subst hPI
  refine wpAny_pyIter_list (items:=its.toArray) ⟨_,hol,rfl,n0,rfl⟩ (wpAny_bind (wpAny_runValue ?_))
  refine mJ (Walks.list (by simp[hh]) _ p nI its.toArray) s.heap.objs.size np (fun i=>ks.getD i (.inl 0)) (fun i v hv=>jo X.prog X.w rv ht i v hv) (by rw[List.size_toArray,hlen];exact hl) its.toArray.size 0 _ (by omega) (Nat.zero_le _) ⟨⟨_,Heap.get?_push_size _ rfl,rfl,rfl⟩,⟨_,Heap.get?_push_of_some _ hol,rfl,n0,rfl⟩⟩ ⟨0,Nat.le_refl _,start (Heap.get?_push_of_some _ hS)⟩ fun h' tk m kp hm=>?_
  rw[show its.toArray.size=ks.length by rw[List.size_toArray];exact hlen,range_getD] at hm
  exact wpAny_pure (wpAny_pure ⟨rfl,fin h' tk m (kp2 (fun b o e=>Heap.get?_push_of_some _ (Heap.get?_push_of_some _ e)) kp) hm⟩)
 ·obtain⟨its,rv,pl,hz⟩:=I.tuple hp
  have hlen:its.length=ks.length:=by rw[<-rv.length,ht,List.length_map]
  obtain⟨ob,hg0,hg1,n0,hg3⟩:=pl
  obtain⟨oc,od,odt,osl⟩:=ob
  simp only at hg1 hg3
  subst hg1 hg3
  have hol:(s.heap.push { cls:=.type "set",dict:=none,data:=.set #[] 0 (.fresh 0 0 led) }).get? p=some { cls:=.type "tuple",dict:=od,data:=.seq its.toArray n0,slots:=osl }:=Heap.get?_push_of_some _ hg0
  have f1:=sub_tuple_set;have f2:=fB;have f3:(Value.type "tuple" == Value.type "dict")=false:=by decide
  unfold Builtin.«set.__init__» noKeywords Builtin.Frozenset.updateFrom
  generalize hPI:pyIter=PI
  wp_walk
  subst hPI
  refine wpAny_pyIter_tuple (items:=its.toArray) ⟨_,hol,rfl,n0,rfl⟩ (wpAny_bind (wpAny_runValue ?_))
  refine mJ (Walks.tuple (by simp[hh]) _ p nI its.toArray) s.heap.objs.size np (fun i=>ks.getD i (.inl 0)) (fun i v hv=>jo X.prog X.w rv ht i v hv) (by rw[List.size_toArray,hlen];exact hl) its.toArray.size 0 _ (by omega) (Nat.zero_le _) ⟨⟨_,Heap.get?_push_size _ rfl,rfl,rfl⟩,⟨_,Heap.get?_push_of_some _ hol,rfl,n0,rfl⟩⟩ ⟨0,Nat.le_refl _,start (Heap.get?_push_of_some _ hS)⟩ fun h' tk m kp hm=>?_
  rw[show its.toArray.size=ks.length by rw[List.size_toArray];exact hlen,range_getD] at hm
  exact wpAny_pure (wpAny_pure ⟨rfl,fin h' tk m (kp2 (fun b o e=>Heap.get?_push_of_some _ (Heap.get?_push_of_some _ e)) kp) hm⟩)
end
section
variable{X:Cx}
theorem Ag{k:Key}{u:Value}(r:RelV (kV k) u):u.scannable=true:=by
 cases k with
 | inl i=>obtain⟨t,rfl⟩:=r;rfl
 | inr x=>obtain⟨t,rfl⟩:=r;rfl
def Jk(neg:Bool):R2:=fun x y H Q=>∃k p S n,x=kV k/\y=.ref p/\H p=some (.set S n)/\Q (.bl (match neg with | true=>!S k | false=>S k)) H
theorem vn:N0 X (compareOp .NotIn) (Jk true):=by
 intro pins s σ H x y v u Q I rx ry h
 obtain⟨k,p,S,n,rfl,rfl,g,q⟩:=h
 cases ry
 exact wpAny_notInSet_of (Y3 rx) (Ag rx) (show s.heap.SetOf (o6 X.prog X.w) p S n from I.hok p _ g) ⟨.bl (!S k),H,I.tok _,rfl,q⟩
end
end L2
namespace L3
open PySem PySem.Spec L2
def zI(ks:List Key)(k:Key):Bool:=ks.any fun z=>decide (z=k)
def kD:Key->D
 | .inl i=>.int i
 | .inr x=>.str x
section
variable{X:Cx}{cl:List Cl}{e a b tg:Expr}{es:List Expr}{f:Fl}{pos:Pos}{ua ub:TU}{fa fb:Fl}{us:cE}{x y:Str}
theorem HH{K:PySem.W.Frag}{H:Hp}{v:V}{k:Key}{A:List Addr}(r:Rep K H v (kD k) A):v=kV k:=by
 cases k with
 | inl i=>cases r;rfl
 | inr x=>cases r;rfl
theorem rP{K:PySem.W.Frag}{H:Hp}:∀{vs:List V} {ks:List Key} {A:List Addr},o5 K H vs (ks.map kD) A->vs=ks.map kV
 | _,[],_,.nil=>rfl
 | _,k::ks,_,.cons h r=>by rw[List.map_cons,HH h,rP r]
def Hr(neg:Bool):D->D->(D->Prop)->Prop:=fun d e Q=>match e with
 | .st ks=>∃k,S5 d=some k/\Q (.bl (ng neg (zI ks k)))
 | _=>False
theorem Jb{neg:Bool}:br X (Jk neg) (Hr neg):=by
 intro H v w d e A B Q R r1 r2 q k
 cases e<;>first | exact(show False from q).elim | skip
 rename_i ks
 obtain⟨j,hj,q⟩:=q
 cases r2 with
 | st g hS=>
  rename_i p S n
  refine⟨j,_,_,_,M9 r1 hj,rfl,g,?_⟩
  have e1:S j=zI ks j:=hS j
  rw[e1]
  cases neg<;>exact k _ H _ _ (i3.refl H) .bl List.nodup_nil (fun _ h=>(by cases h)) q
theorem tZ(ha:PU X cl a fa ua)(hb:PU X cl b fb ub)(hm:behindInMarks .NotIn b=false):PU X cl (.Compare a [.NotIn] [b] pos) .fresh (w8 (Hr true) ua ub):=fq vn Jb ha hb hm
def JP:List D->(D->Prop)->Prop:=fun ds Q=>∃d ks,ds=[d]/\mL d=some (ks.map kD)/\ks.length<4000/\Q (.st ks)
theorem Hd:Call3 X (fun xs H Q=>∃(p:Addr) (ts:List V) (ks:List Key),xs=[.ref p]/\(N7 X.K H p ts\/R8 X.K H p ts)/\ts=ks.map kV/\ks.length+1<scanBound/\∀d n,H d=none->Q (.ref d) (upd H d (.set (fun k=>ks.any fun z=>decide (z=k)) n))) JP:=by
 intro H vs ds A Q R r q k
 obtain⟨d,ks,rfl,e,hl,q⟩:=q
 obtain⟨v,rfl,rr⟩:=r.one
 obtain⟨p,ws,B,rfl,hq,r2,_⟩:=cg rr e
 refine⟨p,ws,ks,rfl,hq,rP r2,by unfold scanBound;omega,fun l n hl=>k _ _ (.st ks) [l] (i3.i8 hl) (.st h9 fun _=>rfl) (by simp) (fun a ha=>?_) q⟩
 rw[List.mem_singleton.mp ha];exact hl
def Hj(i j:Nat)(us:cE):j7:=fun T ρ=>us ρ fun ds=>∃d e,ds=[d,e]/\A7 d=true/\A7 e=true/\Nat.blt i ρ.length=true/\Nat.blt j ρ.length=true/\T.nx ((ρ.set i (some d)).set j (some e))
theorem EB{i j:Nat}{px py pt:Pos}{kt k2 pt2}(hc:X.calm=true)(hN:X.N.Nodup)(hi:X.N[i]?=some x)(hj:X.N[j]?=some y)(hij:i≠j)(hx:X.env.scope.names.lookup x=some .local)(hy:X.env.scope.names.lookup y=some .local)(ha:zR X cl [a,b] us)(ci:cl[i]?=some .bor)(cj:cl[j]?=some .bor)
  (hw:swappedStores [.Tuple [.Name x px,.Name y py] kt pt] (.Tuple [a,b] k2 pt2) X.env=pure (some [x,y])) (hs:swapsWithSole [.Tuple [.Name x px,.Name y py] kt pt] (.Tuple [a,b] k2 pt2) pos.line X.env=pure false:=by rfl) :
  K7 X cl (.Assign [.Tuple [.Name x px,.Name y py] kt pt] (.Tuple [a,b] k2 pt2) pos) (Hj i j us):=.of<|by
 obtain⟨t,pt,h⟩:=ha.run
 refine⟨_,FF hc hN hi hj hij hx hy pt hw hs,fun G T ρ σ H fa R hG E hu le=>?_⟩
 refine h G ρ σ H fa _ _ hG E hu fun vs H1 ds A s r n3 q=>?_
 obtain⟨d,e,rfl,i1,i2,l1,l2,q⟩:=q
 cases r with
 | cons r1 r=>
  cases r with
  | cons r2 r=>
   cases r
   have e1:=r1.C7 i1
   have e2:=r2.C7 i2
   subst e1 e2
   have ok:∀(fa:Nat->List Addr) (n:Nat),cl[n]?=some .bor->fT G fa [] n:=fun fa n hn=>⟨fun _ _ _ _ h=>(by cases h),by rw[hG,hn];trivial⟩
   have E1:=(E.same s).set (Nat.le_of_ble_eq_true l1) r1 (ok _ i ci)
   have E2:=E1.set (by rw[List.length_set];exact Nat.le_of_ble_eq_true l2) r2 (ok _ j cj)
   exact⟨_,_,rfl,le.nx _ _ ⟨_,_,E2,q⟩⟩
def pG(i:Nat)(uk ue:TU):j7:=fun T ρ=>e5 i ρ fun l=>uk ρ fun y=>match l with
 | .dic kds=>∃k a,S5 y=some k/\y7 kds k=some (.int a)/\kds.length<sizeLine/\ue ρ fun z=>∃b,z=.int b/\T.nx (ρ.set i (some (.dic (putD kds k (.int (a+b))))))
 | _=>False
theorem xA{vp tp:Pos}{ik:Expr}(hu:X.A.units+1<cLine)(i:Nat)(hv:PE X (.Name x vp) (dC i))(hi:cl[i]?=some .own)(hk:PU X cl ik fb ub)(he:PU X cl e fa ua)
  (ha:∀ov iv new,augStore ik ov iv new=(do holding [new,ov,iv] (setItem ov iv new);release [new,ov,iv] [];pure .next):=by intros;rfl) :
  K7 X cl (.AugAssign (.Subscript (.Name x vp) ik tp) .Add e pos) (pG i ub ua):=.of<|by
 obtain⟨t,p,h⟩:=he.run
 obtain⟨t2,p2,h2⟩:=hk.run
 refine⟨_,qo<|DS hu hv p2 p (Gq (X:=X)) ha,fun G T ρ σ H fo R hG E hu' le=>?_⟩
 have own:G.own i:=by unfold Ent.own;rw[hG];exact hi
 obtain⟨l0,e0,q⟩:=u5 hu'
 obtain⟨v,hvi,r0⟩:=E.rep i l0 e0
 refine⟨v,hvi,h2 G ρ σ H fo _ _ hG E q fun wk H1 dk Bk s1 rk fk q=>?_⟩
 obtain⟨kds,rfl⟩:∃kds,l0=.dic kds:=by cases l0<;>first | exact⟨_,rfl⟩ | exact(show False from q).elim
 obtain⟨k,a0,hk,hval,hn,q⟩:=q
 obtain⟨p,kvs,ep0,B,rfl,hp,rs,eA⟩:=nY r0
 cases M9 rk hk
 obtain⟨u,C0,e1,r1,_⟩:=(rs.val k).1 _ hval
 cases r1
 refine⟨p,_,rfl,e1▸X0.k (.inr ⟨_,s1 _ _ hp⟩),h G ρ σ H1 fo _ _ hG (E.same s1) q fun w H2 z Bz s2 rz fz q=>?_⟩
 obtain⟨b0,rfl,q⟩:=q
 cases rz
 refine⟨a0,b0,rfl,rfl,?_⟩
 have s12:=s1.trans s2
 have E2:=E.same s12
 have hp2:=s12 _ _ hp
 have rs2:A6 X.K H2 kvs kds B:=by
  have:=(Rep.dic hp rs:Rep X.K H (.ref p) (.dic kds) (p::B)).same s12
  cases this with
  | dic hp' rs'=>
   rw[hp2] at hp'
   cases hp'
   exact rs'
 have nd:=E2.nd i (.inl own)
 have pin:p∈fo i:=by rw[eA];exact List.mem_cons_self
 rw[eA] at nd
 obtain⟨np,ndB⟩:=List.nodup_cons.mp nd
 obtain⟨C,rC,sC⟩:=rs2.put k (.int (i:=a0+b0))
 have hpC:p∉C:=fun z=>np (sC.mem z)
 have rn:∀ep,Rep X.K (upd H2 p (.dE (putK kvs k (.int (a0+b0))) ep)) (.ref p) (.dic (putD kds k (.int (a0+b0)))) (p::C):=fun ep=>.dic h9 (rC.mono (T3.FR (by rw[hp2];exact True.intro)) fun a ha=>j9 fun e=>hpC (e▸ha))
 have n3:∀a∈p::C,a∈fo i:=fun a ha=>by
  rcases List.mem_cons.mp ha with z | z
  ·exact z▸pin
  ·rw[eA];exact List.mem_cons_of_mem _ (sC.mem z)
 have li:i<ρ.length:=(List.getElem?_eq_some_iff.mp e0).1
 refine⟨_,kA.k (.inr ⟨_,hp2⟩) (by rw[rs.length];exact hn),p,_,h9,fun ep=>?_⟩
 rw[X7]
 exact le.nx _ _ ⟨_,_,E2.put own li hvi pin aU (by rw[h9];exact fun z=>nomatch z) (rn ep) (List.nodup_cons.mpr ⟨hpC,ndB.sublist sC⟩) fun a ha=>.inl (n3 a ha),q⟩
end
end L3
namespace L2
open PySem PySem.Spec PyProof.Rows
namespace RT
theorem oK:Manifest.owners.lookup (String.ofList ['d','e','s','r','e','v','e','r'].reverse)=some Manifest.sig_reversed:=by kernel_rfl
theorem fM:Slot "reversed" "__next__" "reversed.__next__":=.of (owner:="reversed") (n:="__next__") (by rw[typeLookup_type,builtinLookup_eq_fast];kernel_rfl) (by decide +kernel) (by decide +kernel) (by decide +kernel) (by first | exact .inl (by decide +kernel) | exact .inr (by decide +kernel)) (by rw[isSubtype_type];kernel_rfl)
theorem xf:entryFor table "reversed.__next__"=some Builtin.«reversed.__next__»:=entryFor_of_tree (by kernel_rfl)
theorem yf(a:Value):argsOk "reversed.__next__" ⟨[a],[]⟩:=by unfold argsOk;rw[signature?_of (id:="reversed.__next__") (n:=['_','_','t','x','e','n','_','_']) (o:=['d','e','s','r','e','v','e','r']) (by kernel_rfl) oK];kernel_rfl
theorem Ae:Slot "reversed" "__iter__" "reversed.__iter__":=.of (owner:="reversed") (n:="__iter__") (by rw[typeLookup_type,builtinLookup_eq_fast];kernel_rfl) (by decide +kernel) (by decide +kernel) (by decide +kernel) (by first | exact .inl (by decide +kernel) | exact .inr (by decide +kernel)) (by rw[isSubtype_type];kernel_rfl)
theorem FU(a:Value):argsOk "reversed.__iter__" ⟨[a],[]⟩:=by unfold argsOk;rw[signature?_of (id:="reversed.__iter__") (n:=['_','_','r','e','t','i','_','_']) (o:=['d','e','s','r','e','v','e','r']) (by kernel_rfl) oK];kernel_rfl
theorem FN:Slot "reversed" "__init__" "object.__init__":=.of (owner:="object") (n:="__init__") (by rw[typeLookup_type,builtinLookup_eq_fast];kernel_rfl) (by decide +kernel) (by decide +kernel) (by decide +kernel) (by first | exact .inl (by decide +kernel) | exact .inr (by decide +kernel)) (by rw[isSubtype_type];kernel_rfl)
theorem called:TypeCalled "reversed" "reversed.__new__" "object.__init__":=⟨by decide +kernel,by decide +kernel,⟨_,_,F.mro_reversed⟩,F.made_reversed,by decide +kernel,F.sub_reversed_self,FN⟩
theorem Gx:typeLookup (.type "tuple") "__reversed__"=pure none:=by rw[typeLookup_type,builtinLookup_eq_fast];kernel_rfl
theorem CT:isSubtype (.type "tuple") (.type "dict")=pure false:=by rw[isSubtype_type];kernel_rfl
theorem Hx:entryFor table "reversed.__iter__"=some Builtin.«dict_keyiterator.__iter__»:=entryFor_alias (id':="dict_keyiterator.__iter__") (by kernel_rfl) (by first | rfl | decide +kernel | (unfold String.splitOn;simp +decide [String.splitOnAux])) (by decide +kernel) (by kernel_rfl)
end RT
def Bl(t:Addr)(i:Int):Obj:={ cls:=.type "reversed",data:=.fields #[.ref t,rawInt i] }
def iD(h:Heap)(a t:Addr)(i:Int):Prop:=∃o,h.get? a=some o/\o.cls=.type "reversed" /\ o.data=.fields #[.ref t,rawInt i]
section
variable{prog:Program}{w:World}{A:Around}{E:Value->Shared->Prop}{s:Shared}
theorem iD.ty{a t:Addr}{i:Int}(x:iD s.heap a t i):s.TypeIs (.ref a) "reversed":=let ⟨o,ho,hc,_⟩:=x;⟨o,ho,hc⟩
theorem iD.at{h h':Heap}{a t:Addr}{i:Int}(x:iD h a t i)(e:∀o,h.get? a=some o->h'.get? a=some o):iD h' a t i:=let ⟨o,ho,r⟩:=x;⟨o,e _ ho,r⟩
theorem Hl{t:Addr}{items:Array Value}{Q1:Value->Shared->Prop}(ht:IsTup s.heap t items)(hf:(items.size:Int)<2^63)(h:Q1 (.ref s.heap.objs.size) { s with heap:=s.heap.push (Bl t ((items.size:Int)-1)),toks:=s.toks+1+1 }) :
  codeAny (model prog w) A (.call (.builtin "reversed.__new__") ⟨[.type "reversed",.ref t],[]⟩) (wants Q1 E) s:=by
 refine codeAny_of_tree (show wpAny _ A.in1 (do checkBuiltinCall "reversed.__new__" ⟨[.type "reversed",.ref t],[]⟩;again (.builtin "reversed.__new__" ⟨[.type "reversed",.ref t],[]⟩)) _ _ s from wpAny_bind (wpAny_of_eq (F.newCall_reversed_1 _) (wpAny_pure ⟨plainId_quiet F.plain_reversed_new _,codeAny_builtin F.entry_reversed_new ?_⟩)))
 rw[Around.under_plainId F.plain_reversed_new _];unfold Builtin.«reversed.__new__»
 refine wpAny_bind (wpAny_of_eq (newClass_reversed _) ?_);try dsimp only
 refine wpAny_bind (wpAny_of_eq (a:=()) (by first | rfl | kernel_rfl) (wpAny_bind (wpAny_of_eq (a:=()) (by first | rfl | kernel_rfl) ?_)))
 try dsimp only
 refine wpAny_bind (wpAny_specialOf ht.typeIs RT.Gx ?_);try dsimp only
 refine wpAny_bind ?_
 show wpAny _ _ (isInstance (.ref t) (.type "dict") >>= _) _ _ _
 refine wpAny_bind (wpAny_isInstance ht.typeIs RT.CT ?_)
 show wpAny _ _ (specialOf (.ref t) "__getitem__" >>= _) _ _ _
 refine wpAny_bind (wpAny_specialOf ht.typeIs slot_tuple_getitem.lookup (wpAny_pure ?_))
 show wpAny _ _ (call (.builtin "len") [.ref t] >>= _) _ _ _
 refine wpAny_bind (len_tuple ht hf ?_)
 refine wpAny_bind (wpAny_of_eq (a:=some (items.size:Int)) rfl ?_)
 show wpAny _ _ (Builtin.SmallTypes.newRecord (.type "reversed") [.ref t,rawInt ((items.size:Int)-1)] >>= _) _ _ _
 unfold Builtin.SmallTypes.newRecord
 refine wpAny_bind (wpAny_newObj_type (wpAny_pure h) (by size_fits))
theorem zt{t:Addr}{items:Array Value}{Q:Value->Shared->Prop}(ht:IsTup s.heap t items)(hf:(items.size:Int)<2^63)(h:Q (.ref s.heap.objs.size) { s with heap:=s.heap.push (Bl t ((items.size:Int)-1)),toks:=s.toks+1+1 }) :
  wpAny (model prog w) A (call (.type "reversed") [.ref t]) Q E s:=by
 refine callType_codes (Q₁:=fun x s1=>x=.ref s.heap.objs.size/\s1={ s with heap:=s.heap.push (Bl t ((items.size:Int)-1)),toks:=s.toks+1+1 }) RT.called (F.typeCall_reversed_1 _) F.entry_object_init (Hl ht hf ⟨rfl,rfl⟩) ?_
 rintro x s1 ⟨rfl,rfl⟩
 have hT:Shared.TypeIs { s with heap:=s.heap.push (Bl t ((items.size:Int)-1)),toks:=s.toks+1+1 } (.ref s.heap.objs.size) "reversed":=⟨_,Heap.get?_push_size _ rfl,rfl⟩
 exact⟨hT,F.args_object_init_2 _ _,object_init_meets RT.called.init.lookup RT.called.made (by decide) prog w A.in1 _ _ ⟨hT,rfl,h⟩⟩
theorem BS{it t:Addr}{i:Nat}{items:Array Value}{x:Value}{Q:Option Value->Shared->Prop}(hit:iD s.heap it t (i:Int))(ht:IsTup s.heap t items)(hn:t≠it)(hx:items[i]?=some x)(hf:(items.size:Int)<2^63)
  (hQ:∀h',iD h' it t ((i:Int)-1)->Heap.SameBut it s.heap h'->Q (some x) { s with heap:=h',toks:=s.toks+1 }):wpAny (model prog w) A (pyNext (.ref it)) Q E s:=by
 obtain⟨o,ho,hc,hd⟩:=id hit
 unfold pyNext
 refine wpAny_bind (wpAny_attempt (wpAny_callSpecial?_slot (name:=Str.ofString "__next__") hit.ty RT.fM (wpAny_call_entry RT.fM hit.ty RT.xf ?_ (RT.yf _))))
 unfold Builtin.«reversed.__next__»
 refine wpAny_bind (wpAny_of_eq (a:=(Value.ref it,[])) rfl ?_);try dsimp only
 refine wpAny_bind (wpAny_field ho hd (x:=.ref t) rfl (wpAny_bind (wpAny_field ho hd (x:=rawInt (i:Int)) rfl ?_)))
 show wpAny _ _ (if (i:Int)<0 then _ else _) _ _ s
 rw[if_neg (by omega)]
 show wpAny _ _ (specialOf (.ref t) "__getitem__" >>= _) _ _ s
 refine wpAny_bind (wpAny_specialOf ht.typeIs slot_tuple_getitem.lookup ?_)
 show wpAny _ _ (mkInt (i:Int) >>= _) _ _ s
 refine wpAny_bind (wpAny_mkInt ?_)
 have hi:=(Array.getElem?_eq_some_iff.mp hx).1
 have hj:seqIndex? (i:Int) items.size=some i:=by
  unfold seqIndex?
  simp
  omega
 refine wpAny_bind (wpAny_attempt (getItem_tuple (j:=i) (x:=x) (s:={ s with toks:=s.toks+1 }) ht (by omega) (by omega) hj hx ?_))
 show wpAny _ _ (field (.ref it) 1 >>= _) _ _ _
 refine wpAny_bind (wpAny_field ho hd (x:=rawInt (i:Int)) rfl ?_)
 show wpAny _ _ (setField (.ref it) 1 (rawInt ((i:Int)-1)) >>= _) _ _ _
 refine wpAny_bind (wpAny_setField ho hd (by simp) ?_)
 exact wpAny_pure ⟨x,rfl,wpAny_pure (hQ _ ⟨_,Heap.get?_update_self _ ho (Obj.isFreed_of_fields (Obj.data_mapFields hd _)),(Obj.cls_mapFields ..).trans hc,by rw[Obj.data_mapFields hd];simp⟩ (Heap.SameBut.update ..))⟩
theorem HU{it t:Addr}{Q:Option Value->Shared->Prop}(hh:A.handled=none)(hit:iD s.heap it t (-1))
  (hQ:∀h',Heap.ExtBut it s.heap h'->Q none { s with heap:=h' }):wpAny (model prog w) A (pyNext (.ref it)) Q E s:=by
 obtain⟨o,ho,hc,hd⟩:=id hit
 unfold pyNext
 refine wpAny_bind (wpAny_attempt (wpAny_callSpecial?_slot (name:=Str.ofString "__next__") hit.ty RT.fM (wpAny_call_entry RT.fM hit.ty RT.xf ?_ (RT.yf _))))
 unfold Builtin.«reversed.__next__»
 refine wpAny_bind (wpAny_of_eq (a:=(Value.ref it,[])) rfl ?_);try dsimp only
 refine wpAny_bind (wpAny_field ho hd (x:=.ref t) rfl (wpAny_bind (wpAny_field ho hd (x:=rawInt (-1)) rfl ?_)))
 show wpAny _ _ (if (-1:Int)<0 then _ else _) _ _ s
 rw[if_pos (by decide)]
 refine wpAny_bind (wpAny_rule (wpAny_bind ?_))
 show wpAny _ _ (setField (.ref it) 1 (rawInt (-1)) >>= _) _ _ s
 refine wpAny_bind (wpAny_setField ho hd (by simp) ?_)
 have u1:=Heap.get?_update_self (fun o=>o.mapFields fun xs=>xs.setIfInBounds 1 (rawInt (-1))) ho (Obj.isFreed_of_fields (Obj.data_mapFields hd _))
 refine wpAny_setField u1 (Obj.data_mapFields hd _) (by simp) ?_
 have ex:Heap.ExtBut it s.heap ((s.heap.update it (Obj.mapFields fun x=>x.setIfInBounds 1 (rawInt (-1)))).update it (Obj.mapFields fun x=>x.setIfInBounds 0 Value.none)):=(Heap.SameBut.update ..).extBut.trans (Heap.SameBut.update ..).extBut
 show wpAny _ _ _ _ _ { s with heap:=(s.heap.update it (Obj.mapFields fun x=>x.setIfInBounds 1 (rawInt (-1)))).update it (Obj.mapFields fun x=>x.setIfInBounds 0 Value.none) }
 generalize (s.heap.update it (Obj.mapFields fun x=>x.setIfInBounds 1 (rawInt (-1)))).update it (Obj.mapFields fun x=>x.setIfInBounds 0 Value.none)=h2 at ex
 refine wpAny_bind (show wpAny _ _ (newExc (.type "StopIteration") [] >>= _) _ _ _ from wpAny_bind ?_)
 simp only[newExc,newTuple];refine wpAny_bind (wpAny_newObj_type (wpAny_bind (m:=firstArgMember _ _) (wpAny_of_eq (a:=Value.none) (by first | rfl | (simp only[firstArgMember];rfl)) (wpAny_newObj_type ?_ (by size_fits)))) (by size_fits))
 simp only[raiseNew];refine wpAny_bind (wpAny_handled ?_)
 first | rw[show A.in1.handled=none from hh] | rw[hh]
 refine wpAny_bind (wpAny_pure (wpAny_throw ?_))
 refine wpAny_bind (wpAny_isInstance (T:="StopIteration") (b:=true) ⟨_,Heap.get?_push_size _ rfl,rfl⟩ isSubtype_stop (wpAny_pure (hQ _ ((ex.push _).push _))))
theorem sr{it t:Addr}{i:Int}{Q:Value->Shared->Prop}(hit:iD s.heap it t i)(h:Q (.ref it) s):wpAny (model prog w) A (pyIter (.ref it)) Q E s:=by
 refine wpAny_pyIter_slot hit.ty RT.Ae (wpAny_call_entry RT.Ae hit.ty RT.Hx (show wpAny _ _ (ret (.ref it)) _ _ s from wpAny_pure ⟨_,rfl,"reversed",_,hit.ty,RT.fM.lookup,h⟩) (RT.FU _))
end
def Lm(K:PySem.W.Frag)(a:Addr)(n:Nat):It:=
 ⟨fun i H=>i<n/\n<=sizeLine/\∃xs,R8 K H a xs/\xs.length=n,fun i H x H'=>H'=H/\∀xs,R8 K H a xs->xs[n-1-i]?=some x,fun i H=>i=n⟩
theorem vV{P:Program}{w:World}{K:PySem.W.Frag}{tg:Expr}(a it:Addr)(n:Nat)(ne:a≠it):Turn P w K tg (Lm K a n) [it] it (fun i h=>i<=n/\iD h it a ((n:Int)-1-(i:Int))) where
 mem:=List.mem_singleton.mpr rfl
 obj:=fun i h st b hb=>by
  cases List.mem_singleton.mp hb
  obtain⟨_,o,e,c,d⟩:=st
  exact⟨o,e,fun v z=>by rw[d] at z;cases z⟩
 keep:=fun i h h' st k=>⟨st.1,st.2.at fun o e=>k it (List.mem_singleton.mpr rfl) o e⟩
 item:=by
  intro X hP hw hK hc i pins s σ H E I hf st hg
  subst hP hw hK
  obtain⟨hi,hz,xs,hq,hn⟩:=hg
  obtain⟨its,rv,p,_⟩:=I.tuple hq
  have hx:xs[n-1-i]?=some (xs[n-1-i]'(by omega)):=List.getElem?_eq_getElem (by omega)
  obtain⟨u,hu,ru⟩:=rv.get hx
  obtain⟨f0,f1,f2,f3,f4,f5⟩:=hf it (List.mem_singleton.mpr rfl)
  have st2:=st.2
  have hl:its.length=n:=by rw[<-rv.length];exact hn
  rw[show(n:Int)-1-(i:Int)=((n-1-i:Nat):Int) by omega] at st2
  refine BS st2 p ne (x:=u) (by simpa using hu) (by rw[List.size_toArray,hl];rw[sizeLine_eq] at hz;omega) fun h' st' sb=>?_
  rw[show((n-1-i:Nat):Int)-1=(n:Int)-1-((i+1:Nat):Int) by omega] at st'
  have I1:Inv X pins σ H { s with heap:=h',toks:=s.toks+1 }:=I.turned (t':=s.toks+1) (fun b o hb e=>(sb.2 b hb).trans e) f0 f1 f3 f4 f5
  obtain⟨o,e,c,d⟩:=id st'
  exact⟨u,rfl,oo (s:={ s with heap:=h',toks:=s.toks+1 }) e c d (by decide) ⟨_,H,I1,ru,⟨rfl,fun ys hy=>by rw[I.jA hy hq];exact hx⟩,⟨hi,st'⟩,fun b hb=>(hf b hb).1⟩⟩
 done:=by
  intro X hP hw hK hc i pins s σ H E I hf st hg
  subst hP hw hK
  obtain rfl:i=n:=hg
  obtain⟨f0,f1,f2,f3,f4,f5⟩:=hf it (List.mem_singleton.mpr rfl)
  have st2:=st.2
  rw[show(i:Int)-1-(i:Int)=-1 by omega] at st2
  exact HU (I.ok.hd hc) st2 fun h' eb=>⟨rfl,I.turned (t':=s.toks) (fun b o hb e=>eb b o hb e) f0 f1 f3 f4 f5⟩
 self:=fun _ _ _ _ _ st h=>sr st.2 h
def wD(K:PySem.W.Frag)(ta:TA):TI:=fun σ H R=>ta σ H fun vs H1=>∃a xs,vs=[.ref a]/\R8 K H1 a xs/\R (Lm K a xs.length) H1
theorem yO {X:Cx} {tg a:Expr} {ta:TA} {p pos:Pos} (hg:Gl X "reversed") (hm:X.mg "reversed"=none) (ha:PA X [a] ta) (hs:starEach [a] X.env=[(false,eval a X.env)]:=by rfl):PI X tg (.Call (.Name "reversed" p) [a] [] pos) (wD X.K ta):=by
 refine .of ?_
 intro pins s σ H R I h
 refine wpAny_Call_Name_kw (dH I hg hm PyProof.Rows.boot_reversed ?_ (by decide) (by decide))
 refine callWith_type1 (A4 (ha pos pins s σ H _ I h) fun us s1 ⟨vs,H1,I1,r1,q1⟩=>?_) hs rfl
 obtain⟨l,xs,rfl,hq,q⟩:=q1
 obtain⟨u,rfl,ru⟩:=vals1 r1
 cases(show u=Value.ref l from ru)
 obtain⟨its,rv,pl,hz⟩:=I1.tuple hq
 have hlen:its.toArray.size=xs.length:=by rw[List.size_toArray];exact rv.length.symm
 refine zt pl (by rw[hlen];rw[sizeLine_eq] at hz;omega) ?_
 rw[hlen]
 refine sr (t:=l) (i:=(xs.length:Int)-1) ⟨_,Heap.get?_push_size _ rfl,rfl,rfl⟩ ?_
 refine⟨s1.heap.objs.size,[s1.heap.objs.size],_,_,H1,rfl,I1.kept (t':=s1.toks+1+1) fun b o e=>Heap.get?_push_of_some _ e,vV l _ xs.length (Nat.ne_of_lt pl.lt),⟨Nat.zero_le _,?_⟩,fun b hb=>?_,q⟩
 ·rw[show(xs.length:Int)-1-((0:Nat):Int)=(xs.length:Int)-1 by omega]
  exact⟨_,Heap.get?_push_size _ rfl,rfl,rfl⟩
 ·cases List.mem_singleton.mp hb
  exact I1.oF (Nat.le_refl _) (I1.hok.fresh (Nat.le_refl _))
end L2
namespace L3
open PySem PySem.Spec PyProof.Rows L2
section
variable{X:Cx}{cl:List Cl}{tg e:Expr}{f:Fl}{ua:TU}{pos p:Pos}
def Ey(u:TU):yC:=fun ρ Q=>u ρ fun d=>match d with
 | .tup xs=>xs.length<sizeLine/\Q xs.reverse
 | _=>False
theorem zC{K:PySem.W.Frag}{H:Hp}{q:Addr}{vs:List V}{xs:List D}{C:List Addr}(hz:vs.length<=sizeLine)(h:∀H',Tf H H'->R8 K H' q vs)(r:o5 K H vs xs C):fA K (Lm K q vs.length) xs.reverse C H:=fun H' tf k i=>by
 have hs:=h H' tf
 have hl:=r.length
 refine⟨fun e=>?_,fun d e=>?_⟩
 ·show i=vs.length
  rw[List.length_reverse] at e
  omega
 ·have hi:i<xs.length:=by
   have:=(List.getElem?_eq_some_iff.mp e).1
   rwa [List.length_reverse] at this
  rw[List.getElem?_reverse hi] at e
  obtain⟨v,B,e1,r1,s1⟩:=fg r tf k e
  refine⟨⟨by omega,hz,vs,hs,rfl⟩,fun y H2 hy=>?_⟩
  obtain⟨e2,hy⟩:=hy
  subst e2
  have e3:=hy vs hs
  rw[hl,e1] at e3
  cases e3
  exact⟨i3.refl _,B,r1,s1⟩
theorem AL (h:PU X cl e f ua) (hs:isStar e=false) (mk:∀{t},PA X [e] t->PI X tg (.Call (.Name "reversed" p) [e] [] pos) (wD X.K t)):bq X cl tg (.Call (.Name "reversed" p) [e] [] pos) f (Ey ua):=.of<|by
 obtain⟨t,q,h⟩:=h.run
 refine⟨_,mk (bG q Q4 hs),fun G ρ σ H fa Q R hG E hu k=>h G ρ σ H fa _ _ hG E hu fun v H' d B s r fo q=>?_⟩
 cases d<;>first | exact(show False from q).elim | skip
 obtain⟨p,vs,rfl,hp,rs⟩:=M7 r
 exact⟨p,vs,rfl,.inl (.inl hp),k _ H' _ _ s (zC (by rw[rs.length];exact Nat.le_of_lt q.1) (fun H2 tf=>.inl (.inl (tf.R9 _ _ hp))) rs) rs.there fo q.2⟩
end
end L3
namespace L2
open PySem PySem.Spec PyProof.Rows
section
variable{X:Cx}
end
end L2
namespace L3
open PySem PySem.Spec PySem.Calls PyProof.Rows L2
section
variable{X:Cx}{cl:List Cl}{e a b:Expr}{es:List Expr}{pos cpos hpos np p:Pos}{us:cE}{ua ub:TU}{fa fb:Fl}{ma:TM}{k:Nat}{fn:Addr}{fd:FuncData}{ps:List Str}{x y bn:Str}{i:Nat}
end
end L3
namespace My
open PySem L2 L3
def Pd(kvs:List (Key×D))(x:Str):Int:=match y7 kvs (.inr x) with
 | some (.int n)=>n
 | _=>0
def pe(kvs:List (Key×D)):Prop:=∀kv∈kvs,∃n,kv.2=.int n
def ou(b:Bd)(op:List Str):List (Key×D):=b.gs.map fun g=>(.inr g.nm,.bl (D6 b op g.nm))
def p8(b:Bd)(v:Str->Int):List (Key×D):=b.gs.map fun g=>(.inr g.nm,.int (v g.nm))
def N9(b:Bd)(op:List Str)(P:Str->Int)(y:Str):Int:=((y9 b++L1 b).map fun x=>if D6 b op x then(((p3 b x).count y:Nat):Int)*P x else 0).sum
def lo(cv:List Pr):Int:=(cv.head?.map (·.1)).getD 0
def mO(b:Bd)(x:Str):Int:=match b.ls.find? (fun l=>decide (l.nm=x)) with
 | some l=>if l.on then l.la else 0
 | none=>0
def o8(b:Bd):Str->Int:=N9 b [] (mO b)
def J5(b:Bd)(v:Str->Int):List Str:=(b.gs.filter fun g=>decide (lo g.cv<=v g.nm)).map (·.nm)
def G3:Cp:=fun ds Q=>∃(cv:List Pr),ds=[oB cv]/\O2 cv/\Q (.int (lo cv))
def D5:Cp:=fun ds Q=>∃(b:Bd) (o:D) (op:List Str),ds=[bD b,o]/\p5 b/\Fx o op/\op.length<4000/\Q (.dic (ou b op))
def J6:Cp:=fun ds Q=>∃(b:Bd) (op:List Str) (kvs:List (Key×D)),ds=[bD b,.dic (ou b op),.dic kvs]/\p5 b/\pe kvs/\Q (.dic (p8 b (N9 b op (Pd kvs))))
def az:Cp:=fun ds Q=>∃(b:Bd) (o:D) (op:List Str) (kvs:List (Key×D)),ds=[bD b,o,.dic kvs]/\p5 b/\Fx o op/\op.length<4000/\pe kvs/\Q (.dic (p8 b (N9 b op (Pd kvs))))
def bf:Cp:=fun ds Q=>∃(b:Bd),ds=[bD b]/\p5 b/\Q (.dic (p8 b (o8 b)))
def ae:Cp:=fun ds Q=>∃(b:Bd) (v:Str->Int),ds=[bD b,.dic (p8 b v)]/\p5 b/\Q (gZ (J5 b v))
def pA:List Str->D
 | []=>.non
 | x::_=>.str x
def aE:Cp:=fun ds Q=>∃(b:Bd),ds=[bD b]/\p5 b/\Q (pA (J5 b (o8 b)))
def lp:j7:=(A3 (B8 (i6 (i6 (e5 0) (uC (.int 0))) (uC (.int 0)))))
def Y0:j7:=(bF 3 (mP (B8 (CZ (w8 (Hr true) (e5 5) (e5 2)) (Lp (w8 (eM false) (e5 6) (uC .non)) (i6 (e5 3) (e5 6)))))) (mP (e5 5)))
def eG:j7:=(i5 (Hj 5 6 (e9 (i6 (e5 4) (uC (.int 0))) (e9 (i6 (e5 4) (uC (.int 1))) j4))) Y0)
def jW:j7:=(A3 (e5 3))
def kl:j7:=(i5 (Q5 (iP (D7 (i6 (e5 0) (uC (.int 0))))) (g1 4) eG) jW)
def kg:j7:=(i5 (y8 3 (uC (.dic []))) kl)
def gp:j7:=(i5 (y8 2 (Y9 JP (e9 (e5 1) j4))) kg)
def gK:j7:=(pG 3 (i6 (e5 5) (uC (.int 1))) (gA (e5 2) (i6 (e5 5) (uC (.int 0))) (uC (.int 0))))
def fJ:j7:=(bF 3 (mP (uC (.int 0))) (mP (e5 6)))
def fm:j7:=(pG 3 (e5 7) (i6 (e5 3) (e5 6)))
def gW:j7:=(hU (tP (uT (w8 (eM true) (e5 7) (uC .non)))) fm J8)
def fF:j7:=(hU (tP (wc (oW (i6 (e5 1) (e5 6))))) fJ gW)
def af:j7:=(i5 (Hj 6 7 (e9 (i6 (e5 4) (uC (.int 0))) (e9 (i6 (e5 4) (uC (.int 1))) j4))) fF)
def lA:j7:=(A3 (e5 3))
def dU:j7:=(i5 (Q5 (iP (Ey (i6 (e5 0) (uC (.int 0))))) (g1 4) af) lA)
def ow:j7:=(i5 (Q5 (iP (D7 (i6 (e5 0) (uC (.int 1))))) (g1 5) gK) dU)
def jr:j7:=(i5 (y8 3 (FK [none,some 2] (D7 (i6 (e5 0) (uC (.int 0)))) (g1 0) Y7 (i6 (e5 0) (uC (.int 0))) (gA (e5 1) (i6 (e5 0) (uC (.int 0))) (uC (.int 0))))) ow)
def xC:j7:=(A3 (p4 J6 (e9 (e5 0) (e9 (p4 D5 (e9 (e5 0) (e9 (e5 1) j4))) (e9 (e5 2) j4)))))
def Ej:j7:=(A3 (p4 az (e9 (e5 0) (e9 (av j4) (e9 (FK [none] (D7 (i6 (e5 0) (uC (.int 1)))) (g1 0) (oW (i6 (e5 0) (uC (.int 4)))) (i6 (e5 0) (uC (.int 0))) (i6 (e5 0) (uC (.int 3)))) j4)))))
def zp:j7:=(A3 (mZ [none,some 1] (D7 (i6 (e5 0) (uC (.int 0)))) (g1 0) (uT (w8 Ly (i6 (e5 1) (i6 (e5 0) (uC (.int 0)))) (p4 G3 (e9 (i6 (e5 0) (uC (.int 2))) j4)))) (B8 (i6 (e5 0) (uC (.int 0))))))
def yX:j7:=(A3 (B8 (Mt (oW (e5 1)) (i6 (e5 1) (uC (.int 0))) (uC .non))))
def zA:j7:=(i5 (y8 1 (p4 ae (e9 (e5 0) (e9 (p4 bf (e9 (e5 0) j4)) j4)))) yX)
def kQ:j7:=(A3 (mZ [none] (D7 (e5 0)) (g1 0) Y7 (B8 (i6 (e5 0) (uC (.int 0))))))
def nN:j7:=(y8 1 (i6 (e5 2) (e5 1)))
def lG:j7:=(i5 (cG (jQ 4 (mP (B8 (e5 1))))) nN)
def xx:j7:=(A3 (e5 4))
def zj:j7:=(i5 (yZ (tP (uT (w8 (eM true) (e5 1) (uC .non)))) lG) xx)
def mX:j7:=(i5 (y8 4 (av j4)) zj)
def Al:j7:=(i5 (y8 2 (FK [none] (D7 (e5 0)) (g1 0) Y7 (i6 (e5 0) (uC (.int 0))) (i6 (e5 0) (uC (.int 1))))) mX)
def iZ:j7:=(A3 (p4 G7 (e9 (i6 (e5 0) (uC (.int 0))) j4)))
def mW:j7:=(A3 (p4 G7 (e9 (i6 (e5 0) (uC (.int 1))) j4)))
def jx:j7:=(A3 (CZ (Y9 GX (e9 (e5 1) (e9 (uC (.ty "str")) j4))) (w8 (mH false) (e5 1) (p4 C8 (e9 (e5 0) j4)))))
def mG:j7:=(A3 (CZ (Y9 GX (e9 (e5 1) (e9 (uC (.ty "str")) j4))) (w8 (mH false) (e5 1) (p4 N1 (e9 (e5 0) j4)))))
def jw:j7:=(A3 (Lp (p4 J9 (e9 (e5 0) (e9 (e5 1) j4))) (p4 N6 (e9 (e5 0) (e9 (e5 1) j4)))))
def gv(W:Str->Prop):j7:=(xg W "NoPlace" (e9 (uC (.str "no such place")) j4))
def BG(W:Str->Prop):j7:=(A3 (p4 aq (e9 (i6 (e5 0) (uC (.int 0))) (e9 (gA (e5 2) (e5 1) (e5 1)) j4))))
def Bq(W:Str->Prop):j7:=(i5 (y8 2 (FK [none] (D7 (i6 (e5 0) (uC (.int 1)))) (g1 0) Y7 (i6 (e5 0) (uC (.int 0))) (i6 (e5 0) (uC (.int 1))))) (BG W))
def Fi(W:Str->Prop):j7:=(i5 (hU (tP (wc (oW (p4 K2 (e9 (e5 0) (e9 (e5 1) j4)))))) (gv W) J8) (Bq W))
end My
namespace L2
open PySem PySem.Spec PyProof.Rows
end L2
namespace L3
open PySem PySem.Spec PySem.Calls PyProof.Rows L2
section
variable{X:Cx}{cl:List Cl}{tg e a b:Expr}{es:List Expr}{pos p2 vp:Pos}{ua ub:TU}{f fa fb:Fl}{ma mb:TM}{x:Str}{i:Nat}
theorem wo{K:PySem.W.Frag}{H:Hp}(k:Key):Rep K H (kV k) (kD k) []:=by
 cases k with
 | inl i=>exact .int
 | inr x=>exact .str
theorem L4{K:PySem.W.Frag}{H:Hp}:∀{vs:List V} {ns:List Int} {A:List Addr},o5 K H vs (ns.map D.int) A->vs=ns.map V.int
 | _,[],_,.nil=>rfl
 | _,n::ns,_,.cons h r=>by cases h;rw[L4 r];rfl
end
section
variable{X:Cx}{cl:List Cl}{tg e a b:Expr}{es:List Expr}{pos p2 vp:Pos}{ua ub:TU}{f fa fb:Fl}{ma mb:TM}{x y:Str}{i j:Nat}
end
end L3
namespace L2
open PySem PySem.Spec PyProof.Rows PySem.SeqAt
end L2
namespace L3
open PySem PySem.Spec PySem.Calls PyProof.Rows L2
section
variable{X:Cx}{cl:List Cl}{e a b:Expr}{pos:Pos}{ua ub:TU}{fa fb:Fl}
end
end L3
namespace L2
open PySem PySem.Spec PyProof.Rows
def Gu(h:Heap)(e:Addr)(cls a0:Value)(T:Addr)(od:Option Addr):Prop:=
 ∃oe vs oT ts,h.get? e=some oe/\oe.cls=cls/\oe.dict=od/\vs[0]?=some a0/\oe.data=.fields vs/\vs[1]?=some (.ref T)/\T≠e/\h.get? T=some oT/\oT.data=.fields ts/\ts[3]?=some .none
theorem Gu.AF{h:Heap}{e:Addr}{cls a0:Value}{T:Addr}{od:Option Addr}(f:Gu h e cls a0 T od):Iv h e cls a0 T:=
 let ⟨oe,vs,oT,ts,he,hc,_,h0,hd,h1,hTe,hT,hdT,h3⟩:=f;⟨oe,vs,oT,ts,he,hc,h0,hd,h1,hTe,hT,hdT,h3⟩
section
variable{M:Model}{A:Around}{E:Value->Shared->Prop}{s:Shared}{base:Heap}{env:Env}{outer:List Env}{L e:Addr}{Q:Unit->Shared->Prop}
end
section
variable{prog:Program}{w:World}{A:Around}{E:Value->Shared->Prop}{h:Heap}{g:Array GenState}{d:Drawn}{t:Nat}{os:OsState}
variable{nm q:Str}{C N fI:Addr}{oI:Obj}{bs bm bmB bmN:List Value}{hdct:Bool}{sn:List Str}{sub:List Value}{ab:Bool}{col:Option Bool}{dd:Option Addr}{k0 k1 k2 k3 k5:Option Value}{B Bn newId nid initId inN:String}{mN:Str->Option Value}{rest:List Value}
end
section
variable{M:Model}{A:Around}{E:Value->Shared->Prop}{env:Env}
variable{nm q:Str}{C N:Addr}{bs bm:List Value}{hdct:Bool}{sn:List Str}{sub:List Value}{ab:Bool}{col:Option Bool}{dd:Option Addr}{k0 k1 k2 k3 k5:Option Value}{newId:String}
end
section
variable{prog:Program}{w:World}{A:Around}{E:Value->Shared->Prop}{s:Shared}{K:PySem.W.Frag}{x C:Addr}{ox:Obj}{name:Str}{v:Value}
end
end L2
namespace PySem.W
open PySem PySem.Calls PyProof.Rows Builtin Builtin.ObjectAttr Builtin.Getset_descriptor
section
variable{K:Frag}{prog:Program}{w:World}{A:Around}{E:Value->Shared->Prop}{s:Shared}{e D dx:Addr}{oe:Obj}{name:Str}{m:Str->Option Value}{v:Value}{cd:ClassData}
end
end PySem.W
namespace L2
open PySem PySem.Spec PyProof.Rows
section
variable{P:Program}{w:World}{K:PySem.W.Frag}{mg:Str->Option Value}{base:Heap}{N:List Str}{qual:Str}{scope:Scope}{f:Addr}{cd:Value}{A:Around}{outer:List Env}{s:Shared}{H:Hp}{E:XK}
 {pins:List (Addr×Obj)} {σ:St} {H1:Hp} {s1:Shared}
end
section
variable{X:Cx}{pins:List (Addr×Obj)}{σ:St}{H:Hp}{s:Shared}
end
structure EX(X:Cx)(pins:List (Addr×Obj))(σ:St)(H:Hp)(s:Shared)(e T:Addr)(cls a0:Value)(od:Option Addr):Prop where
 held:Gr X pins σ H s e T cls a0
 AF:Gu s.heap e cls a0 T od
section
variable{X:Cx}{pins:List (Addr×Obj)}{σ:St}{H:Hp}{s:Shared}{e T:Addr}{cls a0:Value}{od:Option Addr}{E:XK}{x:Value}{Q:Unit->Shared->Prop}{M:Model}{A:Around}{E2:Value->Shared->Prop}
theorem EX.pin(hh:EX X pins σ H s e T cls a0 od){F:Value->Shared->Prop}:∃oe,oe.cls=cls/\oe.dict=od/\(∃vs,oe.data=.fields vs)/\Inv (X.Z1 e oe F) pins σ H s:=by
 have ap:=hh.AF.AF.apart hh.held.inv.stack
 obtain⟨oe,hc,I⟩:=hh.held.pin (F:=F)
 obtain⟨oe2,vs,_,_,he2,_,hd2,_,hf2,_⟩:=hh.AF
 obtain⟨he,_⟩:=I.pin (e,oe) (List.mem_append_left _ (List.mem_append_right _ (List.mem_singleton.mpr rfl)))
 have:oe2=oe:=Option.some.inj (he2.symm.trans he)
 subst this
 exact⟨oe2,hc,hd2,⟨vs,hf2⟩,I⟩
end
section
variable{X:Cx}{o:Expr}{f:Str}{pos:Pos}{ta:TE}{e dx C:Addr}{oe:Obj}{vs:Array Value}
end
section
variable{X:Cx}{o e value:Expr}{f:Str}{pos pos':Pos}{ta tv:TE}
end
section
variable{K:PySem.W.Frag}{C:Addr}{f1 f2 f3:Str}{vs:List V}{H:Hp}{Q:VK}{E:XK}{N:List Str}
end
end L2
namespace L3
open PySem PySem.Spec PySem.Calls PyProof.Rows L2
def JZ:D->Bool
 | .int _=>true
 | .str _=>true
 | _=>false
def leafOf:D->V
 | .int i=>.int i
 | .str x=>.str x
 | _=>.non
theorem jh{K:PySem.W.Frag}{H:Hp}:∀{vs:List V} {ds:List D} {A:List Addr},o5 K H vs ds A->ds.all JZ=true->vs=ds.map leafOf
 | _,_,_,.nil,_=>rfl
 | _,_,_,.cons (d:=d) h r,e=>by
  rw[List.all_cons,Bool.and_eq_true] at e
  rw[List.map_cons,<-jh r e.2]
  congr 1
  cases h<;>first | rfl | (have:=e.1;cases this)
section
variable{X:Cx}{cl:List Cl}{e:Expr}{es:List Expr}{pos cpos hpos np p p1:Pos}{us:cE}{k kI:Nat}{fn:Addr}{fd:FuncData}{ps:List Str}{x y bn n f:Str}{i:Nat}{Fo:Str->List Str}
end
end L3
namespace PySem.W
open PySem PySem.Calls PyProof.Rows
section
variable{K:Frag}
end
end PySem.W
namespace L3
open PySem PySem.Spec PySem.Calls PyProof.Rows PySem.W L2
section
variable{X:Cx}{cl:List Cl}{e:Expr}{es:List Expr}{pos p:Pos}{us:cE}{k:Nat}{fn:Addr}{fd:FuncData}{ps:List Str}{x:Str}{Fo:Str->List Str}
end
section
variable{X:Cx}{cl:List Cl}{e dx C:Addr}{oe:Obj}{pos p p1 p2:Pos}{n y:Str}{i:Nat}{b:Bool}
end
end L3
namespace PySem
open Sem (wp)
open AutoSeq1 (wpAny_loadPart')
end PySem
namespace L2
open PySem PySem.Spec PyProof.Rows
end L2
namespace L3
open PySem PySem.Spec PySem.Calls PyProof.Rows PySem.W L2
section
variable{X:Cx}{cl:List Cl}{tg e:Expr}{pos p:Pos}{f:Fl}{ua:TU}
end
section
variable{X:Cx}{cl:List Cl}{tg a b:Expr}{pos p:Pos}{us:cE}
def EY(us:cE):yC:=fun ρ Q=>us ρ fun ds=>∃i j:Int,ds=[.int i,.int j]/\(-(2^62)<=i/\i<2^62/\-(2^62)<=j/\j<2^62)/\Q (eO i (j-i).toNat)
theorem zg (h:zR X cl [a,b] us) (mk:∀{t},PA X [a,b] t->PI X tg (.Call (.Name "range" p) [a,b] [] pos) (En t)):bq X cl tg (.Call (.Name "range" p) [a,b] [] pos) .fresh (EY us):=.of<|by
 obtain⟨t,pt,h⟩:=h.run
 refine⟨_,mk pt,fun G ρ σ H fa Q R hG E hu k=>h G ρ σ H fa _ _ hG E hu fun vs H' ds A s r n3 q=>?_⟩
 obtain⟨i,j,rfl,hb,q⟩:=q
 have ev:=jh r rfl
 subst ev
 exact⟨i,j,rfl,hb,k _ H' _ [] s (itR i _) (fun a ha=>(by cases ha)) (B0.nil _) q⟩
end
section
variable{X:Cx}{cl:List Cl}{a b:Expr}{pos:Pos}{fa fb:Fl}{ua ub:TU}
end
end L3
namespace PySem
open Sem (wp)
open Builtin
open AutoSeq1 (wpAny_loadPart')
end PySem
namespace L2
open PySem PySem.Spec PyProof.Rows
section
variable{X:Cx}
end
end L2
namespace L3
open PySem PySem.Spec PySem.Calls PyProof.Rows PySem.W L2
section
variable{X:Cx}{cl:List Cl}{a b:Expr}{pos:Pos}{fa fb:Fl}{ua ub:TU}
end
end L3
namespace PySem
open AutoSeq1 (wpAny_loadPart')
open AutoSeq1
theorem uA(l:Addr)(items:Array Value)(n:Nat)(sl:Array (Option Value))(b:Addr)(items2:Array Value)(n2:Nat)(sl2:Array (Option Value))(hc0:items.size+items2.size<=sizeLine) :
  Meets (Builtin.«list.__add__» ⟨[.ref l,.ref b],[]⟩) (fun _ R s=>s.heap.get? l=some { cls:=.type "list",dict:=none,data:=.seq items n,slots:=sl }/\s.heap.get? b=some { cls:=.type "list",dict:=none,data:=.seq items2 n2,slots:=sl2 }/\R (.ok (.ret (Value.ref s.heap.objs.size))) { s with heap:=s.heap.push { cls:=Value.type "list",data:=Data.seq (items++items2) },toks:=s.toks }):=
 .of_wp fun prog w A R s h=>by obtain⟨hp,g,d,tk,os⟩:=s;obtain⟨hl,hb,h⟩:=h;have f1:=idx_int;have f2:=sub_tuple_tuple;have f3:=sub_list_list;have f4:=sub_tuple_list;have f5:=sub_list_tuple;wp_walk using wpAny_loadPart' hl,wpAny_loadPart' hb;exact⟨_,rfl,h⟩
end PySem
namespace L2
open PySem PySem.Spec PyProof.Rows
section
variable{X:Cx}
def EO(K:PySem.W.Frag):R2:=fun x y H Q=>∃l b xs zs,x=.ref l/\y=.ref b/\N7 K H l xs/\N7 K H b zs/\xs.length+zs.length<=sizeLine/\∀p,H p=none->Q (.ref p) (upd H p (.lst (xs++zs)))
theorem DT:N0 X (binaryOp .Add) (EO X.K):=by
 intro pins s σ H x y v u Q I rx ry h
 obtain⟨l,b,xs,zs,rfl,rfl,hH,hB,hz,q⟩:=h
 cases rx
 cases ry
 obtain⟨its,r,⟨⟨c1,d1,t1,sl⟩,n,e,hc,hd,ht⟩,hl⟩:=I.list hH
 obtain⟨its2,r2,⟨⟨c2,d2,t2,sl2⟩,n2,e2,hc2,hd2,ht2⟩,hl2⟩:=I.list hB
 replace hc:c1=.type "list":=hc
 replace hd:d1=none:=hd
 replace ht:t1=.seq its.toArray n:=ht
 replace hc2:c2=.type "list":=hc2
 replace hd2:d2=none:=hd2
 replace ht2:t2=.seq its2.toArray n2:=ht2
 subst hc hd ht hc2 hd2 ht2
 have l1:=r.length
 have l2:=r2.length
 refine concat_meets ⟨_,e,rfl⟩ ⟨_,e2,rfl⟩ noFill_list_add seq_list_add F.slot_list_add F.entry_list_add (F.args_list_add_2 _ _) (uA l its.toArray n sl b its2.toArray n2 sl2 (by rw[List.size_toArray,List.size_toArray];omega)) ⟨e,e2,?_⟩
 have ea:its.toArray++its2.toArray=(its++its2).toArray:=by simp
 rw[ea]
 exact⟨.ref _,_,I.BE (t':=s.toks) (r.append r2) (by rw[List.length_append];omega),rfl,q _ I.fresh⟩
end
section
variable{X:Cx}{pins:List (Addr×Obj)}{σ:St}{H:Hp}{s:Shared}{a:Addr}
theorem Inv.freeze{xs:List V}(I:Inv X pins σ H s)(e:H a=some (.lst xs)):∃ob,Inv X pins σ (upd H a (.frz ob (.lst xs))) s:=by
 obtain⟨z,its,n,r,hq⟩:=(show u6 X.prog X.w H s.heap a (.lst xs) from I.hok a _ e)
 exact⟨_,I.write (x:=a) (e:=a) (h':=s.heap) (t':=s.toks) (o:=.frz { cls:=.type "list",data:=.seq its.toArray n } (.lst xs)) (by rw[e];exact True.intro) (.inl rfl) (fun b q hb z=>z) ⟨_,hq⟩ ⟨hq,z,its,n,r,hq⟩⟩
def LC(Q:VK):VK:=fun v H'=>∃p xs,v=.ref p/\H' p=some (.lst xs)/\∀ob,Q v (upd H' p (.frz ob (.lst xs)))
theorem Hs{e:Expr}{t:TE}(h:PE X e t):PE X e (fun σ H Q=>t σ H (LC Q)):=by
 refine .of ?_
 intro pins s σ H Q I q
 exact A4 (h pins s σ H _ I q) fun v s1 ⟨x,H1,I1,r1,p,xs,e1,e2,q1⟩=>let ⟨ob,I2⟩:=I1.freeze e2;⟨x,_,I2,r1,q1 ob⟩
theorem nV:∀{ns:List Int} {its:List Value},Vals (ns.map V.int) its->IntsAre its ns
 | [],_,.nil=>.nil
 | n::ns,_,.cons ⟨t,h⟩ r=>by subst h;exact .cons n t (nV r)
theorem mI:∀{ns:List Int} {its:List Value},IntsAre its ns->Vals (ns.map V.int) its
 | _,_,.nil=>.nil
 | _,_,.cons n t r=>.cons ⟨t,rfl⟩ (mI r)
def Fe(K:PySem.W.Frag)(xs:List V)(H:Hp)(Q:VK):Prop:=∃(p:Addr) (ns:List Int),xs=[.ref p]/\N7 K H p (ns.map V.int)/\ns.length<64/\∀(ns':List Int) l,ns'.Perm ns->ns'.Pairwise (·<=·)->H l=none->Q (.ref l) (upd H l (.lst (ns'.map V.int)))
theorem qi:E7 X (.builtin "sorted") (Fe X.K):=by
 intro pins s σ H xs us Q I r h
 obtain⟨p,ns,rfl,hq,h64,q⟩:=h
 obtain⟨u,rfl,ru⟩:=vals1 r
 cases(show u=Value.ref p from ru)
 obtain⟨its,rv,pl,hz⟩:=I.list hq
 have hl:=rv.length
 rw[List.length_map] at hl
 refine sorted_ints pl.isList (nV rv) (by omega) fun out ns' hi hp hs=>?_
 obtain⟨e,he⟩:=sortedAll_at s.heap its out
 have I2:=I.laid (t':=s.toks) (a:=s.heap.objs.size+1) (o:=.lst (ns'.map V.int)) (h':=sortedAll s.heap its out) (fun b o hb=>sortedAll_old hb) (Nat.le_succ _)
  ⟨by rw[List.length_map,hp.length_eq];rw[List.length_map] at hz;exact hz,out.toList,e,mI hi,by rw[Array.toArray_toList];exact he⟩
 exact⟨.ref (s.heap.objs.size+1),_,I2,rfl,q ns' _ hp hs (I.hok.fresh (Nat.le_succ _))⟩
def wm(xs:List V)(H:Hp)(Q:VK):Prop:=∃(p:Addr) (kvs:List (Key×V)) (ep:Nat),xs=[.ref p]/\H p=some (.dE kvs ep)/\∀l,H l=none->Q (.ref l) (upd H l (.lst (kvs.map fun kv=>kV kv.1)))
theorem iX{P:Program}{w:World}:∀{kvs:List (Key×V)} {vs:List (Key×Value)} {its:List Value},kvs.map (·.1)=vs.map (·.1)->its.length=vs.length->(∀(i:Nat) (v:Value),its[i]?=some v->∃k x,vs[i]?=some (k,x)/\(o6 P w).is k v=true)->Vals (kvs.map fun kv=>kV kv.1) its
 | [],[],[],_,_,_=>.nil
 | [],[],_::_,_,e,_=>by simp at e
 | [],_::_,_,e,_,_=>by simp at e
 | _::_,[],_,e,_,_=>by simp at e
 | _::_,_::_,[],_,e,_=>by simp at e
 | kv::kvs,v::vs,it::its,e,l,h=>by
  obtain⟨k,x,e1,e2⟩:=h 0 it rfl
  cases e1
  injection e with e3 e4
  exact .cons (Jj (P:=P) (w:=w) (by rw[show kv.1=k from e3];exact e2)) (iX (P:=P) (w:=w) e4 (by simpa using l) fun i v hv=>h (i+1) v hv)
theorem pH(hc:X.calm=true):E7 X (.type "list") wm:=by
 intro pins s σ H xs us Q I r h
 obtain⟨p,kvs,ep,rfl,hq,q⟩:=h
 obtain⟨u,rfl,ru⟩:=vals1 r
 cases(show u=Value.ref p from ru)
 obtain⟨z,hd,vs,rel,dd⟩:=(show u6 X.prog X.w H s.heap p (.dE kvs ep) from I.hok p _ hq)
 have hl:=rel.length
 refine PySem.W.kdl_call (PySem.W.kdl_dict (knd:=o6 X.prog X.w) (kvs:=vs) (ep:=ep) hd) (I.ok.hd hc) dd (by rw[<-hl];exact z) fun h' tk acc' c' hk hS hacc=>?_
 have I2:=I.laid (t':=tk) (a:=s.heap.objs.size) (o:=.lst (kvs.map fun kv=>kV kv.1)) (h':=h') (fun b o hb=>hk b o hb) (Nat.le_refl _)
  ⟨by rw[List.length_map];exact z,acc'.toList,c',iX (P:=X.prog) (w:=X.w) rel.keys (by rw[Array.length_toList];exact hacc.1) (fun i v hv=>hacc.2 i v (by rw[<-Array.getElem?_toList];exact hv)),by rw[Array.toArray_toList];exact hS⟩
 exact⟨.ref s.heap.objs.size,_,I2,rfl,q _ I.fresh⟩
end
end L2
namespace L3
open PySem PySem.Spec PySem.Calls PyProof.Rows PySem.W L2
section
variable{X:Cx}{cl:List Cl}{e a b:Expr}{ua ub:TU}{fa fb:Fl}{pos:Pos}
def yk:D->D->(D->Prop)->Prop:=fun d e Q=>∃xs ys,kindB false d=some xs/\kindB false e=some ys/\A2 xs=true/\A2 ys=true/\xs.length+ys.length<=sizeLine/\Q (.lst (xs++ys))
theorem HV:br X (EO X.K) yk:=by
 intro H v w d e A B Q R r1 r2 q k
 obtain⟨xs,ys,e1,e2,i1,i2,hn,q⟩:=q
 obtain⟨p1,vs,B1,rfl,h1,rs1,_⟩:=aP r1 e1
 obtain⟨p2,ws,B2,rfl,h2,rs2,_⟩:=aP r2 e2
 have e1:=rs1.C7 i1
 have e2:=rs2.C7 i2
 subst e1
 subst e2
 refine⟨p1,p2,vs,ws,rfl,rfl,h1,h2,by rw[rs1.length,rs2.length];exact hn,fun l hl=>k _ _ _ [l] (i3.i8 hl) (.lst h9 ((rs1.same (i3.i8 hl)).append (rs2.same (i3.i8 hl)))) (by simp) (fun a ha=>?_) q⟩
 have:a=l:=by simpa using ha
 rw[this];exact hl
theorem Bj(ha:PU X cl a fa ua)(hb:PU X cl b fb ub):PU X cl (.BinOp a .Add b pos) .fresh (w8 yk ua ub):=fw DT HV ha hb
def Ia(u:TU):TU:=fun ρ Q=>u ρ fun d=>∃xs,d=.lst xs/\A2 xs=true/\Q (.fz xs)
theorem wy(h:PU X cl e .fresh ua):PU X cl e .fresh (Ia ua):=.of<|by
 obtain⟨t,ht,h⟩:=h.run
 refine⟨_,Hs ht,fun G ρ σ H fo Q R hG E hu k=>h G ρ σ H fo _ _ hG E hu fun v H1 d A s r fl q=>?_⟩
 obtain⟨xs,rfl,im,q⟩:=q
 obtain⟨p,vs,B,rfl,hp,rs,eA⟩:=G8 r
 have eB:=rs.C7 im
 subst eB
 refine⟨p,vs,rfl,hp,fun ob=>?_⟩
 have hn:H p=none:=fl.2 p (by rw[eA];exact List.mem_cons_self)
 have s2:i3 H (upd H1 p (.frz ob (.lst vs))):=fun b o hb=>by
  rw[j9 (fun z=>by rw[z,hn] at hb;cases hb)]
  exact s b o hb
 refine k _ _ (.fz xs) [] s2 (.frz (.inl ⟨ob,h9⟩) ?_) (B0.nil _) q
 exact rs.G4 ⟨fun b ys hb=>by rw[j9 (zS hb hp (fun z=>nomatch z))];exact hb,fun b o u hb=>by rw[j9 (zS hb hp (fun z=>nomatch z))];exact hb⟩ fun a ha=>by cases ha
def EN:List D->(D->Prop)->Prop:=fun ds Q=>∃(d:D) (ns:List Int),ds=[d]/\kindB false d=some (ns.map D.int)/\ns.length<64/\∀ns':List Int,ns'.Perm ns->ns'.Pairwise (·<=·)->Q (.lst (ns'.map D.int))
theorem fC{K:PySem.W.Frag}{H:Hp}:∀ns:List Int,o5 K H (ns.map V.int) (ns.map D.int) []
 | []=>.nil
 | n::ns=>o5.cons (A:=[]) (B:=[]) .int (fC ns)
theorem Gz:Call3 X (Fe X.K) EN:=by
 intro H vs ds A Q R r q k
 obtain⟨d,ns,rfl,e,h64,q⟩:=q
 obtain⟨v,rfl,rr⟩:=r.one
 obtain⟨p,ts,B,rfl,hq,r2,_⟩:=aP rr e
 cases L4 r2
 refine⟨p,ns,rfl,hq,h64,fun ns' l hp hs hl=>k _ _ (.lst (ns'.map D.int)) [l] (i3.i8 hl) (.lst h9 (fC ns')) (by simp) (fun a ha=>?_) (q ns' hp hs)⟩
 rw[List.mem_singleton.mp ha];exact hl
def yg:List D->(D->Prop)->Prop:=fun ds Q=>∃kds,ds=[.dic kds]/\Q (.lst (kds.map fun kv=>kD kv.1))
theorem jB{K:PySem.W.Frag}{H H':Hp}:∀{vs:List (Key×V)} {ds:List (Key×D)} {A:List Addr},A6 K H vs ds A->o5 K H' (vs.map fun kv=>kV kv.1) (ds.map fun kv=>kD kv.1) []
 | _,_,_,.nil=>.nil
 | _,_,_,.cons _ r=>o5.cons (A:=[]) (B:=[]) (wo _) (jB r)
theorem Bp:Call3 X wm yg:=by
 intro H vs ds A Q R r q k
 obtain⟨kds,rfl,q⟩:=q
 obtain⟨v,rfl,rr⟩:=r.one
 obtain⟨p,kvs,ep,B,rfl,hp,rs,eA⟩:=nY rr
 refine⟨p,kvs,ep,rfl,hp,fun l hl=>k _ _ (.lst (kds.map fun kv=>kD kv.1)) [l] (i3.i8 hl) (.lst h9 (jB rs)) (by simp) (fun a ha=>?_) q⟩
 rw[List.mem_singleton.mp ha];exact hl
end
end L3
namespace My
open PySem L2 L3
def Mq(q:D)(b:Bd):Prop:=∃x y:D,q=.tup [x,y]/\uY x (b.gs.map gD)/\uY y (b.ls.map lD)
def hR(b:Bd)(ks:List Str):List (Key×D):=ks.map fun x=>(.inr x,.fz ((p3 b x).map D.str))
def S6(u t:Int):Prop:=1<=u/\u<=10^50+3/\1<=t/\t<=10^40
structure LG(gs:List Gd)(u t:Int):Prop where
 c1:∀g∈gs,∀p∈g.cv,p.1<=46*u
 c2:∀g∈gs,∀p∈g.cv,p.2<=15*t
 de:∀g∈gs,g.de<=3*t
 wa:∀g∈gs,g.wa<=2*t
structure Lq(ls:List Ld)(u t:Int):Prop where
 la:∀l∈ls,l.la<=3*u
 cs:∀l∈ls,∀p∈l.cs,p.1<=3*t/\p.2<=11*u
structure KL(b:Bd)(u t:Int):Prop where
 g8:b.gs.length<=8
 l8:b.ls.length<=8
 c1:∀g∈b.gs,∀p∈g.cv,p.1<=70*u
 c2:∀g∈b.gs,∀p∈g.cv,p.2<=15*t
 de:∀g∈b.gs,g.de<=3*t
 wa:∀g∈b.gs,g.wa<=2*t
 ls:Lq b.ls u t
def Q7(g:Gd)(n:Int):Gd:={ g with cv:=g.cv.map fun p=>(p.1+n,p.2) }
def T1:Cp:=fun ds Q=>∃(q:D) (b:Bd),ds=[q]/\Mq q b/\p5 b/\Q (.dic (hR b (y9 b++L1 b)))
def N2:Cm:=fun ds Q=>∃(c d k u t:Int),ds=[feed c d k,.int u,.int t]/\0<=k/\k<=10^6/\S6 u t/\∀(cv:List Pr) (d' k':Int),O2 cv->(∀p∈cv,p.1<=46*u)->(∀p∈cv,p.2<=15*t)->k<=k'->k'<=k+50->Q (oB cv) (feed c d' k')
def M6:Cp:=fun ds Q=>∃(g:Gd) (n:Int),ds=[gD g,.int n]/\g.cv.length<=5/\Q (gD (Q7 g n))
def L0:Cp:=fun ds Q=>∃(q:D) (b:Bd),ds=[q]/\Mq q b/\p5 b/\Q (.dic (p8 b (o8 b)))
def K5:Cp:=fun ds Q=>∃(d:D) (ns:List Int) (xs:List Str) (u t:Int),ds=[d,gZ xs,.int u,.int t]/\Bb d ns/\1<=xs.length/\xs.length<=8/\xs.Nodup/\S6 u t/\∀gs:List Gd,gs.map (·.nm)=xs->CF gs->(∀g∈gs,O2 g.cv)->(∀g∈gs,0<=g.de)->(∀g∈gs,0<=g.wa)->LG gs u t->Q (.lst (gs.map gD))
def O1:Cp:=fun ds Q=>∃(d:D) (ns:List Int) (xs:List Str) (gs:List Gd) (u t:Int),ds=[d,gZ xs,.lst (gs.map gD),.int u,.int t]/\Bb d ns/\1<=gs.length/\gs.length<=8/\xs.length<=8/\S6 u t/\∀ls:List Ld,ls.map (·.nm)=xs->(∀l∈ls,l.cs.length<=4)->(∀l∈ls,∀p∈l.cs,1<=p.1/\0<=p.2)->(∀l∈ls,0<=l.la)->(∀l∈ls,∃g∈gs,g.nm=l.at_)->Lq ls u t->Q (.lst (ls.map lD))
def N3:Cp:=fun ds Q=>∃(d:D) (ns:List Int) (u t:Int),ds=[d,.int u,.int t]/\Bb d ns/\S6 u t/\∀b:Bd,p5 b->KL b u t->Q (bD b)
def Z9:Cp:=fun ds Q=>∃(d:D) (ns:List Int),ds=[d]/\Bb d ns/\∀(b:Bd) (u t:Int),p5 b->KL b u t->S6 u t->Q (.tup [bD b,.int u])
def xP(b:Bd)(x:Str):Gd:=(b.gs.find? fun g=>decide (g.nm=x)).getD ⟨x,none,[],0,0⟩
def bN(b:Bd)(x:Str):Bool:=b.ls.any fun l=>decide (l.nm=x)&&!l.on
def eL(b:Bd)(x:Str):List (Gd×Int):=bif bN b x then[] else(p3 b x).map fun y=>(xP b y,o8 b y)
def iN(ps:List (Gd×Int)):D:=.lst (ps.map fun r=>.tup [gD r.1,.int r.2])
structure qk(ps:List (Gd×Int)):Prop where
 len:ps.length<=16
 cv:∀r∈ps,O2 r.1.cv
def zy(cv:List Pr)(n:Int):Option Int:=((cv.filter fun p=>decide (p.1<=n)).getLast?).map (·.2)
def LK:Option Int->D
 | none=>.non
 | some n=>.int n
structure Dy(ps:List (Gd×Int))(m:Int)(ls:List Int):Prop where
 up:ls.Pairwise (·<·)
 mem:∀x,x∈ls ↔ x=1\/∃r∈ps,∃s∈r.1.cv,x=s.1-r.2/\x<=m
def Z3:Cp:=fun ds Q=>∃(b:Bd),ds=[bD b]/\p5 b/\Q (pA (J5 b (o8 b)))
def bc:Cp:=fun ds Q=>∃(b:Bd) (x:Str),ds=[bD b,.str x]/\p5 b/\x∈y9 b++L1 b/\Q (iN (eL b x))
def S3:Cp:=fun ds Q=>∃(b:Bd),ds=[bD b]/\p5 b/\Q (gZ (y9 b++L1 b))
def ai:Cp:=fun ds Q=>∃(ps:List (Gd×Int)) (m:Int),ds=[iN ps,.int m]/\qk ps/\ps.length<=8/\∀ls:List Int,Dy ps m ls->Q (.lst (ls.map D.int))
def ez:Cm:=fun ds Q=>∃(c d k u:Int) (ps:List (Gd×Int)),ds=[feed c d k,iN ps,.int u]/\0<=k/\k<=10^6/\1<=u/\u<=10^50+3/\qk ps/\∀(m d' k':Int),1<=m->(m<10^60\/∃r∈ps,∃s∈r.1.cv,m<=s.1-r.2+1)->k<=k'->k'<=k+5->Q (.int m) (feed c d' k')
def X6:Cp:=fun ds Q=>∃(ps:List (Gd×Int)) (i n:Int),ds=[iN ps,.int i,.int n]/\qk ps/\0<=i/\i<ps.length/\∀r,ps[i.toNat]?=some r->Q (LK (zy r.1.cv (r.2+n)))
def D2:Cp:=fun ds Q=>∃(b:Bd),ds=[bD b]/\p5 b/\J5 b (o8 b)=[]/\Q (.dic (p8 b (o8 b)))
def aI:Cp:=fun ds Q=>∃(b:Bd) (x:Str),ds=[bD b,.str x]/\p5 b/\x∈y9 b++L1 b/\J5 b (o8 b)=[]/\Q (iN (eL b x))
def D3:Cp:=fun ds Q=>∃(g:Gd) (n:Int),ds=[.tup [gD g,.int n]]/\O2 g.cv/\Q (.int (lo g.cv-n))
def mj:j7:=(A3 (B8 (i6 (e5 2) (uC (.int 0)))))
def oJ:j7:=(hU (tP (uT (w8 Ly (i6 (e5 1) (i6 (e5 2) (uC (.int 0)))) (i6 (i6 (i6 (e5 2) (uC (.int 2))) (uC (.int 0))) (uC (.int 0)))))) mj J8)
def zE:j7:=(A3 (uC .non))
def vP:j7:=(i5 (Q5 (iP (D7 (i6 (e5 0) (uC (.int 0))))) (g1 2) oJ) zE)
def yc:j7:=(i5 (y8 1 (p4 L0 (e9 (e5 0) j4))) vP)
def pY:j7:=(A3 (av j4))
def pV:j7:=(hU (tP (vH (uT (w8 (bx false) (i6 (e5 4) (uC (.int 0))) (e5 1))) (wc (oW (i6 (e5 4) (uC (.int 4))))))) pY J8)
def rV:j7:=(A3 (mZ [none,some 2,some 3] (D7 (i6 (p4 T1 (e9 (e5 0) j4)) (e5 1))) (g1 0) Y7 (bH (e9 (B8 (i6 (e5 1) (e5 0))) (e9 (B8 (i6 (e5 2) (e5 0))) j4)))))
def Cr:j7:=(i5 (Q5 (iP (D7 (i6 (e5 0) (uC (.int 1))))) (g1 4) pV) rV)
def BJ:j7:=(i5 (y8 3 (p4 L0 (e9 (e5 0) j4))) Cr)
def Fh:j7:=(i5 (y8 2 (Y9 qE (e9 (mZ [none] (D7 (i6 (e5 0) (uC (.int 0)))) (g1 0) Y7 (bH (e9 (B8 (i6 (e5 0) (uC (.int 0)))) (e9 (B8 (e5 0)) j4)))) j4))) BJ)
def sD:j7:=(A3 (w8 x9 (mZ [none] (D7 (i6 (e5 0) (uC (.int 0)))) (g1 0) Y7 (B8 (i6 (e5 0) (uC (.int 0))))) (mZ [none] (D7 (i6 (e5 0) (uC (.int 1)))) (g1 0) Y7 (B8 (i6 (e5 0) (uC (.int 0)))))))
def kX:j7:=(bF 2 (mP (uC (.bl true))) (mP (w8 bP (i6 (e5 5) (uC (.int 0))) (e5 4))))
def kZ:j7:=(hU (tP (uT (w8 xQ (w8 bP (i6 (e5 5) (uC (.int 0))) (e5 4)) (e5 1)))) kX J8)
def lZ:j7:=(Q5 (iP (D7 (i6 (e5 3) (uC (.int 2))))) (g1 5) kZ)
def zf:j7:=(A3 (Y9 EN (e9 (Y9 yg (e9 (e5 2) j4)) j4)))
def vS:j7:=(i5 (Q5 (iP (D7 (e5 0))) (gT (C6 (g1 3) (C6 (g1 4) bR))) lZ) zf)
def wV:j7:=(i5 (y8 2 (Ab (uC (.int 1)) (uC (.bl true)))) vS)
def qK:j7:=(A3 (w8 bP (w8 Cq (uC (.int 10)) (uC (.int 60))) (uC (.int 1))))
def gS:j7:=(zB (Z5 x9 (mP (uC (.int 1))) (Z5 F0 (x6 0 p9 (o7 (mP (uC (.int 60))) A8)) (mP (e5 2)))))
def DU:j7:=(zB (IP (JG fun i j=>if j>i then j else i) (o7 (mP (uC (.int 1))) (o7 (Z5 x9 (mP (w8 bP (w8 bP (i6 (e5 6) (uC (.int 0))) (e5 5)) (uC (.int 1)))) (x6 0 p9 (o7 (mP (uC (.int 3))) A8))) A8))))
def AW:j7:=(i5 (G0 6 (qV (iy (mP (i6 (e5 4) (uC (.int 2)))) (x6 0 p9 (o7 (mP (Y9 eN (e9 (i6 (e5 4) (uC (.int 2))) j4))) A8))))) DU)
def sO:j7:=(i5 (ET (gT (C6 (g1 4) (C6 (g1 5) bR))) (iy (mP (e5 1)) (x6 0 p9 (o7 (mP (Y9 eN (e9 (e5 1) j4))) A8)))) AW)
def CV:j7:=(i5 (hU (tP (Lh (uT (w8 KD (e5 3) (uC (.int 3)))) (uT (w8 (bx false) (Y9 eN (e9 (e5 1) j4)) (uC (.int 0)))))) gS J8) sO)
def DL:j7:=(i5 (hU (tP (uT (w8 (bx false) (e5 3) (uC (.int 0))))) qK J8) CV)
def EF:j7:=(i5 (G0 3 (x6 0 p9 (o7 (mP (uC (.int 8))) A8))) DL)
def oj:j7:=(A3 (uC .non))
def wg:j7:=(A3 (B8 (i6 (e5 5) (Iz vo (uC (.int 1))))))
def wB:j7:=(i5 (hU (tP (uT (w8 (bx false) (Y9 eN (e9 (e5 5) j4)) (uC (.int 0))))) oj J8) wg)
def zJ:j7:=(i5 (y8 5 (mZ [none,some 4,some 2] (D7 (i6 (e5 3) (uC (.int 2)))) (g1 0) (uT (w8 xQ (i6 (e5 0) (uC (.int 0))) (w8 x9 (e5 1) (e5 2)))) (B8 (i6 (e5 0) (uC (.int 1)))))) wB)
def zT:j7:=(i5 (Ay (gT (C6 (g1 3) (C6 (g1 4) bR))) (i6 (e5 0) (e5 1))) zJ)
def eQ:j7:=Aw
def jS:j7:=(A3 (p4 bf (e9 (e5 0) j4)))
def kN:j7:=(i5 (hU (tP (uT (w8 (eM true) (e5 1) (uC .non)))) eQ J8) jS)
def gL:j7:=(i5 (y8 1 (p4 aE (e9 (e5 0) j4))) kN)
def lK:j7:=(A3 (av j4))
def zZ:j7:=(A3 (mZ [none,some 4,some 3] (D7 (e5 2)) (g1 0) Y7 (bH (e9 (B8 (i6 (e5 1) (e5 0))) (e9 (B8 (i6 (e5 2) (e5 0))) j4)))))
def wW:j7:=(i5 (y8 4 (FK [none] (D7 (i6 (e5 0) (uC (.int 0)))) (g1 0) Y7 (i6 (e5 0) (uC (.int 0))) (e5 0))) zZ)
def yA:j7:=(i5 (hU (tP (uT (w8 (mH false) (e5 1) (mZ [none] (D7 (i6 (e5 0) (uC (.int 1)))) (g1 0) (wc (oW (i6 (e5 0) (uC (.int 4))))) (B8 (i6 (e5 0) (uC (.int 0)))))))) lK J8) wW)
def yy:j7:=(i5 (y8 3 (p4 D2 (e9 (e5 0) j4))) yA)
def wL:j7:=(i5 (y8 2 (p4 (calm eh) (e9 (e5 0) (e9 (e5 1) j4)))) yy)
def pN:j7:=(A3 (w8 bP (p4 G3 (e9 (i6 (e5 1) (uC (.int 2))) j4)) (e5 2)))
def oH:j7:=(i5 (Ay (gT (C6 (g1 1) (C6 (g1 2) bR))) (e5 0)) pN)
end My
namespace L2
open PySem PySem.Spec PyProof.Rows
def Kx:K6->V
 | none=>.non
 | some k=>kV k
theorem xj{P:Program}{w:World}{k:K6}{u:Value}(r:RelV (Kx k) u):(aF P w).is k u=true:=by
 cases k with
 | none=>rw[show u=Value.none from r];rfl
 | some k=>exact Y3 (P:=P) (w:=w) r
theorem yU{P:Program}{w:World}{H:Hp}(h:Heap)(hb:sysModules<h.objs.size):u6 P w H (h.push { cls:=.type "dict",data:=.dict #[] }) h.objs.size (.dN []):=
 ⟨Nat.zero_le _,beq_eq_false_iff_ne.mpr (Ne.symm (Nat.ne_of_lt hb)),[],.nil,Heap.DictOf.new h⟩
section
variable{X:Cx}{o e f i value:Expr}{pos pos' apos cpos:Pos}{td ty tx tv:TE}
theorem xZ:PE X (.Dict [] [] pos) (fun _ H Q=>∀p,H p=none->Q (.ref p) (upd H p (.dN []))):=.of<|fun pins s σ H Q I h=>
 wpAny_Dict_empty ⟨.ref s.heap.objs.size,_,I.laid (a:=s.heap.objs.size) (o:=.dN []) (t':=s.toks) (fun _ _ q=>Heap.get?_push_of_some _ q) (Nat.le_refl _) (yU s.heap I.big),rfl,h _ (I.hok.fresh (Nat.le_refl _))⟩
def HJ(td ty tx:TE):TE:=fun σ H Q=>td σ H fun x H1=>∃a kvs,x=.ref a/\H1 a=some (.dN kvs)/\ty σ H1 fun y H2=>tx σ H2 fun z H3=>∃kvs' k,H3 a=some (.dN kvs')/\y=Kx k/\Q ((Y8 kvs' k).getD z) H3
theorem xy (ho:PE X o td) (he:PE X e ty) (hf:PE X f tx) (m:M2 X o "get" apos e f cpos):PE X (.Call (.Attribute o "get" apos) [e,f] [] cpos) (HJ td ty tx):=by
 refine .of ?_
 intro pins s σ H Q I h
 refine wpAny_Call_method m.base m.few m.line PySem.F.plainAttrs_dict PySem.F.slot_dict_get PySem.F.type_dict_get (A4 (ho pins s σ H _ I h) fun u s1 ⟨x,H1,I1,rx,a,kvs,ex,d,q1⟩=>?_)
 subst ex
 obtain rfl:u=Value.ref a:=rx
 obtain⟨_,hd,vs,_,dd⟩:=(show u6 X.prog X.w H1 s1.heap a (.dN kvs) from I1.hok a _ d)
 refine⟨dd.typeIs,fun b q=>by cases q;obtain⟨ob,_,_,h1,h2,_⟩:=dd;exact⟨ob,h1,h2.2.1⟩,?_⟩
 rw[m.trees]
 refine Calls.callWith_builtin rfl (Calls.evalArgs_plain (Calls.spliced_cons (A4 (he pins s1 σ H1 _ I1 q1) fun iv s2 ⟨y,H2,I2,ry,q2⟩=>
  Calls.spliced_cons (A4 (hf pins s2 σ H2 _ I2 q2) fun fv s3 ⟨z,H3,I3,rz,kvs',k,g,ey,q3⟩=>Calls.spliced_nil ?_))))
 subst ey
 obtain⟨_,hd,vs,rel,dd⟩:=(show u6 X.prog X.w H3 s3.heap a (.dN kvs') from I3.hok a _ g)
 exact call_meetsIn PySem.F.slot_dict_get dd.typeIs PySem.F.entry_dict_get (PySem.F.args_dict_get_3 _ _ _) (meets_dict_get_default (aF X.prog X.w) a (xj ry) hd fv) ⟨_,dd.mapOf,⟨_,H3,I3.tok _,(rel.val k).getD rz,q3⟩⟩
def GU(td ty tv:TE):TS:=fun D σ H=>tv σ H fun v H1=>td σ H1 fun x H2=>ty σ H2 fun y H3=>∃a kvs k,x=.ref a/\H3 a=some (.dN kvs)/\y=Kx k/\kvs.length<sizeLine/\D.nx σ (upd H3 a (.dN (putK kvs k v)))
theorem xR(ho:PE X o td)(hi:PE X i ty)(hv:PE X value tv)(hs:swapsWith value (some (.Subscript o i pos')) pos.line X.env=pure false) :
  PS X (.Assign [.Subscript o i pos'] value pos) (GU td ty tv):=by
 refine .of ?_
 intro pins s σ H D I h
 refine wpAny_Assign_Subscript (A4 (hv pins s σ H _ I h) fun r s1 ⟨v,H1,I1,rv,q1⟩=>A4 (ho pins s1 σ H1 _ I1 q1) fun u s2 ⟨x,H2,I2,rx,q2⟩=>A4 (hi pins s2 σ H2 _ I2 q2) fun iv s3 ⟨y,H3,I3,ry,a,kvs,k,ex,g,ey,l,q3⟩=>?_) hs
 subst ex ey
 obtain rfl:u=Value.ref a:=rx
 obtain⟨z,hd,vs,rel,dd⟩:=(show u6 X.prog X.w H3 s3.heap a (.dN kvs) from I3.hok a _ g)
 have hz:vs.length<=sizeLine:=by rw[<-rel.length];exact z
 have hl:(putK kvs k v).length<=sizeLine:=by have:=D4 kvs k v;omega
 refine wpAny_setItem_pairs (hsz:=hz) (xj ry) dd fun h' dd' hs'=>?_
 have he:∃q,h'.get? a=some q:=let ⟨q,_,_,hq,_⟩:=dd';⟨q,hq⟩
 exact⟨σ,_,aW (t':=s3.toks+1) I3 (by rw[g];exact True.intro) hs' he (show u6 X.prog X.w _ h' a (.dN (putK kvs k v)) from⟨hl,hd,_,rel.put k rv,dd'⟩),q3⟩
end
end L2
namespace L3
open PySem PySem.Spec PySem.Calls PyProof.Rows PySem.W L2
def jy:D->Option K6
 | .non=>some none
 | d=>(S5 d).map some
def E8(kvs:List (K6×Int))(k:K6):Option Int:=(kvs.find? fun kv=>decide (kv.1=k)).map (·.2)
def bj(kvs:List (K6×Int))(k:K6)(n:Int):List (K6×Int):=
 if (kvs.any fun kv=>decide (kv.1=k))=true then kvs.map (fun kv=>if kv.1=k then(kv.1,n) else kv) else kvs++[(k,n)]
def vN(kvs:List (K6×Int)):List (K6×V):=kvs.map fun q=>(q.1,V.int q.2)
theorem xG{K:PySem.W.Frag}{H:Hp}{v:V}{kvs:List (K6×Int)}{A:List Addr}(h:Rep K H v (.dn kvs) A):∃p,v=.ref p/\H p=some (.dN (vN kvs))/\A=[p]:=by
 cases h with
 | dn h=>exact⟨_,rfl,h,rfl⟩
theorem nK{K:PySem.W.Frag}{H:Hp}{v:V}{d:D}{A:List Addr}{k:K6}(r:Rep K H v d A)(e:jy d=some k):v=Kx k:=by
 unfold jy at e
 split at e
 ·cases e;exact cb r
 ·obtain⟨k',hk,rfl⟩:=Option.map_eq_some_iff.mp e
  exact M9 r hk
theorem Fy(kvs:List (K6×Int))(k:K6):Y8 (vN kvs) k=(E8 kvs k).map V.int:=by
 unfold Y8 E8 vN
 induction kvs with
 | nil=>rfl
 | cons q kvs ih=>
  rw[List.map_cons,List.find?_cons,List.find?_cons]
  by_cases h:q.1=k
  ·rw[decide_eq_true h];rfl
  ·rw[decide_eq_false h];exact ih
theorem Ho(kvs:List (K6×Int))(k:K6)(n:Int):putK (vN kvs) k (.int n)=vN (bj kvs k n):=by
 have e:((vN kvs).any fun kv=>decide (kv.1=k))=kvs.any fun kv=>decide (kv.1=k):=by unfold vN;rw[List.any_map];rfl
 unfold putK bj
 rw[e]
 split
 ·unfold vN
  rw[List.map_map,List.map_map]
  refine List.map_congr_left fun q _=>?_
  show(if q.1=k then(q.1,V.int n) else(q.1,V.int q.2))=_
  by_cases h:q.1=k
  ·rw[if_pos h];show _=((if q.1=k then(q.1,n) else q).1,V.int (if q.1=k then(q.1,n) else q).2);rw[if_pos h]
  ·rw[if_neg h];show _=((if q.1=k then(q.1,n) else q).1,V.int (if q.1=k then(q.1,n) else q).2);rw[if_neg h]
 ·unfold vN
  rw[List.map_append];rfl
section
variable{X:Cx}{cl:List Cl}{e a b c:Expr}{ua ub uc:TU}{fa fb fc:Fl}{pos:Pos}{ma:TM}{x:Str}
theorem zq:PU X cl (.Dict [] [] pos) .fresh (uC (.dn [])):=.of<|by
 refine⟨_,xZ,fun G ρ σ H fo Q R _ E hu k p hp=>?_⟩
 refine k _ _ _ [p] (i3.i8 hp) (.dn h9) ⟨by simp,fun a ha=>?_⟩ hu
 rw[List.mem_singleton.mp ha];exact hp
def rA(ua ub uc:TU):TU:=fun ρ Q=>ua ρ fun x=>∃kvs,x=.dn kvs/\ub ρ fun y=>∃k,jy y=some k/\uc ρ fun z=>∃n,z=.int n/\Q (.int ((E8 kvs k).getD n))
theorem oh {apos:Pos} (ha:PU X cl a fa ua) (hb:PU X cl b fb ub) (hc:PU X cl c fc uc) (m:M2 X a "get" apos b c pos):PU X cl (.Call (.Attribute a "get" apos) [b,c] [] pos) .fresh (rA ua ub uc):=.of<|by
 obtain⟨ta,pa,ha⟩:=ha.run
 obtain⟨tb,pb,hb⟩:=hb.run
 obtain⟨tc,pc,hc⟩:=hc.run
 refine⟨_,xy pa pb pc m,fun G ρ σ H fo Q R hG E hu' k=>ha G ρ σ H fo _ _ hG E hu' fun v H1 d A s1 r1 f1 q1=>?_⟩
 obtain⟨kvs,rfl,q1⟩:=q1
 obtain⟨p,rfl,hp,rfl⟩:=xG r1
 refine⟨p,_,rfl,hp,hb G ρ σ H1 fo _ _ hG (E.same s1) q1 fun w H2 e B s2 r2 f2 q2=>?_⟩
 obtain⟨kk,hk,q2⟩:=q2
 refine hc G ρ σ H2 fo _ _ hG (E.same (s1.trans s2)) q2 fun u H3 z C s3 r3 f3 q3=>?_
 obtain⟨n,rfl,q3⟩:=q3
 cases y4 r3
 refine⟨_,kk,s3 _ _ (s2 _ _ hp),nK r2 hk,?_⟩
 rw[Fy]
 have e:(((E8 kvs kk).map V.int).getD (.int n))=.int ((E8 kvs kk).getD n):=by cases E8 kvs kk<;>rfl
 rw[e]
 exact k _ H3 _ [] ((s1.trans s2).trans s3) .int (B0.nil _) q3
def Dq(i:Nat)(y:D)(n:Int)(ρ:Ev)(Q:Ev->Prop):D->Prop
 | .dn kvs=>∃k,jy y=some k/\kvs.length<sizeLine/\Q (ρ.set i (some (.dn (bj kvs k n))))
 | _=>False
def yo(i:Nat)(mv mk:TM):j7:=fun T ρ=>mv ρ fun d ρ1=>∃n,d=.int n/\e5 i ρ1 fun _=>mk ρ1 fun y ρ2=>e5 i ρ2 (Dq i y n ρ2 T.nx)
theorem CN{vp tp:Pos}{ik:Expr}{mk:TM}(i:Nat)(hv:PE X (.Name x vp) (dC i))(hi:cl[i]?=some .own)(he:PN X cl e ma)(hk:PN X cl ik mk)(hs:swapsWith e (some (.Subscript (.Name x vp) ik tp)) pos.line X.env=pure false:=by rfl) :
  K7 X cl (.Assign [.Subscript (.Name x vp) ik tp] e pos) (yo i ma mk):=.of<|by
 obtain⟨t,p,h⟩:=he.run
 obtain⟨t2,p2,h2⟩:=hk.run
 refine⟨_,xR hv p2 p hs,fun G T ρ σ H fa R hG E hu' le=>?_⟩
 have own:G.own i:=by unfold Ent.own;rw[hG];exact hi
 refine h G ρ σ H fa _ _ hG E hu' fun w H1 d B1 ρ1 fa1 E1 c1 r1 n1 q=>?_
 obtain⟨n,rfl,q⟩:=q
 cases y4 r1
 obtain⟨l0,e0,q⟩:=u5 q
 obtain⟨v,hvi,r0⟩:=E1.rep i l0 e0
 refine⟨_,hvi,h2 G ρ1 σ H1 fa1 _ _ hG E1 q fun wk H2 dk Bk ρ2 fa2 E2 c2 rk nk q=>?_⟩
 obtain⟨l1,e1,q⟩:=u5 q
 obtain⟨v',hv',r2⟩:=E2.rep i l1 e1
 have ev:v'=v:=by rw[hvi] at hv';cases hv';rfl
 subst ev
 cases l1<;>first | exact(show False from q).elim | skip
 rename_i kds
 obtain⟨k,hk,hn,q⟩:∃k,jy dk=some k/\kds.length<sizeLine/\T.nx (ρ2.set i (some (.dn (bj kds k n)))):=q
 obtain⟨p,rfl,hp,eA⟩:=xG r2
 cases nK rk hk
 have pin:p∈fa2 i:=by rw[eA];exact List.mem_cons_self
 have li:i<ρ2.length:=(List.getElem?_eq_some_iff.mp e1).1
 refine⟨p,_,k,rfl,hp,rfl,by unfold vN;rw[List.length_map];exact hn,?_⟩
 rw[Ho]
 exact le.nx _ _ ⟨_,_,E2.put own li hv' pin aU (by rw[h9];exact fun z=>nomatch z) (Rep.dn h9:Rep X.K _ (.ref p) (.dn (bj kds k n)) [p]) (by simp) fun a ha=>.inl (by rw[List.mem_singleton.mp ha];exact pin),q⟩
def ED(i:Nat)(m1 m2:TM):j7:=fun T ρ=>m1 ρ fun d1 ρ1=>A7 d1=true/\m2 ρ1 fun d2 ρ2=>A7 d2=true/\e5 i ρ2 fun d0=>T.rt (.tup [d1,d2,d0]) ρ2
theorem HL{mb:TM}{vp p2:Pos}{kt}{i:Nat}(ha:PM X cl a ma)(sa:isStar a=false)(hb:PM X cl b mb)(sb:isStar b=false)(h:PE X (.Name x vp) (dC i))(hi:i≠0)(hc:cl[i]?=some .own):K7 X cl (.Return (some (.Tuple [a,b,.Name x vp] kt p2)) pos) (ED i ma mb):=.of<|by
 obtain⟨t1,p1,ha⟩:=ha.run
 obtain⟨t2,p2,hb⟩:=hb.run
 refine⟨_,jU (jJ (bG p1 (bG p2 (bG h Q4 rfl) sb) sa)),fun G T ρ σ H fo R hG E hu le=>?_⟩
 have o:G.own i:=by unfold Ent.own;rw[hG];exact hc
 refine ha G ρ σ H fo _ _ hG E hu fun w1 H1 d1 B1 ρ1 fo1 E1 c1 r1 _ _ q=>?_
 obtain⟨i1,q⟩:=q
 have e1:=r1.C7 i1
 subst e1
 refine hb G ρ1 σ H1 fo1 _ _ hG E1 q fun w2 H2 d2 B2 ρ2 fo2 E2 c2 r2 _ _ q=>?_
 obtain⟨i2,q⟩:=q
 have e2:=r2.C7 i2
 subst e2
 obtain⟨d0,e0,q⟩:=u5 q
 obtain⟨v,hv,r0⟩:=E2.rep i d0 e0
 refine⟨v,hv,by show 3<=sizeLine;decide,fun pp hpp=>?_⟩
 have s:=i3.i8 (o:=.tup [w1,w2,v]) hpp
 have r1':Rep X.K H2 w1 d1 []:=c2.keep r1 fun i _ a ha=>(by cases ha)
 refine le.rt _ _ ⟨.tup [d1,d2,d0],ρ2,σ,fo2,[]++([]++(fo2 i++[])),E2.same s,.tup h9 (.cons (r1'.same s) (.cons (r2.same s) (.cons (r0.same s) .nil))),?_,?_,?_,q⟩
 ·rw[List.append_nil]
  exact E2.nd i (.inl o)
 ·intro a ha
  rw[List.append_nil] at ha
  exact E2.new i (.inr ⟨o,fun y=>hi (E2.po.one i y o)⟩) a ha
 ·intro j hj ho a ha
  rw[List.append_nil] at ha
  exact fun y=>E2.dj i j (fun e=>hi (e▸E2.po.one j hj ho)) o a ha y
end
end L3
namespace HT
open PySem PySem.Spec PyProof.Rows
section
variable{prog:Program}{w:World}{A:Around}{E:Value->Shared->Prop}{s:Shared}
theorem mr(n:Nat):Builtin.Slice.slicePlaces ((n:Int)-1) (-1) (-1)=n:=by
 unfold Builtin.Slice.slicePlaces
 have h1:¬((-1:Int)>0):=by decide
 simp only[h1,if_false]
 by_cases h:(n:Int)-1>-1
 ·rw[if_pos h,show((n:Int)-1 - -1-1)/(- -1)+1=n from by rw[show(- -1:Int)=1 from by decide,Int.ediv_one];omega]
  exact Int.toNat_natCast n
 ·rw[if_neg h]
  show(0:Int).toNat=n
  omega
theorem uW(xs:Array Value):((List.range xs.size).filterMap fun(k:Nat)=>xs[((xs.size:Int)-1+(k:Int)*-1).toNat]?).toArray=xs.toList.reverse.toArray:=by
 have e:(List.range xs.size).filterMap (fun(k:Nat)=>xs[((xs.size:Int)-1+(k:Int)*-1).toNat]?)=((List.range xs.size).map fun k=>xs.size-1-k).filterMap (xs[·]?):=by
  rw[List.filterMap_map]
  have go:∀l:List Nat,(∀k∈l,k<xs.size)->l.filterMap (fun(k:Nat)=>xs[((xs.size:Int)-1+(k:Int)*-1).toNat]?)=l.filterMap ((xs[·]?)∘fun k=>xs.size-1-k):=fun l=>by
   induction l with
   | nil=>intro _;rfl
   | cons k l ih=>
    intro hl
    have hk:=hl k List.mem_cons_self
    have e:((xs.size:Int)-1+(k:Int)*-1).toNat=xs.size-1-k:=by omega
    rw[List.filterMap_cons,List.filterMap_cons,ih fun z hz=>hl z (List.mem_cons_of_mem _ hz)]
    rw[e];rfl
  exact go _ fun k hk=>List.mem_range.mp hk
 rw[e,PySem.W.krv_range,List.filterMap_reverse,PySem.W.krv_all]
theorem cm{sl:Addr}{vs:Value}{n:Nat}{Q:Int×Int×Nat->Shared->Prop}(hs:s.heap.IsSliceOf sl .none .none vs)(ps:IsPart vs (some (-1)))
  (h:Q ((n:Int)-1,-1,n) s):wpAny (model prog w) A (Builtin.Slice.sliceApplied (.ref sl) (pure (n:Int))) Q E s:=by
 obtain⟨os,hos,hcs,hds⟩:=id hs
 unfold Builtin.Slice.sliceApplied Builtin.Slice.sliceFields
 refine wpAny_bind (wpAny_bind (wpAny_field hos hds (x:=.none) rfl (wpAny_bind (wpAny_field hos hds (x:=.none) rfl (wpAny_bind (wpAny_field hos hds (x:=vs) rfl (wpAny_pure ?_)))))))
 refine wpAny_bind (R6 ps ?_)
 show wpAny _ _ (if ((-1:Int) == 0)=true then _ else _) _ _ s
 rw[if_neg (by decide)]
 refine wpAny_bind (R6 .none (wpAny_bind (R6 .none (wpAny_bind (wpAny_pure ?_)))))
 show wpAny _ _ (pure ((n:Int)-1,(-1:Int),Builtin.Slice.slicePlaces ((n:Int)-1) (-1) (-1))) _ _ s
 rw[mr]
 exact wpAny_pure h
theorem bJ{t sl:Addr}{items:Array Value}{vs:Value}{Q:Value->Shared->Prop}(ht:IsTup s.heap t items)(hs:s.heap.IsSliceOf sl .none .none vs)(ps:IsPart vs (some (-1)))
  (h:Q (.ref s.heap.objs.size) { s with heap:=s.heap.push { cls:=.type "tuple",data:=.seq items.toList.reverse.toArray } })
  (hsz:items.size<=sizeLine):wpAny (model prog w) A (getItem (.ref t) (.ref sl)) Q E s:=by
 have htake:sizeOk (.seq items.toList.reverse.toArray):=by
  show items.toList.reverse.toArray.size<=sizeLine
  rw[List.size_toArray,List.length_reverse,Array.length_toList]
  exact hsz
 obtain⟨os,hos,hcs,hds⟩:=id hs
 have hTs:s.TypeIs (.ref sl) "slice":=⟨os,hos,hcs⟩
 unfold getItem
 try with_reducible refine wpAny_holding ?_
 first | refine wpAny_bind (wpAny_pure ?_) | skip
 refine wpAny_bind (wpAny_sequenceKey ht.typeIs (by decide) ?_)
 refine wpAny_bind (wpAny_callSpecial?_slot (name:=Str.ofString "__getitem__") ht.typeIs PyProof.Rows.slot_tuple_getitem
  (wpAny_call_entry PyProof.Rows.slot_tuple_getitem ht.typeIs entry_tuple_getitem ?_ (args_tuple_getitem _ _)))
 show wpAny _ _ (Builtin.Tuple.tupleItemsOf (.ref t) >>= _) _ _ s
 refine wpAny_bind (tupleItemsOf_ ht ?_)
 refine wpAny_bind (wpAny_typeOf hTs ?_)
 rw[if_pos (by decide)]
 refine wpAny_bind (cm hs ps ?_)
 have hno:¬((((items.size:Int)-1) == 0&&(-1:Int) == 1&&items.size == items.size)=true):=by
  rw[show((-1:Int) == 1)=false from rfl,Bool.and_false,Bool.false_and]
  exact Bool.false_ne_true
 show wpAny _ _ (if (((items.size:Int)-1) == 0&&(-1:Int) == 1&&items.size == items.size)=true then _ else _) _ _ s
 rw[if_neg hno,uW]
 first
  | exact wpAny_bind (m:=Builtin.Tuple.tupleExact _) (wpAny_newObj_type (wpAny_pure ⟨_,rfl,wpAny_pure h⟩) htake)
  | exact wpAny_bind (m:=Builtin.Tuple.tupleExact _) (wpAny_newObj_type (wpAny_bind (wpAny_pure (wpAny_pure ⟨_,rfl,wpAny_pure h⟩))) htake)
  | exact wpAny_bind (wpAny_bind (m:=Builtin.Tuple.tupleExact _) (wpAny_newObj_type (wpAny_pure (wpAny_pure ⟨_,rfl,wpAny_pure h⟩)) htake))
  | exact wpAny_bind (wpAny_bind (m:=Builtin.Tuple.tupleExact _) (wpAny_newObj_type (wpAny_pure ⟨_,rfl,wpAny_pure h⟩) htake))
end
end HT
namespace L2
open PySem PySem.Spec PyProof.Rows
section
variable{X:Cx}{e c:Expr}{te:TE}{pos p2:Pos}
def Hm(K:PySem.W.Frag)(te:TE)(tc:TO):TE:=fun σ H Q=>te σ H fun x H1=>tc σ H1 fun l H2=>l=some (-1)/\∃a xs,x=.ref a/\R8 K H2 a xs/\∀p,H2 p=none->Q (.ref p) (upd H2 p (.tup xs.reverse))
theorem vR{tc:TO}(he:PE X e te)(hc:PO X (some c) tc):PE X (.Subscript e (.Slice none none (some c) p2) pos) (Hm X.K te tc):=by
 refine .of ?_
 intro pins s σ H Q I h
 refine Subscript_ (A4 (he pins s σ H _ I h) fun v s1 ⟨x,H1,I1,r1,q1⟩=>?_)
 refine wpAny_Slice ?_
 rw[evalPart_none]
 refine wpAny_pure (wpAny_pure ?_)
 refine A4 (hc pins s1 σ H1 _ I1 q1) fun vc s2 ⟨l,H2,I2,pc,e1,a,xs,ex,hq,q2⟩=>?_
 subst e1 ex
 cases r1
 have I4:Inv X pins σ H2 { s2 with heap:=s2.heap.push { cls:=.type "slice",data:=.fields #[.none,.none,vc] } }:=I2.kept (t':=s2.toks) fun b ob q=>Heap.get?_push_of_some _ q
 obtain⟨its,r,ht,hz⟩:=I4.tuple hq
 have hlen:=r.length
 show wpAny (model X.prog X.w) X.A (subscriptTail e (.Slice none none (some c) p2) (.ref a) (.ref s2.heap.objs.size)) (EP X pins σ Q) X.xe { s2 with heap:=s2.heap.push { cls:=.type "slice",data:=.fields #[.none,.none,vc] } }
 refine tail_any (ops:=[.ref a,.ref s2.heap.objs.size]) ht.typeIs PyProof.Rows.slot_tuple_getitem.lookup ?_ (by with_unfolding_all rfl)
 refine HT.bJ ht (Heap.IsSliceOf.new ..) pc ?_ (by rw[List.size_toArray];omega)
 refine⟨.ref _,_,I4.laid (t':=s2.toks) (o:=.tup xs.reverse) (fun b ob q=>Heap.get?_push_of_some _ q) (Nat.le_refl _) ?_,rfl,q2 _ (I4.hok.fresh (Nat.le_refl _))⟩
 exact⟨by rw[List.length_reverse];exact hz,_,r.reverse,IsTup.new _ _⟩
end
end L2
namespace L3
open PySem PySem.Spec L2
section
variable{X:Cx}{cl:List Cl}{a c:Expr}{fa:Fl}{ua uc:TU}{pos p2:Pos}
def zd(ua:TU)(uc:Ge):TU:=fun ρ Q=>ua ρ fun d=>uc ρ fun l=>l=some (-1)/\match d with
 | .tup xs=>A2 xs=true/\Q (.tup xs.reverse)
 | _=>False
theorem xp{f:Fl}{uc:TU}(ha:PU X cl a fa ua)(hc:PU X cl c f uc):PU X cl (.Subscript a (.Slice none none (some c) p2) pos) .fresh (zd ua (bt uc)):=.of<|by
 obtain⟨ta,pa,ha⟩:=ha.run
 obtain⟨tl,pl,hl⟩:=(W8 hc).run
 refine⟨_,vR pa pl,fun G ρ σ H fo Q R hG E hu k=>ha G ρ σ H fo _ _ hG E hu fun v H1 d A s1 r1 f1 q1=>hl G ρ σ H1 fo _ _ hG (E.same s1) q1 fun o1 H2 s2 q2=>?_⟩
 obtain⟨e1,q2⟩:=q2
 cases d<;>first | exact(show False from q2).elim | skip
 obtain⟨p,vs,rfl,hp,rs⟩:=M7 (r1.same s2)
 have eB:=rs.C7 q2.1
 subst eB
 refine⟨e1,p,vs,rfl,R8.of hp,fun l hl=>?_⟩
 exact k _ _ _ [] ((s1.trans s2).trans (i3.i8 hl)) (.tup h9 ((nc rs).same (i3.i8 hl))) (B0.nil _) q2.2
end
end L3
namespace My
open PySem L2 L3
def wk(r:Gd×Int):Int:=lo r.1.cv-r.2
def X2(m:Int):List (Gd×Int)->Option (Str×Int)
 | []=>none
 | p::ps=>(ps.find? fun r=>decide (wk r<=m)&&decide (wk r<wk p)).map fun r=>(r.1.nm,wk r)
def O8(b:Bd)(m:Int)(xs:List Str):Option (Str×Str×Int):=xs.findSome? fun x=>(X2 m (eL b x)).map fun q=>(x,q.1,q.2)
def vK:Option (Str×Str×Int)->D
 | none=>.non
 | some (x,y,n)=>.tup [.str x,.str y,.int n]
def T2:Cp:=fun ds Q=>∃(b:Bd) (m:Int),ds=[bD b,.int m]/\p5 b/\J5 b (o8 b)=[]/\Q (vK (O8 b m (y9 b)))
def P7:Cp:=fun ds Q=>∃(b:Bd) (m:Int),ds=[bD b,.int m]/\p5 b/\1<=m/\Q (vK (O8 b m (y9 b)))
def N4:Cp:=fun ds Q=>∃(b:Bd) (u t:Int),ds=[bD b]/\p5 b/\KL b u t/\S6 u t/\∀b':Bd,p5 b'->b'.gs.length<=8->Q (bD b')
def dX:Cp:=fun ds Q=>∃(d:D) (ns:List Int),ds=[d]/\Bb d ns/\∀(b:Bd) (m c d' k':Int),p5 b->b.gs.length<=8->1<=m->m<=10^60->0<=k'->k'<=10^5->Q (.tup [bD b,.int m,feed c d' k'])
def bw:Cp:=fun ds Q=>∃(d:D) (ns:List Int),ds=[d]/\Bb d ns/\ns.length<=63/\Q (.bl true)
def oi:j7:=(A3 (bH (e9 (B8 (e5 2)) (e9 (B8 (i6 (i6 (e5 5) (uC (.int 0))) (uC (.int 0)))) (e9 (p4 D3 (e9 (e5 5) j4)) j4)))))
def lN:j7:=(hU (tP (vH (uT (w8 xQ (p4 D3 (e9 (e5 5) j4)) (e5 1))) (uT (w8 KD (p4 D3 (e9 (e5 5) j4)) (e5 4))))) oi J8)
def nq:j7:=(Q5 (iP (D7 (vi (e5 3) (bt (uC (.int 1))) jz))) (g1 5) lN)
def lS:j7:=(i5 (y8 4 (p4 D3 (e9 (i6 (e5 3) (uC (.int 0))) j4))) nq)
def eu:j7:=(i5 (y8 3 (p4 aI (e9 (e5 0) (e9 (e5 2) j4)))) lS)
def xW:j7:=(A3 (uC .non))
def zG:j7:=(i5 (Q5 (iP (D7 (p4 C8 (e9 (e5 0) j4)))) (g1 2) eu) xW)
def iE:j7:=(yo 2 (mP (Y9 (JG fun i j=>if j>i then j else i) (e9 (rA (e5 2) (i6 (e5 4) (uC (.int 1))) (uC (.int 0))) (e9 (e5 6) j4)))) (mP (i6 (e5 4) (uC (.int 1)))))
def iA:j7:=(i5 (cG (jQ 3 (mP (p4 M6 (e9 (e5 4) (e9 (w8 bP (e5 6) (e5 5)) j4)))))) iE)
def ip:j7:=(i5 (y8 6 (Y9 (JG fun i j=>if j>i then j else i) (e9 (rA (e5 2) (i6 (e5 4) (uC (.int 0))) (uC (.int 0))) (e9 (e5 5) j4)))) iA)
def iq:j7:=(i5 (y8 5 (w8 bP (i6 (i6 (i6 (e5 4) (uC (.int 2))) (uC (.int 0))) (uC (.int 0))) (i6 (e5 1) (i6 (e5 4) (uC (.int 0)))))) ip)
def pT:j7:=(A3 (bH (e9 (Y9 bB (e9 (Em (e5 3) (bt (Iz vo (uC (.int 1))))) j4)) (e9 (B8 (i6 (e5 0) (uC (.int 1)))) j4))))
def qm:j7:=(i5 (Q5 (iP (D7 (zd (i6 (e5 0) (uC (.int 0))) (bt (Iz vo (uC (.int 1))))))) (g1 4) iq) pT)
def qG:j7:=(i5 (y8 3 (av j4)) qm)
def pI:j7:=(i5 (y8 2 (uC (.dn []))) qG)
def mV:j7:=(i5 (y8 1 (p4 L0 (e9 (e5 0) j4))) pI)
def qZ:j7:=(y8 1 (p4 N4 (e9 (e5 1) j4)))
def DZ:j7:=(ED 3 (mP (B8 (e5 1))) (x6 3 ez (o7 (EZ bc (o7 (mP (e5 1)) (o7 (iy (mP (e5 4)) (x6 3 p9 (o7 (mP (Y9 eN (e9 (e5 4) j4))) A8))) A8))) (o7 (mP (e5 2)) A8))))
def sH:j7:=(i5 (y8 4 (p4 S3 (e9 (e5 1) j4))) DZ)
def De:j7:=(i5 (hU (mT (Z5 IV (x6 3 p9 (o7 (mP (uC (.int 4))) A8)) (mP (uC (.int 0))))) qZ J8) sH)
def CA:j7:=(i5 (y8 3 (p4 O3 (e9 (e5 0) (e9 (uC (.int 19)) j4)))) De)
def EK:j7:=(i5 (Ay (gT (C6 (g1 1) (C6 (g1 2) bR))) (p4 Z9 (e9 (e5 0) j4))) CA)
def kL:j7:=(A3 (bH (e9 (B8 (i6 (e5 2) (uC (.int 0)))) (e9 (B8 (i6 (i6 (i6 (e5 3) (e5 4)) (uC (.int 0))) (uC (.int 0)))) (e9 (B8 (e5 5)) j4)))))
def bZ:j7:=(hU (tP (vH (uT (w8 (eM true) (p4 X6 (e9 (e5 3) (e9 (e5 4) (e9 (e5 5) j4)))) (uC .non))) (uT (w8 (eM false) (p4 X6 (e9 (e5 3) (e9 (uC (.int 0)) (e9 (e5 5) j4)))) (uC .non))))) kL J8)
def kM:j7:=(Q5 (iP (D7 (p4 ai (e9 (e5 3) (e9 (e5 1) j4))))) (g1 5) bZ)
def kf:j7:=(Q5 (iP (EY (e9 (uC (.int 1)) (e9 (Y9 eN (e9 (e5 3) j4)) j4)))) (g1 4) kM)
def cq:j7:=(i5 (y8 3 (p4 bc (e9 (e5 0) (e9 (i6 (e5 2) (uC (.int 0))) j4)))) kf)
def uF:j7:=(A3 (uC .non))
def rE:j7:=(i5 (Q5 (iP (D7 (i6 (e5 0) (uC (.int 0))))) (g1 2) cq) uF)
def ki:j7:=(A3 (B8 (i6 (e5 0) (e5 1))))
def vD:j7:=(A3 (uC (.int 0)))
def sN:j7:=(i5 (hU (tP (uT (w8 KD (e5 1) (Y9 eN (e9 (e5 0) j4))))) ki J8) vD)
def CQ:j7:=(A3 (av (e9 (B8 (e5 2)) (e9 (B8 (e5 2)) (e9 (w8 F0 (uC (.int 100)) (e5 1)) j4)))))
def Et:j7:=(i5 (y8 2 (p4 S1 (e9 (e5 0) (e9 (e5 1) j4)))) CQ)
def qA:j7:=(A3 (B8 (e5 2)))
def pJ:j7:=(i5 (uX 0 (mP (w8 CD (i6 (e5 0) (uC (.int 1))) (e5 1))) (mP (uC (.int 1)))) qA)
def oZ:j7:=(i5 (y8 2 (w8 gz (i6 (e5 0) (uC (.int 1))) (e5 1))) pJ)
def Cg:j7:=(A3 (w8 gz (w8 CD (w8 gz (w8 F0 (e5 3) (w8 x9 (w8 gz (e5 3) (uC (.int 65521))) (uC (.int 3)))) (uC (.int 2147483629))) (uC (.int 5))) (e5 1)))
def BC:j7:=(i5 (y8 3 (w8 gz (w8 x9 (w8 x9 (e5 3) (w8 F0 (w8 F0 (i6 (e5 0) (uC (.int 2))) (i6 (e5 0) (uC (.int 2)))) (uC (.int 69621)))) (uC (.int 11))) (uC (.int 2147483647)))) Cg)
def CC:j7:=(i5 (y8 3 (w8 x9 (w8 F0 (w8 gz (i6 (e5 0) (uC (.int 0))) (uC (.int 2147483629))) (uC (.int 48271))) (w8 F0 (uC (.int 7919)) (i6 (e5 0) (uC (.int 2)))))) BC)
def BQ:j7:=(i5 (hU (tP (vH (uT (w8 Ly (i6 (e5 0) (uC (.int 0))) (w8 Cq (uC (.int 10)) (uC (.int 18))))) (uT (w8 IV (i6 (e5 0) (uC (.int 1))) (uC (.int 0)))))) oZ J8) CC)
def Ed:j7:=(i5 (uX 0 (mP (w8 x9 (i6 (e5 0) (uC (.int 2))) (uC (.int 1)))) (mP (uC (.int 2)))) BQ)
def lI:j7:=(y8 4 (mZ [none,some 2,some 3] (eE (e5 1)) (g1 0) Y7 (w8 F0 (i6 (e5 1) (w8 gz (w8 x9 (e5 2) (e5 0)) (uC (.int 26)))) (w8 x9 (uC (.int 1)) (w8 CD (e5 0) (uC (.int 26)))))))
def lP:j7:=(cG (jQ 4 (mP (w8 x9 (Ad (uC (.str "")) (mZ [none,some 2] (D7 (e5 11)) (g1 0) Y7 (B8 (i6 (e5 1) (e5 0))))) (w8 F0 (i6 (e5 2) (e5 3)) (w8 F0 (e5 9) (w8 gz (e5 10) (uC (.int 2)))))))))
def ni:j7:=(i5 (uX 11 (mP (w8 gz (w8 x9 (i6 (e5 6) (e5 8)) (w8 CD (e5 10) (uC (.int 26)))) (uC (.int 26)))) (mP (e5 8))) lP)
def lY:j7:=(i5 (uX 11 (mP (w8 gz (w8 x9 (i6 (e5 6) (e5 7)) (e5 10)) (uC (.int 26)))) (mP (e5 7))) ni)
def lU:j7:=(i5 (y8 11 (Y9 ER (e9 (e5 6) j4))) lY)
def nH:j7:=(Q5 (iP (eE (e5 1))) (g1 10) lU)
def nW:j7:=(i5 (y8 4 (av j4)) nH)
def mU:j7:=(i5 (G0 9 (Z5 F0 (x6 0 p9 (o7 (mP (uC (.int 2))) A8)) (mP (Y9 oD (e9 (w8 KD (e5 5) (uC (.int 8))) j4))))) nW)
def nT:j7:=(i5 (G0 8 (Z5 gz (Z5 x9 (mP (w8 x9 (e5 7) (uC (.int 1)))) (x6 0 p9 (o7 (mP (w8 bP (e5 5) (uC (.int 1)))) A8))) (mP (e5 5)))) mU)
def lC:j7:=(i5 (G0 7 (x6 0 p9 (o7 (mP (e5 5)) A8))) nT)
def mq:j7:=(i5 (G0 6 (Ms 1 0 [none,some 0] (iP (eE (e5 5))) (g1 0) JH (x6 1 p9 (o7 (mP (uC (.int 26))) A8)))) lC)
def oM:j7:=(i5 (G0 5 (Z5 x9 (mP (uC (.int 2))) (x6 0 p9 (o7 (mP (uC (.int 7))) A8)))) mq)
def lH:j7:=(uX 4 (mP (B8 (e5 12))) (x6 0 p9 (o7 (mP (e5 1)) A8)))
def yQ:j7:=(A3 (e5 4))
def mz:j7:=(i5 (hU (tP (vH (uT (w8 (bx true) (e5 12) (uC (.str "")))) (uT (w8 (mH true) (e5 12) (e5 4))))) lH J8) yQ)
def lV:j7:=(i5 (G0 12 (qV (iy (mP (av (e9 (uC (.str "guard")) (e9 (uC (.str "load")) (e9 (uC (.str "on")) (e9 (uC (.str "off")) (e9 (uC (.str "board")) (e9 (uC (.str "map")) (e9 (uC (.str "least")) (e9 (uC (.str "")) (e9 (uC (.str "")) (e9 (uC (.str "")) (e9 (uC (.str "")) j4))))))))))))) (x6 0 p9 (o7 (mP (uC (.int 11))) A8))))) mz)
def xF:j7:=(i5 (hU (mT (Z5 (bx false) (x6 0 p9 (o7 (mP (uC (.int 5))) A8)) (mP (uC (.int 0))))) lI oM) lV)
def Aq:j7:=(i5 (G0 3 (x6 0 p9 (o7 (mP (uC (.int 26))) A8))) xF)
def wF:j7:=(i5 (y8 2 (uC (.str "abcdefghijklmnopqrstuvwxyz"))) Aq)
def dY:j7:=(bF 1 (mP (Ia (w8 yk (av (e9 (B8 (i6 (e5 2) (uC (.int 0)))) j4)) (gA (e5 1) (i6 (e5 2) (uC (.int 1))) (Ia (av j4)))))) (mP (i6 (e5 2) (uC (.int 0)))))
def dW:j7:=(bF 1 (mP (B8 (i6 (e5 1) (i6 (e5 3) (uC (.int 1)))))) (mP (i6 (e5 3) (uC (.int 0)))))
def wU:j7:=(A3 (e5 1))
def oG:j7:=(i5 (Q5 (iP (D7 (i6 (e5 0) (uC (.int 1))))) (g1 3) dW) wU)
def zH:j7:=(i5 (Q5 (iP (D7 (i6 (e5 0) (uC (.int 0))))) (g1 2) dY) oG)
def zb:j7:=(i5 (y8 1 (uC (.dic []))) zH)
def ix:j7:=(cG (jQ 5 (Z5 x9 (mP (w8 x9 (i6 (e5 5) (Iz vo (uC (.int 1)))) (uC (.int 1)))) (x6 0 p9 (o7 (mP (uC (.int 3))) A8)))))
def iC:j7:=(i5 (cG (jQ 4 (Z5 x9 (mP (w8 x9 (i6 (e5 4) (Iz vo (uC (.int 1)))) (uC (.int 1)))) (x6 0 p9 (o7 (mP (uC (.int 9))) A8))))) ix)
def gU:j7:=(A3 (Y9 bB (e9 (mZ [none,some 1,some 2,some 4,some 5,some 3] (eE (e5 3)) (g1 0) Y7 (bH (e9 (w8 F0 (i6 (e5 3) (e5 0)) (e5 1)) (e9 (w8 F0 (i6 (e5 4) (w8 bP (w8 bP (e5 5) (uC (.int 1))) (e5 0))) (e5 2)) j4)))) j4)))
def pQ:j7:=(i5 (Q5 (iP (eE (w8 bP (e5 3) (uC (.int 1))))) (g1 6) iC) gU)
def pK:j7:=(i5 (G0 5 (DJ (o7 (Z5 x9 (mP (uC (.int 1))) (x6 0 p9 (o7 (mP (uC (.int 3))) A8))) A8))) pQ)
def ra:j7:=(i5 (G0 4 (DJ (o7 (Z5 x9 (mP (uC (.int 1))) (x6 0 p9 (o7 (mP (uC (.int 10))) A8))) A8))) pK)
def mR:j7:=(i5 (G0 3 (Z5 x9 (mP (uC (.int 1))) (x6 0 p9 (o7 (mP (uC (.int 5))) A8)))) ra)
def sU:j7:=(A3 (w8 x9 (w8 x9 (vi (e5 0) jz (bt (uC (.int 2)))) (bH (e9 (Y9 bB (e9 (mZ [none,some 1] (D7 (i6 (e5 0) (uC (.int 2)))) (g1 0) Y7 (bH (e9 (w8 x9 (i6 (e5 0) (uC (.int 0))) (e5 1)) (e9 (B8 (i6 (e5 0) (uC (.int 1)))) j4)))) j4)) j4))) (vi (e5 0) (bt (uC (.int 3))) jz)))
def mh:j7:=(bF 2 (mP (w8 x9 (i6 (e5 2) (e5 4)) (w8 F0 (i6 (e5 3) (uC (.int 3))) (Y9 oD (e9 (i6 (e5 3) (uC (.int 4))) j4))))) (mP (e5 4)))
def dO:j7:=(Q5 (iP (D7 (i6 (e5 1) (i6 (e5 3) (uC (.int 0)))))) (g1 4) mh)
def xK:j7:=(A3 (e5 2))
def lE:j7:=(i5 (Q5 (iP (D7 (i6 (e5 0) (uC (.int 1))))) (g1 3) dO) xK)
def yz:j7:=(i5 (y8 2 (Y9 qE (e9 (mZ [none] (D7 (i6 (e5 0) (uC (.int 0)))) (g1 0) Y7 (bH (e9 (B8 (i6 (e5 0) (uC (.int 0)))) (e9 (uC (.int 0)) j4)))) j4))) lE)
def wd:j7:=(i5 (y8 1 (p4 T1 (e9 (e5 0) j4))) yz)
def fH:j7:=(cG (jQ 4 (BN (o7 (mP (B8 (i6 (e5 1) (e5 5)))) (o7 (mP (i6 (w8 x9 (av (e9 (uC .non) j4)) (e5 1)) (e5 7))) (o7 (mP (B8 (e5 8))) (o7 (mP (B8 (e5 9))) (o7 (Z5 F0 (x6 6 p9 (o7 (mP (uC (.int 3))) A8)) (mP (e5 3))) A8))))))))
def fP:j7:=(i5 (G0 9 (Z5 F0 (x6 6 p9 (o7 (mP (uC (.int 4))) A8)) (mP (e5 3)))) fH)
def fN:j7:=(i5 (G0 8 (x6 6 N2 (o7 (mP (e5 2)) (o7 (mP (e5 3)) A8)))) fP)
def fZ:j7:=(i5 (G0 7 (qV (iy (DJ (o7 (x6 6 p9 (o7 (mP (w8 x9 (e5 5) (uC (.int 1)))) A8)) (o7 (mP (B8 (e5 5))) A8))) (IP oD (o7 (Z5 IV (x6 6 p9 (o7 (mP (uC (.int 3))) A8)) (mP (uC (.int 0)))) A8))))) fN)
def gM:j7:=(i5 (y8 6 (p4 O3 (e9 (e5 0) (e9 (w8 x9 (uC (.int 2)) (e5 5)) j4)))) fZ)
def mY:j7:=(A3 (e5 4))
def nU:j7:=(i5 (Q5 (iP (eE (Y9 eN (e9 (e5 1) j4)))) (g1 5) gM) mY)
def iR:j7:=(i5 (y8 4 (av j4)) nU)
def iz:j7:=(cG (jQ 9 (BN (o7 (Z5 F0 (Z5 x9 (mP (uC (.int 1))) (x6 7 p9 (o7 (mP (uC (.int 3))) A8))) (mP (e5 4))) (o7 (Z5 F0 (x6 7 p9 (o7 (mP (uC (.int 12))) A8)) (mP (e5 3))) A8)))))
def iB:j7:=(cG (jQ 5 (BN (o7 (mP (B8 (i6 (e5 1) (e5 6)))) (o7 (mP (B8 (e5 8))) (o7 (mP (Y9 bB (e9 (e5 9) j4))) (o7 (Z5 F0 (x6 7 p9 (o7 (mP (uC (.int 4))) A8)) (mP (e5 3))) (o7 (Z5 IV (x6 7 p9 (o7 (mP (uC (.int 4))) A8)) (mP (uC (.int 0)))) A8))))))))
def iw:j7:=(i5 (Q5 (Kv (x6 7 p9 (o7 (mP (uC (.int 5))) A8))) (g1 10) iz) iB)
def ia:j7:=(i5 (y8 9 (av j4)) iw)
def ib:j7:=(i5 (G0 8 (qV (iy (iy (mP (e5 2)) (x6 7 p9 (o7 (mP (Y9 eN (e9 (e5 2) j4))) A8))) (mP (uC (.int 0)))))) ia)
def ic:j7:=(i5 (y8 7 (p4 O3 (e9 (e5 0) (e9 (w8 x9 (uC (.int 10)) (e5 6)) j4)))) ib)
def qc:j7:=(A3 (e5 5))
def qv:j7:=(i5 (Q5 (iP (eE (Y9 eN (e9 (e5 1) j4)))) (g1 6) ic) qc)
def mf:j7:=(i5 (y8 5 (av j4)) qv)
def ir:j7:=(y8 6 (mZ [none,some 8] (D7 (e5 6)) (g1 0) Y7 (p4 M6 (e9 (e5 0) (e9 (i6 (e5 1) (i6 (e5 0) (uC (.int 0)))) j4)))))
def gY:j7:=(A3 (bH (e9 (Y9 bB (e9 (e5 6) j4)) (e9 (Y9 bB (e9 (e5 7) j4)) j4))))
def pM:j7:=(i5 (hU (mT (Z5 IV (x6 3 p9 (o7 (mP (uC (.int 8))) A8)) (mP (uC (.int 0))))) ir J8) gY)
def pO:j7:=(i5 (y8 8 (p4 L0 (e9 (bH (e9 (e5 6) (e9 (e5 7) j4))) j4))) pM)
def qe:j7:=(i5 (y8 7 (p4 O1 (e9 (e5 0) (e9 (vi (e5 5) (bt (e5 4)) jz) (e9 (e5 6) (e9 (e5 1) (e9 (e5 2) j4))))))) pO)
def qj:j7:=(i5 (y8 6 (p4 K5 (e9 (e5 0) (e9 (vi (e5 5) jz (bt (e5 4))) (e9 (e5 1) (e9 (e5 2) j4)))))) qe)
def qY:j7:=(i5 (G0 5 (zc aa (mP (p4 O3 (e9 (e5 0) (e9 (uC (.int 1)) j4)))) (o7 (Z5 x9 (mP (e5 4)) (x6 3 p9 (o7 (mP (uC (.int 9))) A8))) A8))) qj)
def rj:j7:=(i5 (G0 4 (Z5 x9 (mP (uC (.int 1))) (x6 3 p9 (o7 (mP (uC (.int 8))) A8)))) qY)
def lM:j7:=(i5 (y8 3 (p4 O3 (e9 (e5 0) (e9 (uC (.int 0)) j4)))) rj)
def Ai:j7:=(A3 (bH (e9 (p4 N3 (e9 (e5 0) (e9 (e5 2) (e9 (e5 3) j4)))) (e9 (B8 (e5 2)) j4))))
def Ar:j7:=(i5 (G0 3 (qV (iy (mP (av (e9 (uC (.int 1)) (e9 (uC (.int 1)) (e9 (uC (.int 5)) (e9 (w8 Cq (uC (.int 10)) (uC (.int 40))) j4)))))) (x6 1 p9 (o7 (mP (uC (.int 4))) A8))))) Ai)
def xE:j7:=(i5 (G0 2 (qV (iy (mP (av (e9 (uC (.int 1)) (e9 (uC (.int 1)) (e9 (uC (.int 7)) (e9 (w8 x9 (w8 Cq (uC (.int 10)) (uC (.int 50))) (uC (.int 3))) j4)))))) (x6 1 p9 (o7 (mP (uC (.int 4))) A8))))) Ar)
def wM:j7:=(i5 (y8 1 (p4 O3 (e9 (e5 0) (e9 (uC (.int 18)) j4)))) xE)
def mF:j7:=(A3 (uC (.bl true)))
def nO:j7:=(A3 (uC (.bl false)))
def yD:j7:=(A3 (w8 (bx false) (Y9 fL (e9 (p4 T2 (e9 (e5 1) (e9 (e5 2) j4))) j4)) (e5 4)))
def Ak:j7:=(i5 (hU (tP (Lh (uT (w8 (bx true) (Y9 fL (e9 (p4 T2 (e9 (e5 1) (e9 (e5 2) j4))) j4)) (e5 4))) (uT (w8 (bx true) (Y9 fL (e9 (p4 T2 (e9 (e5 1) (e9 (uC (.int 1)) j4))) j4)) (Y9 fL (e9 (p4 P7 (e9 (e5 1) (e9 (uC (.int 1)) j4))) j4)))))) nO J8) yD)
def zw:j7:=(i5 (y8 4 (Y9 fL (e9 (p4 P7 (e9 (e5 1) (e9 (e5 2) j4))) j4))) Ak)
def yu:j7:=(i5 (hU (tP (uT (w8 (eM true) (p4 Z3 (e9 (e5 1) j4)) (uC .non)))) mF J8) zw)
def yW:j7:=(i5 (Ay (gT (C6 (g1 1) (C6 (g1 2) (C6 (g1 3) bR)))) (p4 dX (e9 (e5 0) j4))) yu)
def top(i:Nat):Stmt:=PySem.Challenge.pw_fuseboard_k50_blind_pairs.main.body.getD i (.Pass ⟨0,0,0,0⟩)
abbrev V7:Stmt:=top 1
abbrev R5:Stmt:=top 7
abbrev P9:Stmt:=top 8
abbrev V9:Stmt:=top 9
abbrev P8:Stmt:=top 10
abbrev T9:Stmt:=top 11
abbrev Q0:Stmt:=top 12
abbrev bI:Stmt:=top 13
abbrev gC:Stmt:=top 14
abbrev L9:Stmt:=top 16
abbrev L8:Stmt:=top 18
abbrev du:Stmt:=top 17
abbrev gJ:Stmt:=top 19
abbrev bL:Stmt:=top 20
abbrev dI:Stmt:=top 21
abbrev L7:Stmt:=top 22
abbrev X8:Stmt:=top 24
abbrev U3:Stmt:=top 27
abbrev cY:Stmt:=top 26
abbrev aY:Stmt:=top 29
abbrev iK:Stmt:=top 30
abbrev iF:Stmt:=top 31
abbrev X1:Stmt:=top 32
abbrev df:Stmt:=top 33
abbrev Q9:Stmt:=top 34
abbrev W7:Stmt:=top 35
abbrev bO:Stmt:=top 36
abbrev Q3:Stmt:=top 37
abbrev U4:Stmt:=top 38
abbrev R4:Stmt:=top 39
abbrev ed:Stmt:=top 40
abbrev dw:Stmt:=top 42
abbrev dm:Stmt:=top 43
abbrev S4:Stmt:=top 44
abbrev dt:Stmt:=top 45
abbrev iJ:Stmt:=top 46
abbrev U2:Stmt:=top 47
abbrev jf:Stmt:=top 48
abbrev bA:Stmt:=top 49
abbrev aT:Stmt:=top 51
abbrev X4:Stmt:=top 52
section
variable{P:Program}{w:World}{K:PySem.W.Frag}{mg:Str->Option Value}{base:Heap}
local macro_rules | `(tactic| walk_at "s") => `(tactic| exact ⟨rfl,rfl,rfl,by decide +kernel,rfl,by decide +kernel,by decide +kernel⟩)
theorem tK:j6 ["curve"] ["curve"] (e6 V7):=by walk_at "s"
theorem tm {f:Addr} {fd:FuncData} (F:P6 K "least_of" "least_of" V7 f fd)
  (len:∀ds Q,G3 ds Q->ds.length=1) (rd:∀ds Q,G3 ds Q->lp (EP Q) (g7 1 ds)):x5 P w K mg base O9 1 f fd ["curve"] (w5 K G3):=
 Z0 (cl:=[.bor]) F tK rfl len (fun cdv A outer s0 H E hr=>(R7 rfl (u7 (PU.A7 (g4 (g6 hr) (g4 (g6 hr) (d8 0 (pv 0) rfl) d9 (fun _ _=>rfl)) d9 (fun _ _=>rfl))) rfl))) rd
theorem tI:j6 ["rows"] ["rows"] (e6 R5):=by walk_at "s"
theorem qt:(["row"]:List Str).Nodup:=by decide +kernel
theorem vF {f:Addr} {fd:FuncData} (F:P6 K "names_of" "names_of" R5 f fd)
  (len:∀ds Q,G7 ds Q->ds.length=1) (rd:∀ds Q,G7 ds Q->kQ (EP Q) (g7 1 ds)):x5 P w K mg base O9 1 f fd ["rows"] (w5 K G7):=
 Z0 (cl:=[.bor]) F tI rfl len (fun cdv A outer s0 H E hr=>(R7 rfl (u7 (Y1 (XN:=["rows"]) (N:=["row"]) (XS:=e6 R5) (cap:=[none]) (by decide +kernel) rfl rfl rfl rfl (u4 (d8 0 (pv 0) rfl)) (fun _ _ _ _=>(o4 (i7 (i:=0) qt rfl (Or.inl rfl)) rfl)) (fun _ _ _ _=>G1) (fun _ _ _ _=>(PU.A7 (g4 (g6 hr) (d8 0 (pv 0) rfl) d9 (fun _ _=>rfl))))) rfl))) rd
theorem rf:j6 ["board"] ["board"] (e6 P9):=by walk_at "s"
theorem qO {f:Addr} {fd:FuncData} (F:P6 K "guards_of" "guards_of" P9 f fd) {fNamesOf:Addr} {fdNamesOf:FuncData} (CNamesOf:A5 P w K mg base "names_of" 1 ["rows"] (w5 K G7) fNamesOf fdNamesOf)
  (len:∀ds Q,C8 ds Q->ds.length=1) (rd:∀ds Q,C8 ds Q->iZ (EP Q) (g7 1 ds)):x5 P w K mg base O9 2 f fd ["board"] (w5 K C8):=
 Z0 (cl:=[.bor]) F rf rfl len (fun cdv A outer s0 H E hr=>(R7 rfl (u7 (i4 CNamesOf (hr.mono (by decide)) (by rfl) (e7 (g4 (g6 hr) (d8 0 (pv 0) rfl) d9 (fun _ _=>rfl)) g9 rfl) rfl) rfl))) rd
theorem tM:j6 ["board"] ["board"] (e6 V9):=by walk_at "s"
theorem tW {f:Addr} {fd:FuncData} (F:P6 K "loads_of" "loads_of" V9 f fd) {fNamesOf:Addr} {fdNamesOf:FuncData} (CNamesOf:A5 P w K mg base "names_of" 1 ["rows"] (w5 K G7) fNamesOf fdNamesOf)
  (len:∀ds Q,N1 ds Q->ds.length=1) (rd:∀ds Q,N1 ds Q->mW (EP Q) (g7 1 ds)):x5 P w K mg base O9 2 f fd ["board"] (w5 K N1):=
 Z0 (cl:=[.bor]) F tM rfl len (fun cdv A outer s0 H E hr=>(R7 rfl (u7 (i4 CNamesOf (hr.mono (by decide)) (by rfl) (e7 (g4 (g6 hr) (d8 0 (pv 0) rfl) d9 (fun _ _=>rfl)) g9 rfl) rfl) rfl))) rd
theorem pq:j6 ["board","thing"] ["board","thing"] (e6 P8):=by walk_at "s"
theorem pW {f:Addr} {fd:FuncData} (F:P6 K "has_guard" "has_guard" P8 f fd) {fGuardsOf:Addr} {fdGuardsOf:FuncData} (CGuardsOf:A5 P w K mg base "guards_of" 2 ["board"] (w5 K C8) fGuardsOf fdGuardsOf) (hisinstance:mg "isinstance"=none) (hstr:mg "str"=none)
  (len:∀ds Q,J9 ds Q->ds.length=2) (rd:∀ds Q,J9 ds Q->jx (EP Q) (g7 2 ds)):x5 P w K mg base O9 3 f fd ["board","thing"] (w5 K J9):=
 Z0 (cl:=[.bor,.bor]) F pq rfl len (fun cdv A outer s0 H E hr=>(R7 rfl (u7 (qX (w6 dZ EH (by rfl) hisinstance PyProof.Rows.boot_isinstance (e7 (d8 1 (pv 1) rfl) (e7 (EA (rF (v:=.ty "str") rfl hstr PyProof.Rows.boot_str rfl)) g9 rfl) rfl)) (gR (vO (g6 hr) (d8 1 (pv 1) rfl) (i4 CGuardsOf (hr.mono (by decide)) (by rfl) (e7 (d8 0 (pv 0) rfl) g9 rfl) rfl) rfl))) rfl))) rd
theorem tH:j6 ["board","thing"] ["board","thing"] (e6 T9):=by walk_at "s"
theorem vj {f:Addr} {fd:FuncData} (F:P6 K "has_load" "has_load" T9 f fd) {fLoadsOf:Addr} {fdLoadsOf:FuncData} (CLoadsOf:A5 P w K mg base "loads_of" 2 ["board"] (w5 K N1) fLoadsOf fdLoadsOf) (hisinstance:mg "isinstance"=none) (hstr:mg "str"=none)
  (len:∀ds Q,N6 ds Q->ds.length=2) (rd:∀ds Q,N6 ds Q->mG (EP Q) (g7 2 ds)):x5 P w K mg base O9 3 f fd ["board","thing"] (w5 K N6):=
 Z0 (cl:=[.bor,.bor]) F tH rfl len (fun cdv A outer s0 H E hr=>(R7 rfl (u7 (qX (w6 dZ EH (by rfl) hisinstance PyProof.Rows.boot_isinstance (e7 (d8 1 (pv 1) rfl) (e7 (EA (rF (v:=.ty "str") rfl hstr PyProof.Rows.boot_str rfl)) g9 rfl) rfl)) (gR (vO (g6 hr) (d8 1 (pv 1) rfl) (i4 CLoadsOf (hr.mono (by decide)) (by rfl) (e7 (d8 0 (pv 0) rfl) g9 rfl) rfl) rfl))) rfl))) rd
theorem pf:j6 ["board","thing"] ["board","thing"] (e6 Q0):=by walk_at "s"
theorem pC {f:Addr} {fd:FuncData} (F:P6 K "has_place" "has_place" Q0 f fd) {fHasGuard:Addr} {fdHasGuard:FuncData} (CHasGuard:A5 P w K mg base "has_guard" 3 ["board","thing"] (w5 K J9) fHasGuard fdHasGuard) {fHasLoad:Addr} {fdHasLoad:FuncData} (CHasLoad:A5 P w K mg base "has_load" 3 ["board","thing"] (w5 K N6) fHasLoad fdHasLoad)
  (len:∀ds Q,K2 ds Q->ds.length=2) (rd:∀ds Q,K2 ds Q->jw (EP Q) (g7 2 ds)):x5 P w K mg base O9 4 f fd ["board","thing"] (w5 K K2):=
 Z0 (cl:=[.bor,.bor]) F pf rfl len (fun cdv A outer s0 H E hr=>(R7 rfl (u7 (Ep (i4 CHasGuard (hr.mono (by decide)) (by rfl) (e7 (d8 0 (pv 0) rfl) (e7 (d8 1 (pv 1) rfl) g9 rfl) rfl) rfl) (gR (i4 CHasLoad (hr.mono (by decide)) (by rfl) (e7 (d8 0 (pv 0) rfl) (e7 (d8 1 (pv 1) rfl) g9 rfl) rfl) rfl))) rfl))) rd
theorem eU:j6 ["guards","name","unders","guard","found"] ["guards","name"] (e6 bI):=by walk_at "s"
theorem zr:(["guard"]:List Str).Nodup:=by decide +kernel
theorem Ea {f:Addr} {fd:FuncData} (F:P6 K "climb" "climb" bI f fd)
  (len:∀ds Q,aq ds Q->ds.length=2) (rd:∀ds Q,aq ds Q->Al (EP Q) (g7 5 ds)):x5 P w K mg base O9 1 f fd ["guards","name"] (w5 K aq):=
 Z0 (cl:=[.bor,.bor,.bor,.bor,.own]) F eU rfl len (fun cdv A outer s0 H E hr=>(AB rfl (kB (i:=2) (XN:=["guards","name","unders","guard","found"]) (N:=["guard"]) (XS:=e6 bI) (cap:=[none]) eU.nd rfl rfl rfl (by decide +kernel) rfl rfl rfl rfl (u4 (d8 0 (pv 0) rfl)) (fun _ _ _ _=>(o4 (i7 (i:=0) zr rfl (Or.inl rfl)) rfl)) (fun _ _ _ _=>G1) (fun _ _ _ _=>(g4 (g6 hr) (d8 0 (pv 0) rfl) d9 (fun _ _=>rfl))) (fun _ _ _ _=>(g4 (g6 hr) (d8 0 (pv 0) rfl) d9 (fun _ _=>rfl))))
   (u3 (i:=4) eU.nd rfl (Or.inl rfl) (G2 y1 rfl) rfl)
   (BZ PassesOwn.never (T7.m (ak (d8 1 (pv 1) rfl) M5 (u9 _))) (yp rfl (aj (PM.n (K1 (r:=M8) 4 (pv 4) rfl (PU.m (PU.A7 (d8 1 (pv 1) rfl))) rfl (fun pa=>bQ PySem.F.plainAttrs_list PySem.F.slot_list_append PySem.F.type_list_append E6 (pv 4) pa))))
   (u3 (i:=1) eU.nd rfl (Or.inl rfl) (g4 (g6 hr) (d8 2 (pv 2) rfl) (d8 1 (pv 1) rfl) (fun _ _=>rfl)) rfl)))
   (aA 4 (pv 4) (by decide) rfl))) rd
theorem zl:j6 ["board","place","ats","load"] ["board","place"] (e6 gC):=by walk_at "s"
theorem Cb:(["load"]:List Str).Nodup:=by decide +kernel
theorem Ie {f:Addr} {fd:FuncData} (F:P6 K "over" "over" gC f fd) {fHasPlace:Addr} {fdHasPlace:FuncData} (CHasPlace:A5 P w K mg base "has_place" 4 ["board","thing"] (w5 K K2) fHasPlace fdHasPlace) {fClimb:Addr} {fdClimb:FuncData} (CClimb:A5 P w K mg base "climb" 1 ["guards","name"] (w5 K aq) fClimb fdClimb) {cNoPlace:Addr} (ownNoPlace:PyProof.Rows.OwnCls "NoPlace" cNoPlace [.type "ValueError",.type "Exception",.type "BaseException",.type "object"] "ValueError.__new__" mg base)
  (len:∀ds Q W,eh ds Q W->ds.length=2) (rd:∀ds Q W,eh ds Q W->Fi W (EP Q) (g7 4 ds)):x5 P w K mg base (El P w) 5 f fd ["board","place"] (JM K mg eh):=
 fnX (cl:=[.bor,.bor,.bor,.bor]) F zl rfl len (fun W cdv A outer s0 H E hr wi=>(Ex rfl (T5 (T7.m (jR (U5 (i4 CHasPlace (hr.mono (by decide)) (by rfl) (e7 (d8 0 (pv 0) rfl) (e7 (d8 1 (pv 1) rfl) g9 rfl) rfl) rfl) (fun _=>rfl)))) (R7 rfl (BL (j:=4) ownNoPlace PySem.F.excBase_ValueError rfl PySem.F.excBase_ValueError rfl uK wi rfl (by rfl) (e7 J2 g9 rfl) rfl)) K9)
   (kB (i:=2) (XN:=["board","place","ats","load"]) (N:=["load"]) (XS:=e6 gC) (cap:=[none]) zl.nd rfl rfl rfl (by decide +kernel) rfl rfl rfl rfl (u4 (g4 (g6 hr) (d8 0 (pv 0) rfl) d9 (fun _ _=>rfl))) (fun _ _ _ _=>(o4 (i7 (i:=0) Cb rfl (Or.inl rfl)) rfl)) (fun _ _ _ _=>G1) (fun _ _ _ _=>(g4 (g6 hr) (d8 0 (pv 0) rfl) d9 (fun _ _=>rfl))) (fun _ _ _ _=>(g4 (g6 hr) (d8 0 (pv 0) rfl) d9 (fun _ _=>rfl))))
   (u7 (i4 CClimb (hr.mono (by decide)) (by rfl) (e7 (g4 (g6 hr) (d8 0 (pv 0) rfl) d9 (fun _ _=>rfl)) (e7 (cF (g6 hr) (d8 2 (pv 2) rfl) (d8 1 (pv 1) rfl) (d8 1 (pv 1) rfl) ⟨rfl,rfl,rfl,rfl⟩) g9 rfl) rfl) rfl) rfl))) rd
theorem O6:j6 ["board","opened","apart","found","guard","name","under"] ["board","opened"] (e6 L9):=by walk_at "s"
theorem oa {f:Addr} {fd:FuncData} (F:P6 K "fed_guards" "fed_guards" L9 f fd) (hset:mg "set"=none)
  (len:∀ds Q,D5 ds Q->ds.length=2) (rd:∀ds Q,D5 ds Q->gp (EP Q) (g7 7 ds)):x5 P w K mg base O9 1 f fd ["board","opened"] (w5 K D5):=
 Z0 (cl:=[.bor,.bor,.bor,.own,.bor,.bor,.bor]) F O6 rfl len (fun cdv A outer s0 H E hr=>(AB rfl (u3 (i:=2) O6.nd rfl (Or.inl rfl) (B3 (uL rfl) Hd (by rfl) hset PyProof.Rows.boot_set (e7 (d8 1 (pv 1) rfl) g9 rfl)) rfl)
   (u3 (i:=3) O6.nd rfl (Or.inl rfl) rO rfl)
   (E9 (bq.m (u4 (g4 (g6 hr) (d8 0 (pv 0) rfl) d9 (fun _ _=>rfl))) rfl) (o4 (i7 (i:=4) O6.nd rfl (Or.inl rfl)) rfl)
    (yp rfl (EB (i:=5) (j:=6) rfl O6.nd rfl rfl (by decide) rfl rfl (e7 (g4 (g6 hr) (d8 4 (pv 4) rfl) d9 (fun _ _=>rfl)) (e7 (g4 (g6 hr) (d8 4 (pv 4) rfl) d9 (fun _ _=>rfl)) g9 rfl) rfl) rfl rfl rfl)
   (cX (g6 hr) 3 (pv 3) rfl (PM.n (PU.m (PU.A7 (qX (tZ (d8 5 (pv 5) rfl) (d8 2 (pv 2) rfl) rfl) (gR (Ep (FC (d8 6 (pv 6) rfl) M5 (u9 _)) (gR (g4 (g6 hr) (d8 3 (pv 3) rfl) (d8 6 (pv 6) rfl) (fun _ _=>rfl))))))))) (PU.n (d8 5 (pv 5) rfl) rfl))) (fun a b c=>B7 PassesOwn.never rfl a b c))
   (aA 3 (pv 3) (by decide) rfl))) rd
theorem Q8:j6 ["board","lit","pulls","found","guard","load","name","under"] ["board","lit","pulls"] (e6 L8):=by walk_at "s"
theorem oP:(["guard","pulls"]:List Str).Nodup:=by decide +kernel
theorem qb {f:Addr} {fd:FuncData} (F:P6 K "draws_fed" "draws_fed" L8 f fd) (hreversed:mg "reversed"=none)
  (len:∀ds Q,J6 ds Q->ds.length=3) (rd:∀ds Q,J6 ds Q->jr (EP Q) (g7 8 ds)):x5 P w K mg base O9 1 f fd ["board","lit","pulls"] (w5 K J6):=
 Z0 (cl:=[.bor,.bor,.bor,.own,.bor,.bor,.bor,.bor]) F Q8 rfl len (fun cdv A outer s0 H E hr=>(AB rfl (kB (i:=3) (XN:=["board","lit","pulls","found","guard","load","name","under"]) (N:=["guard","pulls"]) (XS:=e6 L8) (cap:=[none,some 2]) Q8.nd rfl rfl rfl (by decide +kernel) rfl rfl rfl rfl (u4 (g4 (g6 hr) (d8 0 (pv 0) rfl) d9 (fun _ _=>rfl))) (fun _ _ _ _=>(o4 (i7 (i:=0) oP rfl (Or.inl rfl)) rfl)) (fun _ _ _ _=>G1) (fun _ _ _ _=>(g4 (g6 hr) (d8 0 (pv 0) rfl) d9 (fun _ _=>rfl))) (fun _ _ _ _=>(cF (g6 hr) (d8 1 (pv 1) rfl) (g4 (g6 hr) (d8 0 (pv 0) rfl) d9 (fun _ _=>rfl)) d9 ⟨rfl,rfl,rfl,rfl⟩)))
   (E9 (bq.m (u4 (g4 (g6 hr) (d8 0 (pv 0) rfl) d9 (fun _ _=>rfl))) rfl) (o4 (i7 (i:=5) Q8.nd rfl (Or.inl rfl)) rfl)
    (R7 rfl (xA (g6 hr) 3 (pv 3) rfl (g4 (g6 hr) (d8 5 (pv 5) rfl) d9 (fun _ _=>rfl)) (cF (g6 hr) (d8 2 (pv 2) rfl) (g4 (g6 hr) (d8 5 (pv 5) rfl) d9 (fun _ _=>rfl)) d9 ⟨rfl,rfl,rfl,rfl⟩))) (fun a b c=>B7 PassesOwn.never rfl a b c))
   (E9 (bq.m (AL (g4 (g6 hr) (d8 0 (pv 0) rfl) d9 (fun _ _=>rfl)) rfl (fun pa=>yO (by rfl) hreversed pa)) rfl) (o4 (i7 (i:=4) Q8.nd rfl (Or.inl rfl)) rfl)
    (yp rfl (EB (i:=6) (j:=7) rfl Q8.nd rfl rfl (by decide) rfl rfl (e7 (g4 (g6 hr) (d8 4 (pv 4) rfl) d9 (fun _ _=>rfl)) (e7 (g4 (g6 hr) (d8 4 (pv 4) rfl) d9 (fun _ _=>rfl)) g9 rfl) rfl) rfl rfl rfl)
   (T5 (T7.m (jR (U5 (g4 (g6 hr) (d8 1 (pv 1) rfl) (d8 6 (pv 6) rfl) (fun _ _=>rfl)) (fun _=>rfl)))) (R7 rfl (cX (g6 hr) 3 (pv 3) rfl (PU.n d9 rfl) (PU.n (d8 6 (pv 6) rfl) rfl))) (R7 rfl (T5 (T7.m (ak (d8 7 (pv 7) rfl) M5 (u9 _))) (R7 rfl (xA (g6 hr) 3 (pv 3) rfl (d8 7 (pv 7) rfl) (g4 (g6 hr) (d8 3 (pv 3) rfl) (d8 6 (pv 6) rfl) (fun _ _=>rfl)))) K9)))) (fun a b c=>B7 PassesOwn.never rfl a b c))
   (aA 3 (pv 3) (by decide) rfl))) rd
theorem Bu:j6 ["board","opened","pulls"] ["board","opened","pulls"] (e6 du):=by walk_at "s"
theorem DH {f:Addr} {fd:FuncData} (F:P6 K "draws" "draws" du f fd) {fFedGuards:Addr} {fdFedGuards:FuncData} (CFedGuards:A5 P w K mg base "fed_guards" 1 ["board","opened"] (w5 K D5) fFedGuards fdFedGuards) {fDrawsFed:Addr} {fdDrawsFed:FuncData} (CDrawsFed:A5 P w K mg base "draws_fed" 1 ["board","lit","pulls"] (w5 K J6) fDrawsFed fdDrawsFed)
  (len:∀ds Q,az ds Q->ds.length=3) (rd:∀ds Q,az ds Q->xC (EP Q) (g7 3 ds)):x5 P w K mg base O9 2 f fd ["board","opened","pulls"] (w5 K az):=
 Z0 (cl:=[.bor,.bor,.bor]) F Bu rfl len (fun cdv A outer s0 H E hr=>(R7 rfl (u7 (i4 CDrawsFed (hr.mono (by decide)) (by rfl) (e7 (d8 0 (pv 0) rfl) (e7 (i4 CFedGuards (hr.mono (by decide)) (by rfl) (e7 (d8 0 (pv 0) rfl) (e7 (d8 1 (pv 1) rfl) g9 rfl) rfl) rfl) (e7 (d8 2 (pv 2) rfl) g9 rfl) rfl) rfl) rfl) rfl))) rd
theorem HD:j6 ["board","load"] ["board"] (e6 gJ):=by walk_at "s"
theorem Dt:(["load"]:List Str).Nodup:=by decide +kernel
theorem FP {f:Addr} {fd:FuncData} (F:P6 K "rest" "rest" gJ f fd) {fDraws:Addr} {fdDraws:FuncData} (CDraws:A5 P w K mg base "draws" 2 ["board","opened","pulls"] (w5 K az) fDraws fdDraws)
  (len:∀ds Q,bf ds Q->ds.length=1) (rd:∀ds Q,bf ds Q->Ej (EP Q) (g7 2 ds)):x5 P w K mg base O9 3 f fd ["board"] (w5 K bf):=
 Z0 (cl:=[.bor,.bor]) F HD rfl len (fun cdv A outer s0 H E hr=>(R7 rfl (u7 (i4 CDraws (hr.mono (by decide)) (by rfl) (e7 (d8 0 (pv 0) rfl) (e7 (G2 y1 rfl) (e7 (Fp (XN:=["board","load"]) (N:=["load"]) (XS:=e6 gJ) (cap:=[none]) (by decide +kernel) rfl rfl rfl rfl (u4 (g4 (g6 hr) (d8 0 (pv 0) rfl) d9 (fun _ _=>rfl))) (fun _ _ _ _=>(o4 (i7 (i:=0) Dt rfl (Or.inl rfl)) rfl)) (fun _ _ _ _=>(ko (U5 (g4 (g6 hr) (d8 0 (pv 0) rfl) d9 (fun _ _=>rfl)) (fun _=>rfl)))) (fun _ _ _ _=>(g4 (g6 hr) (d8 0 (pv 0) rfl) d9 (fun _ _=>rfl))) (fun _ _ _ _=>(g4 (g6 hr) (d8 0 (pv 0) rfl) d9 (fun _ _=>rfl)))) g9 rfl) rfl) rfl) rfl) rfl))) rd
theorem Cn:j6 ["board","found"] ["board","found"] (e6 bL):=by walk_at "s"
theorem wz:(["guard","found"]:List Str).Nodup:=by decide +kernel
theorem Ck {f:Addr} {fd:FuncData} (F:P6 K "awake" "awake" bL f fd) {fLeastOf:Addr} {fdLeastOf:FuncData} (CLeastOf:A5 P w K mg base "least_of" 1 ["curve"] (w5 K G3) fLeastOf fdLeastOf)
  (len:∀ds Q,ae ds Q->ds.length=2) (rd:∀ds Q,ae ds Q->zp (EP Q) (g7 2 ds)):x5 P w K mg base O9 2 f fd ["board","found"] (w5 K ae):=
 Z0 (cl:=[.bor,.bor]) F Cn rfl len (fun cdv A outer s0 H E hr=>(R7 rfl (u7 (Y1 (XN:=["board","found"]) (N:=["guard","found"]) (XS:=e6 bL) (cap:=[none,some 1]) (by decide +kernel) rfl rfl rfl rfl (u4 (g4 (g6 hr) (d8 0 (pv 0) rfl) d9 (fun _ _=>rfl))) (fun _ _ _ _=>(o4 (i7 (i:=0) wz rfl (Or.inl rfl)) rfl)) (fun _ _ _ _=>(ko (Ah (g4 (g6 hr) (d8 1 (pv 1) rfl) (g4 (g6 hr) (d8 0 (pv 0) rfl) d9 (fun _ _=>rfl)) (fun _ _=>rfl)) (i4 CLeastOf (hr.mono (by decide)) (by rfl) (e7 (g4 (g6 hr) (d8 0 (pv 0) rfl) d9 (fun _ _=>rfl)) g9 rfl) rfl) (u9 _)))) (fun _ _ _ _=>(PU.A7 (g4 (g6 hr) (d8 0 (pv 0) rfl) d9 (fun _ _=>rfl))))) rfl))) rd
theorem se:j6 ["board","names"] ["board"] (e6 dI):=by walk_at "s"
theorem DY {f:Addr} {fd:FuncData} (F:P6 K "loud" "loud" dI f fd) {fRest:Addr} {fdRest:FuncData} (CRest:A5 P w K mg base "rest" 3 ["board"] (w5 K bf) fRest fdRest) {fAwake:Addr} {fdAwake:FuncData} (CAwake:A5 P w K mg base "awake" 2 ["board","found"] (w5 K ae) fAwake fdAwake)
  (len:∀ds Q,aE ds Q->ds.length=1) (rd:∀ds Q,aE ds Q->zA (EP Q) (g7 2 ds)):x5 P w K mg base O9 4 f fd ["board"] (w5 K aE):=
 Z0 (cl:=[.bor,.bor]) F se rfl len (fun cdv A outer s0 H E hr=>(yp rfl (u3 (i:=1) se.nd rfl (Or.inl rfl) (i4 CAwake (hr.mono (by decide)) (by rfl) (e7 (d8 0 (pv 0) rfl) (e7 (i4 CRest (hr.mono (by decide)) (by rfl) (e7 (d8 0 (pv 0) rfl) g9 rfl) rfl) g9 rfl) rfl) rfl) rfl)
   (u7 (PU.A7 (JN (U5 (d8 1 (pv 1) rfl) (fun _=>rfl)) (g4 (g6 hr) (d8 1 (pv 1) rfl) d9 (fun _ _=>rfl)) (PU.weak (g:=.stab) M5 rfl))) rfl))) rd
theorem et:j6 ["board","first"] ["board"] (e6 L7):=by walk_at "s"
theorem kW {f:Addr} {fd:FuncData} (F:P6 K "quiet_rest" "quiet_rest" L7 f fd) {fRest:Addr} {fdRest:FuncData} (CRest:A5 P w K mg base "rest" 3 ["board"] (w5 K bf) fRest fdRest) {fLoudG:Addr} {fdLoudG:FuncData} (CLoudG:A5 P w K mg base "loud" 4 ["board"] (w5 K aE) fLoudG fdLoudG)
  (len:∀ds Q,D2 ds Q->ds.length=1) (rd:∀ds Q,D2 ds Q->gL (EP Q) (g7 2 ds)):x5 P w K mg base O9 5 f fd ["board"] (w5 K D2):=
 Z0 (cl:=[.bor,.bor]) F et rfl len (fun cdv A outer s0 H E hr=>(Ex rfl (u3 (i:=1) et.nd rfl (Or.inl rfl) (i4 CLoudG (hr.mono (by decide)) (by rfl) (e7 (d8 0 (pv 0) rfl) g9 rfl) rfl) rfl)
   (T5 (T7.m (ak (d8 1 (pv 1) rfl) M5 (u9 _))) (R7 rfl Ce) K9)
   (u7 (i4 CRest (hr.mono (by decide)) (by rfl) (e7 (d8 0 (pv 0) rfl) g9 rfl) rfl) rfl))) rd
theorem eT:j6 ["board","place","names","found","guards","guard"] ["board","place"] (e6 X8):=by walk_at "s"
theorem wb:(["load"]:List Str).Nodup:=by decide +kernel
theorem xO:(["guard"]:List Str).Nodup:=by decide +kernel
theorem yG:(["name","guards","found"]:List Str).Nodup:=by decide +kernel
theorem CK {f:Addr} {fd:FuncData} (F:P6 K "way_of" "way_of" X8 f fd) {fOver:Addr} {fdOver:FuncData} (COver:Ik P w K mg base "over" 5 ["board","place"] (JM K mg eh) fOver fdOver) {fQuietRest:Addr} {fdQuietRest:FuncData} (CQuietRest:A5 P w K mg base "quiet_rest" 5 ["board"] (w5 K D2) fQuietRest fdQuietRest)
  (len:∀ds Q,aI ds Q->ds.length=2) (rd:∀ds Q,aI ds Q->wL (EP Q) (g7 6 ds)):x5 P w K mg base O9 6 f fd ["board","place"] (w5 K aI):=
 Z0 (cl:=[.bor,.bor,.bor,.bor,.bor,.bor]) F eT rfl len (fun cdv A outer s0 H E hr=>(Ek rfl (u3 (i:=2) eT.nd rfl (Or.inl rfl) (wR COver (hr.mono (by decide)) (by rfl) (e7 (d8 0 (pv 0) rfl) (e7 (d8 1 (pv 1) rfl) g9 rfl) rfl) rfl) rfl)
   (u3 (i:=3) eT.nd rfl (Or.inr rfl) (i4 CQuietRest (hr.mono (by decide)) (by rfl) (e7 (d8 0 (pv 0) rfl) g9 rfl) rfl) rfl)
   (T5 (T7.m (Gk (g6 hr) (d8 1 (pv 1) rfl) (Y1 (XN:=["board","place","names","found","guards","guard"]) (N:=["load"]) (XS:=e6 X8) (cap:=[none]) (by decide +kernel) rfl rfl rfl rfl (u4 (g4 (g6 hr) (d8 0 (pv 0) rfl) d9 (fun _ _=>rfl))) (fun _ _ _ _=>(o4 (i7 (i:=0) wb rfl (Or.inl rfl)) rfl)) (fun _ _ _ _=>(ko (jR (U5 (g4 (g6 hr) (d8 0 (pv 0) rfl) d9 (fun _ _=>rfl)) (fun _=>rfl))))) (fun _ _ _ _=>(PU.A7 (g4 (g6 hr) (d8 0 (pv 0) rfl) d9 (fun _ _=>rfl))))) rfl)) (R7 rfl (u7 (G2 y1 rfl) rfl)) K9)
   (u3 (i:=4) eT.nd rfl (Or.inr rfl) (Fp (XN:=["board","place","names","found","guards","guard"]) (N:=["guard"]) (XS:=e6 X8) (cap:=[none]) (by decide +kernel) rfl rfl rfl rfl (u4 (g4 (g6 hr) (d8 0 (pv 0) rfl) d9 (fun _ _=>rfl))) (fun _ _ _ _=>(o4 (i7 (i:=0) xO rfl (Or.inl rfl)) rfl)) (fun _ _ _ _=>G1) (fun _ _ _ _=>(g4 (g6 hr) (d8 0 (pv 0) rfl) d9 (fun _ _=>rfl))) (fun _ _ _ _=>(d8 0 (pv 0) rfl))) rfl)
   (u7 (Y1 (XN:=["board","place","names","found","guards","guard"]) (N:=["name","guards","found"]) (XS:=e6 X8) (cap:=[none,some 4,some 3]) (by decide +kernel) rfl rfl rfl rfl (u4 (d8 2 (pv 2) rfl)) (fun _ _ _ _=>(o4 (i7 (i:=0) yG rfl (Or.inl rfl)) rfl)) (fun _ _ _ _=>G1) (fun _ _ _ _=>(P2 (j5 (PU.A7 (g4 (g6 hr) (d8 1 (pv 1) rfl) (d8 0 (pv 0) rfl) (fun _ _=>rfl))) (j5 (PU.A7 (g4 (g6 hr) (d8 2 (pv 2) rfl) (d8 0 (pv 0) rfl) (fun _ _=>rfl))) y1 rfl) rfl) rfl))) rfl))) rd
theorem dM:j6 ["row","guard","drawn"] ["row"] (e6 U3):=by walk_at "s"
theorem vh {f:Addr} {fd:FuncData} (F:P6 K "wakes_at" "wakes_at" U3 f fd) {fLeastOf:Addr} {fdLeastOf:FuncData} (CLeastOf:A5 P w K mg base "least_of" 1 ["curve"] (w5 K G3) fLeastOf fdLeastOf)
  (len:∀ds Q,D3 ds Q->ds.length=1) (rd:∀ds Q,D3 ds Q->oH (EP Q) (g7 3 ds)):x5 P w K mg base O9 2 f fd ["row"] (w5 K D3):=
 Z0 (cl:=[.bor,.bor,.bor]) F dM rfl len (fun cdv A outer s0 H E hr=>(yp rfl (rG (d8 0 (pv 0) rfl) rfl (jk (n:=2) (D9 (o4 (i7 (i:=1) dM.nd rfl (Or.inl rfl)) rfl) (D9 (o4 (i7 (i:=2) dM.nd rfl (Or.inl rfl)) rfl) cT)) (fun _ _ _ h=>lF h) (fun p=>dh rfl p)) (fun p g=>T4 p g))
   (u7 (O7 (i4 CLeastOf (hr.mono (by decide)) (by rfl) (e7 (g4 (g6 hr) (d8 1 (pv 1) rfl) d9 (fun _ _=>rfl)) g9 rfl) rfl) (d8 2 (pv 2) rfl)) rfl))) rd
theorem cy:j6 ["board","most","lower","way","first","row"] ["board","most"] (e6 cY):=by walk_at "s"
theorem Di {f:Addr} {fd:FuncData} (F:P6 K "blind" "blind" cY f fd) {fGuardsOf:Addr} {fdGuardsOf:FuncData} (CGuardsOf:A5 P w K mg base "guards_of" 2 ["board"] (w5 K C8) fGuardsOf fdGuardsOf) {fWayOf:Addr} {fdWayOf:FuncData} (CWayOf:A5 P w K mg base "way_of" 6 ["board","place"] (w5 K aI) fWayOf fdWayOf) {fWakesAt:Addr} {fdWakesAt:FuncData} (CWakesAt:A5 P w K mg base "wakes_at" 2 ["row"] (w5 K D3) fWakesAt fdWakesAt)
  (len:∀ds Q,T2 ds Q->ds.length=2) (rd:∀ds Q,T2 ds Q->zG (EP Q) (g7 6 ds)):x5 P w K mg base O9 7 f fd ["board","most"] (w5 K T2):=
 Z0 (cl:=[.bor,.bor,.bor,.bor,.bor,.bor]) F cy rfl len (fun cdv A outer s0 H E hr=>(yp rfl (E9 (bq.m (u4 (i4 CGuardsOf (hr.mono (by decide)) (by rfl) (e7 (d8 0 (pv 0) rfl) g9 rfl) rfl)) rfl) (o4 (i7 (i:=2) cy.nd rfl (Or.inl rfl)) rfl)
    (Ex rfl (u3 (i:=3) cy.nd rfl (Or.inl rfl) (i4 CWayOf (hr.mono (by decide)) (by rfl) (e7 (d8 0 (pv 0) rfl) (e7 (d8 2 (pv 2) rfl) g9 rfl) rfl) rfl) rfl)
   (u3 (i:=4) cy.nd rfl (Or.inl rfl) (i4 CWakesAt (hr.mono (by decide)) (by rfl) (e7 (g4 (g6 hr) (d8 3 (pv 3) rfl) d9 (fun _ _=>rfl)) g9 rfl) rfl) rfl)
   (E9 (bq.m (u4 (gG (d8 3 (pv 3) rfl) (W8 d9) cM)) rfl) (o4 (i7 (i:=5) cy.nd rfl (Or.inl rfl)) rfl)
    (R7 rfl (T5 (T7.m (qH.pt (gr (pD (i4 CWakesAt (hr.mono (by decide)) (by rfl) (e7 (d8 5 (pv 5) rfl) g9 rfl) rfl) (d8 1 (pv 1) rfl) (u9 _)) (cu (xU (i4 CWakesAt (hr.mono (by decide)) (by rfl) (e7 (d8 5 (pv 5) rfl) g9 rfl) rfl) (d8 4 (pv 4) rfl) (u9 _)))))) (R7 rfl (u7 (P2 (j5 (PU.A7 (d8 2 (pv 2) rfl)) (j5 (PU.A7 (g4 (g6 hr) (g4 (g6 hr) (d8 5 (pv 5) rfl) d9 (fun _ _=>rfl)) d9 (fun _ _=>rfl))) (j5 (i4 CWakesAt (hr.mono (by decide)) (by rfl) (e7 (d8 5 (pv 5) rfl) g9 rfl) rfl) y1 rfl) rfl) rfl) rfl) rfl)) K9)) (fun a b c=>B7 PassesOwn.never rfl a b c))) (fun a b c=>B7 PassesOwn.never rfl a b c))
   (u7 M5 rfl))) rd
theorem zV:j6 ["_law_script","_law_k"] ["_law_script","_law_k"] (e6 aY):=by walk_at "s"
theorem zD {f:Addr} {fd:FuncData} (F:P6 K "_law_cell_at" "_law_cell_at" aY f fd) (hlen:mg "len"=none)
  (len:∀ds Q,S1 ds Q->ds.length=2) (rd:∀ds Q,S1 ds Q->sN (EP Q) (g7 2 ds)):x5 P w K mg base O9 1 f fd ["_law_script","_law_k"] (w5 K S1):=
 Z0 (cl:=[.bor,.bor]) F zV rfl len (fun cdv A outer s0 H E hr=>(yp rfl (T5 (T7.m (xU (d8 1 (pv 1) rfl) (w6 G5 bp (by rfl) hlen PySem.boot_len (e7 (d8 0 (pv 0) rfl) g9 rfl)) (u9 _))) (R7 rfl (u7 (PU.A7 (g4 (g6 hr) (d8 0 (pv 0) rfl) (d8 1 (pv 1) rfl) (fun _ _=>rfl))) rfl)) K9)
   (u7 d9 rfl))) rd
theorem xD:j6 ["_law_script","_law_k","_law_cell"] ["_law_script","_law_k"] (e6 iK):=by walk_at "s"
theorem HM {f:Addr} {fd:FuncData} (F:P6 K "_law_feed" "_law_feed" iK f fd) {fCellAt:Addr} {fdCellAt:FuncData} (CCellAt:A5 P w K mg base "_law_cell_at" 1 ["_law_script","_law_k"] (w5 K S1) fCellAt fdCellAt)
  (len:∀ds Q,O3 ds Q->ds.length=2) (rd:∀ds Q,O3 ds Q->Et (EP Q) (g7 3 ds)):x5 P w K mg base O9 2 f fd ["_law_script","_law_k"] (w5 K O3):=
 Z0 (cl:=[.bor,.bor,.bor]) F xD rfl len (fun cdv A outer s0 H E hr=>(yp rfl (u3 (i:=2) xD.nd rfl (Or.inl rfl) (i4 CCellAt (hr.mono (by decide)) (by rfl) (e7 (d8 0 (pv 0) rfl) (e7 (d8 1 (pv 1) rfl) g9 rfl) rfl) rfl) rfl)
   (u7 (G2 (j5 (PU.A7 (d8 2 (pv 2) rfl)) (j5 (PU.A7 (d8 2 (pv 2) rfl)) (j5 (J0 d9 (d8 1 (pv 1) rfl)) y1 rfl) rfl) rfl) rfl) rfl))) rd
theorem kh:j6 ["_law_feed_here","_law_many","_law_digit","_law_number"] ["_law_feed_here","_law_many"] (e6 iF):=by walk_at "s"
theorem GF {f:Addr} {fd:FuncData} (F:P6 K "_law_take" "_law_take" iF f fd)
  (len:∀ds Q,p9 ds Q->ds.length=2) (rd:∀ds Q,p9 ds Q->Ed (EM Q) (g7 4 ds)):x5 P w K mg base O9 1 f fd ["_law_feed_here","_law_many"] (fW K p9):=
 KU (cl:=[.bor,.bor,.bor]) F kh rfl len (fun cdv A outer s0 H E hr=>(Ek rfl (lJ 0 (pv 0) rfl (PU.m (x3 (g4 (g6 hr) (d8 0 (pv 0) rfl) d9 (fun _ _=>rfl)) d9)) (PU.n d9 rfl) (fun p p2=>T4 p (gO (pv 0) p2 set_list)))
   (T5 (T7.m (qH.pt (gr (Ah (g4 (g6 hr) (d8 0 (pv 0) rfl) d9 (fun _ _=>rfl)) (jT d9 d9) (u9 _)) (cu (IC (g4 (g6 hr) (d8 0 (pv 0) rfl) d9 (fun _ _=>rfl)) d9 (u9 _)))))) (Ex rfl (u3 (i:=2) kh.nd rfl (Or.inl rfl) (S8 (g4 (g6 hr) (d8 0 (pv 0) rfl) d9 (fun _ _=>rfl)) (d8 1 (pv 1) rfl)) rfl)
   (lJ 0 (pv 0) rfl (PU.m (ff (g4 (g6 hr) (d8 0 (pv 0) rfl) d9 (fun _ _=>rfl)) (d8 1 (pv 1) rfl))) (PU.n d9 rfl) (fun p p2=>T4 p (gO (pv 0) p2 set_list)))
   (u7 (PU.A7 (d8 2 (pv 2) rfl)) rfl)) K9)
   (u3 (i:=3) kh.nd rfl (Or.inl rfl) (x3 (J0 (S8 (g4 (g6 hr) (d8 0 (pv 0) rfl) d9 (fun _ _=>rfl)) d9) d9) (J0 d9 (g4 (g6 hr) (d8 0 (pv 0) rfl) d9 (fun _ _=>rfl)))) rfl)
   (u3 (i:=3) kh.nd rfl (Or.inl rfl) (S8 (x3 (x3 (d8 3 (pv 3) rfl) (J0 (J0 (g4 (g6 hr) (d8 0 (pv 0) rfl) d9 (fun _ _=>rfl)) (g4 (g6 hr) (d8 0 (pv 0) rfl) d9 (fun _ _=>rfl))) d9)) d9) d9) rfl)
   (u7 (S8 (ff (S8 (J0 (d8 3 (pv 3) rfl) (x3 (S8 (d8 3 (pv 3) rfl) d9) d9)) d9) d9) (d8 1 (pv 1) rfl)) rfl))) rd
theorem D8:j6 ["_law_feed_here","_law_many","_law_letters","_law_first","_law_names_here","_law_size","_law_base","_law_at","_law_other","_law_longer","_law_k","_law_some","_law_word"] ["_law_feed_here","_law_many"] (e6 X1):=by walk_at "s"
theorem wt:(["_law_k","_law_letters","_law_first"]:List Str).Nodup:=by decide +kernel
theorem xt:(["_law_k","_law_feed_here"]:List Str).Nodup:=by decide +kernel
theorem AA:(["_law_one","_law_letters"]:List Str).Nodup:=by decide +kernel
theorem AK {f:Addr} {fd:FuncData} (F:P6 K "_law_names" "_law_names" X1 f fd) {fTake:Addr} {fdTake:FuncData} (CTake:A5 P w K mg base "_law_take" 1 ["_law_feed_here","_law_many"] (fW K p9) fTake fdTake) (hint:mg "int"=none) (hlist:mg "list"=none) (hrange:mg "range"=none)
  (len:∀ds Q,aa ds Q->ds.length=2) (rd:∀ds Q,aa ds Q->wF (EM Q) (g7 13 ds)):x5 P w K mg base O9 2 f fd ["_law_feed_here","_law_many"] (fW K aa):=
 KU (cl:=[.bor,.bor,.bor,.own,.bor,.bor,.bor,.bor,.bor,.bor,.own,.bor]) F D8 rfl len (fun cdv A outer s0 H E hr=>(Me rfl (u3 (i:=2) D8.nd rfl (Or.inr rfl) J2 rfl)
   (C5 (i:=3) D8.nd rfl (Or.inr rfl) (o9 0 (pv 0) rfl CTake (hr.mono (by decide)) (by rfl) (o3 (PU.n d9 rfl) p6 rfl)) rfl)
   (T5 (HS hr (PM.n (o9 0 (pv 0) rfl CTake (hr.mono (by decide)) (by rfl) (o3 (PU.n d9 rfl) p6 rfl))) (PU.n d9 rfl) (u9 _)) (R7 rfl (kc (i:=4) (XN:=["_law_feed_here","_law_many","_law_letters","_law_first","_law_names_here","_law_size","_law_base","_law_at","_law_other","_law_longer","_law_k","_law_some","_law_word"]) (N:=["_law_k","_law_letters","_law_first"]) (XS:=e6 X1) (cap:=[none,some 2,some 3]) D8.nd rfl rfl rfl (by decide +kernel) rfl rfl rfl rfl (R1 (by rfl) hrange (d8 1 (pv 1) rfl) rfl (fun pa=>K4 (by rfl) hrange pa)) (fun _ _ _ _=>(o4 (i7 (i:=0) wt rfl (Or.inl rfl)) rfl)) (fun _ _ _ _=>G1) (fun _ _ _ _=>(J0 (g4 (g6 hr) (d8 1 (pv 1) rfl) (S8 (x3 (d8 2 (pv 2) rfl) (d8 0 (pv 0) rfl)) d9) (fun _ _=>rfl)) (x3 d9 (ff (d8 0 (pv 0) rfl) d9)))))) (MI rfl (C5 (i:=5) D8.nd rfl (Or.inl rfl) (I0 (PU.n d9 rfl) (PM.n (o9 0 (pv 0) rfl CTake (hr.mono (by decide)) (by rfl) (o3 (PU.n d9 rfl) p6 rfl)))) rfl)
   (xV (i:=6) (XN:=["_law_feed_here","_law_many","_law_letters","_law_first","_law_names_here","_law_size","_law_base","_law_at","_law_other","_law_longer","_law_k","_law_some","_law_word"]) (N:=["_law_k","_law_feed_here"]) (XS:=e6 X1) (cap:=[none,some 0]) 1 0 D8.nd rfl rfl rfl rfl rfl rfl (by decide +kernel) rfl rfl rfl rfl (bq.m (R1 (by rfl) hrange (d8 5 (pv 5) rfl) rfl (fun pa=>K4 (by rfl) hrange pa)) rfl) (fun _ _ _ _=>(o4 (i7 (i:=0) xt rfl (Or.inl rfl)) rfl)) (fun _ _ _ _=>AR) (fun _ _ _ _=>(o9 1 (pv 1) rfl CTake (hr.mono (by decide)) (by rfl) (o3 (PU.n d9 rfl) p6 rfl))))
   (C5 (i:=7) D8.nd rfl (Or.inl rfl) (o9 0 (pv 0) rfl CTake (hr.mono (by decide)) (by rfl) (o3 (PU.n (d8 5 (pv 5) rfl) rfl) p6 rfl)) rfl)
   (C5 (i:=8) D8.nd rfl (Or.inl rfl) (GQ (PM.n (I0 (PU.n (x3 (d8 7 (pv 7) rfl) d9) rfl) (PM.n (o9 0 (pv 0) rfl CTake (hr.mono (by decide)) (by rfl) (o3 (PU.n (O7 (d8 5 (pv 5) rfl) d9) rfl) p6 rfl))))) (PU.n (d8 5 (pv 5) rfl) rfl)) rfl)
   (C5 (i:=9) D8.nd rfl (Or.inl rfl) (W6 (PM.n (o9 0 (pv 0) rfl CTake (hr.mono (by decide)) (by rfl) (o3 (PU.n d9 rfl) p6 rfl))) (PU.n (B3 di rl (by rfl) hint PyProof.Rows.boot_int (e7 (Jy (d8 5 (pv 5) rfl) d9 (u9 _)) g9 rfl)) rfl)) rfl)
   (u3 (i:=4) D8.nd rfl (Or.inl rfl) (G2 y1 rfl) rfl)
   (E9 (bq.m (R1 (by rfl) hrange (d8 1 (pv 1) rfl) rfl (fun pa=>K4 (by rfl) hrange pa)) rfl) (o4 (i7 (i:=10) D8.nd rfl (Or.inl rfl)) rfl)
    (AB rfl (u3 (i:=11) D8.nd rfl (Or.inl rfl) (B3 kE Fs (by rfl) hlist PyProof.Rows.boot_list (e7 (d8 6 (pv 6) rfl) g9 rfl)) rfl)
   (lJ 11 (pv 11) rfl (PU.m (S8 (x3 (g4 (g6 hr) (d8 6 (pv 6) rfl) (d8 7 (pv 7) rfl) (fun _ _=>rfl)) (d8 10 (pv 10) rfl)) d9)) (PU.n (d8 7 (pv 7) rfl) rfl) (fun p p2=>T4 p (gO (pv 11) p2 set_list)))
   (lJ 11 (pv 11) rfl (PU.m (S8 (x3 (g4 (g6 hr) (d8 6 (pv 6) rfl) (d8 8 (pv 8) rfl) (fun _ _=>rfl)) (ff (d8 10 (pv 10) rfl) d9)) d9)) (PU.n (d8 8 (pv 8) rfl) rfl) (fun p p2=>T4 p (gO (pv 11) p2 set_list)))
   (aj (PM.n (K1 (r:=M8) 4 (pv 4) rfl (PU.m (x3 (Dj J2 (Y1 (XN:=["_law_feed_here","_law_many","_law_letters","_law_first","_law_names_here","_law_size","_law_base","_law_at","_law_other","_law_longer","_law_k","_law_some","_law_word"]) (N:=["_law_one","_law_letters"]) (XS:=e6 X1) (cap:=[none,some 2]) (by decide +kernel) rfl rfl rfl rfl (u4 (d8 11 (pv 11) rfl)) (fun _ _ _ _=>(o4 (i7 (i:=0) AA rfl (Or.inl rfl)) rfl)) (fun _ _ _ _=>G1) (fun _ _ _ _=>(PU.A7 (g4 (g6 hr) (d8 1 (pv 1) rfl) (d8 0 (pv 0) rfl) (fun _ _=>rfl))))) rfl (fun po pa=>bQ PySem.F.plainAttrs_str PySem.F.slot_str_join PySem.F.type_str_join CH po pa)) (J0 (g4 (g6 hr) (d8 2 (pv 2) rfl) (d8 3 (pv 3) rfl) (fun _ _=>rfl)) (J0 (d8 9 (pv 9) rfl) (S8 (d8 10 (pv 10) rfl) d9))))) rfl (fun pa=>bQ PySem.F.plainAttrs_list PySem.F.slot_list_append PySem.F.type_list_append E6 (pv 4) pa))))) (fun a b c=>B7 PassesOwn.never rfl a b c))))
   (C5 (i:=12) D8.nd rfl (Or.inl rfl) (PN.A7 (W9 (g6 hr) (PU.n (G2 (j5 J2 (j5 J2 (j5 J2 (j5 J2 (j5 J2 (j5 J2 (j5 J2 (j5 J2 (j5 J2 (j5 J2 (j5 J2 y1 rfl) rfl) rfl) rfl) rfl) rfl) rfl) rfl) rfl) rfl) rfl) rfl) rfl) (PM.n (o9 0 (pv 0) rfl CTake (hr.mono (by decide)) (by rfl) (o3 (PU.n d9 rfl) p6 rfl))) (fun _ _=>rfl))) rfl)
   (T5 (T7.m (qH.pt (gr (qh hr (d8 12 (pv 12) rfl) J2 (u9 _)) (cu (vg (g6 hr) (d8 12 (pv 12) rfl) (d8 4 (pv 4) rfl) rfl))))) (R7 rfl (lJ 4 (pv 4) rfl (PU.m (PU.A7 (d8 12 (pv 12) rfl))) (PM.n (o9 0 (pv 0) rfl CTake (hr.mono (by decide)) (by rfl) (o3 (PU.n (d8 1 (pv 1) rfl) rfl) p6 rfl))) (fun p p2=>T4 p (gO (pv 4) p2 set_list)))) K9)
   (aA 4 (pv 4) (by decide) rfl))) rd
theorem eY:j6 ["_law_board","_law_overs_here","_law_guard","_law_load"] ["_law_board"] (e6 df):=by walk_at "s"
theorem DD {f:Addr} {fd:FuncData} (F:P6 K "_law_overs" "_law_overs" df f fd)
  (len:∀ds Q,T1 ds Q->ds.length=1) (rd:∀ds Q,T1 ds Q->zb (EP Q) (g7 4 ds)):x5 P w K mg base O9 1 f fd ["_law_board"] (w5 K T1):=
 Z0 (cl:=[.bor,.own,.bor,.bor]) F eY rfl len (fun cdv A outer s0 H E hr=>(AB rfl (u3 (i:=1) eY.nd rfl (Or.inl rfl) rO rfl)
   (E9 (bq.m (u4 (g4 (g6 hr) (d8 0 (pv 0) rfl) d9 (fun _ _=>rfl))) rfl) (o4 (i7 (i:=2) eY.nd rfl (Or.inl rfl)) rfl)
    (R7 rfl (cX (g6 hr) 1 (pv 1) rfl (PU.n (wy (Bj (G2 (j5 (PU.A7 (g4 (g6 hr) (d8 2 (pv 2) rfl) d9 (fun _ _=>rfl))) y1 rfl) rfl) (cF (g6 hr) (d8 1 (pv 1) rfl) (g4 (g6 hr) (d8 2 (pv 2) rfl) d9 (fun _ _=>rfl)) (wy (G2 y1 rfl)) ⟨rfl,rfl,rfl,rfl⟩))) rfl) (PU.n (g4 (g6 hr) (d8 2 (pv 2) rfl) d9 (fun _ _=>rfl)) rfl))) (fun a b c=>B7 PassesOwn.never rfl a b c))
   (E9 (bq.m (u4 (g4 (g6 hr) (d8 0 (pv 0) rfl) d9 (fun _ _=>rfl))) rfl) (o4 (i7 (i:=3) eY.nd rfl (Or.inl rfl)) rfl)
    (R7 rfl (cX (g6 hr) 1 (pv 1) rfl (PM.n (PU.m (PU.A7 (g4 (g6 hr) (d8 1 (pv 1) rfl) (g4 (g6 hr) (d8 3 (pv 3) rfl) d9 (fun _ _=>rfl)) (fun _ _=>rfl))))) (PU.n (g4 (g6 hr) (d8 3 (pv 3) rfl) d9 (fun _ _=>rfl)) rfl))) (fun a b c=>B7 PassesOwn.never rfl a b c))
   (aA 1 (pv 1) (by decide) rfl))) rd
theorem V1:j6 ["_law_feed_here","_law_unit","_law_time","_law_many","_law_some","_law_times","_law_k"] ["_law_feed_here","_law_unit","_law_time"] (e6 Q9):=by walk_at "s"
theorem qU:(["_law_k","_law_unit","_law_time","_law_some","_law_times","_law_many"]:List Str).Nodup:=by decide +kernel
theorem uN {f:Addr} {fd:FuncData} (F:P6 K "_law_small_curve" "_law_small_curve" Q9 f fd) {fTake:Addr} {fdTake:FuncData} (CTake:A5 P w K mg base "_law_take" 1 ["_law_feed_here","_law_many"] (fW K p9) fTake fdTake) (hrange:mg "range"=none) (htuple:mg "tuple"=none)
  (len:∀ds Q,N2 ds Q->ds.length=3) (rd:∀ds Q,N2 ds Q->mR (EM Q) (g7 7 ds)):x5 P w K mg base O9 2 f fd ["_law_feed_here","_law_unit","_law_time"] (fW K N2):=
 KU (cl:=[.bor,.bor,.bor,.own,.own,.bor]) F V1 rfl len (fun cdv A outer s0 H E hr=>(Ek rfl (C5 (i:=3) V1.nd rfl (Or.inr rfl) (I0 (PU.n d9 rfl) (PM.n (o9 0 (pv 0) rfl CTake (hr.mono (by decide)) (by rfl) (o3 (PU.n d9 rfl) p6 rfl)))) rfl)
   (C5 (i:=4) V1.nd rfl (Or.inr rfl) (qT (C1 (I0 (PU.n d9 rfl) (PM.n (o9 0 (pv 0) rfl CTake (hr.mono (by decide)) (by rfl) (o3 (PU.n d9 rfl) p6 rfl)))) bC rfl) rfl) rfl)
   (C5 (i:=5) V1.nd rfl (Or.inr rfl) (qT (C1 (I0 (PU.n d9 rfl) (PM.n (o9 0 (pv 0) rfl CTake (hr.mono (by decide)) (by rfl) (o3 (PU.n d9 rfl) p6 rfl)))) bC rfl) rfl) rfl)
   (E9 (bq.m (R1 (by rfl) hrange (O7 (d8 3 (pv 3) rfl) d9) rfl (fun pa=>K4 (by rfl) hrange pa)) rfl) (o4 (i7 (i:=6) V1.nd rfl (Or.inl rfl)) rfl)
    (yp rfl (aj (PM.n (K1 (r:=M8) 4 (pv 4) rfl (I0 (PU.n (x3 (g4 (g6 hr) (d8 4 (pv 4) rfl) (gN d9) (fun _ _=>rfl)) d9) rfl) (PM.n (o9 0 (pv 0) rfl CTake (hr.mono (by decide)) (by rfl) (o3 (PU.n d9 rfl) p6 rfl)))) rfl (fun pa=>bQ PySem.F.plainAttrs_list PySem.F.slot_list_append PySem.F.type_list_append E6 (pv 4) pa))))
   (aj (PM.n (K1 (r:=M8) 5 (pv 5) rfl (I0 (PU.n (x3 (g4 (g6 hr) (d8 5 (pv 5) rfl) (gN d9) (fun _ _=>rfl)) d9) rfl) (PM.n (o9 0 (pv 0) rfl CTake (hr.mono (by decide)) (by rfl) (o3 (PU.n d9 rfl) p6 rfl)))) rfl (fun pa=>bQ PySem.F.plainAttrs_list PySem.F.slot_list_append PySem.F.type_list_append E6 (pv 5) pa))))) (fun a b c=>B7 PassesOwn.never rfl a b c))
   (u7 (B3 C9 aM (by rfl) htuple PyProof.Rows.boot_tuple (e7 (Y1 (XN:=["_law_feed_here","_law_unit","_law_time","_law_many","_law_some","_law_times","_law_k"]) (N:=["_law_k","_law_unit","_law_time","_law_some","_law_times","_law_many"]) (XS:=e6 Q9) (cap:=[none,some 1,some 2,some 4,some 5,some 3]) (by decide +kernel) rfl rfl rfl rfl (R1 (by rfl) hrange (d8 3 (pv 3) rfl) rfl (fun pa=>K4 (by rfl) hrange pa)) (fun _ _ _ _=>(o4 (i7 (i:=0) qU rfl (Or.inl rfl)) rfl)) (fun _ _ _ _=>G1) (fun _ _ _ _=>(P2 (j5 (J0 (g4 (g6 hr) (d8 3 (pv 3) rfl) (d8 0 (pv 0) rfl) (fun _ _=>rfl)) (d8 1 (pv 1) rfl)) (j5 (J0 (g4 (g6 hr) (d8 4 (pv 4) rfl) (O7 (O7 (d8 5 (pv 5) rfl) d9) (d8 0 (pv 0) rfl)) (fun _ _=>rfl)) (d8 2 (pv 2) rfl)) y1 rfl) rfl) rfl))) g9 rfl)) rfl))) rd
theorem zW:j6 ["_law_guard","_law_more"] ["_law_guard","_law_more"] (e6 W7):=by walk_at "s"
theorem ve:(["_law_step","_law_more"]:List Str).Nodup:=by decide +kernel
theorem xJ {f:Addr} {fd:FuncData} (F:P6 K "_law_lifted" "_law_lifted" W7 f fd) (htuple:mg "tuple"=none)
  (len:∀ds Q,M6 ds Q->ds.length=2) (rd:∀ds Q,M6 ds Q->sU (EP Q) (g7 2 ds)):x5 P w K mg base O9 1 f fd ["_law_guard","_law_more"] (w5 K M6):=
 Z0 (cl:=[.bor,.bor]) F zW rfl len (fun cdv A outer s0 H E hr=>(R7 rfl (u7 (x3 (x3 (gG (d8 0 (pv 0) rfl) cM (W8 d9)) (P2 (j5 (B3 C9 aM (by rfl) htuple PyProof.Rows.boot_tuple (e7 (Y1 (XN:=["_law_guard","_law_more"]) (N:=["_law_step","_law_more"]) (XS:=e6 W7) (cap:=[none,some 1]) (by decide +kernel) rfl rfl rfl rfl (u4 (g4 (g6 hr) (d8 0 (pv 0) rfl) d9 (fun _ _=>rfl))) (fun _ _ _ _=>(o4 (i7 (i:=0) ve rfl (Or.inl rfl)) rfl)) (fun _ _ _ _=>G1) (fun _ _ _ _=>(P2 (j5 (x3 (g4 (g6 hr) (d8 0 (pv 0) rfl) d9 (fun _ _=>rfl)) (d8 1 (pv 1) rfl)) (j5 (PU.A7 (g4 (g6 hr) (d8 0 (pv 0) rfl) d9 (fun _ _=>rfl))) y1 rfl) rfl) rfl))) g9 rfl)) y1 rfl) rfl)) (gG (d8 0 (pv 0) rfl) (W8 d9) cM)) rfl))) rd
theorem bS:j6 ["_law_board","_law_overs_here","_law_found","_law_load","_law_name"] ["_law_board"] (e6 bO):=by walk_at "s"
theorem xq:(["_law_guard"]:List Str).Nodup:=by decide +kernel
theorem Cf {f:Addr} {fd:FuncData} (F:P6 K "_law_rest" "_law_rest" bO f fd) {fOvers:Addr} {fdOvers:FuncData} (COvers:A5 P w K mg base "_law_overs" 1 ["_law_board"] (w5 K T1) fOvers fdOvers) (hdict:mg "dict"=none) (hint:mg "int"=none)
  (len:∀ds Q,L0 ds Q->ds.length=1) (rd:∀ds Q,L0 ds Q->wd (EP Q) (g7 5 ds)):x5 P w K mg base O9 2 f fd ["_law_board"] (w5 K L0):=
 Z0 (cl:=[.bor,.bor,.own,.bor,.bor]) F bS rfl len (fun cdv A outer s0 H E hr=>(AB rfl (u3 (i:=1) bS.nd rfl (Or.inl rfl) (i4 COvers (hr.mono (by decide)) (by rfl) (e7 (d8 0 (pv 0) rfl) g9 rfl) rfl) rfl)
   (u3 (i:=2) bS.nd rfl (Or.inl rfl) (B3 (fu rfl) rJ (by rfl) hdict PyProof.Rows.boot_dict (e7 (Y1 (XN:=["_law_board","_law_overs_here","_law_found","_law_load","_law_name"]) (N:=["_law_guard"]) (XS:=e6 bO) (cap:=[none]) (by decide +kernel) rfl rfl rfl rfl (u4 (g4 (g6 hr) (d8 0 (pv 0) rfl) d9 (fun _ _=>rfl))) (fun _ _ _ _=>(o4 (i7 (i:=0) xq rfl (Or.inl rfl)) rfl)) (fun _ _ _ _=>G1) (fun _ _ _ _=>(P2 (j5 (PU.A7 (g4 (g6 hr) (d8 0 (pv 0) rfl) d9 (fun _ _=>rfl))) (j5 d9 y1 rfl) rfl) rfl))) g9 rfl)) rfl)
   (E9 (bq.m (u4 (g4 (g6 hr) (d8 0 (pv 0) rfl) d9 (fun _ _=>rfl))) rfl) (o4 (i7 (i:=3) bS.nd rfl (Or.inl rfl)) rfl)
    (R7 rfl (E9 (bq.m (u4 (g4 (g6 hr) (d8 1 (pv 1) rfl) (g4 (g6 hr) (d8 3 (pv 3) rfl) d9 (fun _ _=>rfl)) (fun _ _=>rfl))) rfl) (o4 (i7 (i:=4) bS.nd rfl (Or.inl rfl)) rfl)
    (R7 rfl (cX (g6 hr) 2 (pv 2) rfl (PU.n (x3 (g4 (g6 hr) (d8 2 (pv 2) rfl) (d8 4 (pv 4) rfl) (fun _ _=>rfl)) (J0 (g4 (g6 hr) (d8 3 (pv 3) rfl) d9 (fun _ _=>rfl)) (B3 di rl (by rfl) hint PyProof.Rows.boot_int (e7 (g4 (g6 hr) (d8 3 (pv 3) rfl) d9 (fun _ _=>rfl)) g9 rfl)))) rfl) (PU.n (d8 4 (pv 4) rfl) rfl))) (fun a b c=>B7 PassesOwn.never rfl a b c))) (fun a b c=>B7 PassesOwn.never rfl a b c))
   (aA 2 (pv 2) (by decide) rfl))) rd
theorem J3:j6 ["_law_script","_law_names_here","_law_unit","_law_time","_law_guards","_law_k","_law_feed_here","_law_at","_law_curve","_law_delay"] ["_law_script","_law_names_here","_law_unit","_law_time"] (e6 Q3):=by walk_at "s"
theorem rh {f:Addr} {fd:FuncData} (F:P6 K "_law_small_guards" "_law_small_guards" Q3 f fd) {fFeed:Addr} {fdFeed:FuncData} (CFeed:A5 P w K mg base "_law_feed" 2 ["_law_script","_law_k"] (w5 K O3) fFeed fdFeed) {fTake:Addr} {fdTake:FuncData} (CTake:A5 P w K mg base "_law_take" 1 ["_law_feed_here","_law_many"] (fW K p9) fTake fdTake) {fSmCurve:Addr} {fdSmCurve:FuncData} (CSmCurve:A5 P w K mg base "_law_small_curve" 2 ["_law_feed_here","_law_unit","_law_time"] (fW K N2) fSmCurve fdSmCurve) (hint:mg "int"=none) (hlen:mg "len"=none) (hrange:mg "range"=none)
  (len:∀ds Q,K5 ds Q->ds.length=4) (rd:∀ds Q,K5 ds Q->iR (EP Q) (g7 10 ds)):x5 P w K mg base O9 3 f fd ["_law_script","_law_names_here","_law_unit","_law_time"] (w5 K K5):=
 Z0 (cl:=[.bor,.bor,.bor,.bor,.own,.bor,.own,.bor,.bor,.bor]) F J3 rfl len (fun cdv A outer s0 H E hr=>(Ex rfl (u3 (i:=4) J3.nd rfl (Or.inl rfl) (G2 y1 rfl) rfl)
   (E9 (bq.m (R1 (by rfl) hrange (w6 G5 bp (by rfl) hlen PySem.boot_len (e7 (d8 1 (pv 1) rfl) g9 rfl)) rfl (fun pa=>K4 (by rfl) hrange pa)) rfl) (o4 (i7 (i:=5) J3.nd rfl (Or.inl rfl)) rfl)
    (Ek rfl (u3 (i:=6) J3.nd rfl (Or.inl rfl) (i4 CFeed (hr.mono (by decide)) (by rfl) (e7 (d8 0 (pv 0) rfl) (e7 (x3 d9 (d8 5 (pv 5) rfl)) g9 rfl) rfl) rfl) rfl)
   (C5 (i:=7) J3.nd rfl (Or.inl rfl) (PN.A7 (W9 (g6 hr) (PM.n (qT (C1 (o9 6 (pv 6) rfl CTake (hr.mono (by decide)) (by rfl) (o3 (PU.n (x3 (d8 5 (pv 5) rfl) d9) rfl) p6 rfl)) (C1 (PU.m (PU.A7 (d8 5 (pv 5) rfl))) bC rfl) rfl) rfl)) (PM.n (tJ di rl (by rfl) hint PyProof.Rows.boot_int (o3 (PM.n (EL (PM.n (o9 6 (pv 6) rfl CTake (hr.mono (by decide)) (by rfl) (o3 (PU.n d9 rfl) p6 rfl))) (PU.n d9 rfl) (u9 _))) p6 rfl))) (fun _ _=>rfl))) rfl)
   (C5 (i:=8) J3.nd rfl (Or.inl rfl) (o9 6 (pv 6) rfl CSmCurve (hr.mono (by decide)) (by rfl) (o3 (PU.n (d8 2 (pv 2) rfl) rfl) (o3 (PU.n (d8 3 (pv 3) rfl) rfl) p6 rfl) rfl)) rfl)
   (C5 (i:=9) J3.nd rfl (Or.inl rfl) (W6 (PM.n (o9 6 (pv 6) rfl CTake (hr.mono (by decide)) (by rfl) (o3 (PU.n d9 rfl) p6 rfl))) (PU.n (d8 3 (pv 3) rfl) rfl)) rfl)
   (aj (PM.n (K1 (r:=M8) 4 (pv 4) rfl (qL (C1 (PU.m (PU.A7 (g4 (g6 hr) (d8 1 (pv 1) rfl) (d8 5 (pv 5) rfl) (fun _ _=>rfl)))) (C1 (PU.m (g4 (g6 hr) (x3 (G2 (j5 M5 y1 rfl) rfl) (d8 1 (pv 1) rfl)) (d8 7 (pv 7) rfl) (fun _ _=>rfl))) (C1 (PU.m (PU.A7 (d8 8 (pv 8) rfl))) (C1 (PU.m (PU.A7 (d8 9 (pv 9) rfl))) (C1 (W6 (PM.n (o9 6 (pv 6) rfl CTake (hr.mono (by decide)) (by rfl) (o3 (PU.n d9 rfl) p6 rfl))) (PU.n (d8 3 (pv 3) rfl) rfl)) bC rfl) rfl) rfl) rfl) rfl) rfl) rfl (fun pa=>bQ PySem.F.plainAttrs_list PySem.F.slot_list_append PySem.F.type_list_append E6 (pv 4) pa))))) (fun a b c=>B7 PassesOwn.never rfl a b c))
   (aA 4 (pv 4) (by decide) rfl))) rd
theorem L5:j6 ["_law_script","_law_names_here","_law_guards","_law_unit","_law_time","_law_loads","_law_k","_law_feed_here","_law_at","_law_course","_law_j"] ["_law_script","_law_names_here","_law_guards","_law_unit","_law_time"] (e6 U4):=by walk_at "s"
theorem tD {f:Addr} {fd:FuncData} (F:P6 K "_law_small_loads" "_law_small_loads" U4 f fd) {fFeed:Addr} {fdFeed:FuncData} (CFeed:A5 P w K mg base "_law_feed" 2 ["_law_script","_law_k"] (w5 K O3) fFeed fdFeed) {fTake:Addr} {fdTake:FuncData} (CTake:A5 P w K mg base "_law_take" 1 ["_law_feed_here","_law_many"] (fW K p9) fTake fdTake) (hlen:mg "len"=none) (hrange:mg "range"=none) (htuple:mg "tuple"=none)
  (len:∀ds Q,O1 ds Q->ds.length=5) (rd:∀ds Q,O1 ds Q->mf (EP Q) (g7 11 ds)):x5 P w K mg base O9 3 f fd ["_law_script","_law_names_here","_law_guards","_law_unit","_law_time"] (w5 K O1):=
 Z0 (cl:=[.bor,.bor,.bor,.bor,.bor,.own,.bor,.own,.bor,.own,.bor]) F L5 rfl len (fun cdv A outer s0 H E hr=>(Ex rfl (u3 (i:=5) L5.nd rfl (Or.inl rfl) (G2 y1 rfl) rfl)
   (E9 (bq.m (R1 (by rfl) hrange (w6 G5 bp (by rfl) hlen PySem.boot_len (e7 (d8 1 (pv 1) rfl) g9 rfl)) rfl (fun pa=>K4 (by rfl) hrange pa)) rfl) (o4 (i7 (i:=6) L5.nd rfl (Or.inl rfl)) rfl)
    (Ek rfl (u3 (i:=7) L5.nd rfl (Or.inl rfl) (i4 CFeed (hr.mono (by decide)) (by rfl) (e7 (d8 0 (pv 0) rfl) (e7 (x3 d9 (d8 6 (pv 6) rfl)) g9 rfl) rfl) rfl) rfl)
   (C5 (i:=8) L5.nd rfl (Or.inl rfl) (PN.A7 (W9 (g6 hr) (W9 (g6 hr) (PU.n (d8 2 (pv 2) rfl) rfl) (PM.n (o9 7 (pv 7) rfl CTake (hr.mono (by decide)) (by rfl) (o3 (PU.n (w6 G5 bp (by rfl) hlen PySem.boot_len (e7 (d8 2 (pv 2) rfl) g9 rfl)) rfl) p6 rfl))) (fun _ _=>rfl)) (PU.n d9 rfl) (fun _ _=>rfl))) rfl)
   (u3 (i:=9) L5.nd rfl (Or.inl rfl) (G2 y1 rfl) rfl)
   (E9 (uR (by rfl) hrange (PM.n (o9 7 (pv 7) rfl CTake (hr.mono (by decide)) (by rfl) (o3 (PU.n d9 rfl) p6 rfl))) rfl (fun pa=>K4 (by rfl) hrange pa)) (o4 (i7 (i:=10) L5.nd rfl (Or.inl rfl)) rfl)
    (R7 rfl (aj (PM.n (K1 (r:=M8) 9 (pv 9) rfl (qL (C1 (W6 (PM.n (I0 (PU.n d9 rfl) (PM.n (o9 7 (pv 7) rfl CTake (hr.mono (by decide)) (by rfl) (o3 (PU.n d9 rfl) p6 rfl))))) (PU.n (d8 4 (pv 4) rfl) rfl)) (C1 (W6 (PM.n (o9 7 (pv 7) rfl CTake (hr.mono (by decide)) (by rfl) (o3 (PU.n d9 rfl) p6 rfl))) (PU.n (d8 3 (pv 3) rfl) rfl)) bC rfl) rfl) rfl) rfl (fun pa=>bQ PySem.F.plainAttrs_list PySem.F.slot_list_append PySem.F.type_list_append E6 (pv 9) pa))))) (fun a b c=>B7 PassesOwn.never rfl a b c))
   (aj (PM.n (K1 (r:=M8) 5 (pv 5) rfl (qL (C1 (PU.m (PU.A7 (g4 (g6 hr) (d8 1 (pv 1) rfl) (d8 6 (pv 6) rfl) (fun _ _=>rfl)))) (C1 (PU.m (PU.A7 (d8 8 (pv 8) rfl))) (C1 (PU.m (B3 C9 aM (by rfl) htuple PyProof.Rows.boot_tuple (e7 (d8 9 (pv 9) rfl) g9 rfl))) (C1 (W6 (PM.n (o9 7 (pv 7) rfl CTake (hr.mono (by decide)) (by rfl) (o3 (PU.n d9 rfl) p6 rfl))) (PU.n (d8 3 (pv 3) rfl) rfl)) (C1 (EL (PM.n (o9 7 (pv 7) rfl CTake (hr.mono (by decide)) (by rfl) (o3 (PU.n d9 rfl) p6 rfl))) (PU.n d9 rfl) (u9 _)) bC rfl) rfl) rfl) rfl) rfl) rfl) rfl (fun pa=>bQ PySem.F.plainAttrs_list PySem.F.slot_list_append PySem.F.type_list_append E6 (pv 5) pa))))) (fun a b c=>B7 PassesOwn.never rfl a b c))
   (aA 5 (pv 5) (by decide) rfl))) rd
theorem J7:j6 ["_law_script","_law_unit","_law_time","_law_feed_here","_law_many","_law_names_here","_law_guards","_law_loads","_law_found"] ["_law_script","_law_unit","_law_time"] (e6 R4):=by walk_at "s"
theorem pB:(["_law_guard","_law_found"]:List Str).Nodup:=by decide +kernel
theorem uI {f:Addr} {fd:FuncData} (F:P6 K "_law_small_board" "_law_small_board" R4 f fd) {fFeed:Addr} {fdFeed:FuncData} (CFeed:A5 P w K mg base "_law_feed" 2 ["_law_script","_law_k"] (w5 K O3) fFeed fdFeed) {fTake:Addr} {fdTake:FuncData} (CTake:A5 P w K mg base "_law_take" 1 ["_law_feed_here","_law_many"] (fW K p9) fTake fdTake) {fNames:Addr} {fdNames:FuncData} (CNames:A5 P w K mg base "_law_names" 2 ["_law_feed_here","_law_many"] (fW K aa) fNames fdNames) {fLifted:Addr} {fdLifted:FuncData} (CLifted:A5 P w K mg base "_law_lifted" 1 ["_law_guard","_law_more"] (w5 K M6) fLifted fdLifted) {fRestL:Addr} {fdRestL:FuncData} (CRestL:A5 P w K mg base "_law_rest" 2 ["_law_board"] (w5 K L0) fRestL fdRestL) {fSmGuards:Addr} {fdSmGuards:FuncData} (CSmGuards:A5 P w K mg base "_law_small_guards" 3 ["_law_script","_law_names_here","_law_unit","_law_time"] (w5 K K5) fSmGuards fdSmGuards) {fSmLoads:Addr} {fdSmLoads:FuncData} (CSmLoads:A5 P w K mg base "_law_small_loads" 3 ["_law_script","_law_names_here","_law_guards","_law_unit","_law_time"] (w5 K O1) fSmLoads fdSmLoads) (htuple:mg "tuple"=none)
  (len:∀ds Q,N3 ds Q->ds.length=3) (rd:∀ds Q,N3 ds Q->lM (EP Q) (g7 9 ds)):x5 P w K mg base O9 4 f fd ["_law_script","_law_unit","_law_time"] (w5 K N3):=
 Z0 (cl:=[.bor,.bor,.bor,.own,.bor,.bor,.bor,.bor,.bor]) F J7 rfl len (fun cdv A outer s0 H E hr=>(MG rfl (u3 (i:=3) J7.nd rfl (Or.inl rfl) (i4 CFeed (hr.mono (by decide)) (by rfl) (e7 (d8 0 (pv 0) rfl) (e7 d9 g9 rfl) rfl) rfl) rfl)
   (C5 (i:=4) J7.nd rfl (Or.inl rfl) (I0 (PU.n d9 rfl) (PM.n (o9 3 (pv 3) rfl CTake (hr.mono (by decide)) (by rfl) (o3 (PU.n d9 rfl) p6 rfl)))) rfl)
   (C5 (i:=5) J7.nd rfl (Or.inl rfl) (Aj CNames (hr.mono (by decide)) (by rfl) (PU.m (i4 CFeed (hr.mono (by decide)) (by rfl) (e7 (d8 0 (pv 0) rfl) (e7 d9 g9 rfl) rfl) rfl)) (C1 (I0 (PU.n (d8 4 (pv 4) rfl) rfl) (PM.n (o9 3 (pv 3) rfl CTake (hr.mono (by decide)) (by rfl) (o3 (PU.n d9 rfl) p6 rfl)))) bC rfl) rfl) rfl)
   (u3 (i:=6) J7.nd rfl (Or.inl rfl) (i4 CSmGuards (hr.mono (by decide)) (by rfl) (e7 (d8 0 (pv 0) rfl) (e7 (gG (d8 5 (pv 5) rfl) cM (W8 (d8 4 (pv 4) rfl))) (e7 (d8 1 (pv 1) rfl) (e7 (d8 2 (pv 2) rfl) g9 rfl) rfl) rfl) rfl) rfl) rfl)
   (u3 (i:=7) J7.nd rfl (Or.inl rfl) (i4 CSmLoads (hr.mono (by decide)) (by rfl) (e7 (d8 0 (pv 0) rfl) (e7 (gG (d8 5 (pv 5) rfl) (W8 (d8 4 (pv 4) rfl)) cM) (e7 (d8 6 (pv 6) rfl) (e7 (d8 1 (pv 1) rfl) (e7 (d8 2 (pv 2) rfl) g9 rfl) rfl) rfl) rfl) rfl) rfl) rfl)
   (u3 (i:=8) J7.nd rfl (Or.inr rfl) (i4 CRestL (hr.mono (by decide)) (by rfl) (e7 (DB (rM (d8 6 (pv 6) rfl) (rM (d8 7 (pv 7) rfl) Gf rfl rfl) rfl rfl) rfl) g9 rfl) rfl) rfl)
   (T5 (Ez (PM.n (o9 3 (pv 3) rfl CTake (hr.mono (by decide)) (by rfl) (o3 (PU.n d9 rfl) p6 rfl))) (PU.n d9 rfl) (u9 _)) (R7 rfl (kc (i:=6) (XN:=["_law_script","_law_unit","_law_time","_law_feed_here","_law_many","_law_names_here","_law_guards","_law_loads","_law_found"]) (N:=["_law_guard","_law_found"]) (XS:=e6 R4) (cap:=[none,some 8]) J7.nd rfl rfl rfl (by decide +kernel) rfl rfl rfl rfl (u4 (d8 6 (pv 6) rfl)) (fun _ _ _ _=>(o4 (i7 (i:=0) pB rfl (Or.inl rfl)) rfl)) (fun _ _ _ _=>G1) (fun _ _ _ _=>(i4 CLifted (hr.mono (by decide)) (by rfl) (e7 (d8 0 (pv 0) rfl) (e7 (g4 (g6 hr) (d8 1 (pv 1) rfl) (g4 (g6 hr) (d8 0 (pv 0) rfl) d9 (fun _ _=>rfl)) (fun _ _=>rfl)) g9 rfl) rfl) rfl)))) K9)
   (u7 (P2 (j5 (B3 C9 aM (by rfl) htuple PyProof.Rows.boot_tuple (e7 (d8 6 (pv 6) rfl) g9 rfl)) (j5 (B3 C9 aM (by rfl) htuple PyProof.Rows.boot_tuple (e7 (d8 7 (pv 7) rfl) g9 rfl)) y1 rfl) rfl) rfl) rfl))) rd
theorem jF:j6 ["_law_board","_law_place","_law_known","_law_found","_law_load"] ["_law_board","_law_place"] (e6 ed):=by walk_at "s"
theorem Cc:(["_law_guard"]:List Str).Nodup:=by decide +kernel
theorem AM:(["_law_name","_law_known","_law_found"]:List Str).Nodup:=by decide +kernel
theorem HX {f:Addr} {fd:FuncData} (F:P6 K "_law_path" "_law_path" ed f fd) {fOvers:Addr} {fdOvers:FuncData} (COvers:A5 P w K mg base "_law_overs" 1 ["_law_board"] (w5 K T1) fOvers fdOvers) {fRestL:Addr} {fdRestL:FuncData} (CRestL:A5 P w K mg base "_law_rest" 2 ["_law_board"] (w5 K L0) fRestL fdRestL) (hdict:mg "dict"=none)
  (len:∀ds Q,bc ds Q->ds.length=2) (rd:∀ds Q,bc ds Q->Fh (EP Q) (g7 5 ds)):x5 P w K mg base O9 3 f fd ["_law_board","_law_place"] (w5 K bc):=
 Z0 (cl:=[.bor,.bor,.bor,.bor,.bor]) F jF rfl len (fun cdv A outer s0 H E hr=>(AB rfl (u3 (i:=2) jF.nd rfl (Or.inr rfl) (B3 (fu rfl) rJ (by rfl) hdict PyProof.Rows.boot_dict (e7 (Y1 (XN:=["_law_board","_law_place","_law_known","_law_found","_law_load"]) (N:=["_law_guard"]) (XS:=e6 ed) (cap:=[none]) (by decide +kernel) rfl rfl rfl rfl (u4 (g4 (g6 hr) (d8 0 (pv 0) rfl) d9 (fun _ _=>rfl))) (fun _ _ _ _=>(o4 (i7 (i:=0) Cc rfl (Or.inl rfl)) rfl)) (fun _ _ _ _=>G1) (fun _ _ _ _=>(P2 (j5 (PU.A7 (g4 (g6 hr) (d8 0 (pv 0) rfl) d9 (fun _ _=>rfl))) (j5 (PU.A7 (d8 0 (pv 0) rfl)) y1 rfl) rfl) rfl))) g9 rfl)) rfl)
   (u3 (i:=3) jF.nd rfl (Or.inr rfl) (i4 CRestL (hr.mono (by decide)) (by rfl) (e7 (d8 0 (pv 0) rfl) g9 rfl) rfl) rfl)
   (E9 (bq.m (u4 (g4 (g6 hr) (d8 0 (pv 0) rfl) d9 (fun _ _=>rfl))) rfl) (o4 (i7 (i:=4) jF.nd rfl (Or.inl rfl)) rfl)
    (R7 rfl (T5 (T7.m (qH.pt (gr (jE hr (g4 (g6 hr) (d8 4 (pv 4) rfl) d9 (fun _ _=>rfl)) (d8 1 (pv 1) rfl) (u9 _)) (cu (jR (U5 (g4 (g6 hr) (d8 4 (pv 4) rfl) d9 (fun _ _=>rfl)) (fun _=>rfl))))))) (R7 rfl (u7 (G2 y1 rfl) rfl)) K9)) (fun a b c=>B7 PassesOwn.never rfl a b c))
   (u7 (Y1 (XN:=["_law_board","_law_place","_law_known","_law_found","_law_load"]) (N:=["_law_name","_law_known","_law_found"]) (XS:=e6 ed) (cap:=[none,some 2,some 3]) (by decide +kernel) rfl rfl rfl rfl (u4 (g4 (g6 hr) (i4 COvers (hr.mono (by decide)) (by rfl) (e7 (d8 0 (pv 0) rfl) g9 rfl) rfl) (d8 1 (pv 1) rfl) (fun _ _=>rfl))) (fun _ _ _ _=>(o4 (i7 (i:=0) AM rfl (Or.inl rfl)) rfl)) (fun _ _ _ _=>G1) (fun _ _ _ _=>(P2 (j5 (PU.A7 (g4 (g6 hr) (d8 1 (pv 1) rfl) (d8 0 (pv 0) rfl) (fun _ _=>rfl))) (j5 (PU.A7 (g4 (g6 hr) (d8 2 (pv 2) rfl) (d8 0 (pv 0) rfl) (fun _ _=>rfl))) y1 rfl) rfl) rfl))) rfl))) rd
theorem cz:j6 ["_law_path_here","_law_most_here","_law_lows_here","_law_guard","_law_one","_law_step"] ["_law_path_here","_law_most_here"] (e6 dw):=by walk_at "s"
theorem Du {f:Addr} {fd:FuncData} (F:P6 K "_law_lows" "_law_lows" dw f fd) (hlist:mg "list"=none) (hsorted:mg "sorted"=none)
  (len:∀ds Q,ai ds Q->ds.length=2) (rd:∀ds Q,ai ds Q->wV (EP Q) (g7 6 ds)):x5 P w K mg base O9 1 f fd ["_law_path_here","_law_most_here"] (w5 K ai):=
 Z0 (cl:=[.bor,.bor,.own,.bor,.bor,.bor]) F cz rfl len (fun cdv A outer s0 H E hr=>(Ex rfl (u3 (i:=2) cz.nd rfl (Or.inl rfl) (xi d9 rS) rfl)
   (E9 (bq.m (u4 (d8 0 (pv 0) rfl)) rfl) (jk (n:=2) (D9 (o4 (i7 (i:=3) cz.nd rfl (Or.inl rfl)) rfl) (D9 (o4 (i7 (i:=4) cz.nd rfl (Or.inl rfl)) rfl) cT)) (fun _ _ _ h=>lF h) (fun p=>dh rfl p))
    (R7 rfl (E9 (bq.m (u4 (g4 (g6 hr) (d8 3 (pv 3) rfl) d9 (fun _ _=>rfl))) rfl) (o4 (i7 (i:=5) cz.nd rfl (Or.inl rfl)) rfl)
    (R7 rfl (T5 (T7.m (pD (O7 (g4 (g6 hr) (d8 5 (pv 5) rfl) d9 (fun _ _=>rfl)) (d8 4 (pv 4) rfl)) (d8 1 (pv 1) rfl) (u9 _))) (R7 rfl (cX (g6 hr) 2 (pv 2) rfl (PU.n rS rfl) (PU.n (O7 (g4 (g6 hr) (d8 5 (pv 5) rfl) d9 (fun _ _=>rfl)) (d8 4 (pv 4) rfl)) rfl))) K9)) (fun a b c=>B7 PassesOwn.never rfl a b c))) (fun a b c=>B7 PassesOwn.never rfl a b c))
   (u7 (w6 qi Gz (by rfl) hsorted PyProof.Rows.boot_sorted (e7 (B3 (pH rfl) Bp (by rfl) hlist PyProof.Rows.boot_list (e7 (d8 2 (pv 2) rfl) g9 rfl)) g9 rfl)) rfl))) rd
theorem jG:j6 ["_law_board","_law_found","_law_guard"] ["_law_board"] (e6 dm):=by walk_at "s"
theorem AU {f:Addr} {fd:FuncData} (F:P6 K "_law_loud" "_law_loud" dm f fd) {fRestL:Addr} {fdRestL:FuncData} (CRestL:A5 P w K mg base "_law_rest" 2 ["_law_board"] (w5 K L0) fRestL fdRestL)
  (len:∀ds Q,Z3 ds Q->ds.length=1) (rd:∀ds Q,Z3 ds Q->yc (EP Q) (g7 3 ds)):x5 P w K mg base O9 3 f fd ["_law_board"] (w5 K Z3):=
 Z0 (cl:=[.bor,.bor,.bor]) F jG rfl len (fun cdv A outer s0 H E hr=>(Ex rfl (u3 (i:=1) jG.nd rfl (Or.inl rfl) (i4 CRestL (hr.mono (by decide)) (by rfl) (e7 (d8 0 (pv 0) rfl) g9 rfl) rfl) rfl)
   (E9 (bq.m (u4 (g4 (g6 hr) (d8 0 (pv 0) rfl) d9 (fun _ _=>rfl))) rfl) (o4 (i7 (i:=2) jG.nd rfl (Or.inl rfl)) rfl)
    (R7 rfl (T5 (T7.m (Ah (g4 (g6 hr) (d8 1 (pv 1) rfl) (g4 (g6 hr) (d8 2 (pv 2) rfl) d9 (fun _ _=>rfl)) (fun _ _=>rfl)) (g4 (g6 hr) (g4 (g6 hr) (g4 (g6 hr) (d8 2 (pv 2) rfl) d9 (fun _ _=>rfl)) d9 (fun _ _=>rfl)) d9 (fun _ _=>rfl)) (u9 _))) (R7 rfl (u7 (PU.A7 (g4 (g6 hr) (d8 2 (pv 2) rfl) d9 (fun _ _=>rfl))) rfl)) K9)) (fun a b c=>B7 PassesOwn.never rfl a b c))
   (u7 M5 rfl))) rd
theorem vT:j6 ["_law_board"] ["_law_board"] (e6 S4):=by walk_at "s"
theorem vb:(["_law_guard"]:List Str).Nodup:=by decide +kernel
theorem tX:(["_law_load"]:List Str).Nodup:=by decide +kernel
theorem zi {f:Addr} {fd:FuncData} (F:P6 K "_law_places" "_law_places" S4 f fd)
  (len:∀ds Q,S3 ds Q->ds.length=1) (rd:∀ds Q,S3 ds Q->sD (EP Q) (g7 1 ds)):x5 P w K mg base O9 1 f fd ["_law_board"] (w5 K S3):=
 Z0 (cl:=[.bor]) F vT rfl len (fun cdv A outer s0 H E hr=>(R7 rfl (u7 (x3 (Y1 (XN:=["_law_board"]) (N:=["_law_guard"]) (XS:=e6 S4) (cap:=[none]) (by decide +kernel) rfl rfl rfl rfl (u4 (g4 (g6 hr) (d8 0 (pv 0) rfl) d9 (fun _ _=>rfl))) (fun _ _ _ _=>(o4 (i7 (i:=0) vb rfl (Or.inl rfl)) rfl)) (fun _ _ _ _=>G1) (fun _ _ _ _=>(PU.A7 (g4 (g6 hr) (d8 0 (pv 0) rfl) d9 (fun _ _=>rfl))))) (Y1 (XN:=["_law_board"]) (N:=["_law_load"]) (XS:=e6 S4) (cap:=[none]) (by decide +kernel) rfl rfl rfl rfl (u4 (g4 (g6 hr) (d8 0 (pv 0) rfl) d9 (fun _ _=>rfl))) (fun _ _ _ _=>(o4 (i7 (i:=0) tX rfl (Or.inl rfl)) rfl)) (fun _ _ _ _=>G1) (fun _ _ _ _=>(PU.A7 (g4 (g6 hr) (d8 0 (pv 0) rfl) d9 (fun _ _=>rfl)))))) rfl))) rd
theorem eX:j6 ["_law_script","_law_feed_here","_law_unit","_law_time"] ["_law_script"] (e6 dt):=by walk_at "s"
theorem CU {f:Addr} {fd:FuncData} (F:P6 K "_law_sized" "_law_sized" dt f fd) {fFeed:Addr} {fdFeed:FuncData} (CFeed:A5 P w K mg base "_law_feed" 2 ["_law_script","_law_k"] (w5 K O3) fFeed fdFeed) {fTake:Addr} {fdTake:FuncData} (CTake:A5 P w K mg base "_law_take" 1 ["_law_feed_here","_law_many"] (fW K p9) fTake fdTake) {fSmBoard:Addr} {fdSmBoard:FuncData} (CSmBoard:A5 P w K mg base "_law_small_board" 4 ["_law_script","_law_unit","_law_time"] (w5 K N3) fSmBoard fdSmBoard)
  (len:∀ds Q,Z9 ds Q->ds.length=1) (rd:∀ds Q,Z9 ds Q->wM (EP Q) (g7 4 ds)):x5 P w K mg base O9 5 f fd ["_law_script"] (w5 K Z9):=
 Z0 (cl:=[.bor,.own,.bor,.bor]) F eX rfl len (fun cdv A outer s0 H E hr=>(AB rfl (u3 (i:=1) eX.nd rfl (Or.inl rfl) (i4 CFeed (hr.mono (by decide)) (by rfl) (e7 (d8 0 (pv 0) rfl) (e7 d9 g9 rfl) rfl) rfl) rfl)
   (C5 (i:=2) eX.nd rfl (Or.inl rfl) (PN.A7 (W9 (g6 hr) (PU.n (G2 (j5 d9 (j5 d9 (j5 d9 (j5 (x3 (jT d9 d9) d9) y1 rfl) rfl) rfl) rfl) rfl) rfl) (PM.n (o9 1 (pv 1) rfl CTake (hr.mono (by decide)) (by rfl) (o3 (PU.n d9 rfl) p6 rfl))) (fun _ _=>rfl))) rfl)
   (C5 (i:=3) eX.nd rfl (Or.inl rfl) (PN.A7 (W9 (g6 hr) (PU.n (G2 (j5 d9 (j5 d9 (j5 d9 (j5 (jT d9 d9) y1 rfl) rfl) rfl) rfl) rfl) rfl) (PM.n (o9 1 (pv 1) rfl CTake (hr.mono (by decide)) (by rfl) (o3 (PU.n d9 rfl) p6 rfl))) (fun _ _=>rfl))) rfl)
   (u7 (P2 (j5 (i4 CSmBoard (hr.mono (by decide)) (by rfl) (e7 (d8 0 (pv 0) rfl) (e7 (d8 2 (pv 2) rfl) (e7 (d8 3 (pv 3) rfl) g9 rfl) rfl) rfl) rfl) (j5 (PU.A7 (d8 2 (pv 2) rfl)) y1 rfl) rfl) rfl) rfl))) rd
theorem gE:j6 ["_law_feed_here","_law_path_here","_law_unit","_law_way","_law_guard","_law_one","_law_step"] ["_law_feed_here","_law_path_here","_law_unit"] (e6 iJ):=by walk_at "s"
theorem Ig {f:Addr} {fd:FuncData} (F:P6 K "_law_most" "_law_most" iJ f fd) {fTake:Addr} {fdTake:FuncData} (CTake:A5 P w K mg base "_law_take" 1 ["_law_feed_here","_law_many"] (fW K p9) fTake fdTake) (hlen:mg "len"=none) (hmax:mg "max"=none)
  (len:∀ds Q,ez ds Q->ds.length=3) (rd:∀ds Q,ez ds Q->EF (EM Q) (g7 7 ds)):x5 P w K mg base O9 2 f fd ["_law_feed_here","_law_path_here","_law_unit"] (fW K ez):=
 KU (cl:=[.bor,.bor,.bor,.bor,.bor,.bor]) F gE rfl len (fun cdv A outer s0 H E hr=>(Me rfl (C5 (i:=3) gE.nd rfl (Or.inl rfl) (o9 0 (pv 0) rfl CTake (hr.mono (by decide)) (by rfl) (o3 (PU.n d9 rfl) p6 rfl)) rfl)
   (T5 (T7.m (jE hr (d8 3 (pv 3) rfl) d9 (u9 _))) (R7 rfl (u7 (O7 (jT d9 d9) d9) rfl)) K9)
   (T5 (T7.m (qH.pt (Eh (xU (d8 3 (pv 3) rfl) d9 (u9 _)) (yE (jE hr (w6 G5 bp (by rfl) hlen PySem.boot_len (e7 (d8 1 (pv 1) rfl) g9 rfl)) d9 (u9 _)))))) (R7 rfl (xa (I0 (PU.n d9 rfl) (PM.n (W6 (PM.n (o9 0 (pv 0) rfl CTake (hr.mono (by decide)) (by rfl) (o3 (PU.n d9 rfl) p6 rfl))) (PU.n (d8 2 (pv 2) rfl) rfl)))))) K9)
   (FY (W9 (g6 hr) (PU.n (d8 1 (pv 1) rfl) rfl) (PM.n (o9 0 (pv 0) rfl CTake (hr.mono (by decide)) (by rfl) (o3 (PU.n (w6 G5 bp (by rfl) hlen PySem.boot_len (e7 (d8 1 (pv 1) rfl) g9 rfl)) rfl) p6 rfl))) (fun _ _=>rfl)) (jk (n:=2) (D9 (o4 (i7 (i:=4) gE.nd rfl (Or.inl rfl)) rfl) (D9 (o4 (i7 (i:=5) gE.nd rfl (Or.inl rfl)) rfl) cT)) (fun _ _ _ h=>lF h) (fun p=>dh rfl p)) (fun p g=>T4 p g))
   (C5 (i:=6) gE.nd rfl (Or.inl rfl) (PN.A7 (W9 (g6 hr) (PU.n (g4 (g6 hr) (d8 4 (pv 4) rfl) d9 (fun _ _=>rfl)) rfl) (PM.n (o9 0 (pv 0) rfl CTake (hr.mono (by decide)) (by rfl) (o3 (PU.n (w6 G5 bp (by rfl) hlen PySem.boot_len (e7 (g4 (g6 hr) (d8 4 (pv 4) rfl) d9 (fun _ _=>rfl)) g9 rfl)) rfl) p6 rfl))) (fun _ _=>rfl))) rfl)
   (xa (yR (cS rfl) GG (by rfl) hmax PyProof.Rows.boot_max (o3 (PU.n d9 rfl) (o3 (PM.n (I0 (PU.n (O7 (O7 (g4 (g6 hr) (d8 6 (pv 6) rfl) d9 (fun _ _=>rfl)) (d8 5 (pv 5) rfl)) d9) rfl) (PM.n (o9 0 (pv 0) rfl CTake (hr.mono (by decide)) (by rfl) (o3 (PU.n d9 rfl) p6 rfl))))) p6 rfl) rfl))))) rd
theorem M0:j6 ["_law_board","_law_found","_law_lows_here","_law_guards","_law_guard","_law_mine","_law_low"] ["_law_board"] (e6 U2):=by walk_at "s"
theorem vC {f:Addr} {fd:FuncData} (F:P6 K "_law_sighted" "_law_sighted" U2 f fd) {fLifted:Addr} {fdLifted:FuncData} (CLifted:A5 P w K mg base "_law_lifted" 1 ["_law_guard","_law_more"] (w5 K M6) fLifted fdLifted) {fRestL:Addr} {fdRestL:FuncData} (CRestL:A5 P w K mg base "_law_rest" 2 ["_law_board"] (w5 K L0) fRestL fdRestL) (hmax:mg "max"=none) (htuple:mg "tuple"=none)
  (len:∀ds Q,N4 ds Q->ds.length=1) (rd:∀ds Q,N4 ds Q->mV (EP Q) (g7 7 ds)):x5 P w K mg base O9 3 f fd ["_law_board"] (w5 K N4):=
 Z0 (cl:=[.bor,.bor,.own,.own,.bor,.bor,.bor]) F M0 rfl len (fun cdv A outer s0 H E hr=>(Ek rfl (u3 (i:=1) M0.nd rfl (Or.inl rfl) (i4 CRestL (hr.mono (by decide)) (by rfl) (e7 (d8 0 (pv 0) rfl) g9 rfl) rfl) rfl)
   (u3 (i:=2) M0.nd rfl (Or.inl rfl) zq rfl)
   (u3 (i:=3) M0.nd rfl (Or.inl rfl) (G2 y1 rfl) rfl)
   (E9 (bq.m (u4 (xp (g4 (g6 hr) (d8 0 (pv 0) rfl) d9 (fun _ _=>rfl)) (gN d9))) rfl) (o4 (i7 (i:=4) M0.nd rfl (Or.inl rfl)) rfl)
    (AB rfl (u3 (i:=5) M0.nd rfl (Or.inl rfl) (O7 (g4 (g6 hr) (g4 (g6 hr) (g4 (g6 hr) (d8 4 (pv 4) rfl) d9 (fun _ _=>rfl)) d9 (fun _ _=>rfl)) d9 (fun _ _=>rfl)) (g4 (g6 hr) (d8 1 (pv 1) rfl) (g4 (g6 hr) (d8 4 (pv 4) rfl) d9 (fun _ _=>rfl)) (fun _ _=>rfl))) rfl)
   (u3 (i:=6) M0.nd rfl (Or.inl rfl) (w6 (cS rfl) GG (by rfl) hmax PyProof.Rows.boot_max (e7 (oh (d8 2 (pv 2) rfl) (g4 (g6 hr) (d8 4 (pv 4) rfl) d9 (fun _ _=>rfl)) d9 ⟨rfl,rfl,rfl,rfl⟩) (e7 (d8 5 (pv 5) rfl) g9 rfl) rfl)) rfl)
   (aj (PM.n (K1 (r:=M8) 3 (pv 3) rfl (PU.m (i4 CLifted (hr.mono (by decide)) (by rfl) (e7 (d8 4 (pv 4) rfl) (e7 (O7 (d8 6 (pv 6) rfl) (d8 5 (pv 5) rfl)) g9 rfl) rfl) rfl)) rfl (fun pa=>bQ PySem.F.plainAttrs_list PySem.F.slot_list_append PySem.F.type_list_append E6 (pv 3) pa))))
   (CN 2 (pv 2) rfl (PU.n (w6 (cS rfl) GG (by rfl) hmax PyProof.Rows.boot_max (e7 (oh (d8 2 (pv 2) rfl) (g4 (g6 hr) (d8 4 (pv 4) rfl) d9 (fun _ _=>rfl)) d9 ⟨rfl,rfl,rfl,rfl⟩) (e7 (d8 6 (pv 6) rfl) g9 rfl) rfl)) rfl) (PU.n (g4 (g6 hr) (d8 4 (pv 4) rfl) d9 (fun _ _=>rfl)) rfl))) (fun a b c=>B7 PassesOwn.never rfl a b c))
   (u7 (P2 (j5 (B3 C9 aM (by rfl) htuple PyProof.Rows.boot_tuple (e7 (BD (d8 3 (pv 3) rfl) (gN d9)) g9 rfl)) (j5 (PU.A7 (g4 (g6 hr) (d8 0 (pv 0) rfl) d9 (fun _ _=>rfl))) y1 rfl) rfl) rfl) rfl))) rd
theorem dA:j6 ["_law_script","_law_board","_law_unit","_law_feed_here","_law_places_here"] ["_law_script"] (e6 jf):=by walk_at "s"
theorem FE {f:Addr} {fd:FuncData} (F:P6 K "_law_case" "_law_case" jf f fd) {fFeed:Addr} {fdFeed:FuncData} (CFeed:A5 P w K mg base "_law_feed" 2 ["_law_script","_law_k"] (w5 K O3) fFeed fdFeed) {fTake:Addr} {fdTake:FuncData} (CTake:A5 P w K mg base "_law_take" 1 ["_law_feed_here","_law_many"] (fW K p9) fTake fdTake) {fPath:Addr} {fdPath:FuncData} (CPath:A5 P w K mg base "_law_path" 3 ["_law_board","_law_place"] (w5 K bc) fPath fdPath) {fPlaces:Addr} {fdPlaces:FuncData} (CPlaces:A5 P w K mg base "_law_places" 1 ["_law_board"] (w5 K S3) fPlaces fdPlaces) {fSized:Addr} {fdSized:FuncData} (CSized:A5 P w K mg base "_law_sized" 5 ["_law_script"] (w5 K Z9) fSized fdSized) {fMost:Addr} {fdMost:FuncData} (CMost:A5 P w K mg base "_law_most" 2 ["_law_feed_here","_law_path_here","_law_unit"] (fW K ez) fMost fdMost) {fSighted:Addr} {fdSighted:FuncData} (CSighted:A5 P w K mg base "_law_sighted" 3 ["_law_board"] (w5 K N4) fSighted fdSighted) (hlen:mg "len"=none)
  (len:∀ds Q,dX ds Q->ds.length=1) (rd:∀ds Q,dX ds Q->EK (EP Q) (g7 5 ds)):x5 P w K mg base O9 6 f fd ["_law_script"] (w5 K dX):=
 Z0 (cl:=[.bor,.bor,.bor,.own,.bor]) F dA rfl len (fun cdv A outer s0 H E hr=>(Ek rfl (rG (i4 CSized (hr.mono (by decide)) (by rfl) (e7 (d8 0 (pv 0) rfl) g9 rfl) rfl) rfl (jk (n:=2) (D9 (o4 (i7 (i:=1) dA.nd rfl (Or.inl rfl)) rfl) (D9 (o4 (i7 (i:=2) dA.nd rfl (Or.inl rfl)) rfl) cT)) (fun _ _ _ h=>lF h) (fun p=>dh rfl p)) (fun p g=>T4 p g))
   (u3 (i:=3) dA.nd rfl (Or.inl rfl) (i4 CFeed (hr.mono (by decide)) (by rfl) (e7 (d8 0 (pv 0) rfl) (e7 d9 g9 rfl) rfl) rfl) rfl)
   (T5 (Ez (PM.n (o9 3 (pv 3) rfl CTake (hr.mono (by decide)) (by rfl) (o3 (PU.n d9 rfl) p6 rfl))) (PU.n d9 rfl) (u9 _)) (R7 rfl (u3 (i:=1) dA.nd rfl (Or.inl rfl) (i4 CSighted (hr.mono (by decide)) (by rfl) (e7 (d8 1 (pv 1) rfl) g9 rfl) rfl) rfl)) K9)
   (u3 (i:=4) dA.nd rfl (Or.inl rfl) (i4 CPlaces (hr.mono (by decide)) (by rfl) (e7 (d8 1 (pv 1) rfl) g9 rfl) rfl) rfl)
   (HL (i:=3) (PU.m (PU.A7 (d8 1 (pv 1) rfl))) rfl (o9 3 (pv 3) rfl CMost (hr.mono (by decide)) (by rfl) (o3 (PM.n (vX CPath (hr.mono (by decide)) (by rfl) (o3 (PU.n (d8 1 (pv 1) rfl) rfl) (o3 (W9 (g6 hr) (PU.n (d8 4 (pv 4) rfl) rfl) (PM.n (o9 3 (pv 3) rfl CTake (hr.mono (by decide)) (by rfl) (o3 (PU.n (w6 G5 bp (by rfl) hlen PySem.boot_len (e7 (d8 4 (pv 4) rfl) g9 rfl)) rfl) p6 rfl))) (fun _ _=>rfl)) p6 rfl) rfl) rfl)) (o3 (PU.n (d8 2 (pv 2) rfl) rfl) p6 rfl) rfl)) rfl (pv 3) (by decide) rfl))) rd
theorem eW:j6 ["_law_path_here","_law_at","_law_greatness","_law_guard","_law_one","_law_times"] ["_law_path_here","_law_at","_law_greatness"] (e6 bA):=by walk_at "s"
theorem yq:(["_law_step","_law_one","_law_greatness"]:List Str).Nodup:=by decide +kernel
theorem AO {f:Addr} {fd:FuncData} (F:P6 K "_law_turns" "_law_turns" bA f fd) (hlen:mg "len"=none)
  (len:∀ds Q,X6 ds Q->ds.length=3) (rd:∀ds Q,X6 ds Q->zT (EP Q) (g7 6 ds)):x5 P w K mg base O9 1 f fd ["_law_path_here","_law_at","_law_greatness"] (w5 K X6):=
 Z0 (cl:=[.bor,.bor,.bor,.bor,.bor,.bor]) F eW rfl len (fun cdv A outer s0 H E hr=>(AB rfl (rG (g4 (g6 hr) (d8 0 (pv 0) rfl) (d8 1 (pv 1) rfl) (fun _ _=>rfl)) rfl (jk (n:=2) (D9 (o4 (i7 (i:=3) eW.nd rfl (Or.inl rfl)) rfl) (D9 (o4 (i7 (i:=4) eW.nd rfl (Or.inr rfl)) rfl) cT)) (fun _ _ _ h=>lF h) (fun p=>dh rfl p)) (fun p g=>T4 p g))
   (kc (i:=5) (XN:=["_law_path_here","_law_at","_law_greatness","_law_guard","_law_one","_law_times"]) (N:=["_law_step","_law_one","_law_greatness"]) (XS:=e6 bA) (cap:=[none,some 4,some 2]) eW.nd rfl rfl rfl (by decide +kernel) rfl rfl rfl rfl (u4 (g4 (g6 hr) (d8 3 (pv 3) rfl) d9 (fun _ _=>rfl))) (fun _ _ _ _=>(o4 (i7 (i:=0) yq rfl (Or.inl rfl)) rfl)) (fun _ _ _ _=>(ko (pD (g4 (g6 hr) (d8 0 (pv 0) rfl) d9 (fun _ _=>rfl)) (x3 (d8 1 (pv 1) rfl) (d8 2 (pv 2) rfl)) (u9 _)))) (fun _ _ _ _=>(PU.A7 (g4 (g6 hr) (d8 0 (pv 0) rfl) d9 (fun _ _=>rfl)))))
   (T5 (T7.m (jE hr (w6 G5 bp (by rfl) hlen PySem.boot_len (e7 (d8 5 (pv 5) rfl) g9 rfl)) d9 (u9 _))) (R7 rfl (u7 M5 rfl)) K9)
   (u7 (PU.A7 (g4 (g6 hr) (d8 5 (pv 5) rfl) (gN d9) (fun _ _=>rfl))) rfl))) rd
theorem ag:j6 ["_law_board","_law_most_here","_law_guard","_law_path_here","_law_at","_law_greatness"] ["_law_board","_law_most_here"] (e6 aT):=by walk_at "s"
theorem xX {f:Addr} {fd:FuncData} (F:P6 K "_law_blind" "_law_blind" aT f fd) {fPath:Addr} {fdPath:FuncData} (CPath:A5 P w K mg base "_law_path" 3 ["_law_board","_law_place"] (w5 K bc) fPath fdPath) {fLowsL:Addr} {fdLowsL:FuncData} (CLowsL:A5 P w K mg base "_law_lows" 1 ["_law_path_here","_law_most_here"] (w5 K ai) fLowsL fdLowsL) {fTurns:Addr} {fdTurns:FuncData} (CTurns:A5 P w K mg base "_law_turns" 1 ["_law_path_here","_law_at","_law_greatness"] (w5 K X6) fTurns fdTurns) (hlen:mg "len"=none) (hrange:mg "range"=none)
  (len:∀ds Q,P7 ds Q->ds.length=2) (rd:∀ds Q,P7 ds Q->rE (EP Q) (g7 6 ds)):x5 P w K mg base O9 4 f fd ["_law_board","_law_most_here"] (w5 K P7):=
 Z0 (cl:=[.bor,.bor,.bor,.bor,.bor,.bor]) F ag rfl len (fun cdv A outer s0 H E hr=>(yp rfl (E9 (bq.m (u4 (g4 (g6 hr) (d8 0 (pv 0) rfl) d9 (fun _ _=>rfl))) rfl) (o4 (i7 (i:=2) ag.nd rfl (Or.inl rfl)) rfl)
    (yp rfl (u3 (i:=3) ag.nd rfl (Or.inl rfl) (i4 CPath (hr.mono (by decide)) (by rfl) (e7 (d8 0 (pv 0) rfl) (e7 (g4 (g6 hr) (d8 2 (pv 2) rfl) d9 (fun _ _=>rfl)) g9 rfl) rfl) rfl) rfl)
   (E9 (bq.m (zg (e7 d9 (e7 (w6 G5 bp (by rfl) hlen PySem.boot_len (e7 (d8 3 (pv 3) rfl) g9 rfl)) g9 rfl) rfl) (fun pa=>uq (by rfl) hrange pa)) rfl) (o4 (i7 (i:=4) ag.nd rfl (Or.inl rfl)) rfl)
    (R7 rfl (E9 (bq.m (u4 (i4 CLowsL (hr.mono (by decide)) (by rfl) (e7 (d8 3 (pv 3) rfl) (e7 (d8 1 (pv 1) rfl) g9 rfl) rfl) rfl)) rfl) (o4 (i7 (i:=5) ag.nd rfl (Or.inl rfl)) rfl)
    (R7 rfl (T5 (T7.m (qH.pt (gr (ak (i4 CTurns (hr.mono (by decide)) (by rfl) (e7 (d8 3 (pv 3) rfl) (e7 (d8 4 (pv 4) rfl) (e7 (d8 5 (pv 5) rfl) g9 rfl) rfl) rfl) rfl) M5 (u9 _)) (cu (Hf (i4 CTurns (hr.mono (by decide)) (by rfl) (e7 (d8 3 (pv 3) rfl) (e7 d9 (e7 (d8 5 (pv 5) rfl) g9 rfl) rfl) rfl) rfl) M5 (u9 _)))))) (R7 rfl (u7 (P2 (j5 (PU.A7 (g4 (g6 hr) (d8 2 (pv 2) rfl) d9 (fun _ _=>rfl))) (j5 (PU.A7 (g4 (g6 hr) (g4 (g6 hr) (g4 (g6 hr) (d8 3 (pv 3) rfl) (d8 4 (pv 4) rfl) (fun _ _=>rfl)) d9 (fun _ _=>rfl)) d9 (fun _ _=>rfl))) (j5 (PU.A7 (d8 5 (pv 5) rfl)) y1 rfl) rfl) rfl) rfl) rfl)) K9)) (fun a b c=>B7 PassesOwn.never rfl a b c))) (fun a b c=>B7 PassesOwn.never rfl a b c))) (fun a b c=>B7 PassesOwn.never rfl a b c))
   (u7 M5 rfl))) rd
theorem bY:j6 ["_law_script","_law_board","_law_most_here","_law_feed_here","_law_due"] ["_law_script"] (e6 X4):=by walk_at "s"
theorem Co {f:Addr} {fd:FuncData} (F:P6 K "law" "law" X4 f fd) {fBlind:Addr} {fdBlind:FuncData} (CBlind:A5 P w K mg base "blind" 7 ["board","most"] (w5 K T2) fBlind fdBlind) {fLoudL:Addr} {fdLoudL:FuncData} (CLoudL:A5 P w K mg base "_law_loud" 3 ["_law_board"] (w5 K Z3) fLoudL fdLoudL) {fCase:Addr} {fdCase:FuncData} (CCase:A5 P w K mg base "_law_case" 6 ["_law_script"] (w5 K dX) fCase fdCase) {fBlindL:Addr} {fdBlindL:FuncData} (CBlindL:A5 P w K mg base "_law_blind" 4 ["_law_board","_law_most_here"] (w5 K P7) fBlindL fdBlindL) (hrepr:mg "repr"=none)
  (len:∀ds Q,bw ds Q->ds.length=1) (rd:∀ds Q,bw ds Q->yW (EP Q) (g7 5 ds)):x5 P w K mg base O9 8 f fd ["_law_script"] (w5 K bw):=
 Z0 (cl:=[.bor,.bor,.bor,.bor,.bor]) F bY rfl len (fun cdv A outer s0 H E hr=>(Ek rfl (rG (i4 CCase (hr.mono (by decide)) (by rfl) (e7 (d8 0 (pv 0) rfl) g9 rfl) rfl) rfl (jk (n:=3) (D9 (o4 (i7 (i:=1) bY.nd rfl (Or.inl rfl)) rfl) (D9 (o4 (i7 (i:=2) bY.nd rfl (Or.inl rfl)) rfl) (D9 (o4 (i7 (i:=3) bY.nd rfl (Or.inl rfl)) rfl) cT))) (fun _ _ _ h=>IL h) (fun p=>dh rfl p)) (fun p g=>T4 p g))
   (T5 (T7.m (ak (i4 CLoudL (hr.mono (by decide)) (by rfl) (e7 (d8 1 (pv 1) rfl) g9 rfl) rfl) M5 (u9 _))) (R7 rfl (u7 rS rfl)) K9)
   (u3 (i:=4) bY.nd rfl (Or.inl rfl) (w6 (V2 hr) fO (by rfl) hrepr PyProof.Rows.boot_repr (e7 (i4 CBlindL (hr.mono (by decide)) (by rfl) (e7 (d8 1 (pv 1) rfl) (e7 (d8 2 (pv 2) rfl) g9 rfl) rfl) rfl) g9 rfl)) rfl)
   (T5 (T7.m (qH.pt (Eh (qh hr (w6 (V2 hr) fO (by rfl) hrepr PyProof.Rows.boot_repr (e7 (i4 CBlind (hr.mono (by decide)) (by rfl) (e7 (d8 1 (pv 1) rfl) (e7 (d8 2 (pv 2) rfl) g9 rfl) rfl) rfl) g9 rfl)) (d8 4 (pv 4) rfl) (u9 _)) (yE (qh hr (w6 (V2 hr) fO (by rfl) hrepr PyProof.Rows.boot_repr (e7 (i4 CBlind (hr.mono (by decide)) (by rfl) (e7 (d8 1 (pv 1) rfl) (e7 d9 g9 rfl) rfl) rfl) g9 rfl)) (w6 (V2 hr) fO (by rfl) hrepr PyProof.Rows.boot_repr (e7 (i4 CBlindL (hr.mono (by decide)) (by rfl) (e7 (d8 1 (pv 1) rfl) (e7 d9 g9 rfl) rfl) rfl) g9 rfl)) (u9 _)))))) (R7 rfl (u7 rS rfl)) K9)
   (u7 (FH hr (w6 (V2 hr) fO (by rfl) hrepr PyProof.Rows.boot_repr (e7 (i4 CBlind (hr.mono (by decide)) (by rfl) (e7 (d8 1 (pv 1) rfl) (e7 (d8 2 (pv 2) rfl) g9 rfl) rfl) rfl) g9 rfl)) (d8 4 (pv 4) rfl) (u9 _)) rfl))) rd
end
local macro_rules | `(tactic| walk_at "w")=>`(tactic| conv=>whnf)
local macro_rules | `(tactic| walk_at "a")=>`(tactic| first | refine⟨rfl,?_⟩ | refine⟨_,rfl,?_⟩ | refine Br.yes rfl ?_ | refine Br.no rfl ?_ | refine⟨(show(0:Int)<_ from by decide),?_⟩ | refine⟨(show V0 _ _ from⟨by decide,by decide⟩),?_⟩ | refine⟨(show aZ _ _ from⟨by decide,by decide,by decide⟩),?_⟩ | refine⟨(show P0 _ _ from .inr ⟨by decide,by decide⟩),?_⟩ | refine⟨(show P0 _ _ from .inl ⟨by decide,by decide⟩),?_⟩ | refine⟨_,_,_,rfl,rfl,rfl,?_⟩ | refine⟨_,O0 _ _,?_⟩ | refine⟨_,bb _ _ _,?_⟩ | refine⟨_,_,rfl,rfl,?_⟩)
local macro_rules | `(tactic| walk_at "r")=>`(tactic| ((repeat ((conv=>whnf);(walk_at "a")));(try (conv=>whnf))))
theorem sz{n:Nat}(h:n<=100000):n<=sizeLine:=by rw[sizeLine_eq];omega
theorem eV(x:Str):∀ys:List Str,inD (.str x) (ys.map D.str)=decide (x∈ys)
 | []=>rfl
 | y::ys=>by
  have ih:=eV x ys
  unfold inD at ih ⊢
  rw[List.map_cons,List.any_cons,ih]
  show(decide (y=x)||decide (x∈ys))=_
  by_cases h:y=x
  ·subst h;simp
  ·have h2:¬x=y:=fun z=>h z.symm
   simp[h,h2]
theorem aR:∀ys:List Str,(ys.map D.str).all aJ=true
 | []=>rfl
 | y::ys=>by
  rw[List.map_cons,List.all_cons,aR ys]
  rfl
theorem tB(ds:List D)(Q:D->Prop)(h:G7 ds Q):kQ (EP Q) (g7 1 ds):=by
 obtain⟨d,xs,rfl,hs,hl,hk,q⟩:=h
 have body:xs.length<sizeLine/\oq (g1 0) Y7 (B8 (i6 (e5 0) (uC (.int 0)))) (aG [none] [some d]) xs [] fun ds=>(EP Q).rt (.lst ds) [some d]:=by
  refine⟨j8 (by omega),?_⟩
  have e:xs=xs.map id:=by simp
  rw[e]
  refine M1 (F:=id) (f:=fun d=>.str (IA d)) xs [] (fun a ha K R kk=>?_) ?_
  ·obtain⟨x,r,rfl⟩:=hk a ha
   walk_at "r"
   exact kk
  ·have e2:xs.map (fun d=>D.str (IA d))=(xs.map IA).map D.str:=by rw[List.map_map];rfl
   rw[List.nil_append,e2]
   exact q
 rcases hs with rfl | rfl
 ·exact body
 ·exact body
theorem kq:∀{gs:List Gd} {g:Gd},(gs.map (·.nm)).Nodup->g∈gs->gs.find? (fun h=>decide (h.nm=g.nm))=some g
 | [],_,_,h=>by cases h
 | a::as,g,h,hg=>by
  rw[List.map_cons] at h
  obtain⟨h1,h2⟩:=List.nodup_cons.mp h
  rw[List.find?_cons]
  rcases List.mem_cons.mp hg with e | e
  ·subst e;rw[decide_eq_true rfl]
  ·have ne:¬a.nm=g.nm:=fun z=>h1 (z▸List.mem_map.mpr ⟨g,e,rfl⟩)
   rw[decide_eq_false ne]
   exact kq h2 e
theorem Z2{gs:List Gd}{g:Gd}(h:(gs.map (·.nm)).Nodup)(hg:g∈gs):kY gs g.nm=g.un:=by
 unfold kY
 rw[kq h hg]
def lu(gs:List Gd)(dp:Nat->Nat)(n:Nat)(y:Str):Prop:=∃(j:Nat) (g:Gd),gs[j]?=some g/\g.nm=y/\1<=dp j/\dp j<=n
def lW(gs:List Gd)(dp:Nat->Nat):Prop:=∀i g,gs[i]?=some g->1<=dp i/\dp i<=8/\(g.un=none->dp i=1)/\∀y,g.un=some y->∃j gj,j<i/\gs[j]?=some gj/\gj.nm=y/\dp i=dp j+1
theorem lu.next{gs:List Gd}{dp:Nat->Nat}{n:Nat}{y z:Str}(h:lW gs dp)(hx:(gs.map (·.nm)).Nodup)(d:lu gs dp (n+1) y)(e:kY gs y=some z):lu gs dp n z:=by
 obtain⟨j,g,h1,rfl,h3,h4⟩:=d
 rw[Z2 hx (List.mem_of_getElem? h1)] at e
 obtain⟨_,_,_,a⟩:=h j g h1
 obtain⟨j',gj,_,b2,b3,b4⟩:=a z e
 exact⟨j',gj,b2,b3,(h j' gj b2).1,by omega⟩
theorem Bf(ds:List D)(Q:D->Prop)(h:aq ds Q):Al (EP Q) (g7 5 ds):=by
 obtain⟨d,gs,x,rfl,hs,gk,⟨g0,hg0,e0⟩,q⟩:=h
 obtain⟨dp,ud⟩:=gk.un
 have ud:lW gs dp:=ud
 have hl:=gk.len
 have hx:=gk.nd
 have rest:∀kds:List (Key×D),(∀g∈gs,y7 kds (.inr g.nm)=some (uD g.un))->mX (EP Q) [some d,some (.str x),some (.dic kds),none,none]:=fun kds hv=>by
  walk_at "r"
  refine⟨fun m ρ=>∃(acc:List Str) (cur:Option Str) (v3:Option D),ρ=[some d,some (uD cur),some (.dic kds),v3,some (gZ acc)]/\acc++ups gs m cur=ups gs 8 (some x)/\acc.length<=8-m/\m<=8/\(∀y,cur=some y->lu gs dp m y),⟨8,[],some x,none,rfl,rfl,Nat.zero_le _,Nat.le_refl _,fun y hy=>?_⟩,?_⟩
  ·cases hy
   obtain⟨j,hj⟩:=List.getElem?_of_mem hg0
   obtain⟨a1,a2,_⟩:=ud j g0 hj
   exact⟨j,g0,hj,e0,a1,a2⟩
  ·rintro m ρ ⟨acc,cur,v3,rfl,hup,ha,hm,hd⟩
   cases cur with
   | none=>
    walk_at "r"
    have e:ups gs m none=[]:=by cases m<;>rfl
    rw[e,List.append_nil] at hup
    rw[<-hup] at q
    exact q
   | some y=>
    have dy:=hd y rfl
    have hm0:∃m',m=m'+1:=by
     obtain⟨_,_,_,_,h1,h2⟩:=dy
     exact⟨m-1,by omega⟩
    obtain⟨m',rfl⟩:=hm0
    have hg:∃g∈gs,g.nm=y:=by
     obtain⟨j,g,h1,h2,_⟩:=dy
     exact⟨g,List.mem_of_getElem? h1,h2⟩
    obtain⟨g,hgm,rfl⟩:=hg
    have hun:=Z2 hx hgm
    walk_at "r"
    refine⟨by rw[List.length_map];exact j8 (by omega),?_⟩
    refine⟨_,_,rfl,hv g hgm,rfl,?_⟩
    refine⟨m',Nat.lt_succ_self _,acc++[g.nm],g.un,v3,?_,?_,?_,by omega,fun z hz=>dy.next ud hx (hun.trans hz)⟩
    ·unfold gZ
     rw[List.map_append]
     rfl
    ·rw[List.append_assoc,<-hun]
     exact hup
    ·rw[List.length_append,List.length_singleton];omega
 rcases hs with rfl | rfl
 all_goals
  refine⟨by rw[List.length_map];exact j8 (by omega),?_⟩
  refine ku (k:=fun g:Gd=>.inr g.nm) (v:=fun g:Gd=>uD g.un) gs [] (fun g hg K R kk=>?_) ⟨rfl,?_⟩
  ·obtain⟨n,u,cv,de,wa⟩:=g
   have kk:K (.inr n) (uD u):=kk
   have iU:A7 (uD u)=true:=fV u
   walk_at "r"
   exact⟨iU,kk⟩
  ·refine rest _ fun g hg=>fK (k:=fun g:Gd=>(.inr g.nm:Key)) (v:=fun g:Gd=>uD g.un) gs [] ?_ g hg
   have e:gs.map (fun g:Gd=>(.inr g.nm:Key))=(gs.map (·.nm)).map (fun y=>(.inr y:Key)):=by rw[List.map_map];rfl
   rw[e,List.Nodup,List.pairwise_map]
   exact hx.imp fun h z=>h (Sum.inr.inj z)
theorem Jq(gs:List Gd):(gs.map gD).map IA=gs.map (·.nm):=by rw[List.map_map];rfl
theorem Dr(gs:List Gd):∀x∈gs.map gD,Gs x:=fun x hx=>by
 obtain⟨g,_,rfl⟩:=List.mem_map.mp hx
 exact⟨_,_,rfl⟩
theorem JY(gs:List Ld):(gs.map lD).map IA=gs.map (·.nm):=by rw[List.map_map];rfl
theorem AJ(gs:List Ld):∀x∈gs.map lD,Gs x:=fun x hx=>by
 obtain⟨g,_,rfl⟩:=List.mem_map.mp hx
 exact⟨_,_,rfl⟩
theorem p5.cZ{b:Bd}(h:p5 b):Kg b.gs:=⟨h.g16,(List.nodup_append.mp h.nd).1,h.un⟩
theorem ql(ds:List D)(Q:D->Prop)(h:C8 ds Q):iZ (EP Q) (g7 1 ds):=by
 obtain⟨b,rfl,hb,q⟩:=h
 have:=hb.g16
 walk_at "r"
 refine⟨_,_,rfl,.inl rfl,by rw[List.length_map];omega,Dr _,?_⟩
 rw[Jq]
 exact q
theorem tQ(ds:List D)(Q:D->Prop)(h:N1 ds Q):mW (EP Q) (g7 1 ds):=by
 obtain⟨b,rfl,hb,q⟩:=h
 have:=hb.l24
 walk_at "r"
 refine⟨_,_,rfl,.inl rfl,by rw[List.length_map];omega,AJ _,?_⟩
 rw[JY]
 exact q
theorem qu(ds:List D)(Q:D->Prop)(h:J9 ds Q):jx (EP Q) (g7 2 ds):=by
 obtain⟨b,d,rfl,hb,hk,q⟩:=h
 obtain⟨a,ha⟩:=ES hk
 refine⟨d,a,"str",rfl,ha,rfl,?_⟩
 show Br (DF a "str") _ _
 cases d<;>first | (cases ha;done) | skip
 case str x=>
  cases ha
  refine Br.yes rfl ?_
  have q:Q (.bl (decide (x∈y9 b))):=q
  rw[<-eV] at q
  refine⟨b,rfl,hb,?_⟩
  exact⟨rfl,_,rfl,aR _,q⟩
 all_goals
  cases ha
  exact Br.no (by decide) q
theorem uu(ds:List D)(Q:D->Prop)(h:N6 ds Q):mG (EP Q) (g7 2 ds):=by
 obtain⟨b,d,rfl,hb,hk,q⟩:=h
 obtain⟨a,ha⟩:=ES hk
 refine⟨d,a,"str",rfl,ha,rfl,?_⟩
 show Br (DF a "str") _ _
 cases d<;>first | (cases ha;done) | skip
 case str x=>
  cases ha
  refine Br.yes rfl ?_
  have q:Q (.bl (decide (x∈L1 b))):=q
  rw[<-eV] at q
  refine⟨b,rfl,hb,?_⟩
  exact⟨rfl,_,rfl,aR _,q⟩
 all_goals
  cases ha
  exact Br.no (by decide) q
theorem pP(ds:List D)(Q:D->Prop)(h:K2 ds Q):jw (EP Q) (g7 2 ds):=by
 obtain⟨b,d,rfl,hb,hk,q⟩:=h
 refine⟨b,d,rfl,hb,hk,?_⟩
 show Br (kz (y9 b) d) _ _
 refine⟨fun e=>?_,fun e=>⟨b,d,rfl,hb,hk,?_⟩⟩
 ·rw[e] at q;exact q
 ·rw[e] at q;exact q
theorem Bg{b:Bd}(hb:p5 b):(b.ls.map (·.nm)).Nodup:=(List.nodup_append.mp hb.nd).2.1
theorem N8:∀{ls:List Ld} {l:Ld},(ls.map (·.nm)).Nodup->l∈ls->ls.find? (fun h=>decide (h.nm=l.nm))=some l
 | [],_,_,h=>by cases h
 | a::as,g,h,hg=>by
  rw[List.map_cons] at h
  obtain⟨h1,h2⟩:=List.nodup_cons.mp h
  rw[List.find?_cons]
  rcases List.mem_cons.mp hg with e | e
  ·subst e;rw[decide_eq_true rfl]
  ·have ne:¬a.nm=g.nm:=fun z=>h1 (z▸List.mem_map.mpr ⟨g,e,rfl⟩)
   rw[decide_eq_false ne]
   exact N8 h2 e
theorem Z4{ls:List Ld}{x:Str}(h:x∉ls.map (·.nm)):ls.find? (fun h=>decide (h.nm=x))=none:=by
 rw[List.find?_eq_none]
 intro l hl e
 exact h (List.mem_map.mpr ⟨l,hl,of_decide_eq_true e⟩)
theorem nZ{b:Bd}(hb:p5 b){x:Str}(hx:x∈y9 b++L1 b):∃g∈b.gs,g.nm=V4 b x:=by
 unfold V4
 rcases List.mem_append.mp hx with h | h
 ·have hn:x∉b.ls.map (·.nm):=fun z=>(List.nodup_append.mp hb.nd).2.2 x h x z rfl
  rw[Z4 hn]
  obtain⟨g,hg,e⟩:=List.mem_map.mp h
  exact⟨g,hg,e⟩
 ·obtain⟨l,hl,rfl⟩:=List.mem_map.mp h
  rw[N8 (Bg hb) hl]
  exact hb.at_ l hl
theorem DC{b:Bd}(hb:p5 b)(kds:List (Key×D))(hv:∀l∈b.ls,y7 kds (.inr l.nm)=some (.str l.at_))(hn:∀x,x∉L1 b->y7 kds (.inr x)=none)(x:Str):(y7 kds (.inr x)).getD (.str x)=.str (V4 b x):=by
 unfold V4
 by_cases h:x∈L1 b
 ·obtain⟨l,hl,rfl⟩:=List.mem_map.mp h
  rw[N8 (Bg hb) hl,hv l hl];rfl
 ·rw[Z4 h,hn x h];rfl
theorem HA(ds:List D)(Q:D->Prop)(W:Str->Prop)(h:eh ds Q W):Fi W (EP Q) (g7 4 ds):=by
 obtain⟨b,d,rfl,hb,hk,h⟩:=h
 refine⟨b,d,rfl,hb,hk,?_⟩
 show Br (!(kz (y9 b) d||kz (L1 b) d)) (gv W _ _) _
 rcases h with⟨x,rfl,hx,q⟩ | ⟨h1,h2,w⟩
 ·refine Br.no ?_ ?_
  ·show(!(decide (x∈y9 b)||decide (x∈L1 b)))=false
   rcases List.mem_append.mp hx with h | h
   ·rw[decide_eq_true h];rfl
   ·rw[decide_eq_true h,Bool.or_true];rfl
  have h24:=hb.l24
  refine⟨_,bb _ _ _,by rw[List.length_map];exact j8 (by omega),?_⟩
  refine ku (k:=fun l:Ld=>.inr l.nm) (v:=fun l:Ld=>.str l.at_) b.ls [] (fun l hl K R kk=>?_) ⟨rfl,?_⟩
  ·obtain⟨n,u,cv,de,wa⟩:=l
   have kk:K (.inr n) (.str u):=kk
   walk_at "r"
   exact kk
  ·have e:=DC hb _ (fun l hl=>fK (k:=fun g:Ld=>(.inr g.nm:Key)) (v:=fun g:Ld=>.str g.at_) b.ls [] (by
     have e:b.ls.map (fun g:Ld=>(.inr g.nm:Key))=(b.ls.map (·.nm)).map (fun y=>(.inr y:Key)):=by rw[List.map_map];rfl
     rw[e,List.Nodup,List.pairwise_map]
     exact(Bg hb).imp fun h z=>h (Sum.inr.inj z)) l hl)
    (fun y hy=>dr (k:=fun g:Ld=>(.inr g.nm:Key)) (v:=fun g:Ld=>.str g.at_) (.inr y) b.ls [] fun l hl z=>hy (List.mem_map.mpr ⟨l,hl,Sum.inr.inj z⟩)) x
   obtain⟨g,hg,eg⟩:=nZ hb hx
   walk_at "r"
   rw[e]
   exact⟨rfl,_,b.gs,V4 b x,rfl,.inl rfl,hb.cZ,⟨g,hg,eg⟩,q⟩
 ·refine Br.yes (by rw[h1,h2];rfl) ?_
  exact⟨rfl,w⟩
theorem sum_add{α:Type}(f g:α->Int):∀l:List α,(l.map fun x=>f x+g x).sum=(l.map f).sum+(l.map g).sum
 | []=>rfl
 | x::l=>by
  rw[List.map_cons,List.map_cons,List.map_cons,List.sum_cons,List.sum_cons,List.sum_cons,sum_add f g l]
  omega
theorem O5{α:Type}(l:List α)(f:α->Int)(h:∀x∈l,f x=0):(l.map f).sum=0:=by
 induction l with
 | nil=>rfl
 | cons x l ih=>rw[List.map_cons,List.sum_cons,h x List.mem_cons_self,ih fun y hy=>h y (List.mem_cons_of_mem _ hy)];rfl
theorem K3{α:Type}{l:List α}{f g:α->Int}(h:∀x∈l,f x=g x):(l.map f).sum=(l.map g).sum:=by
 rw[List.map_congr_left h]
theorem lX{α β:Type}(f:α->β->Int)(m:List β):∀l:List α,(l.map fun x=>(m.map fun y=>f x y).sum).sum=(m.map fun y=>(l.map fun x=>f x y).sum).sum
 | []=>(O5 m (fun _=>0) fun _ _=>rfl).symm
 | x::l=>by
  rw[List.map_cons,List.sum_cons,lX f m l,<-sum_add]
  rfl
theorem rX{α:Type}(f:α->Int)(c:Int):∀l:List α,(l.map f).sum*c=(l.map fun x=>f x*c).sum
 | []=>Int.zero_mul c
 | x::l=>by rw[List.map_cons,List.map_cons,List.sum_cons,List.sum_cons,Int.add_mul,rX f c l]
theorem jX{α:Type}{nm:α->Str}(f:α->Int):∀{l:List α} {a:α},(l.map nm).Nodup->a∈l->(l.map fun x=>if nm x=nm a then f x else 0).sum=f a
 | [],_,_,h=>by cases h
 | x::l,a,nd,h=>by
  rw[List.map_cons] at nd
  obtain⟨h1,h2⟩:=List.nodup_cons.mp nd
  rw[List.map_cons,List.sum_cons]
  rcases List.mem_cons.mp h with e | e
  ·subst e
   rw[if_pos rfl,O5 l _ fun y hy=>if_neg fun z:nm y=nm a=>h1 (z▸List.mem_map.mpr ⟨y,hy,rfl⟩)]
   omega
  ·have ne:¬nm x=nm a:=fun z=>h1 (z▸List.mem_map.mpr ⟨a,e,rfl⟩)
   rw[if_neg ne,jX f h2 e]
   omega
theorem dQ(y x:Str)(l:List Str):(((x::l).count y:Nat):Int)=(if x=y then 1 else 0)+((l.count y:Nat):Int):=by
 rw[List.count_cons]
 by_cases h:x=y
 ·subst h;simp;omega
 ·simp[h]
theorem sY{gs:List Gd}{dp:Nat->Nat}(ud:lW gs dp)(nd:(gs.map (·.nm)).Nodup)(y:Str):∀(n:Nat) (x:Str),lu gs dp n x ->
  (((ups gs n (some x)).count y:Nat):Int)=(if x=y then 1 else 0)+(gs.map fun h=>if h.un=some y then(((ups gs n (some x)).count h.nm:Nat):Int) else 0).sum
 | 0,x,d=>by
  obtain⟨_,_,_,_,h1,h2⟩:=d
  omega
 | n+1,x,d=>by
  obtain⟨j,g,hj,rfl,h1,h2⟩:=id d
  have hg:=List.mem_of_getElem? hj
  have hun:=Z2 nd hg
  have e0:ups gs (n+1) (some g.nm)=g.nm::ups gs n g.un:=by
   show g.nm::ups gs n (kY gs g.nm)=_
   rw[hun]
  rw[e0,dQ]
  have e1:(gs.map fun h=>if h.un=some y then(((g.nm::ups gs n g.un).count h.nm:Nat):Int) else 0).sum=(if g.un=some y then 1 else 0)+(gs.map fun h=>if h.un=some y then(((ups gs n g.un).count h.nm:Nat):Int) else 0).sum:=by
   have e2:=jX (nm:=fun h:Gd=>h.nm) (fun h:Gd=>if h.un=some y then 1 else 0) nd hg
   rw[<-e2,<-sum_add]
   refine K3 fun h _=>?_
   rw[dQ]
   by_cases z:h.un=some y
   ·rw[if_pos z,if_pos z,if_pos z]
    by_cases z2:g.nm=h.nm
    ·rw[if_pos z2,if_pos z2.symm]
    ·rw[if_neg z2,if_neg fun w=>z2 w.symm]
   ·rw[if_neg z,if_neg z,if_neg z]
    split<;>rfl
  rw[e1]
  cases hu:g.un with
  | none=>
   have e3:ups gs n none=[]:=by cases n<;>rfl
   rw[e3,O5 gs _ fun h _=>by split<;>rfl]
   rw[show(if (none:Option Str)=some y then(1:Int) else 0)=0 from if_neg (by intro z;cases z)]
   simp
  | some z=>
   have dz:=d.next ud nd (hun.trans hu)
   have ih:=sY ud nd y n z dz
   rw[ih]
   have e4:(if (some z:Option Str)=some y then(1:Int) else 0)=if z=y then 1 else 0:=by
    by_cases w:z=y
    ·rw[if_pos w,if_pos (by rw[w])]
    ·rw[if_neg w,if_neg fun q=>w (Option.some.inj q)]
   rw[e4]
theorem S0{b:Bd}(hb:p5 b){x:Str}(hx:x∈y9 b):V4 b x=x:=by
 have hn:x∉b.ls.map (·.nm):=fun z=>(List.nodup_append.mp hb.nd).2.2 x hx x z rfl
 unfold V4;rw[Z4 hn]
theorem rL{b:Bd}(hb:p5 b){l:Ld}(hl:l∈b.ls):V4 b l.nm=l.at_:=by
 unfold V4;rw[N8 (Bg hb) hl]
theorem rZ{b:Bd}(hb:p5 b):∃dp,lW b.gs dp/\∀x∈y9 b,lu b.gs dp 8 x:=by
 obtain⟨dp,ud⟩:=hb.cZ.un
 refine⟨dp,ud,fun x hx=>?_⟩
 obtain⟨g,hg,rfl⟩:=List.mem_map.mp hx
 obtain⟨j,hj⟩:=List.getElem?_of_mem hg
 obtain⟨a1,a2,_⟩:=ud j g hj
 exact⟨j,g,hj,rfl,a1,a2⟩
theorem mw{b:Bd}(hb:p5 b){x:Str}(hx:x∈y9 b++L1 b):V4 b x∈y9 b:=by
 obtain⟨g,hg,e⟩:=nZ hb hx
 rw[<-e];exact List.mem_map.mpr ⟨g,hg,rfl⟩
theorem zQ{b:Bd}(hb:p5 b){x:Str}(hx:x∈y9 b++L1 b)(y:Str) :
  (((p3 b x).count y:Nat):Int)=(if V4 b x=y then 1 else 0)+(b.gs.map fun h=>if h.un=some y then(((p3 b x).count h.nm:Nat):Int) else 0).sum:=by
 obtain⟨dp,ud,dd⟩:=rZ hb
 exact sY ud hb.cZ.nd y 8 _ (dd _ (mw hb hx))
theorem bT{gs:List Gd}{dp:Nat->Nat}(ud:lW gs dp)(nd:(gs.map (·.nm)).Nodup):∀(n m:Nat) (x:Str),lu gs dp n x->n<=m->ups gs m (some x)=ups gs n (some x)
 | 0,_,_,d,_=>by
  obtain⟨_,_,_,_,h1,h2⟩:=d
  omega
 | n+1,0,_,_,h=>by omega
 | n+1,m+1,x,d,h=>by
  show x::ups gs m (kY gs x)=x::ups gs n (kY gs x)
  cases hu:kY gs x with
  | none=>cases m<;>cases n<;>rfl
  | some z=>rw[bT ud nd n m z (d.next ud nd hu) (by omega)]
theorem sy{gs:List Gd}{dp:Nat->Nat}(ud:lW gs dp)(nd:(gs.map (·.nm)).Nodup):∀(n:Nat) (x y:Str),n<=8->lu gs dp n x->y∈ups gs n (some x)->∀z∈ups gs 8 (some y),z∈ups gs n (some x)
 | 0,_,_,_,d,_=>by
  obtain⟨_,_,_,_,h1,h2⟩:=d
  omega
 | n+1,x,y,hn,d,hy=>by
  have hy:y∈x::ups gs n (kY gs x):=hy
  rcases List.mem_cons.mp hy with e | e
  ·subst e
   rw[bT ud nd (n+1) 8 y d hn]
   exact fun z hz=>hz
  ·cases hu:kY gs x with
   | none=>
    rw[hu] at e
    cases n<;>cases e
   | some w=>
    rw[hu] at e
    intro z hz
    show z∈x::ups gs n (kY gs x)
    rw[hu]
    exact List.mem_cons_of_mem _ (sy ud nd n w y (by omega) (d.next ud nd hu) e z hz)
theorem Dh{b:Bd}(hb:p5 b){x y:Str}(hx:x∈y9 b++L1 b)(hy:y∈y9 b)(h:y∈p3 b x):∀z∈p3 b y,z∈p3 b x:=by
 obtain⟨dp,ud,dd⟩:=rZ hb
 unfold p3
 rw[S0 hb hy]
 exact sy ud hb.cZ.nd 8 _ y (Nat.le_refl _) (dd _ (mw hb hx)) h
theorem yj{b:Bd}(hb:p5 b){op:List Str}{x y:Str}(hx:x∈y9 b++L1 b)(hy:y∈y9 b)(h:y∈p3 b x)(f:D6 b op x=true):D6 b op y=true:=by
 unfold D6 at f ⊢
 rw[List.all_eq_true] at f ⊢
 exact fun z hz=>f z (Dh hb hx hy h z hz)
theorem Ha{b:Bd}(hb:p5 b){op:List Str}{x:Str}(hx:x∈y9 b++L1 b):D6 b op x=D6 b op (V4 b x):=by
 unfold D6 p3
 rw[S0 hb (mw hb hx)]
def pj(b:Bd)(P:Str->Int)(y:Str):Int:=P y+(b.ls.map fun l=>if l.at_=y then P l.nm else 0).sum
theorem Cd{b:Bd}(hb:p5 b)(P:Str->Int){y:Str}(hy:y∈y9 b):((y9 b++L1 b).map fun x=>if V4 b x=y then P x else 0).sum=pj b P y:=by
 rw[List.map_append,List.sum_append]
 have e1:((y9 b).map fun x=>if V4 b x=y then P x else 0).sum=P y:=by
  have:=jX (nm:=fun x:Str=>x) P (l:=y9 b) (a:=y) (by rw[List.map_id'];exact hb.cZ.nd) hy
  rw[<-this]
  exact K3 fun x hx=>by rw[S0 hb hx]
 have e2:((L1 b).map fun x=>if V4 b x=y then P x else 0).sum=(b.ls.map fun l=>if l.at_=y then P l.nm else 0).sum:=by
  unfold L1
  rw[List.map_map]
  exact K3 fun l hl=>by
   show(if V4 b l.nm=y then P l.nm else 0)=_
   rw[rL hb hl]
 rw[e1,e2];rfl
theorem vZ{b:Bd}(hb:p5 b)(op:List Str)(P:Str->Int){y:Str}(hy:y∈y9 b) :
  N9 b op P y=if D6 b op y then pj b P y+(b.gs.map fun h=>if h.un=some y then N9 b op P h.nm else 0).sum else 0:=by
 by_cases f:D6 b op y=true
 ·rw[if_pos f,<-Cd hb P hy]
  have e1:(b.gs.map fun h=>if h.un=some y then N9 b op P h.nm else 0).sum=((y9 b++L1 b).map fun x=>(b.gs.map fun h=>if h.un=some y then(if D6 b op x then(((p3 b x).count h.nm:Nat):Int)*P x else 0) else 0).sum).sum:=by
   rw[lX]
   refine K3 fun h _=>?_
   by_cases z:h.un=some y
   ·rw[if_pos z]
    unfold N9
    exact K3 fun x _=>by rw[if_pos z]
   ·rw[if_neg z]
    exact(O5 _ _ fun x _=>if_neg z).symm
  rw[e1,<-sum_add]
  unfold N9
  refine K3 fun x hx=>?_
  rw[zQ hb hx y,Int.add_mul,rX]
  by_cases fx:D6 b op x=true
  ·rw[if_pos fx]
   have e2:(if V4 b x=y then(1:Int) else 0)*P x=if V4 b x=y then P x else 0:=by split<;>simp
   rw[e2]
   congr 1
   refine K3 fun h _=>?_
   by_cases z:h.un=some y
   ·rw[if_pos z,if_pos z,if_pos fx]
   ·rw[if_neg z,if_neg z];simp
  ·rw[if_neg fx]
   have e3:¬V4 b x=y:=fun z=>fx (by rw[Ha hb hx,z];exact f)
   rw[if_neg e3,O5 b.gs _ fun h _=>by rw[if_neg fx];split<;>rfl]
   rfl
 ·rw[if_neg f]
  unfold N9
  refine O5 _ _ fun x hx=>?_
  by_cases fx:D6 b op x=true
  ·rw[if_pos fx]
   have:y∉p3 b x:=fun z=>f (yj hb hx hy z fx)
   rw[List.count_eq_zero.mpr this];simp
  ·rw[if_neg fx]
end My
namespace My
open PySem L2 L3
local macro_rules | `(tactic| walk_at "w")=>`(tactic| conv=>whnf)
local macro_rules | `(tactic| walk_at "a")=>`(tactic| first | refine⟨rfl,?_⟩ | refine⟨_,rfl,?_⟩ | refine Br.yes rfl ?_ | refine Br.no rfl ?_ | refine⟨(show(0:Int)<_ from by decide),?_⟩ | refine⟨(show V0 _ _ from⟨by decide,by decide⟩),?_⟩ | refine⟨(show aZ _ _ from⟨by decide,by decide,by decide⟩),?_⟩ | refine⟨(show P0 _ _ from .inr ⟨by decide,by decide⟩),?_⟩ | refine⟨(show P0 _ _ from .inl ⟨by decide,by decide⟩),?_⟩ | refine⟨_,_,_,rfl,rfl,rfl,?_⟩ | refine⟨_,O0 _ _,?_⟩ | refine⟨_,bb _ _ _,?_⟩ | refine⟨_,_,rfl,rfl,?_⟩)
local macro_rules | `(tactic| walk_at "r")=>`(tactic| ((repeat ((conv=>whnf);(walk_at "a")));(try (conv=>whnf))))
theorem yB{o:D}{op:List Str}(h:Fx o op):mL o=some (op.map D.str):=by
 rcases h with rfl | rfl<;>rfl
theorem cU{α:Type}(k:α->Str)(v:α->D):∀as:List α,bz (as.map fun a=>.tup [.str (k a),v a])=some (as.map fun a=>((.inr (k a):Key),v a))
 | []=>rfl
 | a::as=>by
  rw[List.map_cons]
  unfold bz
  rw[cU k v as]
  rfl
theorem jl{α:Type}(k:α->Str)(v:α->D)(as:List α):gh (as.map fun a=>((.inr (k a):Key),v a))=as.foldl (fun acc a=>putD acc (.inr (k a)) (v a)) []:=by
 unfold gh
 rw[List.foldl_map]
theorem Q2{α:Type}{k:α->Str}{v:α->D}{as:List α}(nd:(as.map k).Nodup){a:α}(ha:a∈as):y7 (as.map fun a=>((.inr (k a):Key),v a)) (.inr (k a))=some (v a):=by
 induction as with
 | nil=>cases ha
 | cons x as ih=>
  rw[List.map_cons] at nd
  obtain⟨h1,h2⟩:=List.nodup_cons.mp nd
  unfold y7
  rw[List.map_cons,List.find?_cons]
  rcases List.mem_cons.mp ha with e | e
  ·subst e
   rw[decide_eq_true rfl];rfl
  ·have ne:¬(Sum.inr (k x):Key)=Sum.inr (k a):=fun z=>h1 (Sum.inr.inj z▸List.mem_map.mpr ⟨a,e,rfl⟩)
   rw[decide_eq_false ne]
   exact ih h2 e
theorem gq{α:Type}{k:α->Str}{v:α->D}{as:List α}{x:Str}(h:x∉as.map k):y7 (as.map fun a=>((.inr (k a):Key),v a)) (.inr x)=none:=by
 unfold y7
 rw[Option.map_eq_none_iff,List.find?_eq_none]
 intro kv hkv e
 obtain⟨a,ha,rfl⟩:=List.mem_map.mp hkv
 exact h (List.mem_map.mpr ⟨a,ha,Sum.inr.inj (of_decide_eq_true e)⟩)
theorem iY{α:Type}{k:α->Str}{v:α->D}(as:List α)(x:Str):((as.map fun a=>((.inr (k a):Key),v a)).any fun kv=>decide (kv.1=Sum.inr x))=decide (x∈as.map k):=by
 by_cases h:x∈as.map k
 ·rw[decide_eq_true h,List.any_eq_true]
  obtain⟨a,ha,rfl⟩:=List.mem_map.mp h
  exact⟨_,List.mem_map.mpr ⟨a,ha,rfl⟩,decide_eq_true rfl⟩
 ·rw[decide_eq_false h,List.any_eq_false]
  intro kv hkv e
  obtain⟨a,ha,rfl⟩:=List.mem_map.mp hkv
  exact h (List.mem_map.mpr ⟨a,ha,Sum.inr.inj (of_decide_eq_true e)⟩)
theorem dg{α:Type}{k:α->Str}{v:α->D}{as:List α}{x:Str}{d:D}(h:x∉as.map k):putD (as.map fun a=>((.inr (k a):Key),v a)) (.inr x) d=(as.map fun a=>((.inr (k a):Key),v a))++[(.inr x,d)]:=by
 unfold putD
 rw[iY,decide_eq_false h];rfl
theorem cC{b:Bd}{v:Str->Int}{x:Str}{n:Int}(hx:x∈y9 b):putD (p8 b v) (.inr x) (.int n)=p8 b (fun y=>if y=x then n else v y):=by
 unfold p8 putD
 rw[iY (k:=fun g:Gd=>g.nm) (v:=fun g:Gd=>.int (v g.nm)),decide_eq_true (show x∈b.gs.map (fun g:Gd=>g.nm) from hx),if_pos rfl,List.map_map]
 refine List.map_congr_left fun g _=>?_
 show(if (Sum.inr g.nm:Key)=Sum.inr x then _ else _)=_
 by_cases e:g.nm=x
 ·rw[if_pos (by rw[e])]
  show(_,D.int n)=(_,D.int (if g.nm=x then n else v g.nm))
  rw[if_pos e]
 ·rw[if_neg fun z=>e (Sum.inr.inj z)]
  show(_,D.int (v g.nm))=(_,D.int (if g.nm=x then n else v g.nm))
  rw[if_neg e]
theorem G6{b:Bd}(hb:p5 b){v:Str->Int}{x:Str}(hx:x∈y9 b):y7 (p8 b v) (.inr x)=some (.int (v x)):=by
 obtain⟨g,hg,rfl⟩:=List.mem_map.mp hx
 exact Q2 (k:=fun g:Gd=>g.nm) (v:=fun g:Gd=>.int (v g.nm)) hb.cZ.nd hg
theorem B4{b:Bd}{v w:Str->Int}(h:∀x∈y9 b,v x=w x):p8 b v=p8 b w:=
 List.map_congr_left fun g hg=>by rw[h g.nm (List.mem_map.mpr ⟨g,hg,rfl⟩)]
theorem cK(b:Bd)(v:Str->Int):(p8 b v).length=b.gs.length:=List.length_map _
theorem R0{α:Type}{k:α->Str}{v:α->D}:∀{as bs:List α},((bs++as).map k).Nodup->as.foldl (fun acc a=>putD acc (.inr (k a)) (v a)) (bs.map fun a=>((.inr (k a):Key),v a))=(bs++as).map fun a=>((.inr (k a):Key),v a)
 | [],bs,_=>by rw[List.append_nil];rfl
 | a::as,bs,nd=>by
  have e:bs++a::as=(bs++[a])++as:=by rw[List.append_assoc];rfl
  rw[List.foldl_cons,e]
  have hn:k a∉bs.map k:=fun z=>by
   rw[List.map_append,List.map_cons] at nd
   exact(List.nodup_append.mp nd).2.2 _ z _ List.mem_cons_self rfl
  rw[dg hn]
  have e2:(bs.map fun a=>((.inr (k a):Key),v a))++[(.inr (k a),v a)]=(bs++[a]).map fun a=>((.inr (k a):Key),v a):=by rw[List.map_append];rfl
  rw[e2]
  exact R0 (by rw[<-e];exact nd)
theorem aL{α:Type}{g:cQ}{tc:cL}{tk te:TU}{ρ0:Ev}{F v:α->D}{k:α->Key}{Q:List (Key×D)->Prop}(p:α->Bool):∀(as:List α) (acc:List (Key×D)),(∀a∈as,∀(K:Key->D->Prop) (R:Prop),(p a=true->K (k a) (v a))->(p a=false->R)->g (F a) ρ0 fun ρ1=>tc ρ1 fun b=>Br b (tk ρ1 fun y=>te ρ1 fun d=>∃k,S5 y=some k/\A7 d=true/\K k d) R) ->
  Q ((as.filter p).foldl (fun acc a=>putD acc (k a) (v a)) acc)->jZ g tc tk te ρ0 (as.map F) acc Q
 | [],acc,_,q=>q
 | a::as,acc,h,q=>by
  rw[List.map_cons]
  refine h a List.mem_cons_self (fun k d=>jZ g tc tk te ρ0 (as.map F) (putD acc k d) Q) _ (fun e=>aL p as _ (fun b hb=>h b (List.mem_cons_of_mem _ hb)) ?_) fun e=>aL p as acc (fun b hb=>h b (List.mem_cons_of_mem _ hb)) ?_
  ·rw[List.filter_cons,if_pos e] at q;exact q
  ·rw[List.filter_cons,if_neg (by rw[e];exact Bool.false_ne_true)] at q;exact q
theorem kU{kvs:List (Key×D)}(h:pe kvs)(x:Str):(y7 kvs (.inr x)).getD (.int 0)=.int (Pd kvs x):=by
 unfold Pd
 cases e:y7 kvs (.inr x) with
 | none=>rfl
 | some d=>
  unfold y7 at e
  obtain⟨kv,hkv,rfl⟩:=Option.map_eq_some_iff.mp e
  obtain⟨n,hn⟩:=h kv (List.mem_of_find?_eq_some hkv)
  show kv.2=_
  rw[hn]
theorem xr(op:List Str)(x:Str):zI (op.map Sum.inr) (.inr x)=decide (x∈op):=by
 unfold zI
 rw[List.any_map]
 by_cases h:x∈op
 ·rw[decide_eq_true h,List.any_eq_true]
  exact⟨x,h,decide_eq_true rfl⟩
 ·rw[decide_eq_false h,List.any_eq_false]
  intro y hy e
  have:y=x:=Sum.inr.inj (of_decide_eq_true e)
  exact h (this▸hy)
theorem wC{b:Bd}(hb:p5 b)(op:List Str){g:Gd}(hg:g∈b.gs):D6 b op g.nm=(decide (g.nm∉op)&&match g.un with | none=>true | some y=>D6 b op y):=by
 have hx:g.nm∈y9 b:=List.mem_map.mpr ⟨g,hg,rfl⟩
 obtain⟨dp,ud,dd⟩:=rZ hb
 have hun:=Z2 hb.cZ.nd hg
 have e0:p3 b g.nm=g.nm::ups b.gs 7 g.un:=by
  unfold p3
  rw[S0 hb hx]
  show g.nm::ups b.gs 7 (kY b.gs g.nm)=_
  rw[hun]
 unfold D6
 rw[e0,List.all_cons]
 cases hu:g.un with
 | none=>rfl
 | some y=>
  have d7:=(dd _ hx).next ud hb.cZ.nd (hun.trans hu)
  have hy:y∈y9 b:=by
   obtain⟨j,h,h1,h2,_⟩:=d7
   exact List.mem_map.mpr ⟨h,List.mem_of_getElem? h1,h2⟩
  have e1:p3 b y=ups b.gs 7 (some y):=by
   unfold p3
   rw[S0 hb hy]
   exact bT ud hb.cZ.nd 7 8 y d7 (by decide)
  show(_&&_)=(_&&(p3 b y).all _)
  rw[e1]
theorem uP(ds:List D)(Q:D->Prop)(h:G3 ds Q):lp (EP Q) (g7 1 ds):=by
 obtain⟨cv,rfl,hc,q⟩:=h
 cases cv with
 | nil=>exact absurd hc.1 (by decide)
 | cons p ps=>
  walk_at "r"
  exact q
theorem MN{T:Q6}{b:Bd}{o:D}{op:List Str}{i:Nat}{g:Gd}{v4:Option D}(hb:p5 b)(hg:b.gs[i]?=some g)
  (hT:T.nx [some (bD b),some o,some (.st (op.map Sum.inr)),some (.dic ((b.gs.take (i+1)).map fun g=>(.inr g.nm,.bl (D6 b op g.nm)))),v4,some (.str g.nm),some (uD g.un)]) :
  Y0 T [some (bD b),some o,some (.st (op.map Sum.inr)),some (.dic ((b.gs.take i).map fun g=>(.inr g.nm,.bl (D6 b op g.nm)))),v4,some (.str g.nm),some (uD g.un)]:=by
 have h16:=hb.g16
 have hgm:=List.mem_of_getElem? hg
 have hi:=(List.getElem?_eq_some_iff.mp hg).1
 have hnot:g.nm∉(b.gs.take i).map (fun g:Gd=>g.nm):=fun z=>by
  obtain⟨h,hh,e⟩:=List.mem_map.mp z
  obtain⟨j,hj⟩:=List.getElem?_of_mem hh
  have hj2:=(List.getElem?_eq_some_iff.mp hj).1
  rw[List.length_take] at hj2
  rw[List.getElem?_take_of_lt (by omega)] at hj
  have:=(List.getElem?_inj (i:=j) (j:=i) (l:=b.gs.map (·.nm)) (by rw[List.length_map];omega) hb.cZ.nd).mp (by rw[List.getElem?_map,List.getElem?_map,hj,hg];show some h.nm=some g.nm;rw[e])
  omega
 have fin:∀k:Bool,k=D6 b op g.nm->∃j,S5 (.str g.nm)=some j/\((b.gs.take i).map fun g:Gd=>((.inr g.nm:Key),D.bl (D6 b op g.nm))).length<sizeLine/\T.nx [some (bD b),some o,some (.st (op.map Sum.inr)),some (.dic (putD ((b.gs.take i).map fun g=>(.inr g.nm,.bl (D6 b op g.nm))) j (.bl k))),v4,some (.str g.nm),some (uD g.un)]:=fun k hk=>by
  refine⟨.inr g.nm,rfl,by rw[List.length_map,List.length_take];exact j8 (by omega),?_⟩
  rw[dg (k:=fun g:Gd=>g.nm) (v:=fun g:Gd=>.bl (D6 b op g.nm)) hnot,hk]
  rw[List.take_add_one,hg,List.map_append] at hT
  exact hT
 have st:=wC hb op hgm
 refine⟨_,rfl,?_⟩
 show Br (!zI (op.map Sum.inr) (.inr g.nm)) _ _
 rw[xr]
 by_cases h1:g.nm∈op
 ·refine Br.no (by rw[decide_eq_true h1];rfl) ?_
  rw[show decide (g.nm∉op)=false from decide_eq_false fun z=>z h1] at st
  exact⟨rfl,rfl,fin false st.symm⟩
 ·refine Br.yes (by rw[decide_eq_false h1];rfl) ?_
  rw[show decide (g.nm∉op)=true from decide_eq_true h1,Bool.true_and] at st
  cases hu:g.un with
  | none=>
   rw[hu] at st fin
   exact Br.yes rfl ⟨rfl,rfl,fin true st.symm⟩
  | some y=>
   rw[hu] at st fin
   obtain⟨dp,ud⟩:=hb.un
   obtain⟨_,_,_,up⟩:=ud i g hg
   obtain⟨j,gj,hj,hgj,rfl,_⟩:=up y hu
   have hjm:gj∈b.gs.take i:=by
    refine List.mem_of_getElem? (i:=j) ?_
    rw[List.getElem?_take_of_lt hj];exact hgj
   have nd2:((b.gs.take i).map fun g:Gd=>g.nm).Nodup:=by
    rw[List.map_take]
    exact hb.cZ.nd.sublist (List.take_sublist _ _)
   have hv:=Q2 (k:=fun g:Gd=>g.nm) (v:=fun g:Gd=>.bl (D6 b op g.nm)) nd2 hjm
   refine Br.no rfl ?_
   exact⟨_,_,rfl,hv,rfl,rfl,fin (D6 b op gj.nm) st.symm⟩
theorem lL(ds:List D)(Q:D->Prop)(h:D5 ds Q):gp (EP Q) (g7 7 ds):=by
 obtain⟨b,o,op,rfl,hb,hs,hl,q⟩:=h
 have h16:=hb.g16
 have e0:op.map D.str=(op.map (Sum.inr:Str->Key)).map kD:=by rw[List.map_map];rfl
 refine⟨o,op.map Sum.inr,rfl,by rw[<-e0];exact yB hs,by rw[List.length_map];exact hl,rfl,rfl,?_⟩
 refine⟨_,O0 _ _,?_⟩
 refine .of ⟨fun i ρ=>∃v4 v5 v6:Option D,ρ=[some (bD b),some o,some (.st (op.map Sum.inr)),some (.dic ((b.gs.take i).map fun g=>(.inr g.nm,.bl (D6 b op g.nm)))),v4,v5,v6],⟨none,none,none,rfl⟩,?_,?_⟩
 ·rintro i e ρ he ⟨v4,v5,v6,rfl⟩
  obtain⟨g,hg,rfl⟩:=get_map he
  have hgm:=List.mem_of_getElem? hg
  have hi:=(List.getElem?_eq_some_iff.mp hg).1
  refine⟨rfl,?_⟩
  walk_at "r"
  refine⟨fV g.un,rfl,rfl,?_⟩
  exact MN hb hg ⟨_,_,_,rfl⟩
 ·rintro ρ ⟨v4,v5,v6,rfl⟩
  rw[List.length_map,List.take_length]
  exact q
def wv(b:Bd)(op:List Str)(P:Str->Int)(pr:List Gd)(y:Str):Int:=if y∈pr.map (·.nm) then N9 b op P y else pj b P y+(pr.map fun h=>if h.un=some y then N9 b op P h.nm else 0).sum
theorem qJ{b:Bd}(hb:p5 b){i j:Nat}{g h:Gd}(hi:b.gs[i]?=some g)(hj:b.gs[j]?=some h)(e:g.nm=h.nm):i=j:=
 (List.getElem?_inj (i:=i) (j:=j) (l:=b.gs.map (·.nm)) (by rw[List.length_map];exact(List.getElem?_eq_some_iff.mp hi).1) hb.cZ.nd).mp (by rw[List.getElem?_map,List.getElem?_map,hi,hj];show some g.nm=some h.nm;rw[e])
theorem rW{b:Bd}(hb:p5 b){i j:Nat}{g:Gd}(hi:b.gs[i]?=some g)(hij:i<j):g.nm∉(b.gs.drop j).map (·.nm):=fun z=>by
 obtain⟨h,hh,e⟩:=List.mem_map.mp z
 obtain⟨k,hk⟩:=List.getElem?_of_mem hh
 rw[List.getElem?_drop] at hk
 have:=qJ hb hk hi e
 omega
theorem Dv{b:Bd}(hb:p5 b)(op:List Str)(P:Str->Int){j:Nat}{g:Gd}(hj:b.gs[j]?=some g):wv b op P (b.gs.drop (j+1)) g.nm=pj b P g.nm+(b.gs.map fun h=>if h.un=some g.nm then N9 b op P h.nm else 0).sum:=by
 unfold wv
 rw[if_neg (rW hb hj (Nat.lt_succ_self _))]
 congr 1
 conv=>rhs;rw[<-List.take_append_drop (j+1) b.gs,List.map_append,List.sum_append]
 rw[O5 (b.gs.take (j+1)) _ fun h hh=>if_neg fun z=>?_]
 ·omega
 ·obtain⟨i,hi⟩:=List.getElem?_of_mem hh
  have hi2:=(List.getElem?_eq_some_iff.mp hi).1
  rw[List.length_take] at hi2
  rw[List.getElem?_take_of_lt (by omega)] at hi
  obtain⟨dp,ud⟩:=hb.un
  obtain⟨_,_,_,up⟩:=ud i h hi
  obtain⟨k,gk,hk,hgk,e,_⟩:=up _ z
  have:=qJ hb hgk hj e
  omega
theorem jO{b:Bd}(hb:p5 b)(op:List Str)(P:Str->Int){j:Nat}{g:Gd}(hj:b.gs[j]?=some g){y:Str}:wv b op P (b.gs.drop j) y=if y=g.nm then N9 b op P g.nm else wv b op P (b.gs.drop (j+1)) y+if g.un=some y then N9 b op P g.nm else 0:=by
 have hlt:=(List.getElem?_eq_some_iff.mp hj).1
 have e:b.gs.drop j=g::b.gs.drop (j+1):=by
  rw[List.drop_eq_getElem_cons hlt]
  have:=(List.getElem?_eq_some_iff.mp hj).2
  rw[this]
 rw[e]
 unfold wv
 rw[List.map_cons]
 by_cases h1:y=g.nm
 ·subst h1
  rw[if_pos List.mem_cons_self,if_pos rfl]
 ·rw[if_neg h1]
  by_cases h2:y∈(b.gs.drop (j+1)).map (·.nm)
  ·rw[if_pos (List.mem_cons_of_mem _ h2),if_pos h2,if_neg,Int.add_zero]
   intro z
   obtain⟨dp,ud⟩:=hb.un
   obtain⟨_,_,_,up⟩:=ud j g hj
   obtain⟨k,gk,hk,hgk,e2,_⟩:=up y z
   exact rW hb hgk (show k<j+1 by omega) (e2▸h2)
  ·rw[if_neg fun z=>(List.mem_cons.mp z).elim h1 h2,if_neg h2,List.map_cons,List.sum_cons]
   omega
theorem Je{T:Q6}{b:Bd}{op:List Str}{P:Str->Int}{d2:D}{v5 v6 v7:Option D}{j m:Nat}{g:Gd}(hb:p5 b)(hg:b.gs[j]?=some g)(hm:m=j+1)
  (hT:∀v6 v7:Option D,T.nx [some (bD b),some (.dic (ou b op)),some d2,some (.dic (p8 b (wv b op P (b.gs.drop j)))),some (gD g),v5,v6,v7]) :
  af T [some (bD b),some (.dic (ou b op)),some d2,some (.dic (p8 b (wv b op P (b.gs.drop m)))),some (gD g),v5,v6,v7]:=by
 subst hm
 have h16:=hb.g16
 have hgm:=List.mem_of_getElem? hg
 have hx:g.nm∈y9 b:=List.mem_map.mpr ⟨g,hgm,rfl⟩
 have here:=Dv hb op P hg
 have rec_:=vZ hb op P hx
 have lit:y7 (ou b op) (.inr g.nm)=some (.bl (D6 b op g.nm)):=Q2 (k:=fun g:Gd=>g.nm) (v:=fun g:Gd=>.bl (D6 b op g.nm)) hb.cZ.nd hgm
 walk_at "r"
 refine⟨fV g.un,rfl,rfl,?_⟩
 have hT:=hT (some (.str g.nm)) (some (uD g.un))
 refine⟨_,_,rfl,lit,?_⟩
 show Br (!D6 b op g.nm) _ _
 by_cases f:D6 b op g.nm=true
 ·refine Br.no (by rw[f];rfl) ?_
  rw[if_pos f,<-here] at rec_
  cases hu:g.un with
  | none=>
   refine Br.no rfl ?_
   have:p8 b (wv b op P (b.gs.drop j))=p8 b (wv b op P (b.gs.drop (j+1))):=B4 fun x _=>by
    rw[jO hb op P hg,hu,if_neg (show ¬(none:Option Str)=some x from fun z=>by cases z),Int.add_zero]
    by_cases z:x=g.nm
    ·rw[if_pos z,z];exact rec_
    ·rw[if_neg z]
   rw[this,hu] at hT
   exact hT
  | some y=>
   have hy:y∈y9 b:=by
    obtain⟨dp,ud⟩:=hb.un
    obtain⟨_,_,_,up⟩:=ud j g hg
    obtain⟨k,gk,_,hgk,rfl,_⟩:=up y hu
    exact List.mem_map.mpr ⟨gk,List.mem_of_getElem? hgk,rfl⟩
   refine Br.yes rfl ?_
   refine⟨_,_,rfl,G6 hb hy,by rw[cK];exact j8 (by omega),?_⟩
   refine⟨_,_,rfl,G6 hb hx,_,rfl,?_⟩
   rw[cC hy]
   have:p8 b (wv b op P (b.gs.drop j))=p8 b (fun z=>if z=y then wv b op P (b.gs.drop (j+1)) y+wv b op P (b.gs.drop (j+1)) g.nm else wv b op P (b.gs.drop (j+1)) z):=B4 fun x _=>by
    rw[jO hb op P hg,hu]
    by_cases z:x=g.nm
    ·rw[if_pos z]
     have ny:¬x=y:=fun w=>by
      obtain⟨dp,ud⟩:=hb.un
      obtain⟨_,_,_,up⟩:=ud j g hg
      obtain⟨k,gk,hk,hgk,e2,_⟩:=up y hu
      have:=qJ hb hgk hg (by rw[e2,<-w,z])
      omega
     show _=if x=y then _ else _
     rw[if_neg ny,z];exact rec_
    ·rw[if_neg z]
     show _=if x=y then _ else _
     by_cases w:x=y
     ·subst w
      rw[if_pos rfl,if_pos rfl,rec_]
     ·rw[if_neg w,if_neg fun q=>w (Option.some.inj q).symm,Int.add_zero]
   rw[this,hu] at hT
   exact hT
 ·have f0:D6 b op g.nm=false:=by cases h:D6 b op g.nm<;>simp_all
  refine Br.yes (by rw[f0];rfl) ?_
  rw[if_neg f] at rec_
  refine⟨rfl,.inr g.nm,rfl,by rw[cK];exact j8 (by omega),?_⟩
  rw[cC hx]
  have:p8 b (wv b op P (b.gs.drop j))=p8 b (fun z=>if z=g.nm then 0 else wv b op P (b.gs.drop (j+1)) z):=B4 fun x _=>by
   rw[jO hb op P hg,rec_]
   show _=if x=g.nm then _ else _
   by_cases z:x=g.nm
   ·rw[if_pos z,if_pos z]
   ·rw[if_neg z,if_neg z]
    split<;>omega
  rw[this] at hT
  exact hT
theorem MM{Q:D->Prop}{b:Bd}{op:List Str}{P:Str->Int}{d2:D}{v4 v5 v6 v7:Option D}(hb:p5 b)(q:Q (.dic (p8 b (N9 b op P)))) :
  dU (EP Q) [some (bD b),some (.dic (ou b op)),some d2,some (.dic (p8 b (pj b P))),v4,v5,v6,v7]:=by
 have h16:=hb.g16
 refine⟨_,O0 _ _,by rw[List.length_map];exact j8 (by omega),?_⟩
 refine .of ⟨fun i ρ=>∃v4 v5 v6 v7:Option D,ρ=[some (bD b),some (.dic (ou b op)),some d2,some (.dic (p8 b (wv b op P (b.gs.drop (b.gs.length-i))))),v4,v5,v6,v7],⟨v4,v5,v6,v7,?_⟩,?_,?_⟩
 ·rw[Nat.sub_zero,List.drop_length]
  have:p8 b (wv b op P [])=p8 b (pj b P):=B4 fun x _=>by
   unfold wv
   rw[if_neg (by intro z;cases z)]
   show pj b P x+0=_
   omega
  rw[this]
 ·rintro i e ρ he ⟨v4,v5,v6,v7,rfl⟩
  have hi:i<b.gs.length:=by
   have:=(List.getElem?_eq_some_iff.mp he).1
   rw[List.length_reverse,List.length_map] at this
   exact this
  rw[List.getElem?_reverse (by rw[List.length_map];exact hi),List.length_map] at he
  obtain⟨g,hg,rfl⟩:=get_map he
  have ej:b.gs.length-i=b.gs.length-1-i+1:=by omega
  have ej2:b.gs.length-(i+1)=b.gs.length-1-i:=by omega
  refine⟨rfl,Je hb hg ej fun v6 v7=>⟨some (gD g),v5,v6,v7,?_⟩⟩
  rw[ej2]
 ·rintro ρ ⟨v4,v5,v6,v7,rfl⟩
  rw[List.length_reverse,List.length_map,Nat.sub_self]
  have:p8 b (wv b op P (b.gs.drop 0))=p8 b (N9 b op P):=B4 fun x hx=>if_pos hx
  rw[this]
  exact q
theorem oY(ds:List D)(Q:D->Prop)(h:J6 ds Q):jr (EP Q) (g7 8 ds):=by
 obtain⟨b,op,kvs,rfl,hb,hp,q⟩:=h
 have h16:=hb.g16
 have h24:=hb.l24
 refine⟨_,O0 _ _,by rw[List.length_map];exact j8 (by omega),?_⟩
 refine ku (k:=fun g:Gd=>.inr g.nm) (v:=fun g:Gd=>.int (Pd kvs g.nm)) b.gs [] (fun g hg K R kk=>?_) ⟨rfl,?_⟩
 ·walk_at "r"
  rw[kU hp]
  exact⟨rfl,_,rfl,rfl,kk⟩
 have e0:=R0 (k:=fun g:Gd=>g.nm) (v:=fun g:Gd=>.int (Pd kvs g.nm)) (as:=b.gs) (bs:=[]) hb.cZ.nd
 rw[List.nil_append] at e0
 rw[show b.gs.foldl (fun acc a=>putD acc (Sum.inr a.nm) (.int (Pd kvs a.nm))) []=p8 b (Pd kvs) from e0]
 refine⟨_,bb _ _ _,?_⟩
 refine .of ⟨fun i ρ=>∃v5:Option D,ρ=[some (bD b),some (.dic (ou b op)),some (.dic kvs),some (.dic (p8 b fun y=>Pd kvs y+((b.ls.take i).map fun l=>if l.at_=y then Pd kvs l.nm else 0).sum)),none,v5,none,none],⟨none,?_⟩,?_,?_⟩
 ·have:p8 b (fun y=>Pd kvs y+((b.ls.take 0).map fun l=>if l.at_=y then Pd kvs l.nm else 0).sum)=p8 b (Pd kvs):=B4 fun x _=>by
   show Pd kvs x+0=_
   omega
  rw[this];rfl
 ·rintro i e ρ he ⟨v5,rfl⟩
  obtain⟨l,hl,rfl⟩:=get_map he
  have hlm:=List.mem_of_getElem? hl
  have hat:l.at_∈y9 b:=by
   obtain⟨g,hg,e⟩:=hb.at_ l hlm
   rw[<-e];exact List.mem_map.mpr ⟨g,hg,rfl⟩
  refine⟨rfl,?_⟩
  walk_at "r"
  refine⟨.inr l.at_,_,rfl,G6 hb hat,by rw[cK];exact j8 (by omega),?_⟩
  walk_at "r"
  rw[kU hp]
  refine⟨rfl,_,rfl,?_⟩
  rw[cC hat]
  refine⟨some (lD l),?_⟩
  have:p8 b (fun y=>Pd kvs y+((b.ls.take (i+1)).map fun l=>if l.at_=y then Pd kvs l.nm else 0).sum)=p8 b (fun y=>if y=l.at_ then Pd kvs l.at_+((b.ls.take i).map fun m=>if m.at_=l.at_ then Pd kvs m.nm else 0).sum+Pd kvs l.nm else Pd kvs y+((b.ls.take i).map fun l=>if l.at_=y then Pd kvs l.nm else 0).sum):=B4 fun x _=>by
   rw[List.take_add_one,hl,List.map_append,List.sum_append]
   show _+(_+((if l.at_=x then Pd kvs l.nm else 0)+0))=if x=l.at_ then _ else _
   by_cases z:x=l.at_
   ·subst z
    rw[if_pos rfl,if_pos rfl]
    omega
   ·rw[if_neg z,if_neg fun w=>z w.symm]
    omega
  rw[this];rfl
 ·rintro ρ ⟨v5,rfl⟩
  rw[List.length_map,List.take_length]
  exact MM (P:=Pd kvs) hb q
theorem BU(ds:List D)(Q:D->Prop)(h:az ds Q):xC (EP Q) (g7 3 ds):=by
 obtain⟨b,o,op,kvs,rfl,hb,hs,hl,hp,q⟩:=h
 exact⟨b,o,op,rfl,hb,hs,hl,b,op,kvs,rfl,hb,hp,q⟩
theorem mn{b:Bd}(hb:p5 b):((b.ls.filter fun l=>l.on).map fun l:Ld=>l.nm).Nodup:=(Bg hb).sublist (List.Sublist.map _ List.filter_sublist)
theorem DV{b:Bd}(hb:p5 b):Pd ((b.ls.filter fun l=>l.on).map fun l:Ld=>((.inr l.nm:Key),D.int l.la))=mO b:=by
 funext x
 unfold Pd mO
 by_cases h:x∈b.ls.map (·.nm)
 ·obtain⟨l,hl,rfl⟩:=List.mem_map.mp h
  rw[N8 (Bg hb) hl]
  by_cases o:l.on=true
  ·have hm:l∈b.ls.filter fun l=>l.on:=List.mem_filter.mpr ⟨hl,o⟩
   rw[Q2 (k:=fun l:Ld=>l.nm) (v:=fun l:Ld=>.int l.la) (mn hb) hm]
   show l.la=if l.on=true then _ else _
   rw[if_pos o]
  ·rw[gq (k:=fun l:Ld=>l.nm) (v:=fun l:Ld=>.int l.la)]
   ·show(0:Int)=if l.on=true then _ else _
    rw[if_neg o]
   ·intro z
    obtain⟨m,hm,e⟩:=List.mem_map.mp z
    obtain⟨hm1,hm2⟩:=List.mem_filter.mp hm
    have e1:=N8 (Bg hb) hl
    have e2:=N8 (Bg hb) hm1
    rw[show m.nm=l.nm from e,e1] at e2
    cases e2
    exact o hm2
 ·rw[Z4 h,gq (k:=fun l:Ld=>l.nm) (v:=fun l:Ld=>.int l.la)]
  intro z
  obtain⟨m,hm,e⟩:=List.mem_map.mp z
  exact h (List.mem_map.mpr ⟨m,(List.mem_filter.mp hm).1,e⟩)
theorem Hv(ds:List D)(Q:D->Prop)(h:bf ds Q):Ej (EP Q) (g7 2 ds):=by
 obtain⟨b,rfl,hb,q⟩:=h
 have h24:=hb.l24
 refine⟨_,bb _ _ _,by rw[List.length_map];exact j8 (by omega),?_⟩
 refine aL (k:=fun l:Ld=>.inr l.nm) (v:=fun l:Ld=>.int l.la) (fun l:Ld=>l.on) b.ls [] (fun l hl K R k1 k2=>?_) ?_
 ·obtain⟨n,u,cv,de,on⟩:=l
  cases on with
  | true=>
   have kk:K (.inr n) (.int de):=k1 rfl
   walk_at "r"
   exact kk
  | false=>
   walk_at "r"
   exact k2 rfl
 ·have e0:=R0 (k:=fun l:Ld=>l.nm) (v:=fun l:Ld=>.int l.la) (as:=b.ls.filter fun l=>l.on) (bs:=[]) (mn hb)
  rw[List.nil_append] at e0
  rw[show(b.ls.filter fun l=>l.on).foldl (fun acc (a:Ld)=>putD acc (Sum.inr a.nm) (.int a.la)) []=_ from e0]
  refine⟨b,_,[],_,rfl,hb,.inl rfl,by decide,fun kv hkv=>?_,?_⟩
  ·obtain⟨l,_,rfl⟩:=List.mem_map.mp hkv
   exact⟨_,rfl⟩
  ·rw[DV hb]
   exact q
theorem DN(ds:List D)(Q:D->Prop)(h:ae ds Q):zp (EP Q) (g7 2 ds):=by
 obtain⟨b,v,rfl,hb,q⟩:=h
 have h16:=hb.g16
 refine⟨_,O0 _ _,by rw[List.length_map];exact j8 (by omega),?_⟩
 refine U9 (f:=fun g:Gd=>.str g.nm) (fun g:Gd=>decide (lo g.cv<=v g.nm)) b.gs [] (fun g hg K R k1 k2=>?_) ?_
 ·have hx:g.nm∈y9 b:=List.mem_map.mpr ⟨g,hg,rfl⟩
  refine⟨rfl,?_⟩
  walk_at "r"
  refine⟨_,_,rfl,G6 hb hx,?_⟩
  walk_at "r"
  refine⟨hb.cv g hg,?_⟩
  show Br (decide (v g.nm ≥ lo g.cv)) _ _
  refine⟨fun e=>?_,fun e=>k2 e⟩
  walk_at "r"
  exact k1 e
 ·have e:(b.gs.filter fun g=>decide (lo g.cv<=v g.nm)).map (fun g:Gd=>D.str g.nm)=(J5 b v).map D.str:=by unfold J5;rw[List.map_map];rfl
  rw[List.nil_append,e]
  exact q
theorem Bh(ds:List D)(Q:D->Prop)(h:aE ds Q):zA (EP Q) (g7 2 ds):=by
 obtain⟨b,rfl,hb,q⟩:=h
 refine⟨b,rfl,hb,b,o8 b,rfl,hb,rfl,?_⟩
 cases e:J5 b (o8 b) with
 | nil=>
  rw[e] at q
  refine Br.no rfl ?_
  exact⟨rfl,q⟩
 | cons x xs=>
  rw[e] at q
  refine Br.yes rfl ?_
  exact⟨_,O0 _ _,rfl,q⟩
end My
namespace My
open PySem L2 L3
local macro_rules | `(tactic| walk_at "w")=>`(tactic| conv=>whnf)
local macro_rules | `(tactic| walk_at "a")=>`(tactic| first | refine⟨rfl,?_⟩ | refine⟨_,rfl,?_⟩ | refine⟨(show(0:Int)<_ from by decide),?_⟩ | refine⟨(show V0 _ _ from⟨by decide,by decide⟩),?_⟩ | refine⟨(show aZ _ _ from⟨by decide,by decide,by decide⟩),?_⟩ | refine⟨(show P0 _ _ from .inr ⟨by decide,by decide⟩),?_⟩ | refine⟨(show P0 _ _ from .inl ⟨by decide,by decide⟩),?_⟩ | refine⟨_,_,_,rfl,rfl,rfl,?_⟩ | refine⟨_,O0 _ _,?_⟩ | refine⟨_,_,rfl,rfl,?_⟩)
local macro_rules | `(tactic| walk_at "r")=>`(tactic| ((repeat ((conv=>whnf);(walk_at "a")));(try (conv=>whnf))))
def Up(b:Int)(xs:List Int):Prop:=xs.Pairwise (·<·)/\∀x∈xs,1<=x/\x<=b
theorem sP{xs:List Int}{b:Int}(h:Up b xs)(h0:0<xs.length):∃l,l∈xs/\(∀x∈xs,x<=l)/\P4 (xs.map D.int) (-1)=some (.int l):=by
 refine⟨xs[xs.length-1],List.getElem_mem (by omega),fun x hx=>?_,?_⟩
 ·obtain⟨i,hi,rfl⟩:=List.getElem_of_mem hx
  by_cases e:i=xs.length-1
  ·subst e;exact Int.le_refl _
  ·exact Int.le_of_lt (List.pairwise_iff_getElem.mp h.1 i (xs.length-1) hi (by omega) (by omega))
 ·unfold P4 kO
  have h1:¬(0:Int)<=-1:=by decide
  have h2:-((xs.map D.int).length:Int)<=-1:=by rw[List.length_map];omega
  have h3:((-1:Int)+((xs.map D.int).length:Int)).toNat=xs.length-1:=by rw[List.length_map];omega
  rw[if_neg h1,if_pos h2,h3]
  show(xs.map D.int)[xs.length-1]?=_
  rw[List.getElem?_map,List.getElem?_eq_getElem (by omega)]
  rfl
theorem Up.mono{xs:List Int}{b b':Int}(h:Up b xs)(hb:b<=b'):Up b' xs:=⟨h.1,fun x hx=>⟨(h.2 x hx).1,by have:=(h.2 x hx).2;omega⟩⟩
theorem Up.snoc{xs:List Int}{b l u:Int}(h:Up b xs)(hm:l∈xs)(hl:∀x∈xs,x<=l)(u0:1<=u)(u1:u<10^59):Up (b+10^59) (xs++[l+u]):=by
 refine⟨List.pairwise_append.mpr ⟨h.1,List.pairwise_singleton _ _,fun x hx y hy=>?_⟩,fun x hx=>?_⟩
 ·rw[List.mem_singleton.mp hy]
  have:=hl x hx
  omega
 ·have:=h.2 l hm
  rcases List.mem_append.mp hx with w | w
  ·have:=h.2 x w;omega
  ·rw[List.mem_singleton.mp w];omega
def steps(m:Nat)(xs ys:List Int):List Pr:=(List.range m).map fun(k:Nat)=>(xs.getD k 0,ys.getD (m-1-k) 0)
theorem ye{m:Nat}{xs ys:List Int}(hx:xs.length=m)(hy:ys.length=m)(h1:1<=m)(h5:m<=5)(ux:Up (10^60-1) xs)(uy:Up (10^60-1) ys):O2 (steps m xs ys):=by
 have gx:∀k,k<m->xs.getD k 0∈xs:=fun k hk=>by rw[List.getD_eq_getElem?_getD,List.getElem?_eq_getElem (by omega)];exact List.getElem_mem _
 have gy:∀k,k<m->ys.getD k 0∈ys:=fun k hk=>by rw[List.getD_eq_getElem?_getD,List.getElem?_eq_getElem (by omega)];exact List.getElem_mem _
 have lx:∀i j,i<j->j<m->xs.getD i 0<xs.getD j 0:=fun i j hij hj=>by
  rw[List.getD_eq_getElem?_getD,List.getD_eq_getElem?_getD,List.getElem?_eq_getElem (by omega),List.getElem?_eq_getElem (by omega)]
  exact List.pairwise_iff_getElem.mp ux.1 i j (by omega) (by omega) hij
 have ly:∀i j,i<j->j<m->ys.getD i 0<ys.getD j 0:=fun i j hij hj=>by
  rw[List.getD_eq_getElem?_getD,List.getD_eq_getElem?_getD,List.getElem?_eq_getElem (by omega),List.getElem?_eq_getElem (by omega)]
  exact List.pairwise_iff_getElem.mp uy.1 i j (by omega) (by omega) hij
 unfold steps
 refine⟨by rw[List.length_map,List.length_range];exact h1,by rw[List.length_map,List.length_range];exact h5,fun p hp=>?_,?_⟩
 ·obtain⟨k,hk,rfl⟩:=List.mem_map.mp hp
  have hk:=List.mem_range.mp hk
  have a:=ux.2 _ (gx k hk)
  have b:=uy.2 _ (gy (m-1-k) (by omega))
  exact⟨a.1,by have:=a.2;omega,b.1,by have:=b.2;omega⟩
 ·rw[List.pairwise_map]
  refine List.Pairwise.imp_of_mem ?_ (List.pairwise_lt_range (n:=m))
  intro i j hi hj hij
  have hi:=List.mem_range.mp hi
  have hj:=List.mem_range.mp hj
  exact⟨lx i j hij hj,ly _ _ (by omega) (by omega)⟩
theorem rb{i:Int}(h0:0<=i)(h1:i<26):∃c,P4 ka.cps.toList i=some c:=by
 have hl:ka.cps.toList.length=26:=by decide +kernel
 have hi:i.toNat<ka.cps.toList.length:=by omega
 refine⟨ka.cps.toList[i.toNat],?_⟩
 unfold P4 kO
 rw[if_pos h0,hl,if_pos (by omega)]
 exact List.getElem?_eq_getElem hi
theorem ky:ka.length<=sizeLine:=by decide +kernel
theorem xN{z:Str}{n:Int}(hz:z.length=1)(h0:0<=n)(hn:n<=4):MulOk z n:=by
 have h:n=0\/n=1\/n=2\/n=3\/n=4:=by omega
 unfold MulOk
 rw[hz]
 rcases h with rfl | rfl | rfl | rfl | rfl
 all_goals decide
theorem IF{z:Str}{n:Int}(hz:z.length=1)(h0:0<=n)(hn:n<=1):(Txt.mul z n).length<=1:=by
 have h:n=0\/n=1:=by omega
 rcases h with rfl | rfl
 ·exact Nat.zero_le _
 ·have e:Txt.mul z 1=z:=by
   unfold Txt.mul
   rw[if_neg (by decide),if_pos (by rfl)]
  rw[e,hz]
  exact Nat.le_refl _
theorem Gv{x:Str}{xs:List Str}(h:inD (.str x) (xs.map D.str)=false):x∉xs:=fun hx=>by
 unfold inD at h
 rw[List.any_eq_false] at h
 have:=h (.str x) (List.mem_map.mpr ⟨x,hx,rfl⟩)
 exact this (beq_self_eq_true x)
theorem names5 {Q:D->D->Prop} {c d k m:Int} {xs:List Str} {x:Str} {v2 v3 v5 v6 v7 v8 v9 v10 v11:Option D} (hw:x="" \/ nm 8 x) (hx:(xs.length:Int)=m) (h1:1<=m) (h2:m<=100) (k0:0<=k) (k1:k<=10^8) (hnd:xs.Nodup) (hnm:∀x∈xs,nm 8 x) (q:∀(xs:List Str) (d' k':Int),xs.length=m->xs.Nodup->(∀x∈xs,nm 8 x)->Q (gZ xs) (feed c d' k')):mz (EM Q) [some (feed c d k),some (.int m),v2,v3,some (gZ xs),v5,v6,v7,v8,v9,v10,v11,some (.str x)]:=by
 have fl:(xs.map D.str).all aJ=true:=by
  rw[List.all_eq_true]
  intro y hy
  obtain⟨z,_,rfl⟩:=List.mem_map.mp hy
  rfl
 walk_at "r"
 refine⟨fun e1=>?_,fun e1=>Br.no rfl (q xs d k hx hnd hnm)⟩
 walk_at "r"
 refine⟨fl,?_⟩
 walk_at "r"
 refine⟨fun e2=>?_,fun e2=>q xs d k hx hnd hnm⟩
 walk_at "r"
 refine⟨c,d,k,m,rfl,k0,by omega,by omega,by omega,fun r d1 r0 r1=>?_⟩
 walk_at "r"
 refine⟨r.toNat,?_,?_⟩
 ·unfold kO
  rw[if_pos r0,List.length_map,if_pos (by omega)]
 ·have e:(xs.map D.str).set r.toNat (.str x)=(xs.set r.toNat x).map D.str:=by rw[List.map_set]
  walk_at "r"
  rw[e]
  refine q _ _ _ (by rw[List.length_set];exact hx) (jj _ hnd (Gv ?_)) fun y hy=>?_
  ·cases hb:inD (D.str x) (List.map D.str xs) with
   | false=>rfl
   | true=>rw[hb] at e2;exact absurd e2 (by decide)
  ·rcases List.mem_or_eq_of_mem_set hy with w | w
   ·exact hnm y w
   ·rw[w]
    rcases hw with hw | hw
    ·rw[hw] at e1;exact absurd e1 (by decide)
    ·exact hw
theorem za:∀x∈(["guard","load","on","off","board","map","least","","","",""]:List Str),x="" \/ nm 8 x:=by decide +kernel
theorem names4{Q:D->D->Prop}{c d k m:Int}{xs:List Str}{v2 v3 v5 v6 v7 v8 v9 v10 v11 v12:Option D}(hx:(xs.length:Int)=m)(h1:1<=m)(h2:m<=100)(k0:0<=k)(k1:k<=10^7)(hnd:xs.Nodup)(hnm:∀x∈xs,nm 8 x)(q:∀(xs:List Str) (d' k':Int),xs.length=m->xs.Nodup->(∀x∈xs,nm 8 x)->Q (gZ xs) (feed c d' k')):lV (EM Q) [some (feed c d k),some (.int m),v2,v3,some (gZ xs),v5,v6,v7,v8,v9,v10,v11,v12]:=by
 walk_at "r"
 refine⟨c,d,k,11,rfl,k0,by omega,by decide,by decide,fun r d1 r0 r1=>?_⟩
 obtain⟨x,hxm,_,hx2⟩:=G9 (f:=D.str) (xs:=["guard","load","on","off","board","map","least","","","",""]) (i:=r) r0 r1
 refine⟨_,hx2,rfl,rfl,?_⟩
 refine names5 ?_ hx h1 h2 (by omega) (by omega) hnd hnm q
 exact za x hxm
theorem Ec(ds:List D)(Q:D->D->Prop)(h:aa ds Q):wF (EM Q) (g7 13 ds):=by
 obtain⟨c,d,k,m,rfl,h0,h1,hm1,hm2,q⟩:=h
 walk_at "r"
 refine⟨c,d,k,26,rfl,h0,by omega,by decide,by decide,fun f d1 f0 f1=>?_⟩
 walk_at "r"
 refine⟨c,d1,k+1,5,rfl,by omega,by omega,by decide,by decide,fun r d2 r0 r1=>?_⟩
 walk_at "r"
 refine⟨fun e=>?_,fun e=>?_⟩
 ·walk_at "r"
  refine⟨⟨by omega,by omega⟩,?_⟩
  refine⟨by rw[A9,List.length_map,List.length_range];exact j8 (by omega),?_⟩
  refine M1 (f:=fun(i:Nat)=>.str (Txt.mul ⟨#[(P4 ka.cps.toList ((f+(0+(i:Int)))%26)).getD 0]⟩ (1+(0+(i:Int))/26))) (List.range m.toNat) [] (fun i hi K R kk=>?_) ?_
  ·have hi:=List.mem_range.mp hi
   obtain⟨ch,hch⟩:=rb (i:=(f+(0+(i:Int)))%26) (Int.emod_nonneg _ (by decide)) (Int.emod_lt_of_pos _ (by decide))
   rw[hch] at kk
   walk_at "r"
   refine Br.yes rfl ?_
   walk_at "r"
   refine⟨ky,ch,hch,?_⟩
   walk_at "r"
   refine⟨xN rfl (by omega) (by omega),?_⟩
   exact kk
  ·have e:(List.range m.toNat).map (fun(i:Nat)=>D.str (Txt.mul ⟨#[(P4 ka.cps.toList ((f+(0+(i:Int)))%26)).getD 0]⟩ (1+(0+(i:Int))/26)))=((List.range m.toNat).map fun(i:Nat)=>Txt.mul ⟨#[(P4 ka.cps.toList ((f+(0+(i:Int)))%26)).getD 0]⟩ (1+(0+(i:Int))/26)).map D.str:=by rw[List.map_map];rfl
   rw[List.nil_append,e]
   refine⟨rfl,?_⟩
   refine names4 (by rw[List.length_map,List.length_range];omega) hm1 hm2 (by omega) (by omega) (Y5 (nameA f) _ fun i j hi hj=>tw (by omega) (by omega)) (fun x hx=>?_) q
   obtain⟨i,hi,rfl⟩:=List.mem_map.mp hx
   have hi:=List.mem_range.mp hi
   exact Aa (i:=i) (by omega) (by omega)
 ·walk_at "r"
  refine⟨c,d2,k+1+1,7,rfl,by omega,by omega,by decide,by decide,fun sz d3 s0 s1=>?_⟩
  walk_at "r"
  refine⟨⟨by omega,by omega⟩,?_⟩
  refine⟨by rw[A9,List.length_map,List.length_range];exact j8 (by omega),?_⟩
  walk_at "r"
  refine .of ⟨fun n acc ρ=>∃(d':Int) (bs:List Int),ρ=[some (feed c d' (k+1+1+1+n)),some (.int m),some (.str ka),some (.int f),none,some (.int (2+sz)),none,none,none,none,none,none,none]/\acc=bs.map D.int/\bs.length=n/\∀b∈bs,0<=b/\b<26,⟨d3,[],?_,rfl,rfl,fun b hb=>(by cases hb)⟩,?_,?_⟩
  ·have:k+1+1+1+((0:Nat):Int)=k+1+1+1:=by omega
   rw[this]
   rfl
  ·rintro n y acc ρ hy ⟨d',bs,rfl,rfl,hbl,hb⟩
   have hn:n<8:=by
    have:=(List.getElem?_eq_some_iff.mp hy).1
    rw[A9,List.length_map,List.length_range] at this
    omega
   walk_at "r"
   refine Br.yes rfl ?_
   walk_at "r"
   refine⟨c,d',_,26,rfl,by omega,by omega,by decide,by decide,fun b d4 b0 b1=>?_⟩
   walk_at "r"
   refine⟨d4,bs++[b],?_,by rw[List.map_append];rfl,by simp[hbl],fun z hz=>?_⟩
   ·have:k+1+1+1+((n+1:Nat):Int)=k+1+1+1+(n:Int)+1:=by omega
    rw[this]
    rfl
   ·rcases List.mem_append.mp hz with w | w
    ·exact hb z w
    ·rw[List.mem_singleton.mp w];exact⟨b0,b1⟩
  ·rintro acc ρ ⟨d',bs,rfl,rfl,hbl,hb⟩
   rw[A9,List.length_map,List.length_range] at hbl ⊢
   have hbl:(bs.length:Int)=2+sz:=by omega
   walk_at "r"
   refine⟨c,d',_,_,rfl,by omega,by omega,by omega,by omega,fun a d5 a0 a1=>?_⟩
   walk_at "r"
   refine⟨c,d5,_,_,rfl,by omega,by omega,by omega,by omega,fun a2 d6 a20 a21=>?_⟩
   walk_at "r"
   refine⟨show(0:Int)<2+sz by omega,?_⟩
   have o0:=Int.emod_nonneg (a+1+a2) (show 2+sz≠0 by omega)
   have o1:=Int.emod_lt_of_pos (a+1+a2) (show 0<2+sz by omega)
   walk_at "r"
   refine⟨c,d6,_,2,rfl,by omega,by omega,by decide,by decide,fun lo d7 lo0 lo1=>?_⟩
   walk_at "r"
   refine⟨.inl ⟨by omega,by omega⟩,?_⟩
   have lg:∀b:Bool,0<=lo*(if b then 1 else 0)/\lo*(if b then 1 else 0)<=1:=fun b=>by cases b<;>simp<;>omega
   obtain⟨lg0,lg1⟩:=lg (decide (2+sz<8))
   obtain⟨b1,_,_,hb1⟩:=G9 (f:=D.int) (xs:=bs) (i:=a) a0 (by omega)
   obtain⟨b2,_,_,hb2⟩:=G9 (f:=D.int) (xs:=bs) (i:=(a+1+a2)%(2+sz)) o0 (by omega)
   have ao:=zv (n:=2+sz) a0 (by omega) a20 (by omega)
   have lgs:2+sz+lo*(if decide (2+sz<8)=true then 1 else 0)<=8:=by
    by_cases h8:2+sz<8
    ·omega
    ·rw[decide_eq_false h8]
     show 2+sz+lo*0<=8
     omega
   walk_at "r"
   refine⟨⟨by omega,by omega⟩,?_⟩
   walk_at "w"
   refine .of ⟨fun i ρ=>∃(xs:List Str) (v10 v11:Option D),ρ=[some (feed c d7 (k+1+1+1+((2+sz).toNat:Int)+1+1+1)),some (.int m),some (.str ka),some (.int f),some (gZ xs),some (.int (2+sz)),some (nums bs),some (.int a),some (.int ((a+1+a2)%(2+sz))),some (.int (lo*(if decide (2+sz<8)=true then 1 else 0))),v10,v11,none]/\xs=(List.range i).map (dP bs a ((a+1+a2)%(2+sz)) b1 b2 f (lo*(if decide (2+sz<8)=true then 1 else 0))),⟨[],none,none,rfl,rfl⟩,?_,?_⟩
   ·rintro i y ρ hy ⟨xs,v10,v11,rfl,hxs⟩
    have hxl:xs.length=i:=by rw[hxs,List.length_map,List.length_range]
    have hi:i<100:=by
     have:=(List.getElem?_eq_some_iff.mp hy).1
     rw[A9,List.length_map,List.length_range] at this
     omega
    rw[A9] at hy
    obtain⟨i',ei',rfl⟩:=get_map hy
    have ei:i'=i:=by
     have:=(List.getElem?_eq_some_iff.mp ei').2
     rw[List.getElem_range] at this
     exact this.symm
    subst ei
    generalize (a+1+a2)%(2+sz)=O at o0 o1 hb2 hxs
    generalize lo*(if decide (2+sz<8)=true then 1 else 0)=L at lg0 lg1 hxs
    walk_at "r"
    refine⟨zx bs,?_⟩
    walk_at "r"
    refine⟨_,hb1,?_⟩
    walk_at "r"
    refine⟨a.toNat,by unfold kO;rw[if_pos a0,List.length_map,if_pos (by omega)],?_⟩
    walk_at "r"
    refine⟨_,hb2,?_⟩
    walk_at "r"
    refine⟨O.toNat,by unfold kO;rw[if_pos o0,List.length_set,List.length_map,if_pos (by omega)],?_⟩
    have e1:((bs.map D.int).set a.toNat (.int ((b1+(0+(i':Int)))%26))).set O.toNat (.int ((b2+(0+(i':Int))/26)%26))=((bs.set a.toNat ((b1+(0+(i':Int)))%26)).set O.toNat ((b2+(0+(i':Int))/26)%26)).map D.int:=by rw[List.map_set,List.map_set]
    have hbb:∀b∈(bs.set a.toNat ((b1+(0+(i':Int)))%26)).set O.toNat ((b2+(0+(i':Int))/26)%26),0<=b/\b<26:=fun b hb'=>by
     rcases List.mem_or_eq_of_mem_set hb' with w | w
     ·rcases List.mem_or_eq_of_mem_set w with w | w
      ·exact hb b w
      ·rw[w];exact⟨Int.emod_nonneg _ (by decide),Int.emod_lt_of_pos _ (by decide)⟩
     ·rw[w];exact⟨Int.emod_nonneg _ (by decide),Int.emod_lt_of_pos _ (by decide)⟩
    have hbl2:((bs.set a.toNat ((b1+(0+(i':Int)))%26)).set O.toNat ((b2+(0+(i':Int))/26)%26)).length=bs.length:=by rw[List.length_set,List.length_set]
    walk_at "r"
    dsimp only
    rw[e1]
    generalize hBB:(bs.set a.toNat ((b1+(0+(i':Int)))%26)).set O.toNat ((b2+(0+(i':Int))/26)%26)=BB at hbb hbl2
    refine⟨by rw[List.length_map,hbl2];exact j8 (by omega),?_⟩
    refine M1 (f:=fun(b:Int)=>.str ⟨#[(P4 ka.cps.toList b).getD 0]⟩) BB [] (fun b hb' K R kk=>?_) ?_
    ·obtain⟨ch,hch⟩:=rb (hbb b hb').1 (hbb b hb').2
     rw[hch] at kk
     walk_at "r"
     refine Br.yes rfl ?_
     walk_at "r"
     refine⟨ky,ch,hch,rfl,kk⟩
    ·have e2:BB.map (fun(b:Int)=>D.str ⟨#[(P4 ka.cps.toList b).getD 0]⟩)=(BB.map fun(b:Int)=>(⟨#[(P4 ka.cps.toList b).getD 0]⟩:Str)).map D.str:=by rw[List.map_map];rfl
     have e3:((BB.map fun(b:Int)=>(⟨#[(P4 ka.cps.toList b).getD 0]⟩:Str)).map (·.length)).sum=BB.length:=by
      clear hBB e1 hbb hbl2 e2
      induction BB with
      | nil=>rfl
      | cons b B ih=>rw[List.map_cons,List.map_cons,List.sum_cons,ih,List.length_cons];show 1+B.length=_;omega
     rw[List.nil_append]
     refine⟨"",_,BB.map fun(b:Int)=>(⟨#[(P4 ka.cps.toList b).getD 0]⟩:Str),rfl,rfl,e2,?_,?_⟩
     ·rw[e3,List.length_map]
      show BB.length+BB.length*0<=_
      omega
     ·have e4:(Txt.join "" (BB.map fun(b:Int)=>(⟨#[(P4 ka.cps.toList b).getD 0]⟩:Str))).length<=8:=by
       have:=size_glued "" (BB.map fun(b:Int)=>(⟨#[(P4 ka.cps.toList b).getD 0]⟩:Str))
       unfold Txt.join
       rw[this,e3]
       show BB.length+_*0<=8
       omega
      generalize hJ:Txt.join "" (BB.map fun(b:Int)=>(⟨#[(P4 ka.cps.toList b).getD 0]⟩:Str))=J at e4
      obtain⟨ch,hch⟩:=rb f0 f1
      walk_at "r"
      refine⟨ky,ch,hch,?_⟩
      walk_at "r"
      refine⟨.inl ⟨by omega,by omega⟩,?_⟩
      have p0:=Int.emod_nonneg (0+(i':Int)) (show(2:Int)≠0 by decide)
      have p1:=Int.emod_lt_of_pos (0+(i':Int)) (show(0:Int)<2 by decide)
      have L01:L=0\/L=1:=by omega
      have n0:0<=L*((0+(i':Int))%2)/\L*((0+(i':Int))%2)<=1:=by rcases L01 with rfl | rfl<;>omega
      walk_at "r"
      refine⟨xN rfl n0.1 (by omega),?_⟩
      have ml:=IF (z:=⟨#[ch]⟩) rfl n0.1 n0.2
      walk_at "r"
      refine⟨by rw[sizeLine_eq];omega,?_⟩
      walk_at "r"
      refine⟨by rw[List.length_map];exact j8 (by omega),?_⟩
      refine⟨xs++[J++Txt.mul ⟨#[ch]⟩ (L*((0+(i':Int))%2))],some (.int (0+(i':Int))),some (.lst (BB.map D.int)),?_,?_⟩
      ·unfold gZ
       rw[List.map_append]
       rfl
      ·have en:dP bs a O b1 b2 f L i'=J++Txt.mul ⟨#[ch]⟩ (L*((0+(i':Int))%2)):=by
        unfold dP eJ
        rw[hBB]
        have ef:hV f=ch:=by unfold hV;rw[hch];rfl
        rw[ef]
        exact congrArg (·++_) hJ
       rw[List.range_succ,List.map_append,<-hxs,List.map_singleton,en]
   ·rintro ρ ⟨xs,v10,v11,rfl,hxs⟩
    rw[A9,List.length_map,List.length_range] at hxs
    have hxl:xs.length=m.toNat:=by rw[hxs,List.length_map,List.length_range]
    refine names4 (by omega) hm1 hm2 (by omega) (by omega) ?_ (fun x hx=>?_) q
    ·rw[hxs]
     exact Y5 _ _ fun i j hi hj=>vE (by omega) (by omega) lg0 lg1 a0 (by omega) o0 (by omega) ao hb
    ·rw[hxs] at hx
     obtain⟨i,hi,rfl⟩:=List.mem_map.mp hx
     exact xv lg0 lg1 f0 f1 hb (by omega) (by omega)
end My
namespace My
open PySem L2 L3
local macro_rules | `(tactic| walk_at "w")=>`(tactic| conv=>whnf)
local macro_rules | `(tactic| walk_at "a")=>`(tactic| first | refine⟨rfl,?_⟩ | refine⟨_,rfl,?_⟩ | refine Br.yes rfl ?_ | refine Br.no rfl ?_ | refine⟨(show(0:Int)<_ from by decide),?_⟩ | refine⟨(show V0 _ _ from⟨by decide,by decide⟩),?_⟩ | refine⟨(show aZ _ _ from⟨by decide,by decide,by decide⟩),?_⟩ | refine⟨(show P0 _ _ from .inr ⟨by decide,by decide⟩),?_⟩ | refine⟨(show P0 _ _ from .inl ⟨by decide,by decide⟩),?_⟩ | refine⟨_,_,_,rfl,rfl,rfl,?_⟩ | refine⟨_,O0 _ _,?_⟩ | refine⟨_,bb _ _ _,?_⟩ | refine⟨_,_,rfl,rfl,?_⟩)
local macro_rules | `(tactic| walk_at "r")=>`(tactic| ((repeat ((conv=>whnf);(walk_at "a")));(try (conv=>whnf))))
open PySem.Builtin PySem.Builtin.Str in
open PySem.Builtin PySem.Builtin.Str in
open PySem.Builtin PySem.Builtin.Str in
structure Ir(xs:List Str)(gs:List Gd)(es:List Nat):Prop where
 len:es.length=gs.length
 nms:gs.map (·.nm)=xs.take gs.length
 all:∀(j:Nat) (g:Gd),gs[j]?=some g->∃e:Nat,es[j]?=some e/\1<=e/\e<=8/\(g.un=none->e=1)/\∀y,g.un=some y->∃(j':Nat) (gj:Gd) (e':Nat),j'<j/\gs[j']?=some gj/\gj.nm=y/\es[j']?=some e'/\e=e'+1
 cv:∀g∈gs,O2 g.cv
 de:∀g∈gs,0<=g.de/\g.de<10^60
 wa:∀g∈gs,0<=g.wa/\g.wa<10^60
theorem Ir.snoc{xs:List Str}{gs:List Gd}{es:List Nat}{g:Gd}{e:Nat}(h:Ir xs gs es)(hx:xs[gs.length]?=some g.nm)(e1:1<=e)(e8:e<=8)(u0:g.un=none->e=1)(u1:∀y,g.un=some y->∃(j:Nat) (e':Nat),j<gs.length/\xs[j]?=some y/\es[j]?=some e'/\e=e'+1)(hc:O2 g.cv)(hd:0<=g.de/\g.de<10^60)(hw:0<=g.wa/\g.wa<10^60):Ir xs (gs++[g]) (es++[e]):=by
 have mem:∀{P:Gd->Prop},(∀g∈gs,P g)->P g->∀z∈gs++[g],P z:=fun h1 h2 z hz=>by
  rcases List.mem_append.mp hz with w | w
  ·exact h1 z w
  ·rw[List.mem_singleton.mp w];exact h2
 refine⟨by rw[List.length_append,List.length_append,h.len];rfl,?_,fun j z hz=>?_,mem h.cv hc,mem h.de hd,mem h.wa hw⟩
 ·rw[List.map_append,h.nms,List.length_append,List.length_singleton,List.take_add_one,hx]
  rfl
 ·by_cases hj:j<gs.length
  ·rw[List.getElem?_append_left hj] at hz
   obtain⟨f,f1,f2,f3,f4,f5⟩:=h.all j z hz
   refine⟨f,by rw[List.getElem?_append_left (by rw[h.len];exact hj)];exact f1,f2,f3,f4,fun y hy=>?_⟩
   obtain⟨j',gj,e',a1,a2,a3,a4,a5⟩:=f5 y hy
   exact⟨j',gj,e',a1,by rw[List.getElem?_append_left (by omega)];exact a2,a3,by rw[List.getElem?_append_left (by rw[h.len];omega)];exact a4,a5⟩
  ·have hl:=(List.getElem?_eq_some_iff.mp hz).1
   rw[List.length_append,List.length_singleton] at hl
   have ej:j=gs.length:=by omega
   subst ej
   rw[List.getElem?_append_right (Nat.le_refl _),Nat.sub_self] at hz
   cases hz
   refine⟨e,by rw[<-h.len,List.getElem?_append_right (Nat.le_refl _),Nat.sub_self];rfl,e1,e8,u0,fun y hy=>?_⟩
   obtain⟨j,e',a1,a2,a3,a4⟩:=u1 y hy
   obtain⟨gj,hgj⟩:∃gj,gs[j]?=some gj:=⟨_,List.getElem?_eq_getElem a1⟩
   have hn:gj.nm=y:=by
    have z1:(gs.map (·.nm))[j]?=some gj.nm:=by rw[List.getElem?_map,hgj];rfl
    rw[h.nms,List.getElem?_take_of_lt a1,a2] at z1
    exact(Option.some.inj z1).symm
   exact⟨j,gj,e',a1,by rw[List.getElem?_append_left a1];exact hgj,hn,by rw[List.getElem?_append_left (by rw[h.len];exact a1)];exact a3,a4⟩
theorem Ir.un{xs:List Str}{gs:List Gd}{es:List Nat}(h:Ir xs gs es):CF gs:=by
 refine⟨fun i=>es.getD i 0,fun i g hg=>?_⟩
 obtain⟨e,a1,a2,a3,a4,a5⟩:=h.all i g hg
 have ee:es.getD i 0=e:=by rw[List.getD_eq_getElem?_getD,a1];rfl
 simp only[ee]
 refine⟨a2,a3,a4,fun y hy=>?_⟩
 obtain⟨j',gj,e',b1,b2,b3,b4,b5⟩:=a5 y hy
 have ej:es.getD j' 0=e':=by rw[List.getD_eq_getElem?_getD,b4];rfl
 exact⟨j',gj,b1,b2,b3,by rw[ej];exact b5⟩
theorem JF(x y:Int){t:Int}(t0:0<=t)(t1:t<2):∃p:Int,P4 [D.int x,.int y] t=some (.int p)/\(p=x\/p=y):=by
 have h:t=0\/t=1:=by omega
 rcases h with rfl | rfl
 ·exact⟨x,rfl,.inl rfl⟩
 ·exact⟨y,rfl,.inr rfl⟩
structure Mb(gs:List Gd)(ls:List Ld):Prop where
 c4:∀l∈ls,l.cs.length<=4
 cs:∀l∈ls,∀p∈l.cs,1<=p.1/\p.1<10^60/\0<=p.2/\p.2<10^60
 la:∀l∈ls,0<=l.la/\l.la<10^60
 at_:∀l∈ls,∃g∈gs,g.nm=l.at_
theorem Mb.snoc{gs:List Gd}{ls:List Ld}{l:Ld}(h:Mb gs ls)(h1:l.cs.length<=4)(h2:∀p∈l.cs,1<=p.1/\p.1<10^60/\0<=p.2/\p.2<10^60)(h3:0<=l.la/\l.la<10^60)(h4:∃g∈gs,g.nm=l.at_):Mb gs (ls++[l]):=by
 have mem:∀{P:Ld->Prop},(∀g∈ls,P g)->P l->∀z∈ls++[l],P z:=fun h1 h2 z hz=>by
  rcases List.mem_append.mp hz with w | w
  ·exact h1 z w
  ·rw[List.mem_singleton.mp w];exact h2
 exact⟨mem h.c4 h1,mem h.cs h2,mem h.la h3,mem h.at_ h4⟩
theorem BO(xs:List D)(n:Nat):cutD xs none (some (n:Int))=xs.take n:=by
 unfold cutD
 have h1:HT.D1 xs.length 0 none=0:=rfl
 have h2:HT.D1 xs.length xs.length (some (n:Int))=min n xs.length:=by
  show(if ((n:Int))<0 then((n:Int)+(xs.length:Int)).toNat else min (n:Int).toNat xs.length)=_
  rw[if_neg (by omega)];rfl
 rw[h1,h2]
 show List.take (min n xs.length-0) xs=_
 rw[Nat.sub_zero,List.take_eq_take_iff]
 omega
theorem ji(xs:List D)(n:Nat)(h:n<=xs.length):cutD xs (some (n:Int)) none=xs.drop n:=by
 unfold cutD
 have h1:HT.D1 xs.length 0 (some (n:Int))=n:=by
  show(if ((n:Int))<0 then((n:Int)+(xs.length:Int)).toNat else min (n:Int).toNat xs.length)=_
  rw[if_neg (by omega)]
  show min n xs.length=n
  omega
 have h2:HT.D1 xs.length xs.length none=xs.length:=rfl
 rw[h1,h2]
 rw[List.take_of_length_le (by rw[List.length_drop];omega)]
theorem mD(gs:List Gd):∀(n:Nat) (o:Option Str),(ups gs n o).length<=n
 | 0,o=>by cases o<;>exact Nat.le_refl _
 | n+1,none=>Nat.zero_le _
 | n+1,some y=>by
  show(ups gs n _).length+1<=n+1
  have:=mD gs n (kY gs y)
  omega
theorem cw{b:Bd}(hb:p5 b){x:Str}(hx:x∈y9 b++L1 b):∀y∈p3 b x,y∈y9 b:=by
 have go:∀(n:Nat) (g:Gd),g∈b.gs->∀y∈ups b.gs n (some g.nm),y∈y9 b:=by
  intro n
  induction n with
  | zero=>intro g hg y hy;cases hy
  | succ n ih=>
   intro g hg y hy
   have hy:y∈g.nm::ups b.gs n (kY b.gs g.nm):=hy
   rcases List.mem_cons.mp hy with e | e
   ·rw[e];exact List.mem_map.mpr ⟨g,hg,rfl⟩
   ·rw[Z2 hb.cZ.nd hg] at e
    cases hu:g.un with
    | none=>
     rw[hu] at e
     cases n<;>cases e
    | some z=>
     rw[hu] at e
     obtain⟨dp,ud⟩:=hb.cZ.un
     obtain⟨j,hj⟩:=List.getElem?_of_mem hg
     obtain⟨_,_,_,a⟩:=ud j g hj
     obtain⟨k,gk,_,hgk,rfl,_⟩:=a z hu
     exact ih gk (List.mem_of_getElem? hgk) y e
 obtain⟨g,hg,e⟩:=List.mem_map.mp (mw hb hx)
 unfold p3
 rw[<-e]
 exact go 8 g hg
theorem tV{b:Bd}(hb:p5 b):gh (b.gs.map fun g:Gd=>((.inr g.nm:Key),D.int 0))=p8 b fun _=>0:=by
 rw[jl]
 have:=R0 (k:=fun g:Gd=>g.nm) (v:=fun _:Gd=>D.int 0) (as:=b.gs) (bs:=[]) (by rw[List.nil_append];exact hb.cZ.nd)
 exact this
end My
namespace My
open PySem L2 L3
local macro_rules | `(tactic| walk_at "w")=>`(tactic| conv=>whnf)
local macro_rules | `(tactic| walk_at "a")=>`(tactic| first | refine⟨rfl,?_⟩ | refine⟨_,rfl,?_⟩ | refine Br.yes rfl ?_ | refine Br.no rfl ?_ | refine⟨(show(0:Int)<_ from by decide),?_⟩ | refine⟨(show V0 _ _ from⟨by decide,by decide⟩),?_⟩ | refine⟨(show aZ _ _ from⟨by decide,by decide,by decide⟩),?_⟩ | refine⟨(show P0 _ _ from .inr ⟨by decide,by decide⟩),?_⟩ | refine⟨(show P0 _ _ from .inl ⟨by decide,by decide⟩),?_⟩ | refine⟨_,_,_,rfl,rfl,rfl,?_⟩ | refine⟨_,O0 _ _,?_⟩ | refine⟨_,bb _ _ _,?_⟩ | refine⟨_,_,rfl,rfl,?_⟩)
local macro_rules | `(tactic| walk_at "r")=>`(tactic| ((repeat ((conv=>whnf);(walk_at "a")));(try (conv=>whnf))))
local macro_rules | `(tactic| walk_at "n")=>`(tactic| (try dsimp only[g7,List.length,List.replicate,List.map,List.set,List.append,List.cons_append,List.nil_append,Nat.reduceAdd,Nat.reduceSub]))
theorem eR{b:Bd}{ks:List Str}{x:Str}(hx:x∈ks)(nd:ks.Nodup):y7 (hR b ks) (.inr x)=some (.fz ((p3 b x).map D.str)):=by
 have:=Q2 (k:=fun x:Str=>x) (v:=fun x:Str=>D.fz ((p3 b x).map D.str)) (as:=ks) (by rw[List.map_id'];exact nd) hx
 exact this
theorem rD{b:Bd}{ks:List Str}{x:Str}(hx:x∉ks):putD (hR b ks) (.inr x) (.fz ((p3 b x).map D.str))=hR b (ks++[x]):=by
 have:=dg (k:=fun x:Str=>x) (v:=fun x:Str=>D.fz ((p3 b x).map D.str)) (as:=ks) (x:=x) (d:=.fz ((p3 b x).map D.str)) (by rw[List.map_id'];exact hx)
 unfold hR
 rw[this,List.map_append];rfl
theorem Ao(gs:List Gd)(n:Nat):ups gs n none=[]:=by cases n<;>rfl
theorem fS{b:Bd}(hb:p5 b){g:Gd}(hg:g∈b.gs):p3 b g.nm=g.nm::(match g.un with | none=>[] | some y=>p3 b y):=by
 have hx:g.nm∈y9 b:=List.mem_map.mpr ⟨g,hg,rfl⟩
 obtain⟨dp,ud,dd⟩:=rZ hb
 have hun:=Z2 hb.cZ.nd hg
 have e0:p3 b g.nm=g.nm::ups b.gs 7 g.un:=by
  unfold p3
  rw[S0 hb hx]
  show g.nm::ups b.gs 7 (kY b.gs g.nm)=_
  rw[hun]
 rw[e0]
 cases hu:g.un with
 | none=>rw[Ao]
 | some y=>
  have d7:=(dd _ hx).next ud hb.cZ.nd (hun.trans hu)
  have hy:y∈y9 b:=by
   obtain⟨j,h,h1,h2,_⟩:=d7
   exact List.mem_map.mpr ⟨h,List.mem_of_getElem? h1,h2⟩
  have e1:p3 b y=ups b.gs 7 (some y):=by
   unfold p3
   rw[S0 hb hy]
   exact bT ud hb.cZ.nd 7 8 y d7 (by decide)
  show _=g.nm::p3 b y
  rw[e1]
theorem tO{b:Bd}(hb:p5 b){l:Ld}(hl:l∈b.ls):p3 b l.nm=p3 b l.at_:=by
 obtain⟨g,hg,e⟩:=hb.at_ l hl
 have h:l.at_∈y9 b:=List.mem_map.mpr ⟨g,hg,e⟩
 unfold p3
 rw[rL hb hl,S0 hb h]
theorem yb{b:Bd}(hb:p5 b){i:Nat}{g:Gd}(hg:b.gs[i]?=some g){y:Str}(hu:g.un=some y):y∈(y9 b).take i:=by
 obtain⟨dp,ud⟩:=hb.un
 obtain⟨_,_,_,up⟩:=ud i g hg
 obtain⟨j,gj,hj,hgj,rfl,_⟩:=up y hu
 refine List.mem_of_getElem? (i:=j) ?_
 unfold y9
 rw[List.getElem?_take_of_lt hj,List.getElem?_map,hgj];rfl
theorem gX{α:Type}{xs:List α}(nd:xs.Nodup){i:Nat}{x:α}(h:xs[i]?=some x):x∉xs.take i:=fun z=>by
 obtain⟨j,hj⟩:=List.getElem?_of_mem z
 have hj2:=(List.getElem?_eq_some_iff.mp hj).1
 rw[List.length_take] at hj2
 rw[List.getElem?_take_of_lt (by omega)] at hj
 have:=(List.getElem?_inj (i:=j) (j:=i) (by omega) nd).mp (by rw[hj,h])
 omega
theorem take_snoc{α:Type}{xs:List α}{i:Nat}{x:α}(h:xs[i]?=some x):xs.take (i+1)=xs.take i++[x]:=by rw[List.take_add_one,h];rfl
theorem cP{b:Bd}(x:Str):(p3 b x).length<=8:=mD _ 8 _
theorem yr{T:Q6}{b:Bd}{q:D}{i:Nat}{g:Gd}{v3:Option D}(hb:p5 b)(hg:b.gs[i]?=some g)
  (hT:T.nx [some q,some (.dic (hR b ((y9 b).take (i+1)))),some (gD g),v3]):dY T [some q,some (.dic (hR b ((y9 b).take i))),some (gD g),v3]:=by
 have hgm:=List.mem_of_getElem? hg
 have h16:=hb.g16
 have hn:(y9 b)[i]?=some g.nm:=by unfold y9;rw[List.getElem?_map,hg];rfl
 have nd:(y9 b).Nodup:=hb.cZ.nd
 have ndt:((y9 b).take i).Nodup:=nd.sublist (List.take_sublist _ _)
 have eo:=fS hb hgm
 have fin:∃k,S5 (.str g.nm)=some k/\(hR b ((y9 b).take i)).length<sizeLine/\T.nx [some q,some (.dic (putD (hR b ((y9 b).take i)) k (.fz ((p3 b g.nm).map D.str)))),some (gD g),v3]:=by
  refine⟨.inr g.nm,rfl,?_,?_⟩
  ·unfold hR y9
   rw[List.length_map,List.length_take,List.length_map];exact j8 (by omega)
  ·rw[rD (gX nd hn),<-take_snoc hn]
   exact hT
 walk_at "r"
 cases hu:g.un with
 | none=>
  rw[hu] at eo
  have eo:p3 b g.nm=[g.nm]:=eo
  rw[eo] at fin
  exact⟨rfl,[.str g.nm],[],rfl,rfl,rfl,rfl,j8 (by decide),_,rfl,rfl,rfl,_,rfl,fin⟩
 | some y=>
  rw[hu] at eo
  have eo:p3 b g.nm=g.nm::p3 b y:=eo
  rw[eo] at fin
  have hv:=eR (b:=b) (yb hb hg hu) ndt
  refine⟨.inr y,rfl,?_⟩
  rw[hv]
  have i1:=Z6 (p3 b y)
  have i2:=Z6 (g.nm::p3 b y)
  have:=cP (b:=b) y
  exact⟨i1,[.str g.nm],(p3 b y).map D.str,rfl,rfl,rfl,i1,by rw[List.length_map];exact Nat.le_of_lt (j8 (by show 1+_<=_;omega)),_,rfl,i2,i2,_,rfl,fin⟩
theorem vM{T:Q6}{b:Bd}{q:D}{i:Nat}{l:Ld}{v2:Option D}(hb:p5 b)(hl:b.ls[i]?=some l)
  (hT:T.nx [some q,some (.dic (hR b (y9 b++(L1 b).take (i+1)))),v2,some (lD l)]):dW T [some q,some (.dic (hR b (y9 b++(L1 b).take i))),v2,some (lD l)]:=by
 have hlm:=List.mem_of_getElem? hl
 have h16:=hb.g16
 have h24:=hb.l24
 have hn:(L1 b)[i]?=some l.nm:=by unfold L1;rw[List.getElem?_map,hl];rfl
 have nd:=hb.nd
 have nd:(y9 b++L1 b).Nodup:=nd
 obtain⟨n1,n2,n3⟩:=List.nodup_append.mp nd
 have ndt:(y9 b++(L1 b).take i).Nodup:=nd.sublist (List.Sublist.append_left (List.take_sublist _ _) _)
 obtain⟨g,hg,e⟩:=hb.at_ l hlm
 have hat:l.at_∈y9 b++(L1 b).take i:=List.mem_append_left _ (List.mem_map.mpr ⟨g,hg,e⟩)
 have hv:=eR (b:=b) hat ndt
 have hnot:l.nm∉y9 b++(L1 b).take i:=fun z=>by
  rcases List.mem_append.mp z with z | z
  ·exact n3 l.nm z l.nm (List.mem_of_getElem? hn) rfl
  ·exact gX n2 hn z
 have i1:=Z6 (p3 b l.at_)
 refine⟨_,rfl,.inr l.at_,_,rfl,hv,i1,i1,_,rfl,.inr l.nm,rfl,?_,?_⟩
 ·unfold hR y9 L1
  rw[List.length_map,List.length_append,List.length_take,List.length_map,List.length_map];exact j8 (by omega)
 ·rw[<-tO hb hlm,rD hnot,List.append_assoc,<-take_snoc hn]
  exact hT
theorem Ca{Q:D->Prop}{b:Bd}{x y:D}{v2 v3:Option D}(hb:p5 b)(hy:uY y (b.ls.map lD))(q:Q (.dic (hR b (y9 b++L1 b)))):oG (EP Q) [some (.tup [x,y]),some (.dic (hR b (y9 b))),v2,v3]:=by
 rcases hy with rfl | rfl
 all_goals
  refine⟨_,bb _ _ _,?_⟩
  refine .of ⟨fun i ρ=>∃v3:Option D,ρ=[some (.tup [x,_]),some (.dic (hR b (y9 b++(L1 b).take i))),v2,v3],⟨v3,by rw[List.take_zero,List.append_nil]⟩,?_,?_⟩
  ·rintro i e ρ he ⟨v3,rfl⟩
   obtain⟨l,hl,rfl⟩:=get_map he
   exact⟨rfl,vM hb hl ⟨_,rfl⟩⟩
  ·rintro ρ ⟨v3,rfl⟩
   rw[List.length_map,List.take_of_length_le (by unfold L1;rw[List.length_map];exact Nat.le_refl _)]
   exact q
theorem CW(ds:List D)(Q:D->Prop)(h:T1 ds Q):zb (EP Q) (g7 4 ds):=by
 obtain⟨_,b,rfl,⟨x,y,rfl,hx,hy⟩,hb,q⟩:=h
 refine⟨rfl,?_⟩
 rcases hx with rfl | rfl
 all_goals
  refine⟨_,O0 _ _,?_⟩
  refine .of ⟨fun i ρ=>∃v2:Option D,ρ=[some (.tup [_,y]),some (.dic (hR b ((y9 b).take i))),v2,none],⟨none,rfl⟩,?_,?_⟩
  ·rintro i e ρ he ⟨v2,rfl⟩
   obtain⟨g,hg,rfl⟩:=get_map he
   exact⟨rfl,yr hb hg ⟨_,rfl⟩⟩
  ·rintro ρ ⟨v2,rfl⟩
   rw[List.length_map,List.take_of_length_le (by unfold y9;rw[List.length_map];exact Nat.le_refl _)]
   exact Ca hb hy q
def rv(b:Bd)(ls:List Ld)(y:Str):Int:=(ls.map fun l=>(((p3 b l.nm).count y:Nat):Int)*(if l.on then l.la else 0)).sum
theorem mi{b:Bd}(hb:p5 b)(y:Str):o8 b y=rv b b.ls y:=by
 have hf:∀x,D6 b [] x=true:=fun x=>by
  unfold D6
  rw[List.all_eq_true]
  exact fun g _=>decide_eq_true (fun z=>nomatch z)
 unfold o8 N9 rv
 rw[List.map_append,List.sum_append,O5 (y9 b) _ fun x hx=>?_,Int.zero_add]
 ·unfold L1
  rw[List.map_map]
  refine K3 fun l hl=>?_
  show(if D6 b [] l.nm=true then _ else _)=_
  rw[if_pos (hf _)]
  unfold mO
  rw[N8 (Bg hb) hl]
 ·have hx2:x∉b.ls.map (·.nm):=fun z=>(List.nodup_append.mp hb.nd).2.2 x hx x z rfl
  rw[if_pos (hf _)]
  unfold mO
  rw[Z4 hx2,Int.mul_zero]
theorem ze{T:Q6}{b:Bd}{q:D}{l:Ld}{f:Str->Int}{v4:Option D}(hb:p5 b)(hl:l∈b.ls)
  (hT:∀v4,T.nx [some q,some (.dic (hR b (y9 b++L1 b))),some (.dic (p8 b fun y=>f y+(((p3 b l.nm).count y:Nat):Int)*(if l.on then l.la else 0))),some (lD l),v4]) :
  dO T [some q,some (.dic (hR b (y9 b++L1 b))),some (.dic (p8 b f)),some (lD l),v4]:=by
 have h16:=hb.g16
 have hx:l.nm∈y9 b++L1 b:=List.mem_append_right _ (List.mem_map.mpr ⟨l,hl,rfl⟩)
 have hin:=cw hb hx
 refine⟨_,rfl,.inr l.nm,_,rfl,eR hx hb.nd,?_⟩
 generalize p3 b l.nm=ov at *
 generalize hD:hR b (y9 b++L1 b)=OV
 refine .of ⟨fun n ρ=>∃v4,ρ=[some q,some (.dic OV),some (.dic (p8 b fun y=>f y+(((ov.take n).count y:Nat):Int)*(if l.on then l.la else 0))),some (lD l),v4],⟨v4,?_⟩,?_,?_⟩
 ·have e:(p8 b fun y=>f y+((((ov.take 0).count y:Nat):Int))*(if l.on then l.la else 0))=p8 b f:=B4 fun x _=>by
   rw[List.take_zero,List.count_nil]
   show f x+0*_=f x
   rw[Int.zero_mul,Int.add_zero]
  rw[e]
 ·rintro n y ρ hy ⟨v4,rfl⟩
  obtain⟨g,eg,rfl⟩:=get_map hy
  have hg:=hin g (List.mem_of_getElem? eg)
  refine⟨rfl,?_⟩
  refine⟨_,_,rfl,G6 hb hg,?_⟩
  have e2:(l.la*if l.on=true then 1 else 0)=if l.on then l.la else 0:=by split<;>omega
  have e:(p8 b fun z=>if z=g then f g+(((ov.take n).count g:Nat):Int)*(if l.on then l.la else 0)+(if l.on then l.la else 0) else f z+(((ov.take n).count z:Nat):Int)*(if l.on then l.la else 0))=p8 b fun z=>f z+(((ov.take (n+1)).count z:Nat):Int)*(if l.on then l.la else 0):=B4 fun z _=>by
   rw[List.take_succ,eg,show(some g).toList=[g] from rfl,List.count_append,List.count_singleton]
   by_cases h:z=g
   ·subst h
    rw[if_pos rfl]
    simp[Int.add_mul]
    omega
   ·rw[if_neg h]
    have:(g == z)=false:=by rw[beq_eq_false_iff_ne];exact fun w=>h w.symm
    simp[this]
  have key:T.nx=T.nx:=rfl
  refine⟨_,rfl,_,rfl,?_⟩
  refine⟨.inr ⟨?_,?_⟩,?_⟩
  ·split<;>decide
  ·split<;>decide
  rw[e2]
  refine⟨rfl,_,rfl,by rw[cK];exact j8 (by omega),some (.str g),?_⟩
  rw[cC hg,e]
  rfl
 ·rintro ρ ⟨v4,rfl⟩
  rw[List.length_map,List.take_length,<-hD]
  exact hT v4
theorem Cy{Q:D->Prop}{b:Bd}{x y:D}{v3 v4:Option D}(hb:p5 b)(hy:uY y (b.ls.map lD))(q:Q (.dic (p8 b (o8 b)))):lE (EP Q) [some (.tup [x,y]),some (.dic (hR b (y9 b++L1 b))),some (.dic (p8 b fun _=>0)),v3,v4]:=by
 rcases hy with rfl | rfl
 all_goals
  refine⟨_,bb _ _ _,?_⟩
  refine .of ⟨fun i ρ=>∃v3 v4:Option D,ρ=[some (.tup [x,_]),some (.dic (hR b (y9 b++L1 b))),some (.dic (p8 b (rv b (b.ls.take i)))),v3,v4],⟨v3,v4,rfl⟩,?_,?_⟩
  ·rintro i e ρ he ⟨v3,v4,rfl⟩
   obtain⟨l,hl,rfl⟩:=get_map he
   refine⟨rfl,ze hb (List.mem_of_getElem? hl) fun v4=>⟨some (lD l),v4,?_⟩⟩
   have e:(p8 b fun y=>rv b (b.ls.take i) y+(((p3 b l.nm).count y:Nat):Int)*(if l.on then l.la else 0))=p8 b (rv b (b.ls.take (i+1))):=B4 fun z _=>by
    unfold rv
    rw[List.take_add_one,hl,List.map_append,List.sum_append]
    show _=_+(_+0)
    rw[Int.add_zero]
   rw[e]
  ·rintro ρ ⟨v3,v4,rfl⟩
   have e:p8 b (rv b b.ls)=p8 b (o8 b):=B4 fun z _=>(mi hb z).symm
   rw[List.length_map,List.take_length,e]
   exact q
theorem Dx(ds:List D)(Q:D->Prop)(h:L0 ds Q):wd (EP Q) (g7 5 ds):=by
 obtain⟨_,b,rfl,⟨x,y,rfl,hx,hy⟩,hb,q⟩:=h
 have h16:=hb.g16
 refine⟨_,b,rfl,⟨x,y,rfl,hx,hy⟩,hb,rfl,?_⟩
 rcases hx with rfl | rfl
 all_goals
  refine⟨_,O0 _ _,by rw[List.length_map];exact j8 (by omega),?_⟩
  refine M1 (f:=fun g:Gd=>.tup [.str g.nm,.int 0]) b.gs [] (fun g hg K R kk=>?_) ?_
  ·walk_at "r"
   exact kk
  rw[List.nil_append]
  refine .inl ⟨_,_,_,rfl,rfl,R3 (f:=fun g:Gd=>.tup [.str g.nm,.int 0]) (fun g=>rfl) b.gs,cU (fun g:Gd=>g.nm) (fun _:Gd=>.int 0) b.gs,by rw[List.length_map];exact j8 (by omega),?_⟩
  rw[tV hb]
  exact⟨rfl,Cy hb hy q⟩
theorem zF(ds:List D)(Q:D->Prop)(h:M6 ds Q):sU (EP Q) (g7 2 ds):=by
 obtain⟨g,n,rfl,hl,q⟩:=h
 have i1:=W0 g.cv
 have i2:=W0 (g.cv.map fun p=>(p.1+n,p.2))
 have iu:=fV g.un
 have ig:A2 [.str g.nm,uD g.un,oB g.cv,.int g.de,.int g.wa]=true:=Z7 g
 refine⟨ig,?_⟩
 refine⟨_,rfl,by rw[List.length_map];exact j8 (by omega),?_⟩
 refine M1 (f:=fun p:Pr=>pr (p.1+n,p.2)) g.cv [] (fun p hp K R kk=>?_) ?_
 ·walk_at "r"
  exact kk
 have e:([]++g.cv.map fun p:Pr=>pr (p.1+n,p.2))=(g.cv.map fun p=>(p.1+n,p.2)).map pr:=by rw[List.nil_append,List.map_map];rfl
 rw[e]
 refine⟨_,_,rfl,rfl,i2,?_⟩
 have j1:A2 [.str g.nm,uD g.un]=true:=by
  show(true&&(A7 (uD g.un)&&true))=true
  rw[iu];rfl
 have j2:A2 [oB (g.cv.map fun p=>(p.1+n,p.2))]=true:=by
  show(A7 (oB (g.cv.map fun p=>(p.1+n,p.2)))&&true)=true
  rw[aQ];rfl
 have j3:A2 [.str g.nm,uD g.un,oB (g.cv.map fun p=>(p.1+n,p.2))]=true:=by
  show(true&&(A7 (uD g.un)&&(A7 (oB (g.cv.map fun p=>(p.1+n,p.2)))&&true)))=true
  rw[iu,aQ];rfl
 exact⟨j1,j2,Nat.le_of_lt (j8 (show 2+1<=100000 by decide)),ig,j3,rfl,Nat.le_of_lt (j8 (show 3+2<=100000 by decide)),q⟩
theorem Up.more{xs:List Int}{b w l u:Int}(h:Up b xs)(hm:l∈xs)(hl:∀x∈xs,x<=l)(u0:1<=u)(u1:u<=w):Up (b+w) (xs++[l+u]):=by
 refine⟨List.pairwise_append.mpr ⟨h.1,List.pairwise_singleton _ _,fun x hx y hy=>?_⟩,fun x hx=>?_⟩
 ·rw[List.mem_singleton.mp hy]
  have:=hl x hx
  omega
 ·have:=h.2 l hm
  rcases List.mem_append.mp hx with z | z
  ·have:=h.2 x z;omega
  ·rw[List.mem_singleton.mp z];omega
theorem Up.scale{xs:List Int}{b B u:Int}(h:Up b xs)(u0:1<=u)(hB:b*u<=B):Up B (xs.map (·*u)):=by
 refine⟨List.pairwise_map.mpr (h.1.imp fun h=>Int.mul_lt_mul_of_pos_right h (by omega)),fun y hy=>?_⟩
 obtain⟨x,hx,rfl⟩:=List.mem_map.mp hy
 have h1:=h.2 x hx
 have h2:1*1<=x*u:=Int.mul_le_mul h1.1 u0 (by decide) (by omega)
 have h3:x*u<=b*u:=Int.mul_le_mul_of_nonneg_right h1.2 (by omega)
 exact⟨h2,by omega⟩
theorem W5(xs:List Int)(u:Int)(k:Nat):(xs.map (·*u)).getD k 0=xs.getD k 0*u:=by
 rw[List.getD_eq_getElem?_getD,List.getD_eq_getElem?_getD,List.getElem?_map]
 cases xs[k]? with
 | none=>exact(Int.zero_mul u).symm
 | some x=>rfl
theorem getD_mem{xs:List Int}{k:Nat}(h:k<xs.length):xs.getD k 0∈xs:=by
 rw[List.getD_eq_getElem?_getD,List.getElem?_eq_getElem h]
 exact List.getElem_mem h
theorem kG{u t:Int}(h:S6 u t):46*u<=10^60-1/\15*t<=10^60-1:=by
 obtain⟨h1,h2,h3,h4⟩:=h
 omega
theorem vm{Q:D->D->Prop}{c d k u t m:Int}{xs ys:List Int}{v:Option D}(ut:S6 u t)(hx:(xs.length:Int)=m)(hy:(ys.length:Int)=m)(h1:1<=m)(h5:m<=5)(ux:Up 46 xs)(uy:Up 15 ys)
  (q:∀cv:List Pr,O2 cv->(∀p∈cv,p.1<=46*u)->(∀p∈cv,p.2<=15*t)->Q (oB cv) (feed c d k)):gU (EM Q) [some (feed c d k),some (.int u),some (.int t),some (.int m),some (nums xs),some (nums ys),v]:=by
 obtain⟨b1,b2⟩:=kG ut
 have vx:=ux.scale ut.1 b1
 have vy:=uy.scale ut.2.2.1 b2
 refine⟨⟨by omega,by omega⟩,by rw[A9,List.length_map,List.length_range];exact j8 (by omega),?_⟩
 refine M1 (f:=fun(k:Nat)=>pr ((xs.map (·*u)).getD k 0,(ys.map (·*t)).getD (m.toNat-1-k) 0)) (List.range m.toNat) [] (fun k hk K R kk=>?_) ?_
 ·have hk:=List.mem_range.mp hk
  have a1:P4 (xs.map D.int) (0+(k:Int))=some (.int (xs.getD k 0)):=by
   obtain⟨x,_,e1,e2⟩:=G9 (f:=D.int) (xs:=xs) (i:=0+(k:Int)) (by omega) (by omega)
   rw[e2]
   have e3:(0+(k:Int)).toNat=k:=by omega
   rw[e3] at e1
   rw[List.getD_eq_getElem?_getD,e1];rfl
  have a2:P4 (ys.map D.int) (m-1-(0+(k:Int)))=some (.int (ys.getD (m.toNat-1-k) 0)):=by
   obtain⟨x,_,e1,e2⟩:=G9 (f:=D.int) (xs:=ys) (i:=m-1-(0+(k:Int))) (by omega) (by omega)
   rw[e2]
   have e3:(m-1-(0+(k:Int))).toNat=m.toNat-1-k:=by omega
   rw[e3] at e1
   rw[List.getD_eq_getElem?_getD,e1];rfl
  have mx:=ux.2 _ (getD_mem (xs:=xs) (k:=k) (by omega))
  have my:=uy.2 _ (getD_mem (xs:=ys) (k:=m.toNat-1-k) (by omega))
  rw[W5,W5] at kk
  refine⟨rfl,Br.yes rfl ?_⟩
  refine⟨_,a1,.inl ⟨by omega,by omega⟩,_,a2,.inl ⟨by omega,by omega⟩,kk⟩
 ·have im:∀l:List Nat,A2 (l.map fun(k:Nat)=>pr ((xs.map (·*u)).getD k 0,(ys.map (·*t)).getD (m.toNat-1-k) 0))=true:=fun l=>nh fun x hx=>by
   obtain⟨k,_,rfl⟩:=List.mem_map.mp hx
   rfl
  refine⟨_,_,rfl,rfl,im _,?_⟩
  have e:(List.range m.toNat).map (fun(k:Nat)=>pr ((xs.map (·*u)).getD k 0,(ys.map (·*t)).getD (m.toNat-1-k) 0))=(steps m.toNat (xs.map (·*u)) (ys.map (·*t))).map pr:=by unfold steps;rw[List.map_map];rfl
  rw[List.nil_append,e]
  refine q _ (ye (by rw[List.length_map];omega) (by rw[List.length_map];omega) (by omega) (by omega) vx vy) (fun p hp=>?_) fun p hp=>?_
  ·obtain⟨k,hk,rfl⟩:=List.mem_map.mp hp
   have hk:=List.mem_range.mp hk
   show(xs.map (·*u)).getD k 0<=46*u
   rw[W5]
   exact Int.mul_le_mul_of_nonneg_right (ux.2 _ (getD_mem (by omega))).2 (by have:=ut.1;omega)
  ·obtain⟨k,hk,rfl⟩:=List.mem_map.mp hp
   have hk:=List.mem_range.mp hk
   show(ys.map (·*t)).getD (m.toNat-1-k) 0<=15*t
   rw[W5]
   exact Int.mul_le_mul_of_nonneg_right (uy.2 _ (getD_mem (by omega))).2 (by have:=ut.2.2.1;omega)
theorem uM(ds:List D)(Q:D->D->Prop)(h:N2 ds Q):mR (EM Q) (g7 7 ds):=by
 obtain⟨c,d,k,u,t,rfl,k0,k1,ut,q⟩:=h
 refine⟨c,d,k,5,rfl,k0,by omega,by decide,by decide,fun m d1 m0 m1=>⟨rfl,?_⟩⟩
 refine⟨c,d1,k+1,10,rfl,by omega,by omega,by decide,by decide,fun r d2 r0 r1=>⟨rfl,?_⟩⟩
 refine⟨c,d2,k+1+1,3,rfl,by omega,by omega,by decide,by decide,fun r' d3 r0' r1'=>⟨rfl,?_⟩⟩
 refine⟨⟨by omega,by omega⟩,?_⟩
 refine .of ⟨fun i ρ=>∃(d' k':Int) (xs ys:List Int) (v6:Option D),ρ=[some (feed c d' k'),some (.int u),some (.int t),some (.int (1+m)),some (nums xs),some (nums ys),v6]/\xs.length=i+1/\ys.length=i+1/\Up (10+9*i) xs/\Up (3+3*i) ys/\k<=k'/\k'<=k+3+2*i,
  ⟨d3,k+1+1+1,[1+r],[1+r'],none,rfl,rfl,rfl,⟨List.pairwise_singleton _ _,fun x hx=>by rw[List.mem_singleton.mp hx];omega⟩,⟨List.pairwise_singleton _ _,fun x hx=>by rw[List.mem_singleton.mp hx];omega⟩,by omega,by omega⟩,?_,?_⟩
 ·rintro i e ρ he ⟨d',k',xs,ys,v6,rfl,hx,hy,ux,uy,k2,k3⟩
  rw[A9] at he
  obtain⟨j,hj,rfl⟩:=get_map he
  have hi:i<(1+m-1).toNat:=by have:=(List.getElem?_eq_some_iff.mp hj).1;rwa [List.length_range] at this
  obtain⟨l,lm,lx,hl⟩:=sP ux (by omega)
  obtain⟨l',lm',lx',hl'⟩:=sP uy (by omega)
  refine⟨rfl,rfl,_,hl,?_⟩
  refine⟨c,d',k',9,rfl,by omega,by omega,by decide,by decide,fun w d4 w0 w1=>?_⟩
  refine⟨by rw[List.length_map];exact j8 (by omega),?_⟩
  refine⟨rfl,_,hl',?_⟩
  refine⟨c,d4,k'+1,3,rfl,by omega,by omega,by decide,by decide,fun w' d5 w0' w1'=>?_⟩
  refine⟨by rw[List.length_map];exact j8 (by omega),?_⟩
  have z:=ux.more (w:=9) (u:=1+w) lm lx (by omega) (by omega)
  have z':=uy.more (w:=3) (u:=1+w') lm' lx' (by omega) (by omega)
  refine⟨d5,k'+1+1,xs++[l+(1+w)],ys++[l'+(1+w')],some (.int (0+(j:Int))),?_,by simp[hx],by simp[hy],z.mono (by omega),z'.mono (by omega),by omega,by omega⟩
  unfold nums
  rw[List.map_append,List.map_append]
  show _=[some (feed c d5 (k'+1+1)),_,_,_,some (.lst (xs.map D.int++[.int (l+(1+w))])),some (.lst (ys.map D.int++[.int (l'+(1+w'))])),_]
  rw[show l+(1+w)=l+1+w from by omega,show l'+(1+w')=l'+1+w' from by omega]
  rfl
 ·rintro ρ ⟨d',k',xs,ys,v6,rfl,hx,hy,ux,uy,k2,k3⟩
  rw[A9,List.length_map,List.length_range] at hx hy k3 ux uy
  exact vm ut (by omega) (by omega) (by omega) (by omega) (ux.mono (by omega)) (uy.mono (by omega)) fun cv c1 c2 c3=>q cv d' k' c1 c2 c3 (by omega) (by omega)
theorem Ax{zs:List D}{p:Int}(h0:0<=p)(h1:p<zs.length):P4 zs p=zs[p.toNat]?:=by
 unfold P4 kO
 rw[if_pos h0,if_pos h1];rfl
theorem BR(xs:List Str){p:Int}(p0:0<=p)(p1:p<=xs.length):∃un:Option Str,P4 ([D.non]++xs.map D.str) p=some (uD un)/\(∀y,un=some y->∃j:Nat,(j:Int)+1=p/\xs[j]?=some y):=by
 rw[Ax p0 (by rw[List.length_append,List.length_map];show p<((1+xs.length:Nat):Int);omega)]
 by_cases h:p=0
 ·subst h
  exact⟨none,rfl,fun y z=>nomatch z⟩
 ·obtain⟨n,e⟩:∃n,p.toNat=n+1:=⟨p.toNat-1,by omega⟩
  have hn:n<xs.length:=by omega
  have hy:=List.getElem?_eq_getElem hn
  refine⟨some xs[n],?_,fun z hz=>by cases hz;exact⟨n,by omega,hy⟩⟩
  rw[e]
  show(xs.map D.str)[n]?=_
  rw[List.getElem?_map,hy];rfl
structure KC(xs:List Str)(gs:List Gd)(es:List Nat)(u t:Int):Prop where
 k:Ir xs gs es
 lo:∀(j e:Nat),es[j]?=some e->e<=j+1
 sm:LG gs u t
theorem KC.snoc{xs:List Str}{gs:List Gd}{es:List Nat}{g:Gd}{u t:Int}(ut:S6 u t)(h:KC xs gs es u t)(h8:gs.length<8)(hx:xs[gs.length]?=some g.nm)(un:∀y,g.un=some y->∃j:Nat,j<gs.length/\xs[j]?=some y)(hc:O2 g.cv)(hd:0<=g.de)(hw:0<=g.wa)
  (c1:∀p∈g.cv,p.1<=46*u) (c2:∀p∈g.cv,p.2<=15*t) (d2:g.de<=3*t) (w2:g.wa<=2*t):∃es',KC xs (gs++[g]) es' u t:=by
 have mem:∀{P:Gd->Prop},(∀g∈gs,P g)->P g->∀z∈gs++[g],P z:=fun h1 h2 z hz=>by
  rcases List.mem_append.mp hz with w | w
  ·exact h1 z w
  ·rw[List.mem_singleton.mp w];exact h2
 have b:=kG ut
 have t1:=ut.2.2.1
 have sm:LG (gs++[g]) u t:=⟨mem h.sm.c1 c1,mem h.sm.c2 c2,mem h.sm.de d2,mem h.sm.wa w2⟩
 have lo:∀e:Nat,e<=gs.length+1->∀(j e':Nat),(es++[e])[j]?=some e'->e'<=j+1:=fun e he j e' hj=>by
  by_cases hl:j<es.length
  ·rw[List.getElem?_append_left hl] at hj
   exact h.lo j e' hj
  ·have hl2:=(List.getElem?_eq_some_iff.mp hj).1
   rw[List.length_append,List.length_singleton] at hl2
   have ej:j=es.length:=by omega
   subst ej
   rw[List.getElem?_append_right (Nat.le_refl _),Nat.sub_self] at hj
   cases hj
   rw[h.k.len];exact he
 cases hu:g.un with
 | none=>exact⟨es++[1],h.k.snoc (e:=1) hx (Nat.le_refl _) (by decide) (fun _=>rfl) (fun y z=>by rw[hu] at z;cases z) hc ⟨hd,by omega⟩ ⟨hw,by omega⟩,lo 1 (by omega),sm⟩
 | some y=>
  obtain⟨j,hj,hy⟩:=un y hu
  obtain⟨e,he⟩:∃e,es[j]?=some e:=⟨_,List.getElem?_eq_getElem (by rw[h.k.len];exact hj)⟩
  have:=h.lo j e he
  exact⟨es++[e+1],h.k.snoc (e:=e+1) hx (by omega) (by omega) (fun z=>by rw[hu] at z;cases z) (fun y' z=>by rw[hu] at z;cases z;exact⟨j,e,hj,hy,he,rfl⟩) hc ⟨hd,by omega⟩ ⟨hw,by omega⟩,lo (e+1) (by omega),sm⟩
theorem oU(ds:List D)(Q:D->Prop)(h:K5 ds Q):iR (EP Q) (g7 10 ds):=by
 obtain⟨d,ns,xs,u,t,rfl,hs,x1,x8,xn,ut,q⟩:=h
 have b:=kG ut
 have t1:=ut.2.2.1
 refine⟨rfl,?_⟩
 refine⟨⟨by rw[List.length_map];omega,by rw[List.length_map];omega⟩,?_⟩
 refine .of ⟨fun i ρ=>∃(gs:List Gd) (es:List Nat) (v5 v6 v7 v8 v9:Option D),ρ=[some d,some (gZ xs),some (.int u),some (.int t),some (.lst (gs.map gD)),v5,v6,v7,v8,v9]/\gs.length=i/\KC xs gs es u t,
  ⟨[],[],none,none,none,none,none,rfl,rfl,⟨⟨rfl,rfl,fun j g hg=>(by simp at hg),(fun g hg=>nomatch hg),(fun g hg=>nomatch hg),(fun g hg=>nomatch hg)⟩,fun j e he=>(by simp at he),⟨(fun g hg=>nomatch hg),(fun g hg=>nomatch hg),(fun g hg=>nomatch hg),(fun g hg=>nomatch hg)⟩⟩⟩,?_,?_⟩
 ·rintro i e ρ he ⟨gs,es,v5,v6,v7,v8,v9,rfl,hl,gm⟩
  rw[A9] at he
  obtain⟨j,hj,rfl⟩:=get_map he
  have hi:i<xs.length/\j=i:=by
   obtain⟨z1,z2⟩:=List.getElem?_eq_some_iff.mp hj
   rw[List.length_range,List.length_map] at z1
   rw[List.getElem_range] at z2
   exact⟨by omega,by omega⟩
  obtain⟨hi,rfl⟩:=hi
  obtain⟨x,_,hxg,hxi⟩:=G9 (f:=D.str) (xs:=xs) (i:=0+(j:Int)) (by omega) (by omega)
  have e0:(0+(j:Int)).toNat=j:=by omega
  rw[e0] at hxg
  refine⟨rfl,?_⟩
  refine⟨d,ns,2+(0+(j:Int)),rfl,hs,by omega,by omega,fun c=>⟨rfl,?_⟩⟩
  walk_at "n"
  refine⟨c,c,_,0+(j:Int)+1,rfl,by omega,by omega,by omega,by omega,fun r d1 r0 r1=>?_⟩
  refine⟨rfl,c,d1,_,3,rfl,by omega,by omega,by decide,by decide,fun w d2 w0 w1=>?_⟩
  walk_at "n"
  obtain⟨p,hp,hpp⟩:=JF r (0+(j:Int)) (t:=if decide (0<w)=true then 1 else 0) (by split<;>decide) (by split<;>decide)
  refine⟨_,hp,rfl,rfl,?_⟩
  walk_at "n"
  refine⟨c,d2,_,u,t,rfl,by omega,by omega,ut,fun cv d3 k3 hc c1 c2 k30 k31=>⟨rfl,?_⟩⟩
  walk_at "n"
  refine⟨c,d3,k3,4,rfl,by omega,by omega,by decide,by decide,fun a d4 a0 a1=>⟨.inl ⟨by omega,by omega⟩,rfl,?_⟩⟩
  walk_at "n"
  obtain⟨un,hun,hup⟩:=BR xs (p:=p) (by omega) (by omega)
  refine⟨rfl,_,hxi,rfl,?_⟩
  refine⟨rfl,Z6 xs,?_,_,hun,?_⟩
  ·rw[List.length_map];exact Nat.le_of_lt (j8 (by show 1+_<=_;omega))
  refine⟨aQ cv,rfl,c,d4,k3+1,3,rfl,by omega,by omega,by decide,by decide,fun a' d5 a0' a1'=>⟨.inl ⟨by omega,by omega⟩,?_⟩⟩
  refine⟨by rw[List.length_map];exact j8 (by omega),?_⟩
  have m1:a*t<=3*t:=Int.mul_le_mul_of_nonneg_right (by omega) (by omega)
  have m2:a'*t<=2*t:=Int.mul_le_mul_of_nonneg_right (by omega) (by omega)
  have m3:0<=a*t:=Int.mul_nonneg a0 (by omega)
  have m4:0<=a'*t:=Int.mul_nonneg a0' (by omega)
  obtain⟨es',gm'⟩:=gm.snoc ut (g:=⟨x,un,cv,a*t,a'*t⟩) (by omega) (by rw[hl];exact hxg) (fun y hy=>by obtain⟨n,h1,h2⟩:=hup y hy;exact⟨n,by omega,h2⟩) hc m3 m4 c1 c2 m1 m2
  refine⟨gs++[⟨x,un,cv,a*t,a'*t⟩],es',some (.int (0+(j:Int))),some (feed c d5 (k3+1+1)),some (.int p),some (oB cv),some (.int (a*t)),?_,by simp[hl],gm'⟩
  rw[List.map_append]
  rfl
 ·rintro ρ ⟨gs,es,v5,v6,v7,v8,v9,rfl,hl,gm⟩
  rw[A9,List.length_map,List.length_range,List.length_map] at hl
  refine q gs ?_ gm.k.un gm.k.cv (fun g hg=>(gm.k.de g hg).1) (fun g hg=>(gm.k.wa g hg).1) gm.sm
  have:=gm.k.nms
  rw[this,List.take_of_length_le (by omega)]
structure KJ(gs:List Gd)(ls:List Ld)(u t:Int):Prop where
 c4:∀l∈ls,l.cs.length<=4
 cs:∀l∈ls,∀p∈l.cs,1<=p.1/\0<=p.2
 la:∀l∈ls,0<=l.la
 at_:∀l∈ls,∃g∈gs,g.nm=l.at_
 sm:Lq ls u t
theorem KJ.snoc{gs:List Gd}{ls:List Ld}{l:Ld}{u t:Int}(h:KJ gs ls u t)(h1:l.cs.length<=4)(h2:∀p∈l.cs,1<=p.1/\p.1<=3*t/\0<=p.2/\p.2<=11*u)(h3:0<=l.la)(h4:l.la<=3*u)(h5:∃g∈gs,g.nm=l.at_):KJ gs (ls++[l]) u t:=by
 have mem:∀{P:Ld->Prop},(∀g∈ls,P g)->P l->∀z∈ls++[l],P z:=fun h1 h2 z hz=>by
  rcases List.mem_append.mp hz with w | w
  ·exact h1 z w
  ·rw[List.mem_singleton.mp w];exact h2
 exact⟨mem h.c4 h1,mem h.cs fun p hp=>⟨(h2 p hp).1,(h2 p hp).2.2.1⟩,mem h.la h3,mem h.at_ h5,mem h.sm.la h4,mem h.sm.cs fun p hp=>⟨(h2 p hp).2.1,(h2 p hp).2.2.2⟩⟩
theorem uG(ds:List D)(Q:D->Prop)(h:O1 ds Q):mf (EP Q) (g7 11 ds):=by
 obtain⟨d,ns,xs,gs,u,t,rfl,hs,g1,g8,x8,ut,q⟩:=h
 have u1:=ut.1
 have t1:=ut.2.2.1
 refine⟨rfl,?_⟩
 refine⟨⟨by rw[List.length_map];omega,by rw[List.length_map];omega⟩,?_⟩
 refine .of ⟨fun i ρ=>∃(ls:List Ld) (v6 v7 v8 v9 v10:Option D),ρ=[some d,some (gZ xs),some (.lst (gs.map gD)),some (.int u),some (.int t),some (.lst (ls.map lD)),v6,v7,v8,v9,v10]/\ls.length=i/\ls.map (·.nm)=xs.take i/\KJ gs ls u t,
  ⟨[],none,none,none,none,none,rfl,rfl,rfl,⟨(fun g hg=>nomatch hg),(fun g hg=>nomatch hg),(fun g hg=>nomatch hg),(fun g hg=>nomatch hg),(fun g hg=>nomatch hg),(fun g hg=>nomatch hg)⟩⟩,?_,?_⟩
 ·rintro i e ρ he ⟨ls,v6,v7,v8,v9,v10,rfl,hl,nl,lm⟩
  rw[A9] at he
  obtain⟨j,hj,rfl⟩:=get_map he
  have hi:i<xs.length/\j=i:=by
   obtain⟨z1,z2⟩:=List.getElem?_eq_some_iff.mp hj
   rw[List.length_range,List.length_map] at z1
   rw[List.getElem_range] at z2
   exact⟨by omega,by omega⟩
  obtain⟨hi,rfl⟩:=hi
  obtain⟨x,_,hxg,hxi⟩:=G9 (f:=D.str) (xs:=xs) (i:=0+(j:Int)) (by omega) (by omega)
  have e0:(0+(j:Int)).toNat=j:=by omega
  rw[e0] at hxg
  refine⟨rfl,?_⟩
  refine⟨d,ns,10+(0+(j:Int)),rfl,hs,by omega,by omega,fun c=>⟨rfl,?_⟩⟩
  refine⟨c,c,_,_,rfl,by omega,by omega,by rw[List.length_map];omega,by rw[List.length_map];omega,fun r d1 r0 r1=>?_⟩
  rw[List.length_map] at r1
  obtain⟨g,hg,_,hgi⟩:=G9 (f:=gD) (xs:=gs) (i:=r) r0 r1
  refine⟨_,hgi,_,rfl,rfl,rfl,rfl,?_⟩
  refine⟨c,d1,_,5,rfl,by omega,by omega,by decide,by decide,fun r2 d2 r20 r21=>?_⟩
  generalize hK:100*(10+(0+(j:Int)))+1+1=K0
  refine⟨⟨by omega,by omega⟩,?_⟩
  refine .of ⟨fun n ρ=>∃(d' k':Int) (ps:List Pr) (v10:Option D),ρ=[some d,some (gZ xs),some (.lst (gs.map gD)),some (.int u),some (.int t),some (.lst (ls.map lD)),some (.int (0+(j:Int))),some (feed c d' k'),some (.str g.nm),some (.lst (ps.map pr)),v10]/\ps.length=n/\(∀p∈ps,1<=p.1/\p.1<=3*t/\0<=p.2/\p.2<=11*u)/\0<=k'/\k'<=10000+2*n,⟨d2,K0,[],v10,rfl,rfl,(fun p hp=>nomatch hp),by omega,by omega⟩,?_,?_⟩
  ·rintro n y ρ hy ⟨d',k',ps,v10,rfl,hpl,hps,k0,k1⟩
   have hn:n<r2.toNat:=by have:=(List.getElem?_eq_some_iff.mp hy).1;rwa [A9,List.length_map,List.length_range] at this
   refine⟨rfl,?_⟩
   refine⟨rfl,c,d',k',3,rfl,by omega,by omega,by decide,by decide,fun a d3 a0 a1=>⟨.inl ⟨by omega,by omega⟩,?_⟩⟩
   refine⟨c,d3,k'+1,12,rfl,by omega,by omega,by decide,by decide,fun a' d4 a0' a1'=>⟨.inl ⟨by omega,by omega⟩,?_⟩⟩
   refine⟨by rw[List.length_map];exact j8 (by omega),?_⟩
   have m1:(1+a)*t<=3*t:=Int.mul_le_mul_of_nonneg_right (by omega) (by omega)
   have m2:a'*u<=11*u:=Int.mul_le_mul_of_nonneg_right (by omega) (by omega)
   have m3:1*1<=(1+a)*t:=Int.mul_le_mul (by omega) t1 (by decide) (by omega)
   have m4:0<=a'*u:=Int.mul_nonneg a0' (by omega)
   refine⟨d4,k'+1+1,ps++[((1+a)*t,a'*u)],some y,?_,by simp[hpl],fun p hp=>?_,by omega,by omega⟩
   ·rw[List.map_append];rfl
   ·rcases List.mem_append.mp hp with z | z
    ·exact hps p z
    ·rw[List.mem_singleton.mp z];exact⟨m3,m1,m4,m2⟩
  ·rintro ρ ⟨d',k',ps,v10,rfl,hpl,hps,k0,k1⟩
   rw[A9,List.length_map,List.length_range] at hpl k1
   refine⟨rfl,_,hxi,rfl,rfl,_,_,rfl,rfl,W0 ps,?_⟩
   refine⟨c,d',k',4,rfl,by omega,by omega,by decide,by decide,fun a d5 a0 a1=>⟨.inl ⟨by omega,by omega⟩,?_⟩⟩
   refine⟨c,d5,k'+1,4,rfl,by omega,by omega,by decide,by decide,fun a' d6 a0' a1'=>?_⟩
   refine⟨by rw[List.length_map];exact j8 (by omega),?_⟩
   have m1:a*u<=3*u:=Int.mul_le_mul_of_nonneg_right (by omega) (by omega)
   have m3:0<=a*u:=Int.mul_nonneg a0 (by omega)
   refine⟨ls++[⟨x,g.nm,ps,a*u,decide (0<a')⟩],some (.int (0+(j:Int))),some (feed c d6 (k'+1+1)),some (.str g.nm),some (.lst (ps.map pr)),v10,?_,by simp[hl],?_,lm.snoc (by show ps.length<=4;omega) hps m3 m1 ⟨g,hg,rfl⟩⟩
   ·rw[List.map_append];rfl
   ·rw[List.map_append,nl,List.take_add_one,hxg];rfl
 ·rintro ρ ⟨ls,v6,v7,v8,v9,v10,rfl,hl,nl,lm⟩
  rw[A9,List.length_map,List.length_range,List.length_map] at nl
  exact q ls (by rw[nl,List.take_of_length_le (by omega)]) lm.c4 lm.cs lm.la lm.at_ lm.sm
end My
namespace My
open PySem L2 L3
local macro_rules | `(tactic| walk_at "w")=>`(tactic| conv=>whnf)
local macro_rules | `(tactic| walk_at "a")=>`(tactic| first | refine⟨rfl,?_⟩ | refine⟨_,rfl,?_⟩ | refine Br.yes rfl ?_ | refine Br.no rfl ?_ | refine⟨(show(0:Int)<_ from by decide),?_⟩ | refine⟨(show V0 _ _ from⟨by decide,by decide⟩),?_⟩ | refine⟨(show aZ _ _ from⟨by decide,by decide,by decide⟩),?_⟩ | refine⟨(show P0 _ _ from .inr ⟨by decide,by decide⟩),?_⟩ | refine⟨(show P0 _ _ from .inl ⟨by decide,by decide⟩),?_⟩ | refine⟨_,_,_,rfl,rfl,rfl,?_⟩ | refine⟨_,O0 _ _,?_⟩ | refine⟨_,bb _ _ _,?_⟩ | refine⟨_,_,rfl,rfl,?_⟩)
local macro_rules | `(tactic| walk_at "r")=>`(tactic| ((repeat ((conv=>whnf);(walk_at "a")));(try (conv=>whnf))))
theorem zN{gs:List Gd}{dp:Nat->Nat}(ud:lW gs dp)(nd:(gs.map (·.nm)).Nodup):∀(n j:Nat) (g:Gd),gs[j]?=some g->∀y∈ups gs n (some g.nm),∃k h,k<=j/\gs[k]?=some h/\h.nm=y
 | 0,_,_,_,y,hy=>by cases hy
 | n+1,j,g,hj,y,hy=>by
  have hy:y∈g.nm::ups gs n (kY gs g.nm):=hy
  rcases List.mem_cons.mp hy with e | e
  ·exact⟨j,g,Nat.le_refl _,hj,e.symm⟩
  ·rw[Z2 nd (List.mem_of_getElem? hj)] at e
   cases hu:g.un with
   | none=>
    rw[hu] at e
    cases n<;>cases e
   | some z=>
    rw[hu] at e
    obtain⟨_,_,_,a⟩:=ud j g hj
    obtain⟨k,gk,hk,hgk,rfl,_⟩:=a z hu
    obtain⟨k2,h,h1,h2,h3⟩:=zN ud nd n k gk hgk y e
    exact⟨k2,h,by omega,h2,h3⟩
theorem Hw{gs:List Gd}(nd:(gs.map (·.nm)).Nodup){i j:Nat}{g h:Gd}(hi:gs[i]?=some g)(hj:gs[j]?=some h)(e:g.nm=h.nm):i=j:=by
 have h1:(gs.map (·.nm))[i]?=some g.nm:=by rw[List.getElem?_map,hi];rfl
 have h2:(gs.map (·.nm))[j]?=some g.nm:=by rw[List.getElem?_map,hj,e];rfl
 have hl:i<(gs.map (·.nm)).length:=(List.getElem?_eq_some_iff.mp h1).1
 exact(List.getElem?_inj hl nd).mp (h1.trans h2.symm)
theorem jc{gs:List Gd}{dp:Nat->Nat}(ud:lW gs dp)(nd:(gs.map (·.nm)).Nodup):∀(n j:Nat) (g:Gd),gs[j]?=some g->(ups gs n (some g.nm)).Nodup
 | 0,_,_,_=>List.nodup_nil
 | n+1,j,g,hj=>by
  show(g.nm::ups gs n (kY gs g.nm)).Nodup
  rw[Z2 nd (List.mem_of_getElem? hj)]
  cases hu:g.un with
  | none=>
   have e3:ups gs n none=[]:=by cases n<;>rfl
   rw[e3];exact List.nodup_cons.mpr ⟨(fun z=>nomatch z),List.nodup_nil⟩
  | some z=>
   obtain⟨_,_,_,a⟩:=ud j g hj
   obtain⟨k,gk,hk,hgk,rfl,_⟩:=a z hu
   refine List.nodup_cons.mpr ⟨fun y=>?_,jc ud nd n k gk hgk⟩
   obtain⟨k2,h,h1,h2,h3⟩:=zN ud nd n k gk hgk _ y
   have:=Hw nd h2 hj h3
   omega
theorem oQ{b:Bd}(hb:p5 b){x:Str}(hx:x∈y9 b++L1 b):(p3 b x).Nodup:=by
 obtain⟨dp,ud⟩:=hb.cZ.un
 obtain⟨g,hg,e⟩:=List.mem_map.mp (mw hb hx)
 obtain⟨j,hj⟩:=List.getElem?_of_mem hg
 unfold p3
 rw[<-e]
 exact jc ud hb.cZ.nd 8 j g hj
theorem rg{b:Bd}(hb:p5 b){x:Str}(hx:x∈y9 b++L1 b)(y:Str):(((p3 b x).count y:Nat):Int)=if y∈p3 b x then 1 else 0:=by
 by_cases h:y∈p3 b x
 ·rw[if_pos h,List.Nodup.count (oQ hb hx),if_pos h];rfl
 ·rw[if_neg h,List.count_eq_zero.mpr h];rfl
end My
namespace My
open PySem L2 L3
local macro_rules | `(tactic| walk_at "w")=>`(tactic| conv=>whnf)
local macro_rules | `(tactic| walk_at "a")=>`(tactic| first | refine⟨rfl,?_⟩ | refine⟨_,rfl,?_⟩ | refine Br.yes rfl ?_ | refine Br.no rfl ?_ | refine⟨(show(0:Int)<_ from by decide),?_⟩ | refine⟨(show V0 _ _ from⟨by decide,by decide⟩),?_⟩ | refine⟨(show aZ _ _ from⟨by decide,by decide,by decide⟩),?_⟩ | refine⟨(show P0 _ _ from .inr ⟨by decide,by decide⟩),?_⟩ | refine⟨(show P0 _ _ from .inl ⟨by decide,by decide⟩),?_⟩ | refine⟨_,_,_,rfl,rfl,rfl,?_⟩ | refine⟨_,O0 _ _,?_⟩ | refine⟨_,bb _ _ _,?_⟩ | refine⟨_,_,rfl,rfl,?_⟩)
local macro_rules | `(tactic| walk_at "r")=>`(tactic| ((repeat ((conv=>whnf);(walk_at "a")));(try (conv=>whnf))))
local macro_rules | `(tactic| walk_at "n")=>`(tactic| (try dsimp only[g7,List.length,List.replicate,List.map,List.set,List.append,List.cons_append,List.nil_append,Nat.reduceAdd,Nat.reduceSub]))
theorem eD{α:Type}{f:α->Int}{c:Int}:∀{l:List α},(∀x∈l,0<=f x/\f x<=c)->0<=(l.map f).sum/\(l.map f).sum<=l.length*c
 | [],_=>⟨Int.le_refl _,by show(0:Int)<=((0:Nat):Int)*c;rw[Int.natCast_zero,Int.zero_mul];exact Int.le_refl _⟩
 | x::l,h=>by
  have a:=h x List.mem_cons_self
  have b:=eD (l:=l) fun y hy=>h y (List.mem_cons_of_mem _ hy)
  rw[List.map_cons,List.sum_cons,List.length_cons]
  have e:((l.length+1:Nat):Int)*c=(l.length:Int)*c+c:=by rw[Int.natCast_add,Int.add_mul];simp
  rw[e]
  omega
theorem W4{b:Bd}(hb:p5 b){c:Int}(c0:0<=c)(hc:∀l∈b.ls,l.la<=c)(y:Str):0<=o8 b y/\o8 b y<=b.ls.length*c:=by
 rw[mi hb]
 refine eD fun l hl=>?_
 have h0:=hb.la l hl
 have h1:=hc l hl
 have e:0<=(if l.on=true then l.la else 0)/\(if l.on=true then l.la else 0)<=c:=by split<;>omega
 rw[rg hb (List.mem_append_right _ (List.mem_map.mpr ⟨l,hl,rfl⟩))]
 split
 ·rw[Int.one_mul];exact e
 ·rw[Int.zero_mul];omega
theorem O2.lift{cv:List Pr}(h:O2 cv){n B:Int}(h0:0<=n)(hB:∀p∈cv,p.1<=B)(h1:B+n<10^60):O2 (cv.map fun p=>(p.1+n,p.2)):=by
 obtain⟨a,b,c,d⟩:=h
 refine⟨by rw[List.length_map];exact a,by rw[List.length_map];exact b,fun q hq=>?_,?_⟩
 ·obtain⟨p,hp,rfl⟩:=List.mem_map.mp hq
  have z:=c p hp
  have w:=hB p hp
  exact⟨by show 1<=p.1+n;omega,by show p.1+n<_;omega,z.2.2.1,z.2.2.2⟩
 ·rw[List.pairwise_map]
  exact d.imp fun z=>⟨by show _+n<_+n;omega,z.2⟩
theorem p5.guards{b:Bd}(hb:p5 b)(f:Gd->Gd)(h1:∀g,(f g).nm=g.nm)(h2:∀g,(f g).un=g.un)(h3:∀g∈b.gs,O2 (f g).cv)(h4:∀g∈b.gs,0<=(f g).de/\(f g).de<10^60)(h5:∀g∈b.gs,0<=(f g).wa/\(f g).wa<10^60):p5 ⟨b.gs.map f,b.ls⟩:=by
 have en:(b.gs.map f).map (·.nm)=b.gs.map (·.nm):=by rw[List.map_map];exact List.map_congr_left fun g _=>h1 g
 have all:∀{P:Gd->Prop},(∀g∈b.gs,P (f g))->∀g∈b.gs.map f,P g:=fun h g hg=>by
  obtain⟨z,hz,rfl⟩:=List.mem_map.mp hg
  exact h z hz
 refine⟨by show 1<=(b.gs.map f).length;rw[List.length_map];exact hb.g1,by show(b.gs.map f).length<=16;rw[List.length_map];exact hb.g16,hb.l24,by show((b.gs.map f).map (·.nm)++_).Nodup;rw[en];exact hb.nd,all fun g hg=>by rw[h1];exact hb.nmg g hg,hb.nml,all h3,all h4,all h5,?_,hb.cs4,hb.cs,hb.la,fun l hl=>?_⟩
 ·obtain⟨dp,ud⟩:=hb.un
  refine⟨dp,fun i g hg=>?_⟩
  have hg:(b.gs.map f)[i]?=some g:=hg
  rw[List.getElem?_map] at hg
  obtain⟨z,hz,rfl⟩:=Option.map_eq_some_iff.mp hg
  obtain⟨a1,a2,a3,a4⟩:=ud i z hz
  refine⟨a1,a2,fun w=>a3 (by rw[<-h2];exact w),fun y hy=>?_⟩
  obtain⟨j,gj,b1,b2,b3,b4⟩:=a4 y (by rw[<-h2];exact hy)
  exact⟨j,f gj,b1,by show(b.gs.map f)[j]?=_;rw[List.getElem?_map,b2];rfl,by rw[h1];exact b3,b4⟩
 ·obtain⟨g,hg,e⟩:=hb.at_ l hl
  exact⟨f g,List.mem_map.mpr ⟨g,hg,rfl⟩,by rw[h1];exact e⟩
theorem uH(ds:List D)(Q:D->Prop)(h:N3 ds Q):lM (EP Q) (g7 9 ds):=by
 obtain⟨d,ns,u,t,rfl,hs,ut,q⟩:=h
 have ub:=kG ut
 have u1:=ut.1
 have u2:=ut.2.1
 have t1:=ut.2.2.1
 have t2:=ut.2.2.2
 refine⟨d,ns,0,rfl,hs,by decide,by decide,fun c=>⟨rfl,?_⟩⟩
 walk_at "n"
 refine⟨c,c,_,8,rfl,by decide,by decide,by decide,by decide,fun r d1 r0 r1=>⟨rfl,?_⟩⟩
 walk_at "n"
 refine⟨d,ns,1,rfl,hs,by decide,by decide,fun c'=>?_⟩
 walk_at "n"
 refine⟨c,d1,_,9,rfl,by decide,by decide,by decide,by decide,fun r' d2 r0' r1'=>?_⟩
 walk_at "n"
 refine⟨c',c',_,_,rfl,by decide,by decide,by omega,by omega,fun xs _ _ xl xn xm=>⟨rfl,?_⟩⟩
 walk_at "n"
 obtain⟨n,en⟩:∃n:Nat,1+r=(n:Int):=⟨(1+r).toNat,by omega⟩
 have n1:1<=n:=by omega
 have n8:n<=8:=by omega
 have nl:n<=xs.length:=by omega
 have im:=Z6 xs
 have z1:cutD (xs.map D.str) none (some (1+r))=(xs.take n).map D.str:=by rw[en,BO,List.map_take]
 have z2:cutD (xs.map D.str) (some (1+r)) none=(xs.drop n).map D.str:=by rw[en,ji _ _ (by rw[List.length_map];exact nl),List.map_drop]
 refine⟨im,?_⟩
 rw[z1]
 refine⟨d,ns,xs.take n,u,t,rfl,hs,by rw[List.length_take];omega,by rw[List.length_take];omega,xn.sublist (List.take_sublist _ _),ut,fun gs gn gu gc gd gw sg=>⟨rfl,?_⟩⟩
 walk_at "n"
 have gl:gs.length=n:=by
  have:=congrArg List.length gn
  rw[List.length_map,List.length_take] at this
  omega
 refine⟨im,?_⟩
 rw[z2]
 refine⟨d,ns,xs.drop n,gs,u,t,rfl,hs,by omega,by omega,by rw[List.length_drop];omega,ut,fun ls ln lc lcs lla lat sl=>⟨rfl,?_⟩⟩
 walk_at "n"
 have ll:ls.length<=8:=by
  have:=congrArg List.length ln
  rw[List.length_map,List.length_drop] at this
  omega
 have hb:p5 ⟨gs,ls⟩:=by
  refine⟨by show 1<=gs.length;omega,by show gs.length<=16;omega,by show ls.length<=24;omega,?_,fun g hg=>?_,fun l hl=>?_,gc,fun g hg=>⟨gd g hg,by have:=sg.de g hg;show g.de<_;omega⟩,fun g hg=>⟨gw g hg,by have:=sg.wa g hg;show g.wa<_;omega⟩,gu,lc,fun l hl p hp=>?_,fun l hl=>⟨lla l hl,by have:=sl.la l hl;show l.la<_;omega⟩,lat⟩
  ·show(gs.map (·.nm)++ls.map (·.nm)).Nodup
   rw[gn,ln,List.take_append_drop]
   exact xn
  ·exact xm _ (List.mem_of_mem_take (gn▸List.mem_map.mpr ⟨g,hg,rfl⟩))
  ·exact xm _ (List.mem_of_mem_drop (ln▸List.mem_map.mpr ⟨l,hl,rfl⟩))
  ·have a:=lcs l hl p hp
   have b:=sl.cs l hl p hp
   exact⟨a.1,by omega,a.2,by omega⟩
 have fin:∀(d3:D) (v6:List Gd) (v:List (Option D)),p5 ⟨v6,ls⟩->KL ⟨v6,ls⟩ u t->gY (EP Q) [some d,some (.int u),some (.int t),some d3,some (.int (1+r)),some (gZ xs),some (.lst (v6.map gD)),some (.lst (ls.map lD)),some (.dic (p8 ⟨gs,ls⟩ (o8 ⟨gs,ls⟩)))]:=fun d3 v6 _ h1 h2=>
  ⟨_,_,rfl,rfl,cA v6,_,_,rfl,rfl,ke ls,q ⟨v6,ls⟩ h1 h2⟩
 refine⟨_,⟨gs,ls⟩,rfl,⟨_,_,rfl,.inr rfl,.inr rfl⟩,hb,rfl,?_⟩
 walk_at "n"
 refine⟨c,d2,_,8,rfl,by decide,by decide,by decide,by decide,fun w d3 w0 w1=>?_⟩
 refine⟨fun e=>?_,fun e=>fin _ gs [] hb ⟨by show gs.length<=8;omega,ll,fun g hg p hp=>by have:=sg.c1 g hg p hp;omega,sg.c2,sg.de,sg.wa,sl⟩⟩
 have lb:=W4 hb (c:=3*u) (by omega) sl.la
 have l24:(ls.length:Int)*(3*u)<=8*(3*u):=Int.mul_le_mul_of_nonneg_right (by omega) (by omega)
 have lb:∀y,0<=o8 ⟨gs,ls⟩ y/\o8 ⟨gs,ls⟩ y<=24*u:=fun y=>⟨(lb y).1,by have h:=(lb y).2;have h:o8 ⟨gs,ls⟩ y<=(ls.length:Int)*(3*u):=h;omega⟩
 refine⟨by rw[List.length_map];exact j8 (by omega),?_⟩
 refine M1 (f:=fun g:Gd=>gD (Q7 g (o8 ⟨gs,ls⟩ g.nm))) gs [] (fun g hg K R kk=>?_) ?_
 ·refine⟨rfl,Br.yes rfl ?_⟩
  refine⟨_,rfl,.inr g.nm,_,rfl,G6 hb (List.mem_map.mpr ⟨g,hg,rfl⟩),?_⟩
  exact⟨g,_,rfl,(gc g hg).2.1,kk⟩
 ·refine⟨rfl,?_⟩
  have e2:([]++gs.map fun g:Gd=>gD (Q7 g (o8 ⟨gs,ls⟩ g.nm)))=(gs.map fun g=>Q7 g (o8 ⟨gs,ls⟩ g.nm)).map gD:=by rw[List.nil_append,List.map_map];rfl
  rw[e2]
  refine fin _ _ [] (hb.guards (fun g=>Q7 g (o8 ⟨gs,ls⟩ g.nm)) (fun g=>rfl) (fun g=>rfl) (fun g hg=>(gc g hg).lift (lb g.nm).1 (sg.c1 g hg) (by have:=(lb g.nm).2;omega)) hb.de hb.wa) ⟨by show(gs.map _).length<=8;rw[List.length_map];omega,ll,fun g hg p hp=>?_,fun g hg p hp=>?_,fun g hg=>?_,fun g hg=>?_,sl⟩
  all_goals
   obtain⟨g,hz,rfl⟩:=List.mem_map.mp hg
  ·obtain⟨p,hz2,rfl⟩:=List.mem_map.mp hp
   have a:=sg.c1 g hz p hz2
   have b:=(lb g.nm).2
   show p.1+_<=_
   omega
  ·obtain⟨p,hz2,rfl⟩:=List.mem_map.mp hp
   exact sg.c2 g hz p hz2
  ·exact sg.de g hz
  ·exact sg.wa g hz
theorem EG(a b c e:Int){t:Int}(t0:0<=t)(t1:t<4):∃p:Int,P4 [D.int a,.int b,.int c,.int e] t=some (.int p)/\(p=a\/p=b\/p=c\/p=e):=by
 have h:t=0\/t=1\/t=2\/t=3:=by omega
 rcases h with rfl | rfl | rfl | rfl
 ·exact⟨a,rfl,.inl rfl⟩
 ·exact⟨b,rfl,.inr (.inl rfl)⟩
 ·exact⟨c,rfl,.inr (.inr (.inl rfl))⟩
 ·exact⟨e,rfl,.inr (.inr (.inr rfl))⟩
theorem Cz(ds:List D)(Q:D->Prop)(h:Z9 ds Q):wM (EP Q) (g7 4 ds):=by
 obtain⟨d,ns,rfl,hs,q⟩:=h
 refine⟨d,ns,18,rfl,hs,by decide,by decide,fun c=>⟨rfl,?_⟩⟩
 have c50:aZ 10 50:=⟨by decide,by decide,by decide⟩
 have c40:aZ 10 40:=⟨by decide,by decide,by decide⟩
 refine⟨c50,?_⟩
 refine⟨c,c,_,4,rfl,by decide,by decide,by decide,by decide,fun r d1 r0 r1=>?_⟩
 obtain⟨p,hp,pp⟩:=EG 1 1 7 ((10:Int)^(50:Int).toNat+3) r0 r1
 refine⟨_,hp,rfl,rfl,c40,?_⟩
 refine⟨c,d1,_,4,rfl,by decide,by decide,by decide,by decide,fun r' d2 r0' r1'=>?_⟩
 obtain⟨p',hp',pp'⟩:=EG 1 1 5 ((10:Int)^(40:Int).toNat) r0' r1'
 refine⟨_,hp',rfl,rfl,?_⟩
 have e50:(10:Int)^(50:Int).toNat=10^50:=rfl
 have e40:(10:Int)^(40:Int).toNat=10^40:=rfl
 rw[e50] at pp
 rw[e40] at pp'
 have ut:S6 p p':=⟨by omega,by omega,by omega,by omega⟩
 exact⟨d,ns,p,p',rfl,hs,ut,fun b h1 h2=>⟨rfl,q b p p' h1 h2 ut⟩⟩
theorem nL{b:Bd}{v:Str->Int}{i:Nat}{g:Gd}(hg:b.gs[i]?=some g)(h:∀z∈b.gs.take i,¬lo z.cv<=v z.nm)(hl:lo g.cv<=v g.nm):pA (J5 b v)=.str g.nm:=by
 have e:b.gs=b.gs.take i++g::b.gs.drop (i+1):=by
  have hi:=(List.getElem?_eq_some_iff.mp hg).1
  have e1:=List.getElem?_eq_some_iff.mp hg
  obtain⟨_,e2⟩:=e1
  rw[<-e2,<-List.drop_eq_getElem_cons hi,List.take_append_drop]
 unfold J5
 rw[e,List.filter_append,List.filter_eq_nil_iff.mpr fun z hz=>by rw[decide_eq_true_eq];exact h z hz,List.filter_cons,if_pos (decide_eq_true hl)]
 rfl
theorem qQ{b:Bd}{v:Str->Int}(h:∀z∈b.gs,¬lo z.cv<=v z.nm):J5 b v=[]:=by
 unfold J5
 rw[List.filter_eq_nil_iff.mpr fun z hz=>by rw[decide_eq_true_eq];exact h z hz]
 rfl
theorem CJ(ds:List D)(Q:D->Prop)(h:Z3 ds Q):yc (EP Q) (g7 3 ds):=by
 obtain⟨b,rfl,hb,q⟩:=h
 refine⟨bD b,b,rfl,⟨_,_,rfl,.inl rfl,.inl rfl⟩,hb,rfl,?_⟩
 refine⟨_,O0 _ _,?_⟩
 refine .of ⟨fun i ρ=>∃v2:Option D,ρ=[some (bD b),some (.dic (p8 b (o8 b))),v2]/\∀z∈b.gs.take i,¬lo z.cv<=o8 b z.nm,⟨none,rfl,fun z hz=>nomatch hz⟩,?_,?_⟩
 ·rintro i e ρ he ⟨v2,rfl,hn⟩
  obtain⟨g,hg,rfl⟩:=get_map he
  have hgm:=List.mem_of_getElem? hg
  have hc:=hb.cv g hgm
  obtain⟨p,ps,ep⟩:∃p ps,g.cv=p::ps:=by
   cases e:g.cv with
   | nil=>rw[e] at hc;exact absurd hc.1 (by decide)
   | cons p ps=>exact⟨p,ps,rfl⟩
  have elo:lo g.cv=p.1:=by rw[ep];rfl
  refine⟨rfl,?_⟩
  refine⟨_,rfl,.inr g.nm,_,rfl,G6 hb (List.mem_map.mpr ⟨g,hgm,rfl⟩),?_⟩
  refine⟨_,rfl,?_⟩
  show ∃d,P4 (g.cv.map pr) 0=some d/\_
  rw[ep]
  refine⟨pr p,O0 _ _,?_⟩
  refine⟨_,rfl,?_⟩
  refine⟨fun e=>?_,fun e=>?_⟩
  ·have e:p.1<=o8 b g.nm:=of_decide_eq_true e
   rw[nL hg hn (by rw[elo];exact e)] at q
   exact⟨_,rfl,rfl,q⟩
  ·have e:¬p.1<=o8 b g.nm:=of_decide_eq_false e
   refine⟨_,rfl,fun z hz=>?_⟩
   rw[List.take_add_one,hg] at hz
   rcases List.mem_append.mp hz with w | w
   ·exact hn z w
   ·rw[List.mem_singleton.mp w,elo];exact e
 ·rintro ρ ⟨v2,rfl,hn⟩
  rw[List.length_map,List.take_length] at hn
  rw[qQ hn] at q
  exact q
theorem yF(ds:List D)(Q:D->Prop)(h:S3 ds Q):sD (EP Q) (g7 1 ds):=by
 obtain⟨b,rfl,hb,q⟩:=h
 have h16:=hb.g16
 have h24:=hb.l24
 refine⟨_,O0 _ _,by rw[List.length_map];exact j8 (by omega),?_⟩
 refine M1 (f:=fun g:Gd=>.str g.nm) b.gs [] (fun g hg K R kk=>⟨rfl,Br.yes rfl ⟨_,rfl,rfl,kk⟩⟩) ?_
 refine⟨_,bb _ _ _,by rw[List.length_map];exact j8 (by omega),?_⟩
 refine M1 (f:=fun g:Ld=>.str g.nm) b.ls [] (fun g hg K R kk=>⟨rfl,Br.yes rfl ⟨_,rfl,rfl,kk⟩⟩) ?_
 refine⟨R3 (f:=fun g:Gd=>.str g.nm) (fun g=>rfl) _,R3 (f:=fun g:Ld=>.str g.nm) (fun g=>rfl) _,?_,?_⟩
 ·rw[List.nil_append,List.nil_append,List.length_map,List.length_map];exact Nat.le_of_lt (j8 (by omega))
 ·have e:([]++b.gs.map fun g:Gd=>D.str g.nm)++([]++b.ls.map fun g:Ld=>D.str g.nm)=(y9 b++L1 b).map D.str:=by
   unfold y9 L1
   rw[List.nil_append,List.nil_append,List.map_append,List.map_map,List.map_map];rfl
  rw[e]
  exact q
theorem jK{b:Bd}(hb:p5 b){g:Gd}(hg:g∈b.gs):xP b g.nm=g:=by
 unfold xP
 rw[kq hb.cZ.nd hg];rfl
theorem iW{b:Bd}(hb:p5 b){x:Str}(hx:x∈y9 b):y7 (b.gs.map fun g:Gd=>((.inr g.nm:Key),gD g)) (.inr x)=some (gD (xP b x)):=by
 obtain⟨g,hg,rfl⟩:=List.mem_map.mp hx
 show y7 _ (.inr g.nm)=_
 rw[jK hb hg]
 exact Q2 (k:=fun g:Gd=>g.nm) (v:=gD) hb.cZ.nd hg
theorem jn{b:Bd}(hb:p5 b):b.gs.foldl (fun acc g=>putD acc (.inr g.nm) (gD g)) []=b.gs.map fun g:Gd=>((.inr g.nm:Key),gD g):=
 R0 (k:=fun g:Gd=>g.nm) (v:=gD) (as:=b.gs) (bs:=[]) (by rw[List.nil_append];exact hb.cZ.nd)
theorem HG{Q:D->Prop}{b:Bd}{x:Str}{v4:Option D}(hb:p5 b)(hx:x∈y9 b++L1 b)(q:Q (.lst ((p3 b x).map fun y=>.tup [gD (xP b y),.int (o8 b y)]))) :
  rV (EP Q) [some (bD b),some (.str x),some (.dic (b.gs.map fun g:Gd=>(.inr g.nm,gD g))),some (.dic (p8 b (o8 b))),v4]:=by
 have hin:=cw hb hx
 have hl:=cP (b:=b) x
 refine⟨bD b,b,rfl,⟨_,_,rfl,.inl rfl,.inl rfl⟩,hb,?_⟩
 refine⟨.inr x,_,rfl,eR hx hb.nd,by rw[List.length_map];exact j8 (by omega),?_⟩
 refine M1 (f:=fun y:Str=>.tup [gD (xP b y),.int (o8 b y)]) (p3 b x) [] (fun y hy K R kk=>?_) ?_
 ·refine⟨rfl,Br.yes rfl ?_⟩
  exact⟨.inr y,_,rfl,iW hb (hin y hy),Z7 _,.inr y,_,rfl,G6 hb (hin y hy),rfl,kk⟩
 ·exact q
theorem nu{b:Bd}{i:Nat}{l:Ld}(hl:b.ls[i]?=some l){x:Str}(h:∀z∈b.ls.take i,¬(z.nm=x/\z.on=false))(h2:¬(l.nm=x/\l.on=false)):∀z∈b.ls.take (i+1),¬(z.nm=x/\z.on=false):=fun z hz=>by
 rw[List.take_add_one,hl] at hz
 rcases List.mem_append.mp hz with w | w
 ·exact h z w
 ·rw[List.mem_singleton.mp w];exact h2
theorem Eb{b:Bd}{l:Ld}(hl:l∈b.ls){x:Str}(h:l.nm=x)(ho:l.on=false):bN b x=true:=by
 unfold bN
 rw[List.any_eq_true]
 exact⟨l,hl,by rw[decide_eq_true h,ho];rfl⟩
theorem yS{b:Bd}{x:Str}(h:∀z∈b.ls,¬(z.nm=x/\z.on=false)):bN b x=false:=by
 unfold bN
 rw[List.any_eq_false]
 intro z hz e
 rw[Bool.and_eq_true,decide_eq_true_eq] at e
 exact h z hz ⟨e.1,by cases hz:z.on;rfl;rw[hz] at e;exact nomatch e.2⟩
theorem wK{b:Bd}{x:Str}(h:bN b x=false):iN (eL b x)=.lst ((p3 b x).map fun y=>.tup [gD (xP b y),.int (o8 b y)]):=by
 unfold iN eL
 rw[h]
 exact congrArg D.lst (List.map_map ..)
theorem sG{b:Bd}{x:Str}(h:bN b x=true):iN (eL b x)=.lst []:=by
 unfold iN eL
 rw[h];rfl
theorem HF(ds:List D)(Q:D->Prop)(h:bc ds Q):Fh (EP Q) (g7 5 ds):=by
 obtain⟨b,x,rfl,hb,hx,q⟩:=h
 have h16:=hb.g16
 refine⟨_,O0 _ _,by rw[List.length_map];exact j8 (by omega),?_⟩
 refine M1 (f:=fun g:Gd=>.tup [.str g.nm,gD g]) b.gs [] (fun g hg K R kk=>?_) ?_
 ·exact⟨rfl,Br.yes rfl ⟨_,rfl,rfl,Z7 g,kk⟩⟩
 rw[List.nil_append]
 have im:∀g:Gd,A7 (.tup [.str g.nm,gD g])=true:=fun g=>by
  show(true&&(A7 (gD g)&&true))=true
  rw[Z7];rfl
 refine .inl ⟨_,_,_,rfl,rfl,R3 im b.gs,cU (fun g:Gd=>g.nm) gD b.gs,by rw[List.length_map];exact j8 (by omega),?_⟩
 rw[jl,jn hb]
 refine⟨rfl,?_⟩
 walk_at "n"
 refine⟨bD b,b,rfl,⟨_,_,rfl,.inl rfl,.inl rfl⟩,hb,rfl,?_⟩
 walk_at "n"
 refine⟨_,bb _ _ _,?_⟩
 refine .of ⟨fun i ρ=>∃v4:Option D,ρ=[some (bD b),some (.str x),some (.dic (b.gs.map fun g:Gd=>(.inr g.nm,gD g))),some (.dic (p8 b (o8 b))),v4]/\∀z∈b.ls.take i,¬(z.nm=x/\z.on=false),⟨none,rfl,fun z hz=>nomatch hz⟩,?_,?_⟩
 ·rintro i e ρ he ⟨v4,rfl,hn⟩
  obtain⟨l,hl,rfl⟩:=get_map he
  have hlm:=List.mem_of_getElem? hl
  refine⟨rfl,?_⟩
  refine⟨_,rfl,?_⟩
  walk_at "w"
  refine⟨fun e=>?_,fun e=>Br.no rfl ⟨_,rfl,nu hl hn fun z=>?_⟩⟩
  ·have e:l.nm=x:=of_decide_eq_true e
   refine⟨_,rfl,?_⟩
   show Br (!(l.on)) _ _
   cases ho:l.on with
   | true=>exact Br.no rfl ⟨_,rfl,nu hl hn fun z=>by rw[ho] at z;exact nomatch z.2⟩
   | false=>
    rw[sG (Eb hlm e ho)] at q
    exact Br.yes rfl q
  ·exact of_decide_eq_false e z.1
 ·rintro ρ ⟨v4,rfl,hn⟩
  rw[List.length_map,List.take_length] at hn
  rw[wK (yS hn)] at q
  exact HG hb hx q
theorem nJ(ds:List D)(Q:D->Prop)(h:D2 ds Q):gL (EP Q) (g7 2 ds):=by
 obtain⟨b,rfl,hb,ha,q⟩:=h
 refine⟨b,rfl,hb,?_⟩
 rw[ha]
 exact⟨rfl,Br.no rfl ⟨b,rfl,hb,q⟩⟩
theorem zX{b:Bd}(hb:p5 b){x:Str}(hx:x∈y9 b++L1 b):kn (.str x)=true:=by
 have h:nm 8 x:=by
  rcases List.mem_append.mp hx with z | z
  ·obtain⟨g,hg,rfl⟩:=List.mem_map.mp z
   exact hb.nmg g hg
  ·obtain⟨g,hg,rfl⟩:=List.mem_map.mp z
   exact hb.nml g hg
 have h:=h.2.1
 rw[Array.length_toList] at h
 exact decide_eq_true (show x.cps.size<=100000 by omega)
theorem DQ(ds:List D)(Q:D->Prop)(h:aI ds Q):wL (EP Q) (g7 6 ds):=by
 obtain⟨b,x,rfl,hb,hx,ha,q⟩:=h
 have h16:=hb.g16
 have h24:=hb.l24
 refine⟨b,.str x,rfl,hb,zX hb hx,.inl ⟨x,rfl,hx,rfl,?_⟩⟩
 refine⟨b,rfl,hb,ha,rfl,?_⟩
 walk_at "n"
 refine⟨_,bb _ _ _,by rw[List.length_map];exact j8 (by omega),?_⟩
 refine U9 (f:=fun l:Ld=>.str l.nm) (fun l=>!l.on) b.ls [] (fun l hl K R k1 k2=>?_) ?_
 ·refine⟨rfl,?_⟩
  refine⟨_,rfl,?_⟩
  show Br (!(l.on)) _ _
  exact⟨fun e=>⟨_,rfl,rfl,k1 e⟩,fun e=>k2 e⟩
 have e0:([]++(b.ls.filter fun l=>!l.on).map fun l:Ld=>D.str l.nm)=((b.ls.filter fun l=>!l.on).map (·.nm)).map D.str:=by rw[List.nil_append,List.map_map];rfl
 rw[e0]
 refine⟨rfl,_,rfl,aR _,?_⟩
 rw[eV]
 have eo:decide (x∈(b.ls.filter fun l=>!l.on).map (·.nm))=bN b x:=by
  by_cases h:bN b x=true
  ·rw[h]
   unfold bN at h
   obtain⟨l,hl,e⟩:=List.any_eq_true.mp h
   rw[Bool.and_eq_true,decide_eq_true_eq] at e
   exact decide_eq_true (List.mem_map.mpr ⟨l,List.mem_filter.mpr ⟨hl,e.2⟩,e.1⟩)
  ·rw[Bool.not_eq_true] at h
   rw[h]
   refine decide_eq_false fun z=>?_
   obtain⟨l,hl,e⟩:=List.mem_map.mp z
   obtain⟨h1,h2⟩:=List.mem_filter.mp hl
   unfold bN at h
   have:=List.any_eq_false.mp h l h1
   exact this (by rw[Bool.and_eq_true,decide_eq_true_eq];exact⟨e,h2⟩)
 show Br (decide (x∈(b.ls.filter fun l=>!l.on).map (·.nm))) _ _
 rw[eo]
 refine⟨fun e=>?_,fun e=>?_⟩
 ·rw[sG e] at q
  exact q
 ·rw[wK e] at q
  have hin:=cw hb hx
  have hl:=cP (b:=b) x
  refine⟨_,O0 _ _,by rw[List.length_map];exact j8 (by omega),?_⟩
  refine aL (v:=gD) (k:=fun g:Gd=>.inr g.nm) (fun _=>true) b.gs [] (fun g hg K R k1 k2=>?_) ?_
  ·exact⟨rfl,Br.yes rfl ⟨_,rfl,.inr g.nm,rfl,Z7 g,k1 rfl⟩⟩
  rw[List.filter_eq_self.mpr fun _ _=>rfl,jn hb]
  refine⟨rfl,?_⟩
  refine⟨by rw[List.length_map];exact j8 (by omega),?_⟩
  refine M1 (f:=fun y:Str=>.tup [gD (xP b y),.int (o8 b y)]) (p3 b x) [] (fun y hy K R kk=>?_) ?_
  ·refine⟨rfl,Br.yes rfl ?_⟩
   exact⟨.inr y,_,rfl,iW hb (hin y hy),Z7 _,.inr y,_,rfl,G6 hb (hin y hy),rfl,kk⟩
  ·exact q
theorem uZ(ds:List D)(Q:D->Prop)(h:D3 ds Q):oH (EP Q) (g7 3 ds):=by
 obtain⟨g,n,rfl,hc,q⟩:=h
 exact⟨rfl,rfl,_,rfl,g.cv,rfl,hc,q⟩
theorem Ci{α:Type}{f:α->D}{xs:List α}(h:0<xs.length):P4 (xs.map f) (-1)=some (f (xs.getLast (by intro e;rw[e] at h;exact absurd h (Nat.lt_irrefl 0)))):=by
 unfold P4 kO
 have h1:¬(0:Int)<=-1:=by decide
 have h2:-((xs.map f).length:Int)<=-1:=by rw[List.length_map];omega
 have h3:((-1:Int)+((xs.map f).length:Int)).toNat=xs.length-1:=by rw[List.length_map];omega
 rw[if_neg h1,if_pos h2,h3]
 show(xs.map f)[xs.length-1]?=_
 rw[List.getElem?_map,List.getLast_eq_getElem,List.getElem?_eq_getElem (by omega)]
 rfl
theorem qk.at{ps:List (Gd×Int)}(h:qk ps){i:Int}(h0:0<=i)(h1:i<ps.length):∃r,ps[i.toNat]?=some r/\O2 r.1.cv/\P4 (ps.map fun r:Gd×Int=>D.tup [gD r.1,.int r.2]) i=some (.tup [gD r.1,.int r.2]):=by
 obtain⟨r,hr,e1,e2⟩:=G9 (f:=fun r:Gd×Int=>D.tup [gD r.1,.int r.2]) (xs:=ps) (i:=i) h0 h1
 exact⟨r,e1,h.cv r hr,e2⟩
theorem Dw(ds:List D)(Q:D->Prop)(h:X6 ds Q):zT (EP Q) (g7 6 ds):=by
 obtain⟨ps,i,n,rfl,hp,i0,i1,q⟩:=h
 obtain⟨r,e1,hc,e2⟩:=hp.at i0 i1
 have q:=q r e1
 refine⟨_,e2,?_⟩
 refine⟨rfl,rfl,?_⟩
 walk_at "n"
 refine⟨_,rfl,by rw[List.length_map];exact j8 (by have:=hc.2.1;omega),?_⟩
 refine U9 (f:=fun p:Pr=>.int p.2) (fun p=>decide (p.1<=r.2+n)) r.1.cv [] (fun p hp K R k1 k2=>?_) ?_
 ·exact⟨rfl,_,rfl,fun e=>⟨_,rfl,rfl,k1 e⟩,fun e=>k2 e⟩
 unfold zy at q
 have l5:=hc.2.1
 have lf:=List.length_filter_le (fun p:Pr=>decide (p.1<=r.2+n)) r.1.cv
 generalize r.1.cv.filter (fun p:Pr=>decide (p.1<=r.2+n))=fs at *
 refine⟨rfl,?_⟩
 walk_at "n"
 cases fs with
 | nil=>exact Br.yes rfl q
 | cons p fs=>
  refine Br.no ?_ ?_
  ·show decide (((List.length (([]:List D)++(p::fs).map fun p:Pr=>D.int p.2):Nat):Int)=0)=false
   refine decide_eq_false fun z=>?_
   rw[List.nil_append,List.length_map,List.length_cons] at z
   omega
  ·have z:=Ci (f:=fun p:Pr=>D.int p.2) (xs:=p::fs) (by show 0<fs.length+1;omega)
   refine⟨_,z,rfl,?_⟩
   rw[List.getLast?_eq_some_getLast (by intro z;cases z)] at q
   exact q
def nR(ks:List Int):List (Key×D):=ks.map fun k=>(.inl k,.bl true)
theorem Bm(ks:List Int)(k:Int):putD (nR ks) (.inl k) (.bl true)=nR (if k∈ks then ks else ks++[k]):=by
 unfold putD nR
 by_cases h:k∈ks
 ·have e:((ks.map fun k=>((.inl k:Key),D.bl true)).any fun kv=>decide (kv.1=Sum.inl k))=true:=by
   rw[List.any_eq_true]
   exact⟨_,List.mem_map.mpr ⟨k,h,rfl⟩,decide_eq_true rfl⟩
  rw[if_pos h,if_pos e,List.map_map]
  refine List.map_congr_left fun x _=>?_
  exact ite_self _
 ·have e:((ks.map fun k=>((.inl k:Key),D.bl true)).any fun kv=>decide (kv.1=Sum.inl k))=false:=by
   rw[List.any_eq_false]
   intro kv hkv z
   obtain⟨x,hx,rfl⟩:=List.mem_map.mp hkv
   exact h (Sum.inl.inj (of_decide_eq_true z)▸hx)
  rw[if_neg h,e,List.map_append];rfl
structure eK(rs:List (Gd×Int))(cv:List Pr)(n m:Int)(ks:List Int):Prop where
 nd:ks.Nodup
 mem:∀x,x∈ks ↔ x=1\/(∃r∈rs,∃s∈r.1.cv,x=s.1-r.2/\x<=m)\/∃s∈cv,x=s.1-n/\x<=m
 len:ks.length<=1+5*rs.length+cv.length
theorem eK.skip{rs:List (Gd×Int)}{cv:List Pr}{n m:Int}{ks:List Int}{s:Pr}(h:eK rs cv n m ks)(hs:¬s.1-n<=m):eK rs (cv++[s]) n m ks:=by
 refine⟨h.nd,fun x=>?_,by have:=h.len;rw[List.length_append,List.length_singleton];omega⟩
 rw[h.mem]
 refine or_congr Iff.rfl (or_congr Iff.rfl ⟨fun⟨z,hz,e⟩=>⟨z,List.mem_append_left _ hz,e⟩,fun⟨z,hz,e⟩=>?_⟩)
 rcases List.mem_append.mp hz with w | w
 ·exact⟨z,w,e⟩
 ·rw[List.mem_singleton.mp w] at e
  exact absurd (e.1▸e.2) hs
theorem eK.put{rs:List (Gd×Int)}{cv:List Pr}{n m:Int}{ks:List Int}{s:Pr}(h:eK rs cv n m ks)(hs:s.1-n<=m):eK rs (cv++[s]) n m (if s.1-n∈ks then ks else ks++[s.1-n]):=by
 have mem:∀x,x∈(if s.1-n∈ks then ks else ks++[s.1-n]) ↔ x∈ks\/x=s.1-n:=fun x=>by
  split
  ·exact⟨.inl,fun z=>z.elim id fun z=>by rw[z];assumption⟩
  ·rw[List.mem_append,List.mem_singleton]
 refine⟨?_,fun x=>?_,?_⟩
 ·split
  ·exact h.nd
  ·refine List.nodup_append.mpr ⟨h.nd,List.pairwise_singleton _ _,fun a ha b hb=>?_⟩
   rw[List.mem_singleton.mp hb]
   intro e
   rw[e] at ha
   contradiction
 ·rw[mem,h.mem]
  constructor
  ·rintro((e | e | ⟨z,hz,e⟩) | e)
   ·exact .inl e
   ·exact .inr (.inl e)
   ·exact .inr (.inr ⟨z,List.mem_append_left _ hz,e⟩)
   ·exact .inr (.inr ⟨s,List.mem_append_right _ (List.mem_singleton.mpr rfl),e,by rw[e];exact hs⟩)
  ·rintro(e | e | ⟨z,hz,e⟩)
   ·exact .inl (.inl e)
   ·exact .inl (.inr (.inl e))
   ·rcases List.mem_append.mp hz with w | w
    ·exact .inl (.inr (.inr ⟨z,w,e⟩))
    ·rw[List.mem_singleton.mp w] at e
     exact .inr e.1
 ·have:=h.len
  rw[List.length_append,List.length_singleton]
  split
  ·omega
  ·rw[List.length_append,List.length_singleton];omega
theorem eK.next{rs:List (Gd×Int)}{r:Gd×Int}{m n:Int}{ks:List Int}(h:eK rs r.1.cv r.2 m ks)(hc:r.1.cv.length<=5):eK (rs++[r]) [] n m ks:=by
 refine⟨h.nd,fun x=>?_,by have:=h.len;rw[List.length_append,List.length_singleton,List.length_nil];omega⟩
 rw[h.mem]
 refine or_congr Iff.rfl ⟨?_,?_⟩
 ·rintro(⟨z,hz,e⟩ | ⟨z,hz,e⟩)
  ·exact .inl ⟨z,List.mem_append_left _ hz,e⟩
  ·exact .inl ⟨r,List.mem_append_right _ (List.mem_singleton.mpr rfl),z,hz,e⟩
 ·rintro(⟨z,hz,e⟩ | ⟨z,hz,_⟩)
  ·rcases List.mem_append.mp hz with w | w
   ·exact .inl ⟨z,w,e⟩
   ·rw[List.mem_singleton.mp w] at e
    exact .inr e
  ·cases hz
theorem jI{ks:List Int}(nd:ks.Nodup)(up:ks.Pairwise (·<=·)):ks.Pairwise (·<·):=by
 refine List.Pairwise.imp₂ (fun a b h1 h2=>?_) nd up
 have h1:a≠b:=h1
 have h2:a<=b:=h2
 omega
theorem BF(ds:List D)(Q:D->Prop)(h:ai ds Q):wV (EP Q) (g7 6 ds):=by
 obtain⟨ps,m,rfl,hp,h8,q⟩:=h
 refine⟨rfl,rfl,?_⟩
 walk_at "n"
 refine .of ⟨fun i ρ=>∃(ks:List Int) (v3 v4 v5:Option D),ρ=[some (iN ps),some (.int m),some (.dic (nR ks)),v3,v4,v5]/\eK (ps.take i) [] 0 m ks,⟨[1],none,none,none,rfl,by simp,fun x=>by simp,by simp⟩,?_,?_⟩
 ·rintro i e ρ he ⟨ks,v3,v4,v5,rfl,hk⟩
  obtain⟨r,hr,rfl⟩:=get_map he
  have hi:=(List.getElem?_eq_some_iff.mp hr).1
  have hc:=hp.cv r (List.mem_of_getElem? hr)
  have lt:(ps.take i).length<=8:=by rw[List.length_take];omega
  refine⟨rfl,rfl,?_⟩
  walk_at "n"
  refine⟨_,rfl,?_⟩
  have hk0:eK (ps.take i) (r.1.cv.take 0) r.2 m ks:=⟨hk.nd,fun x=>by rw[hk.mem];simp,by have:=hk.len;rw[List.length_nil] at this;omega⟩
  refine .of ⟨fun j ρ=>∃(ks:List Int) (v5:Option D),ρ=[some (iN ps),some (.int m),some (.dic (nR ks)),some (gD r.1),some (.int r.2),v5]/\eK (ps.take i) (r.1.cv.take j) r.2 m ks,⟨ks,v5,rfl,hk0⟩,?_,?_⟩
  ·rintro j e ρ he ⟨ks,v5,rfl,hk⟩
   obtain⟨s,hs,rfl⟩:=get_map he
   have lj:=List.length_take_le' j r.1.cv
   have hl:=hc.2.1
   have lk:=hk.len
   have lw:ks.length<=100:=by omega
   refine⟨rfl,?_⟩
   walk_at "n"
   refine⟨_,rfl,?_⟩
   refine⟨fun e=>?_,fun e=>⟨ks,_,rfl,?_⟩⟩
   ·have e:s.1-r.2<=m:=of_decide_eq_true e
    refine⟨rfl,_,rfl,_,rfl,by unfold nR;rw[List.length_map];exact j8 (by omega),?_⟩
    rw[Bm]
    refine⟨_,_,rfl,?_⟩
    rw[List.take_add_one,hs]
    exact hk.put e
   ·rw[List.take_add_one,hs]
    exact hk.skip (of_decide_eq_false e)
  ·rintro ρ ⟨ks,v5,rfl,hk⟩
   rw[List.length_map,List.take_length] at hk
   refine⟨ks,_,_,_,rfl,?_⟩
   rw[List.take_add_one,hr]
   exact hk.next hc.2.1
 ·rintro ρ ⟨ks,v3,v4,v5,rfl,hk⟩
  rw[List.length_map,List.take_length] at hk
  have lk:=hk.len
  rw[List.length_nil] at lk
  have e:(nR ks).map (fun kv=>kD kv.1)=ks.map D.int:=by unfold nR;rw[List.map_map];rfl
  refine⟨_,rfl,?_⟩
  rw[e]
  refine⟨_,ks,rfl,rfl,by omega,fun ls hp hs=>q ls ⟨jI (hp.nodup_iff.mpr hk.nd) hs,fun x=>?_⟩⟩
  rw[hp.mem_iff,hk.mem]
  refine or_congr Iff.rfl ⟨fun z=>z.elim id (fun⟨_,hz,_⟩=>(by cases hz)),.inl⟩
theorem GO(ds:List D)(Q:D->D->Prop)(h:ez ds Q):EF (EM Q) (g7 7 ds):=by
 obtain⟨c,d,k,u,ps,rfl,k0,k1,u1,u2,hp,q⟩:=h
 have l16:=hp.len
 have c60:aZ 10 60:=⟨by decide,by decide,by decide⟩
 refine⟨c,d,k,8,rfl,k0,by omega,by decide,by decide,fun w d1 w0 w1=>⟨rfl,?_⟩⟩
 walk_at "n"
 have low:∀{v4 v5 v6:Option D},gS { nx:=sO (EM Q),rt:=(EM Q).rt } [some (feed c d1 (k+1)),some (iN ps),some (.int u),some (.int w),v4,v5,v6]:=by
  intro v4 v5 v6
  refine⟨c,d1,k+1,60,rfl,by omega,by omega,by decide,by decide,fun r d2 r0 r1=>⟨.inl ⟨by omega,by omega⟩,?_⟩⟩
  have m1:r*u<=59*u:=Int.mul_le_mul_of_nonneg_right (by omega) (by omega)
  have m2:0<=r*u:=Int.mul_nonneg r0 (by omega)
  exact q (1+r*u) d2 (k+1+1) (by omega) (.inl (by omega)) (by omega) (by omega)
 refine⟨fun e=>?_,fun e=>?_⟩
 ·refine⟨c60,?_⟩
  exact q _ d1 (k+1) (by decide) (.inl (by decide)) (by omega) (by omega)
 ·refine⟨fun e2=>Br.yes rfl low,fun e2=>?_⟩
  refine⟨fun e3=>low,fun e3=>?_⟩
  have hn:ps.length≠0:=fun z=>by
   have e3:decide ((((ps.map fun r:Gd×Int=>D.tup [gD r.1,.int r.2]).length:Nat):Int)=0)=false:=e3
   have:=of_decide_eq_false e3
   rw[List.length_map] at this
   omega
  refine⟨c,d1,k+1,_,rfl,by omega,by omega,by rw[List.length_map];omega,by rw[List.length_map];omega,fun r d2 r0 r1=>?_⟩
  rw[List.length_map] at r1
  obtain⟨g,e1,hc,e2⟩:=hp.at r0 r1
  have hgm:=List.mem_of_getElem? e1
  refine⟨_,e2,rfl,rfl,?_⟩
  walk_at "n"
  have l1:=hc.1
  have l5:=hc.2.1
  refine⟨_,rfl,?_⟩
  refine⟨_,rfl,c,d2,k+1+1,_,rfl,by omega,by omega,by rw[List.length_map];omega,by rw[List.length_map];omega,fun r' d3 r0' r1'=>?_⟩
  rw[List.length_map] at r1'
  obtain⟨s,hs,_,e4⟩:=G9 (f:=pr) (xs:=g.1.cv) (i:=r') r0' r1'
  refine⟨_,e4,rfl,rfl,?_⟩
  walk_at "n"
  refine⟨_,rfl,c,d3,k+1+1+1,3,rfl,by omega,by omega,by decide,by decide,fun r2 d4 r20 r21=>?_⟩
  have h1:=hc.2.2.1 s hs
  show Q (.int (if s.1-g.2-1+r2>1 then s.1-g.2-1+r2 else 1)) _
  refine q _ d4 (k+1+1+1+1) (by split<;>omega) ?_ (by omega) (by omega)
  by_cases z:s.1-g.2-1+r2>1
  ·rw[if_pos z];exact .inr ⟨g,hgm,s,hs,by omega⟩
  ·rw[if_neg z];exact .inl (by decide)
theorem qg{b:Bd}(hb:p5 b){x:Str}(hx:x∈y9 b++L1 b):qk (eL b x)/\(eL b x).length<=8:=by
 have hin:=cw hb hx
 have hl:=cP (b:=b) x
 unfold eL
 cases bN b x with
 | true=>exact⟨⟨Nat.zero_le _,fun r hr=>nomatch hr⟩,Nat.zero_le _⟩
 | false=>
  refine⟨⟨?_,fun r hr=>?_⟩,?_⟩
  ·show((p3 b x).map _).length<=16
   rw[List.length_map];omega
  ·obtain⟨y,hy,rfl⟩:=List.mem_map.mp hr
   obtain⟨g,hg,rfl⟩:=List.mem_map.mp (hin y hy)
   show O2 (xP b g.nm).cv
   rw[jK hb hg]
   exact hb.cv g hg
  ·show((p3 b x).map _).length<=8
   rw[List.length_map];exact hl
theorem tj{b:Bd}(hb:p5 b){x:Str}(hx:x∈y9 b):bN b x=false:=yS fun z hz e=>
 (List.nodup_append.mp hb.nd).2.2 x hx x (e.1▸List.mem_map.mpr ⟨z,hz,rfl⟩) rfl
theorem dc{b:Bd}(hb:p5 b){g:Gd}(hg:g∈b.gs):∃ps,eL b g.nm=(g,o8 b g.nm)::ps:=by
 have hx:g.nm∈y9 b:=List.mem_map.mpr ⟨g,hg,rfl⟩
 unfold eL
 rw[tj hb hx,fS hb hg]
 exact⟨_,by show(xP b g.nm,_)::_=_;rw[jK hb hg]⟩
theorem iG{α:Type}{p:α->Bool}{xs:List α}{i:Nat}{x:α}(hx:xs[i]?=some x)(h:∀z∈xs.take i,p z=false)(hp:p x=true):xs.find? p=some x:=by
 have hi:=(List.getElem?_eq_some_iff.mp hx).1
 have e:xs=xs.take i++x::xs.drop (i+1):=by
  obtain⟨_,e2⟩:=List.getElem?_eq_some_iff.mp hx
  rw[<-e2,<-List.drop_eq_getElem_cons hi,List.take_append_drop]
 rw[e,List.find?_append,List.find?_eq_none.mpr fun z hz=>by rw[h z hz];exact Bool.false_ne_true,List.find?_cons,hp]
 rfl
theorem gF{α:Type}{p:α->Bool}{xs:List α}(h:∀z∈xs,p z=false):xs.find? p=none:=
 List.find?_eq_none.mpr fun z hz=>by rw[h z hz];exact Bool.false_ne_true
theorem jm{α β:Type}{f:α->Option β}{xs:List α}{i:Nat}{x:α}{y:β}(hx:xs[i]?=some x)(h:∀z∈xs.take i,f z=none)(hf:f x=some y):xs.findSome? f=some y:=by
 have hi:=(List.getElem?_eq_some_iff.mp hx).1
 have e:xs=xs.take i++x::xs.drop (i+1):=by
  obtain⟨_,e2⟩:=List.getElem?_eq_some_iff.mp hx
  rw[<-e2,<-List.drop_eq_getElem_cons hi,List.take_append_drop]
 rw[e,List.findSome?_append,List.findSome?_eq_none_iff.mpr h,List.findSome?_cons,hf]
 rfl
def qB(m:Int)(p r:Gd×Int):Bool:=decide (wk r<=m)&&decide (wk r<wk p)
def Y6(r:Gd×Int):D:=.tup [gD r.1,.int r.2]
theorem zP(ps:List (Gd×Int)):A2 (ps.map Y6)=true:=R3 (f:=Y6) (fun r=>by
 show(A7 (gD r.1)&&(true&&true))=true
 rw[Z7];rfl) ps
theorem V5{α:Type}{P:α->Prop}{xs:List α}{i:Nat}{x:α}(hx:xs[i]?=some x)(h:∀z∈xs.take i,P z)(hp:P x):∀z∈xs.take (i+1),P z:=fun z hz=>by
 rw[List.take_add_one,hx] at hz
 rcases List.mem_append.mp hz with w | w
 ·exact h z w
 ·rw[List.mem_singleton.mp w];exact hp
theorem yL{T:Q6}{b:Bd}{m:Int}{g:Gd}{v3 v4 v5:Option D}(hb:p5 b)(ha:J5 b (o8 b)=[])(hg:g∈b.gs)
  (h1:∀q,X2 m (eL b g.nm)=some q->∀v3 v4 v5,T.rt (vK (some (g.nm,q.1,q.2))) [some (bD b),some (.int m),some (.str g.nm),v3,v4,v5])
  (h2:X2 m (eL b g.nm)=none->∀v3 v4 v5,T.nx [some (bD b),some (.int m),some (.str g.nm),v3,v4,v5]) :
  eu T [some (bD b),some (.int m),some (.str g.nm),v3,v4,v5]:=by
 have hx:g.nm∈y9 b:=List.mem_map.mpr ⟨g,hg,rfl⟩
 have hx2:g.nm∈y9 b++L1 b:=List.mem_append_left _ hx
 obtain⟨po,pl⟩:=qg hb hx2
 obtain⟨ps,ep⟩:=dc hb hg
 refine⟨b,g.nm,rfl,hb,hx2,ha,rfl,?_⟩
 walk_at "n"
 rw[ep] at h1 h2 po pl ⊢
 refine⟨Y6 (g,o8 b g.nm),O0 _ _,?_⟩
 refine⟨g,o8 b g.nm,rfl,hb.cv g hg,rfl,?_⟩
 walk_at "n"
 have e1:cutD (Y6 (g,o8 b g.nm)::ps.map Y6) (some 1) none=ps.map Y6:=by
  have:=ji (Y6 (g,o8 b g.nm)::ps.map Y6) 1 (by show 1<=_+1;omega)
  exact this
 refine⟨zP ((g,o8 b g.nm)::ps),?_⟩
 show Dl _ _ (cutD (Y6 (g,o8 b g.nm)::ps.map Y6) (some 1) none) _ _
 rw[e1]
 refine .of ⟨fun i ρ=>∃v5:Option D,ρ=[some (bD b),some (.int m),some (.str g.nm),some (iN ((g,o8 b g.nm)::ps)),some (.int (wk (g,o8 b g.nm))),v5]/\∀z∈ps.take i,qB m (g,o8 b g.nm) z=false,⟨v5,rfl,fun z hz=>nomatch hz⟩,?_,?_⟩
 ·rintro i e ρ he ⟨v5,rfl,hn⟩
  obtain⟨r,hr,rfl⟩:=get_map he
  have hc:=po.cv r (List.mem_cons_of_mem _ (List.mem_of_getElem? hr))
  refine⟨rfl,?_⟩
  walk_at "n"
  refine⟨r.1,r.2,rfl,hc,?_⟩
  have no:qB m (g,o8 b g.nm) r=false->∃v5:Option D,[some (bD b),some (.int m),some (.str g.nm),some (iN ((g,o8 b g.nm)::ps)),some (.int (wk (g,o8 b g.nm))),some (Y6 r)]=[some (bD b),some (.int m),some (.str g.nm),some (iN ((g,o8 b g.nm)::ps)),some (.int (wk (g,o8 b g.nm))),v5]/\∀z∈ps.take (i+1),qB m (g,o8 b g.nm) z=false:=fun z=>⟨_,rfl,V5 hr hn z⟩
  refine⟨fun e=>?_,fun e=>?_⟩
  ·refine⟨r.1,r.2,rfl,hc,?_⟩
   refine⟨fun e2=>?_,fun e2=>no ?_⟩
   ·have hq:qB m (g,o8 b g.nm) r=true:=by
     unfold qB
     rw[Bool.and_eq_true]
     exact⟨e,e2⟩
    refine⟨rfl,_,rfl,_,rfl,rfl,r.1,r.2,rfl,hc,?_⟩
    refine h1 (r.1.nm,wk r) ?_ _ _ _
    show(ps.find? (qB m (g,o8 b g.nm))).map _=_
    rw[iG hr hn hq]
    rfl
   ·unfold qB
    rw[show decide (wk r<wk (g,o8 b g.nm))=false from e2,Bool.and_false]
  ·refine Br.no rfl (no ?_)
   unfold qB
   rw[show decide (wk r<=m)=false from e,Bool.false_and]
 ·rintro ρ ⟨v5,rfl,hn⟩
  rw[List.length_map,List.take_length] at hn
  refine h2 ?_ _ _ _
  show(ps.find? (qB m (g,o8 b g.nm))).map _=_
  rw[gF hn]
  rfl
theorem AH(ds:List D)(Q:D->Prop)(h:T2 ds Q):zG (EP Q) (g7 6 ds):=by
 obtain⟨b,m,rfl,hb,ha,q⟩:=h
 refine⟨b,rfl,hb,?_⟩
 refine .of ⟨fun i ρ=>∃v2 v3 v4 v5:Option D,ρ=[some (bD b),some (.int m),v2,v3,v4,v5]/\∀z∈(y9 b).take i,(X2 m (eL b z)).map (fun q=>(z,q.1,q.2))=none,⟨none,none,none,none,rfl,fun z hz=>nomatch hz⟩,?_,?_⟩
 ·rintro i e ρ he ⟨v2,v3,v4,v5,rfl,hn⟩
  obtain⟨x,hx,rfl⟩:=get_map he
  obtain⟨g,hg,rfl⟩:=List.mem_map.mp (List.mem_of_getElem? hx)
  refine⟨rfl,?_⟩
  walk_at "n"
  refine yL hb ha hg (fun w hw v3 v4 v5=>?_) fun hw v3 v4 v5=>⟨_,_,_,_,rfl,V5 hx hn (by rw[hw];rfl)⟩
  have e:=jm (f:=fun z=>(X2 m (eL b z)).map fun q=>(z,q.1,q.2)) hx hn (y:=(g.nm,w.1,w.2)) (by rw[hw];rfl)
  unfold O8 at q
  rw[e] at q
  exact q
 ·rintro ρ ⟨v2,v3,v4,v5,rfl,hn⟩
  rw[List.length_map,List.take_length] at hn
  unfold O8 at q
  rw[List.findSome?_eq_none_iff.mpr hn] at q
  exact q
theorem Av{cv:List Pr}(hc:O2 cv)(v:Int):(lo cv<=v->∃t,zy cv v=some t)/\(¬lo cv<=v->zy cv v=none):=by
 obtain⟨h1,_,_,h4⟩:=hc
 cases cv with
 | nil=>exact absurd h1 (by decide)
 | cons p ps=>
  have el:lo (p::ps)=p.1:=rfl
  rw[el]
  unfold zy
  refine⟨fun h=>?_,fun h=>?_⟩
  ·rw[List.filter_cons,if_pos (decide_eq_true h),List.getLast?_eq_some_getLast (by intro z;cases z)]
   exact⟨_,rfl⟩
  ·rw[List.filter_eq_nil_iff.mpr fun q hq=>?_]
   ·rfl
   ·rw[decide_eq_true_eq]
    rcases List.mem_cons.mp hq with z | z
    ·rw[z];exact h
    ·have:=(List.rel_of_pairwise_cons h4 z).1
     omega
theorem kR{ps:List (Gd×Int)}{m:Int}{ls:List Int}(hl:Dy ps m ls)(m1:1<=m){r:Gd×Int}(hr:r∈ps)(hc:O2 r.1.cv):(∀n∈ls,n<=m)/\(wk r<=m->wk r∈ls):=by
 refine⟨fun n hn=>?_,fun h=>?_⟩
 ·rcases(hl.mem n).mp hn with z | ⟨_,_,_,_,_,z⟩
  ·omega
  ·exact z
 ·obtain⟨h1,_⟩:=hc
  rw[hl.mem]
  cases ec:r.1.cv with
  | nil=>rw[ec] at h1;exact absurd h1 (by decide)
  | cons p qs=>exact .inr ⟨r,hr,p,by rw[ec];exact List.mem_cons_self,by unfold wk;rw[ec];rfl,h⟩
def hit(p r:Gd×Int)(n:Int):Prop:=wk r<=n/\¬wk p<=n
theorem uU{ps:List (Gd×Int)}{m:Int}{ls:List Int}(hl:Dy ps m ls)(m1:1<=m){p r:Gd×Int}(hr:r∈ps)(hc:O2 r.1.cv){j:Nat}{n:Int}(hn:ls[j]?=some n)(h:∀z∈ls.take j,¬hit p r z)(hh:hit p r n):n=wk r/\qB m p r=true:=by
 obtain⟨b1,b2⟩:=kR hl m1 hr hc
 have hnm:=b1 n (List.mem_of_getElem? hn)
 have hw:=b2 (by have:=hh.1;omega)
 have hwp:wk r<wk p:=by have:=hh.1;have:=hh.2;omega
 have hq:qB m p r=true:=by
  unfold qB
  rw[decide_eq_true (show wk r<=m by have:=hh.1;omega),decide_eq_true hwp];rfl
 refine⟨?_,hq⟩
 obtain⟨j',hj'⟩:=List.getElem?_of_mem hw
 obtain⟨l1,e1⟩:=List.getElem?_eq_some_iff.mp hn
 obtain⟨l2,e2⟩:=List.getElem?_eq_some_iff.mp hj'
 by_cases hlt:j'<j
 ·refine absurd ?_ (h (wk r) (List.mem_of_getElem? (i:=j') (by rw[List.getElem?_take_of_lt hlt];exact hj')))
  exact⟨Int.le_refl _,by omega⟩
 ·by_cases he:j=j'
  ·subst he
   rw[hn] at hj'
   exact Option.some.inj hj'
  ·have:=List.pairwise_iff_getElem.mp hl.up j j' l1 l2 (by omega)
   rw[e1,e2] at this
   have:=hh.1
   omega
theorem yn{ps:List (Gd×Int)}{m:Int}{ls:List Int}(hl:Dy ps m ls)(m1:1<=m){p r:Gd×Int}(hr:r∈ps)(hc:O2 r.1.cv)(h:∀z∈ls,¬hit p r z):qB m p r=false:=by
 unfold qB
 by_cases z:wk r<=m
 ·by_cases w:wk r<wk p
  ·exact absurd ⟨Int.le_refl _,by omega⟩ (h (wk r) ((kR hl m1 hr hc).2 z))
  ·rw[decide_eq_false w,Bool.and_false]
 ·rw[decide_eq_false z,Bool.false_and]
theorem vt{T:Q6}{b:Bd}{m n:Int}{g:Gd}{path:List (Gd×Int)}{p r:Gd×Int}{i:Nat}(po:qk path)(hp:path[0]?=some p)(hr:path[i]?=some r)(cp:O2 p.1.cv)(cr:O2 r.1.cv)
  (h1:hit p r n->T.rt (.tup [.str g.nm,.str r.1.nm,.int n]) [some (bD b),some (.int m),some (gD g),some (iN path),some (.int (i:Int)),some (.int n)])
  (h2:¬hit p r n->T.nx [some (bD b),some (.int m),some (gD g),some (iN path),some (.int (i:Int)),some (.int n)]) :
  bZ T [some (bD b),some (.int m),some (gD g),some (iN path),some (.int (i:Int)),some (.int n)]:=by
 have li:=(List.getElem?_eq_some_iff.mp hr).1
 obtain⟨a1,a2⟩:=Av cr (r.2+n)
 obtain⟨b1,b2⟩:=Av cp (p.2+n)
 have ep:P4 (path.map Y6) (i:Int)=some (Y6 r):=by
  rw[Ax (by omega) (by rw[List.length_map];omega),List.getElem?_map]
  show Option.map _ path[i]?=_
  rw[hr];rfl
 refine⟨path,(i:Int),n,rfl,po,by omega,by omega,fun r' hr'=>?_⟩
 have er:r'=r:=by
  have hr':path[i]?=some r':=hr'
  rw[hr] at hr';exact(Option.some.inj hr').symm
 subst er
 by_cases z:lo r'.1.cv<=r'.2+n
 ·obtain⟨t,e⟩:=a1 z
  rw[e]
  refine Br.yes rfl ?_
  refine⟨path,0,n,rfl,po,by omega,by omega,fun p' hp'=>?_⟩
  have er:p'=p:=by
   have hp':path[0]?=some p':=hp'
   rw[hp] at hp';exact(Option.some.inj hp').symm
  subst er
  by_cases w:lo p'.1.cv<=p'.2+n
  ·obtain⟨t,e⟩:=b1 w
   rw[e]
   exact Br.no rfl (h2 fun x=>x.2 (by unfold wk;omega))
  ·rw[b2 w]
   refine Br.yes rfl ⟨_,rfl,rfl,Y6 r',ep,?_⟩
   exact⟨_,rfl,_,rfl,rfl,rfl,h1 ⟨by unfold wk;omega,by unfold wk;omega⟩⟩
 ·rw[a2 z]
  exact Br.no rfl (Br.no rfl (h2 fun x=>by have:=x.1;unfold wk at this;omega))
theorem ug{T:Q6}{b:Bd}{m:Int}{g:Gd}{v3 v4 v5:Option D}(hb:p5 b)(m1:1<=m)(hg:g∈b.gs)
  (h1:∀q,X2 m (eL b g.nm)=some q->∀v3 v4 v5,T.rt (vK (some (g.nm,q.1,q.2))) [some (bD b),some (.int m),some (gD g),v3,v4,v5])
  (h2:X2 m (eL b g.nm)=none->∀v3 v4 v5,T.nx [some (bD b),some (.int m),some (gD g),v3,v4,v5]) :
  cq T [some (bD b),some (.int m),some (gD g),v3,v4,v5]:=by
 have hx:g.nm∈y9 b:=List.mem_map.mpr ⟨g,hg,rfl⟩
 have hx2:g.nm∈y9 b++L1 b:=List.mem_append_left _ hx
 obtain⟨po,pl⟩:=qg hb hx2
 obtain⟨ps,ep⟩:=dc hb hg
 refine⟨_,rfl,?_⟩
 refine⟨b,g.nm,rfl,hb,hx2,rfl,?_⟩
 walk_at "n"
 rw[ep] at h1 h2 po pl ⊢
 generalize hp:(g,o8 b g.nm)=p at *
 have cp:O2 p.1.cv:=po.cv p List.mem_cons_self
 have pl8:ps.length+1<=8:=pl
 have z1:((((p::ps).map Y6).length:Nat):Int)=ps.length+1:=by rw[List.length_map,List.length_cons];rfl
 refine⟨1,_,rfl,⟨by decide,by decide,?_,?_⟩,?_⟩
 ·show -(2^62)<=((((p::ps).map Y6).length:Nat):Int);omega
 ·show((((p::ps).map Y6).length:Nat):Int)<2^62;omega
 show Dl _ _ (eO 1 (((((p::ps).map Y6).length:Nat):Int)-1).toNat) _ _
 rw[z1,show((ps.length:Int)+1-1).toNat=ps.length from by omega]
 refine .of ⟨fun i ρ=>∃v4 v5:Option D,ρ=[some (bD b),some (.int m),some (gD g),some (iN (p::ps)),v4,v5]/\∀z∈ps.take i,qB m p z=false,⟨v4,v5,rfl,fun z hz=>nomatch hz⟩,?_,?_⟩
 ·rintro i e ρ he ⟨v4,v5,rfl,hn⟩
  unfold eO at he
  obtain⟨j,hj,rfl⟩:=get_map he
  have hi:i<ps.length/\j=i:=by
   obtain⟨z1,z2⟩:=List.getElem?_eq_some_iff.mp hj
   rw[List.length_range] at z1
   rw[List.getElem_range] at z2
   exact⟨by omega,by omega⟩
  obtain⟨hi,rfl⟩:=hi
  have hr:=List.getElem?_eq_getElem hi
  generalize ps[j]=r at hr
  have hrm:r∈p::ps:=List.mem_cons_of_mem _ (List.mem_of_getElem? hr)
  have cr:=po.cv r hrm
  have er:(p::ps)[j+1]?=some r:=hr
  have ei:(1:Int)+(j:Int)=((j+1:Nat):Int):=by omega
  refine⟨rfl,?_⟩
  walk_at "n"
  refine⟨p::ps,m,rfl,po,pl,fun ls hl=>?_⟩
  rw[ei]
  refine .of ⟨fun k ρ=>∃v5:Option D,ρ=[some (bD b),some (.int m),some (gD g),some (iN (p::ps)),some (.int ((j+1:Nat):Int)),v5]/\∀z∈ls.take k,¬hit p r z,⟨v5,rfl,fun z hz=>nomatch hz⟩,?_,?_⟩
  ·rintro k e ρ he ⟨v5,rfl,hh⟩
   obtain⟨n,hn',rfl⟩:=get_map he
   refine⟨rfl,?_⟩
   walk_at "n"
   refine vt po rfl er cp cr (fun z=>?_) fun z=>⟨_,rfl,V5 hn' hh z⟩
   obtain⟨e1,hq⟩:=uU hl m1 hrm cr hn' hh z
   subst e1
   refine h1 (r.1.nm,wk r) ?_ _ _ _
   show(ps.find? (qB m p)).map _=_
   rw[iG hr hn hq]
   rfl
  ·rintro ρ ⟨v5,rfl,hh⟩
   rw[List.length_map,List.take_length] at hh
   exact⟨_,_,rfl,V5 hr hn (yn hl m1 hrm cr hh)⟩
 ·rintro ρ ⟨v4,v5,rfl,hn⟩
  unfold eO at hn
  rw[List.length_map,List.length_range,List.take_length] at hn
  refine h2 ?_ _ _ _
  show(ps.find? (qB m p)).map _=_
  rw[gF hn]
  rfl
theorem Ac(ds:List D)(Q:D->Prop)(h:P7 ds Q):rE (EP Q) (g7 6 ds):=by
 obtain⟨b,m,rfl,hb,m1,q⟩:=h
 refine⟨_,O0 _ _,?_⟩
 refine .of ⟨fun i ρ=>∃v2 v3 v4 v5:Option D,ρ=[some (bD b),some (.int m),v2,v3,v4,v5]/\∀z∈(y9 b).take i,(X2 m (eL b z)).map (fun q=>(z,q.1,q.2))=none,⟨none,none,none,none,rfl,fun z hz=>nomatch hz⟩,?_,?_⟩
 ·rintro i e ρ he ⟨v2,v3,v4,v5,rfl,hn⟩
  obtain⟨g,hg,rfl⟩:=get_map he
  have hgm:=List.mem_of_getElem? hg
  have hx:(y9 b)[i]?=some g.nm:=by unfold y9;rw[List.getElem?_map,hg];rfl
  refine⟨rfl,?_⟩
  walk_at "n"
  refine ug hb m1 hgm (fun w hw v3 v4 v5=>?_) fun hw v3 v4 v5=>⟨_,_,_,_,rfl,V5 hx hn (by rw[hw];rfl)⟩
  have e:=jm (f:=fun z=>(X2 m (eL b z)).map fun q=>(z,q.1,q.2)) hx hn (y:=(g.nm,w.1,w.2)) (by rw[hw];rfl)
  unfold O8 at q
  rw[e] at q
  exact q
 ·rintro ρ ⟨v2,v3,v4,v5,rfl,hn⟩
  have el:(b.gs.map gD).length=(y9 b).length:=by unfold y9;rw[List.length_map,List.length_map]
  rw[el,List.take_length] at hn
  unfold O8 at q
  rw[List.findSome?_eq_none_iff.mpr hn] at q
  exact q
theorem Hg(ds:List D)(Q:D->Prop)(h:dX ds Q):EK (EP Q) (g7 5 ds):=by
 obtain⟨d,ns,rfl,hs,q⟩:=h
 refine⟨d,ns,rfl,hs,fun b u t hb sb ut=>?_⟩
 refine⟨rfl,rfl,?_⟩
 walk_at "n"
 refine⟨d,ns,19,rfl,hs,by decide,by decide,fun c=>⟨rfl,?_⟩⟩
 walk_at "n"
 refine⟨c,c,_,4,rfl,by decide,by decide,by decide,by decide,fun w d1 w0 w1=>?_⟩
 walk_at "n"
 have u1:=ut.1
 have u2:=ut.2.1
 have fin:∀b':Bd,p5 b'->b'.gs.length<=8->∀v4,sH (EP Q) [some d,some (bD b'),some (.int u),some (feed c d1 (100*19+1)),v4]:=by
  intro b' hb' g8 v4
  have h24:=hb'.l24
  have h1:=hb'.g1
  have e:((y9 b'++L1 b').length:Int)=b'.gs.length+b'.ls.length:=by unfold y9 L1;rw[List.length_append,List.length_map,List.length_map];omega
  refine⟨b',rfl,hb',rfl,?_⟩
  walk_at "n"
  refine⟨vY b',vY b',?_⟩
  refine⟨c,d1,_,_,rfl,by decide,by decide,by rw[List.length_map];omega,by rw[List.length_map];omega,fun r d2 r0 r1=>?_⟩
  rw[List.length_map] at r1
  obtain⟨x,hx,_,hxi⟩:=G9 (f:=D.str) (xs:=y9 b'++L1 b') (i:=r) r0 r1
  obtain⟨po,pl⟩:=qg hb' hx
  refine⟨_,hxi,?_⟩
  refine⟨b',x,rfl,hb',hx,?_⟩
  refine⟨c,d2,_,u,eL b' x,rfl,by decide,by decide,u1,u2,po,fun m d3 k3 m1 mb k30 k31=>?_⟩
  refine⟨rfl,q b' m c d3 k3 hb' g8 m1 ?_ (by omega) (by omega)⟩
  rcases mb with z | ⟨r,hr,s,hs',z⟩
  ·omega
  ·have c1:=(po.cv r hr).2.2.1 s hs'
   have r0:0<=r.2:=by
    unfold eL at hr
    cases ho:bN b' x with
    | true=>rw[ho] at hr;cases hr
    | false=>
     rw[ho] at hr
     obtain⟨y,_,rfl⟩:=List.mem_map.mp hr
     exact(W4 hb' (c:=10^60) (by decide) (fun l hl=>Int.le_of_lt (hb'.la l hl).2) y).1
   omega
 refine⟨fun e=>?_,fun e=>fin b hb sb.g8 _⟩
 refine⟨b,u,t,rfl,hb,sb,ut,fun b' hb' g8=>⟨rfl,?_⟩⟩
 exact fin b' hb' g8 _
theorem oE(u:Option Str):jy (uD u)=some (u.map Sum.inr):=by cases u<;>rfl
theorem uw(kvs:List (K6×Int))(k:K6)(n:Int):(bj kvs k n).length<=kvs.length+1:=by
 unfold bj
 split
 ·rw[List.length_map];omega
 ·rw[List.length_append];exact Nat.le_refl _
theorem tq(kvs:List (K6×Int))(k j:K6)(n:Int){v:Int}(h:E8 (bj kvs k n) j=some v):v=n\/E8 kvs j=some v:=by
 unfold bj E8 at h
 obtain⟨q,hq,rfl⟩:=Option.map_eq_some_iff.mp h
 split at hq
 ·rw[List.find?_map] at hq
  obtain⟨z,hz,rfl⟩:=Option.map_eq_some_iff.mp hq
  by_cases e:z.1=k
  ·left;simp only[if_pos e]
  ·right
   simp only[if_neg e]
   unfold E8
   have:(fun kv:K6×Int=>decide (kv.1=j))∘(fun kv:K6×Int=>if kv.1=k then(kv.1,n) else kv)=fun kv=>decide (kv.1=j):=by
    funext kv
    show decide ((if kv.1=k then(kv.1,n) else kv).1=j)=_
    split<;>rfl
   rw[this] at hz
   rw[hz];rfl
 ·rw[List.find?_append] at hq
  cases e:kvs.find? fun kv=>decide (kv.1=j) with
  | some z=>
   rw[e] at hq
   right
   unfold E8
   rw[e]
   cases hq;rfl
  | none=>
   rw[e] at hq
   left
   have hq:[(k,n)].find? (fun kv=>decide (kv.1=j))=some q:=hq
   have:=List.mem_of_find?_eq_some hq
   rw[List.mem_singleton.mp this]
theorem tR(ds:List D)(Q:D->Prop)(h:N4 ds Q):mV (EP Q) (g7 7 ds):=by
 obtain⟨b,u,t,rfl,hb,sb,ut,q⟩:=h
 have u1:=ut.1
 have u2:=ut.2.1
 have g8:=sb.g8
 have lb:=W4 hb (c:=3*u) (by omega) sb.ls.la
 have l24:(b.ls.length:Int)*(3*u)<=8*(3*u):=Int.mul_le_mul_of_nonneg_right (by have:=sb.l8;omega) (by omega)
 have lb:∀y,0<=o8 b y/\o8 b y<=24*u:=fun y=>⟨(lb y).1,by have h:=(lb y).2;omega⟩
 have ef:(b.gs.map gD).reverse=b.gs.reverse.map gD:=(List.map_reverse ..).symm
 refine⟨bD b,b,rfl,⟨_,_,rfl,.inl rfl,.inl rfl⟩,hb,rfl,?_⟩
 refine⟨rfl,rfl,?_⟩
 walk_at "n"
 refine⟨_,O0 _ _,rfl,cA b.gs,?_⟩
 show Dl _ _ (b.gs.map gD).reverse _ _
 rw[ef]
 have ndr:(b.gs.reverse.map (·.nm)).Nodup:=by rw[List.map_reverse];exact List.pairwise_reverse.mpr (hb.cZ.nd.imp fun h=>h.symm)
 refine .of ⟨fun i ρ=>∃(kds:List (K6×Int)) (f:Str->Int) (v4 v5 v6:Option D),ρ=[some (bD b),some (.dic (p8 b (o8 b))),some (.dn kds),some (.lst (((b.gs.reverse.take i).map fun g=>Q7 g (f g.nm)).map gD)),v4,v5,v6]/\(∀x,0<=f x/\f x<=94*u)/\kds.length<=i/\(∀j v,E8 kds j=some v->v<=70*u),⟨[],fun _=>0,none,none,none,rfl,fun _=>⟨Int.le_refl _,by show(0:Int)<=94*u;omega⟩,Nat.le_refl _,fun j v h=>(by cases h)⟩,?_,?_⟩
 ·rintro i e ρ he ⟨kds,f,v4,v5,v6,rfl,hf,hk,hv⟩
  obtain⟨g,hg,rfl⟩:=get_map he
  have hi:=(List.getElem?_eq_some_iff.mp hg).1
  rw[List.length_reverse] at hi
  have hgm:g∈b.gs:=List.mem_reverse.mp (List.mem_of_getElem? hg)
  have hc:=hb.cv g hgm
  obtain⟨p,ps,ep⟩:∃p ps,g.cv=p::ps:=by
   cases e:g.cv with
   | nil=>rw[e] at hc;exact absurd hc.1 (by decide)
   | cons p ps=>exact⟨p,ps,rfl⟩
  have pb:=sb.c1 g hgm p (by rw[ep];exact List.mem_cons_self)
  have p1:=(hc.2.2.1 p (by rw[ep];exact List.mem_cons_self)).1
  have lr:=lb g.nm
  refine⟨rfl,?_⟩
  walk_at "n"
  refine⟨_,rfl,?_⟩
  refine⟨pr p,?_,?_⟩
  ·show P4 (g.cv.map pr) 0=_
   rw[ep];exact O0 _ _
  refine⟨_,rfl,_,rfl,.inr g.nm,_,rfl,G6 hb (List.mem_map.mpr ⟨g,hgm,rfl⟩),rfl,?_⟩
  walk_at "n"
  refine⟨kds,rfl,_,rfl,some (.inr g.nm),rfl,0,rfl,rfl,?_⟩
  walk_at "n"
  generalize hmine:p.1-o8 b g.nm=mine
  have gb:∀j,(E8 kds j).getD 0<=70*u:=fun j=>by
   cases e:E8 kds j with
   | none=>show 0<=70*u;omega
   | some v=>exact hv j v e
  have hlow:∃low,(if mine>(E8 kds (some (.inr g.nm))).getD 0 then mine else(E8 kds (some (.inr g.nm))).getD 0)=low/\mine<=low/\low<=70*u:=by
   have:=gb (some (.inr g.nm))
   exact⟨_,rfl,by split<;>omega,by split<;>omega⟩
  obtain⟨low,el,l1,l2⟩:=hlow
  rw[el]
  refine⟨rfl,g,low-mine,rfl,hc.2.1,?_⟩
  refine⟨by rw[List.length_map,List.length_map,List.length_take];exact j8 (by omega),?_⟩
  walk_at "n"
  refine⟨kds,rfl,_,rfl,g.un.map Sum.inr,oE g.un,0,rfl,?_⟩
  refine⟨_,rfl,_,rfl,g.un.map Sum.inr,oE g.un,j8 (by omega),?_⟩
  have hlow2:(if low>(E8 kds (g.un.map Sum.inr)).getD 0 then low else(E8 kds (g.un.map Sum.inr)).getD 0)<=70*u:=by
   have:=gb (g.un.map Sum.inr)
   split<;>omega
  have pl:=uw kds (g.un.map Sum.inr) (if low>(E8 kds (g.un.map Sum.inr)).getD 0 then low else(E8 kds (g.un.map Sum.inr)).getD 0)
  refine⟨bj kds (g.un.map Sum.inr) (if low>(E8 kds (g.un.map Sum.inr)).getD 0 then low else(E8 kds (g.un.map Sum.inr)).getD 0),fun x=>if x=g.nm then low-mine else f x,some (gD g),some (.int mine),some (.int low),?_,fun x=>?_,by omega,fun j v h=>?_⟩
  ·have hn:(b.gs.reverse.map (·.nm))[i]?=some g.nm:=by rw[List.getElem?_map,hg];rfl
   have e2:(b.gs.reverse.take (i+1)).map (fun z=>Q7 z (if z.nm=g.nm then low-mine else f z.nm))=(b.gs.reverse.take i).map (fun z=>Q7 z (f z.nm))++[Q7 g (low-mine)]:=by
    rw[take_snoc hg,List.map_append]
    congr 1
    ·refine List.map_congr_left fun z hz=>?_
     have:z.nm≠g.nm:=fun e=>gX ndr hn (by rw[<-List.map_take,<-e];exact List.mem_map.mpr ⟨z,hz,rfl⟩)
     rw[if_neg this]
    ·show[Q7 g (if g.nm=g.nm then _ else _)]=_
     rw[if_pos rfl]
   rw[e2,List.map_append]
   rfl
  ·show 0<=(if x=g.nm then low-mine else f x)/\(if x=g.nm then low-mine else f x)<=94*u
   split
   ·omega
   ·exact hf x
  ·rcases tq _ _ _ _ h with z | z
   ·rw[z];exact hlow2
   ·exact hv j v z
 ·rintro ρ ⟨kds,f,v4,v5,v6,rfl,hf,hk,hv⟩
  have el:(b.gs.reverse.map gD).length=b.gs.reverse.length:=List.length_map _
  rw[el,List.take_length]
  have er:(((b.gs.reverse.map fun g=>Q7 g (f g.nm)).map gD).reverse)=(b.gs.map fun g=>Q7 g (f g.nm)).map gD:=by
   rw[<-List.map_reverse,<-List.map_reverse,List.reverse_reverse]
  walk_at "n"
  have im:=cA (b.gs.map fun g=>Q7 g (f g.nm))
  refine⟨rfl,cA _,_,_,rfl,rfl,?_,?_⟩
  ·rw[er];exact im
  rw[er]
  refine⟨_,bb _ _ _,ke b.ls,?_⟩
  refine q ⟨b.gs.map fun g=>Q7 g (f g.nm),b.ls⟩ (hb.guards (fun g=>Q7 g (f g.nm)) (fun g=>rfl) (fun g=>rfl) (fun g hg=>(hb.cv g hg).lift (hf g.nm).1 (sb.c1 g hg) (by have:=(hf g.nm).2;omega)) hb.de hb.wa) ?_
  show(b.gs.map _).length<=8
  rw[List.length_map];exact g8
end My
namespace My
open PySem L2 L3
local macro_rules | `(tactic| walk_at "w")=>`(tactic| conv=>whnf)
local macro_rules | `(tactic| walk_at "a")=>`(tactic| first | refine⟨rfl,?_⟩ | refine⟨_,rfl,?_⟩ | refine⟨(show(0:Int)<_ from by decide),?_⟩ | refine⟨(show V0 _ _ from⟨by decide,by decide⟩),?_⟩ | refine⟨(show aZ _ _ from⟨by decide,by decide,by decide⟩),?_⟩ | refine⟨(show P0 _ _ from .inr ⟨by decide,by decide⟩),?_⟩ | refine⟨(show P0 _ _ from .inl ⟨by decide,by decide⟩),?_⟩ | refine⟨_,_,_,rfl,rfl,rfl,?_⟩ | refine⟨_,O0 _ _,?_⟩ | refine⟨_,_,rfl,rfl,?_⟩)
local macro_rules | `(tactic| walk_at "r")=>`(tactic| ((repeat ((conv=>whnf);(walk_at "a")));(try (conv=>whnf))))
theorem zu(ds:List D)(Q:D->Prop)(h:S1 ds Q):sN { nx:=fun _=>Q .non,rt:=fun d _=>Q d } (g7 2 ds):=by
 obtain⟨d,ns,k,rfl,hs,h0,q⟩:=h
 rcases hs with rfl | rfl
 all_goals
  walk_at "r"
  refine⟨fun e=>?_,fun e=>q 0⟩
  have e':=of_decide_eq_true e
  obtain⟨x,_,_,hx⟩:=G9 (f:=D.int) h0 (by simpa using e')
  exact⟨_,hx,rfl,q x⟩
theorem Gw(ds:List D)(Q:D->Prop)(h:O3 ds Q):Et { nx:=fun _=>Q .non,rt:=fun d _=>Q d } (g7 3 ds):=by
 obtain⟨d,ns,k,rfl,hs,h0,h1,q⟩:=h
 refine⟨d,ns,k,rfl,hs,h0,fun c=>?_⟩
 walk_at "r"
 exact q c
theorem FG(ds:List D)(Q:D->D->Prop)(h:p9 ds Q):Ed { nx:=fun ρ=>e5 0 ρ fun l=>Q .non l,rt:=fun d ρ=>e5 0 ρ fun l=>Q d l } (g7 4 ds):=by
 obtain⟨c,d,k,n,rfl,h0,h1,h2,h3,q⟩:=h
 walk_at "r"
 refine⟨fun e1=>?a,fun e1=>Br.no rfl ?c⟩
 case' a=>
  walk_at "r"
  refine⟨fun e2=>?t,fun e2=>?b⟩
 case t=>
  walk_at "r"
  refine⟨h2,?_⟩
  walk_at "r"
  refine⟨⟨h2,Kc h3 h2⟩,?_⟩
  walk_at "r"
  exact q _ _ (Int.emod_nonneg _ (by omega)) (Int.emod_lt_of_pos _ h2)
 all_goals
  walk_at "r"
  refine⟨.inl ⟨by omega,by omega⟩,?_⟩
  walk_at "r"
  have z0:=Int.emod_nonneg ((c%2147483629*48271+7919*(k+1)+(k+1)*(k+1)*69621+11)%2147483647) (show(65521:Int)≠0 by decide)
  have z1:=Int.emod_lt_of_pos ((c%2147483629*48271+7919*(k+1)+(k+1)*(k+1)*69621+11)%2147483647) (show(0:Int)<65521 by decide)
  refine⟨.inr ⟨by omega,by omega⟩,?_⟩
  walk_at "r"
  refine⟨h2,?_⟩
  walk_at "r"
  exact q _ _ (Int.emod_nonneg _ (by omega)) (Int.emod_lt_of_pos _ h2)
end My
namespace My
open PySem L2 L3
local macro_rules | `(tactic| walk_at "w")=>`(tactic| conv=>whnf)
local macro_rules | `(tactic| walk_at "a")=>`(tactic| first | refine⟨rfl,?_⟩ | refine⟨_,rfl,?_⟩ | refine Br.yes rfl ?_ | refine Br.no rfl ?_ | refine⟨(show(0:Int)<_ from by decide),?_⟩ | refine⟨(show V0 _ _ from⟨by decide,by decide⟩),?_⟩ | refine⟨(show aZ _ _ from⟨by decide,by decide,by decide⟩),?_⟩ | refine⟨(show P0 _ _ from .inr ⟨by decide,by decide⟩),?_⟩ | refine⟨(show P0 _ _ from .inl ⟨by decide,by decide⟩),?_⟩ | refine⟨_,_,_,rfl,rfl,rfl,?_⟩ | refine⟨_,O0 _ _,?_⟩ | refine⟨_,bb _ _ _,?_⟩ | refine⟨_,_,rfl,rfl,?_⟩)
local macro_rules | `(tactic| walk_at "r")=>`(tactic| ((repeat ((conv=>whnf);(walk_at "a")));(try (conv=>whnf))))
local macro_rules | `(tactic| walk_at "n")=>`(tactic| (try dsimp only[g7,List.length,List.replicate,List.map,List.set,List.append,List.cons_append,List.nil_append,Nat.reduceAdd,Nat.reduceSub]))
theorem CM{b:Bd}(hb:p5 b){x:Str}(hx:x∈y9 b++L1 b){r:Gd×Int}(hr:r∈eL b x):r.1∈b.gs/\0<=r.2/\r.2<=24*10^60:=by
 unfold eL at hr
 cases ho:bN b x with
 | true=>rw[ho] at hr;cases hr
 | false=>
  rw[ho] at hr
  obtain⟨y,hy,rfl⟩:=List.mem_map.mp hr
  obtain⟨g,hg,rfl⟩:=List.mem_map.mp (cw hb hx y hy)
  have z:=W4 hb (c:=10^60) (by decide) (fun l hl=>Int.le_of_lt (hb.la l hl).2) g.nm
  have l24:=hb.l24
  have z2:(b.ls.length:Int)*10^60<=24*10^60:=Int.mul_le_mul_of_nonneg_right (by omega) (by decide)
  refine⟨?_,z.1,by have:=z.2;show o8 b g.nm<=_;omega⟩
  show xP b g.nm∈b.gs
  rw[jK hb hg];exact hg
theorem wQ{n:Nat}{x:Str}(h:nm n x):X3 (.str x)=true:=by
 show(x.cps.toList.all fun c=>decide (c<16^8))=true
 rw[List.all_eq_true]
 intro c hc
 have:=h.2.2 c hc
 exact decide_eq_true (by omega)
theorem yN{cv:List Pr}(h:O2 cv):1<=lo cv/\lo cv<10^60:=by
 obtain⟨h1,_,h3,_⟩:=h
 cases cv with
 | nil=>exact absurd h1 (by decide)
 | cons p ps=>exact⟨(h3 p List.mem_cons_self).1,(h3 p List.mem_cons_self).2.1⟩
theorem aH{b:Bd}(hb:p5 b)(m:Int):zY (vK (O8 b m (y9 b))):=by
 cases e:O8 b m (y9 b) with
 | none=>exact⟨rfl,by decide,by decide⟩
 | some q=>
  obtain⟨x,y,n⟩:=q
  unfold O8 at e
  obtain⟨z,hz,hw⟩:=List.exists_of_findSome?_eq_some e
  obtain⟨⟨y',n'⟩,hq,e2⟩:=Option.map_eq_some_iff.mp hw
  cases e2
  have hz2:x∈y9 b++L1 b:=List.mem_append_left _ hz
  obtain⟨g0,hg0,rfl⟩:=List.mem_map.mp hz
  obtain⟨ps,ep⟩:=dc hb hg0
  have hr0:∀r∈ps,r∈eL b g0.nm:=fun r hr=>by rw[ep];exact List.mem_cons_of_mem _ hr
  rw[ep] at hq
  obtain⟨r,hf,e3⟩:=Option.map_eq_some_iff.mp (show(ps.find? (qB m (g0,o8 b g0.nm))).map (fun r=>(r.1.nm,wk r))=some (y',n') from hq)
  cases e3
  obtain⟨g1,g2,g3⟩:=CM hb hz2 (hr0 r (List.mem_of_find?_eq_some hf))
  have lb:=yN (hb.cv r.1 g1)
  have s1:=wQ (hb.nmg g0 hg0)
  have s2:=wQ (hb.nmg r.1 g1)
  have s3:X3 (.int (wk r))=true:=by
   refine decide_eq_true ?_
   unfold wk
   have:(lo r.1.cv-r.2).natAbs<=25*10^60:=by omega
   exact Nat.lt_of_le_of_lt this (by decide)
  refine⟨?_,?_,?_⟩
  ·show(X3 (.str g0.nm)&&(X3 (.str r.1.nm)&&(X3 (.int (wk r))&&true)))=true
   rw[s1,s2,s3];rfl
  ·have w1:=(hb.nmg g0 hg0).2.1
   have w2:=(hb.nmg r.1 g1).2.1
   rw[Array.length_toList] at w1 w2
   have w3:(PyData.int (wk r)).weight<=1921:=by
    simp only[PyData.weight]
    have:=rq (i:=wk r) (of_decide_eq_true s3)
    split<;>omega
   have e:(pyd (vK (some (g0.nm,r.1.nm,wk r)))).weight=g0.nm.cps.size+1+(r.1.nm.cps.size+1+((PyData.int (wk r)).weight+1+0)):=by
    simp only[vK,pyd,ba,PyData.weight,PyData.weightAll]
   rw[e];omega
  ·have e:(pyd (vK (some (g0.nm,r.1.nm,wk r)))).depth<=50:=by
    simp[vK,pyd,ba,PyData.depth,PyData.depthAll]
   exact e
theorem Cs(ds:List D)(Q:D->Prop)(h:bw ds Q):yW (EP Q) (g7 5 ds):=by
 obtain⟨d,ns,rfl,hs,hl,q⟩:=h
 refine⟨d,ns,rfl,hs,fun b m c d' k' hb g8 m1 m2 k0 k1=>?_⟩
 refine⟨rfl,rfl,rfl,?_⟩
 walk_at "n"
 refine⟨b,rfl,hb,?_⟩
 cases ha:J5 b (o8 b) with
 | cons x xs=>exact Br.yes rfl q
 | nil=>
  refine Br.no rfl ?_
  refine⟨b,m,rfl,hb,m1,aH hb m,rfl,?_⟩
  walk_at "n"
  refine⟨b,m,rfl,hb,ha,aH hb m,?_⟩
  have no:∀s:Str,ng true (decide (s=s))=false:=fun s=>by rw[decide_eq_true rfl];rfl
  have yes:∀s:Str,D.bl (ng false (decide (s=s)))=.bl true:=fun s=>by rw[decide_eq_true rfl];rfl
  refine Br.no (no _) ?_
  refine⟨b,1,rfl,hb,ha,aH hb 1,b,1,rfl,hb,Int.le_refl _,aH hb 1,?_⟩
  refine Br.no (no _) ?_
  refine⟨b,m,rfl,hb,ha,aH hb m,?_⟩
  have e:=yes (pyd (vK (O8 b m (y9 b)))).shown
  show Q (.bl (ng false (decide ((pyd (vK (O8 b m (y9 b)))).shown=(pyd (vK (O8 b m (y9 b)))).shown))))
  rw[e]
  exact q
end My
namespace My
open PySem L2 L3
def sx(K:PySem.W.Frag):Sp:=fun vs H Q _=>∃(a:Addr) (ns:List Int),vs=[.ref a]/\N7 K H a (ns.map V.int)/\ns.length<=63/\∀H',Q (.bl true) H'
theorem L4{K:PySem.W.Frag}{H:Hp}:∀ns:List Int,o5 K H (ns.map V.int) (ns.map D.int) []
 | []=>.nil
 | n::ns=>o5.cons (A:=[]) (B:=[]) .int (L4 ns)
theorem Gi{K:PySem.W.Frag}(vs:List V)(H:Hp)(Q:VK)(E:XK)(h:sx K vs H Q E):w5 K bw vs H Q E:=by
 obtain⟨a,ns,rfl,hS,hl,k⟩:=h
 have fin:∀(d:D) (A:List Addr),Bb d ns->Rep K H (.ref a) d A->w5 K bw [.ref a] H Q E:=fun d A hd r=>
  ⟨[d],A++[],fun r=>r=.bl true,.cons r .nil,⟨d,ns,rfl,hd,hl,rfl⟩,fun r v H' B e _ rv _ _=>by
   subst e
   cases X5 rv
   exact k H'⟩
 rcases hS with(h | ⟨o,h⟩) | h
 ·exact fin _ _ (.inr rfl) (.lst h (L4 ns))
 ·exact fin _ _ (.inl rfl) (.frz (.inl ⟨o,h⟩) (L4 ns))
 ·exact fin _ _ (.inl rfl) (.frz (.inr h) (L4 ns))
theorem pZ:∀ds Q,G3 ds Q->ds.length=1:=fun _ _ ⟨_,e,_⟩=>congrArg List.length e
theorem qw:∀ds Q,G7 ds Q->ds.length=1:=fun _ _ ⟨_,_,e,_⟩=>congrArg List.length e
theorem oA:∀ds Q,C8 ds Q->ds.length=1:=fun _ _ ⟨_,e,_⟩=>congrArg List.length e
theorem oS:∀ds Q,N1 ds Q->ds.length=1:=fun _ _ ⟨_,e,_⟩=>congrArg List.length e
theorem mQ:∀ds Q,J9 ds Q->ds.length=2:=fun _ _ ⟨_,_,e,_⟩=>congrArg List.length e
theorem qP:∀ds Q,N6 ds Q->ds.length=2:=fun _ _ ⟨_,_,e,_⟩=>congrArg List.length e
theorem lO:∀ds Q,K2 ds Q->ds.length=2:=fun _ _ ⟨_,_,e,_⟩=>congrArg List.length e
theorem wj:∀ds Q,aq ds Q->ds.length=2:=fun _ _ ⟨_,_,_,e,_⟩=>congrArg List.length e
theorem Bt:∀ds Q W,eh ds Q W->ds.length=2:=fun _ _ _ ⟨_,_,e,_⟩=>congrArg List.length e
theorem kJ:∀ds Q,D5 ds Q->ds.length=2:=fun _ _ ⟨_,_,_,e,_⟩=>congrArg List.length e
theorem nM:∀ds Q,J6 ds Q->ds.length=3:=fun _ _ ⟨_,_,_,e,_⟩=>congrArg List.length e
theorem zO:∀ds Q,az ds Q->ds.length=3:=fun _ _ ⟨_,_,_,_,e,_⟩=>congrArg List.length e
theorem Bo:∀ds Q,bf ds Q->ds.length=1:=fun _ _ ⟨_,e,_⟩=>congrArg List.length e
theorem ym:∀ds Q,ae ds Q->ds.length=2:=fun _ _ ⟨_,_,e,_⟩=>congrArg List.length e
theorem Am:∀ds Q,aE ds Q->ds.length=1:=fun _ _ ⟨_,e,_⟩=>congrArg List.length e
theorem jC:∀ds Q,D2 ds Q->ds.length=1:=fun _ _ ⟨_,e,_⟩=>congrArg List.length e
theorem As:∀ds Q,aI ds Q->ds.length=2:=fun _ _ ⟨_,_,e,_⟩=>congrArg List.length e
theorem qD:∀ds Q,D3 ds Q->ds.length=1:=fun _ _ ⟨_,_,e,_⟩=>congrArg List.length e
theorem vL:∀ds Q,T2 ds Q->ds.length=2:=fun _ _ ⟨_,_,e,_⟩=>congrArg List.length e
theorem tF:∀ds Q,S1 ds Q->ds.length=2:=fun _ _ ⟨_,_,_,e,_⟩=>congrArg List.length e
theorem DG:∀ds Q,O3 ds Q->ds.length=2:=fun _ _ ⟨_,_,_,e,_⟩=>congrArg List.length e
theorem AZ:∀ds Q,p9 ds Q->ds.length=2:=fun _ _ ⟨_,_,_,_,e,_⟩=>congrArg List.length e
theorem yt:∀ds Q,aa ds Q->ds.length=2:=fun _ _ ⟨_,_,_,_,e,_⟩=>congrArg List.length e
theorem xb:∀ds Q,T1 ds Q->ds.length=1:=fun _ _ ⟨_,_,e,_⟩=>congrArg List.length e
theorem qa:∀ds Q,N2 ds Q->ds.length=3:=fun _ _ ⟨_,_,_,_,_,e,_⟩=>congrArg List.length e
theorem vq:∀ds Q,M6 ds Q->ds.length=2:=fun _ _ ⟨_,_,e,_⟩=>congrArg List.length e
theorem wO:∀ds Q,L0 ds Q->ds.length=1:=fun _ _ ⟨_,_,e,_⟩=>congrArg List.length e
theorem nP:∀ds Q,K5 ds Q->ds.length=4:=fun _ _ ⟨_,_,_,_,_,e,_⟩=>congrArg List.length e
theorem qf:∀ds Q,O1 ds Q->ds.length=5:=fun _ _ ⟨_,_,_,_,_,_,e,_⟩=>congrArg List.length e
theorem pF:∀ds Q,N3 ds Q->ds.length=3:=fun _ _ ⟨_,_,_,_,e,_⟩=>congrArg List.length e
theorem Dc:∀ds Q,bc ds Q->ds.length=2:=fun _ _ ⟨_,_,e,_⟩=>congrArg List.length e
theorem xw:∀ds Q,ai ds Q->ds.length=2:=fun _ _ ⟨_,_,e,_⟩=>congrArg List.length e
theorem wJ:∀ds Q,Z3 ds Q->ds.length=1:=fun _ _ ⟨_,e,_⟩=>congrArg List.length e
theorem vw:∀ds Q,S3 ds Q->ds.length=1:=fun _ _ ⟨_,e,_⟩=>congrArg List.length e
theorem Af:∀ds Q,Z9 ds Q->ds.length=1:=fun _ _ ⟨_,_,e,_⟩=>congrArg List.length e
theorem BX:∀ds Q,ez ds Q->ds.length=3:=fun _ _ ⟨_,_,_,_,_,e,_⟩=>congrArg List.length e
theorem qW:∀ds Q,N4 ds Q->ds.length=1:=fun _ _ ⟨_,_,_,e,_⟩=>congrArg List.length e
theorem AQ:∀ds Q,dX ds Q->ds.length=1:=fun _ _ ⟨_,_,e,_⟩=>congrArg List.length e
theorem wH:∀ds Q,X6 ds Q->ds.length=3:=fun _ _ ⟨_,_,_,e,_⟩=>congrArg List.length e
theorem tY:∀ds Q,P7 ds Q->ds.length=2:=fun _ _ ⟨_,_,e,_⟩=>congrArg List.length e
theorem wX:∀ds Q,bw ds Q->ds.length=1:=fun _ _ ⟨_,_,e,_⟩=>congrArg List.length e
theorem all_mk {l:PySem.W.OpenLaw} {w:World} {K:PySem.W.Frag} {h:Heap} {mg:Str->Option Value} {fa f1 f2 f3 f4 f5 f6 f7 f8 f9 f10 f11 f12 f13 f14 f15 f16 f17 f18 f19 f20 f21 f22 f23 f24 f25 f26 f27 f28 f29 f30 f31 f32 f33 f34 f35 f36 f37 f38 f39 f40 f41:Addr} (X:K.In h) (G:h.Ns mainGlobals mg) (hfa:mg "law"=some (.ref fa))
  {od1 an1 od2 an2 od3 an3 od4 an4 od5 an5 od6 an6 od7 an7 od8 an8 od9 an9 od10 an10 od11 an11 od12 an12 od13 an13 od14 an14 od15 an15 od16 an16 od17 an17 od18 an18 od19 an19 od20 an20 od21 an21 od22 an22 od23 an23 od24 an24 od25 an25 od26 an26 od27 an27 od28 an28 od29 an29 od30 an30 od31 an31 od32 an32 od33 an33 od34 an34 od35 an35 od36 an36 od37 an37 od38 an38 od39 an39 od40 an40 od41 an41:Option Addr} {sl1 sl2 sl3 sl4 sl5 sl6 sl7 sl8 sl9 sl10 sl11 sl12 sl13 sl14 sl15 sl16 sl17 sl18 sl19 sl20 sl21 sl22 sl23 sl24 sl25 sl26 sl27 sl28 sl29 sl30 sl31 sl32 sl33 sl34 sl35 sl36 sl37 sl38 sl39 sl40 sl41:Array (Option Value)} {oc1 kV1 dc1 pm1 cd1 ct1 oc2 kV2 dc2 pm2 cd2 ct2 oc3 kV3 KO pm3 cd3 ct3 oc4 kV4 dc4 pm4 cd4 ct4 oc5 kV5 dc5 pm5 cd5 ct5 oc6 kV6 dc6 pm6 cd6 ct6 oc7 kV7 dc7 pm7 cd7 ct7 oc8 kV8 dc8 pm8 cd8 ct8 oc9 kV9 dc9 pm9 cd9 ct9 oc10 kV10 dc10 pm10 cd10 ct10 oc11 kV11 dc11 pm11 cd11 ct11 oc12 kV12 dc12 pm12 cd12 ct12 oc13 kV13 dc13 pm13 cd13 ct13 oc14 kV14 dc14 pm14 cd14 ct14 oc15 kV15 dc15 pm15 cd15 ct15 oc16 kV16 dc16 pm16 cd16 ct16 oc17 kV17 dc17 pm17 cd17 ct17 oc18 kV18 dc18 pm18 cd18 ct18 oc19 kV19 dc19 pm19 cd19 ct19 oc20 kV20 dc20 pm20 cd20 ct20 oc21 kV21 dc21 pm21 cd21 ct21 oc22 kV22 dc22 pm22 cd22 ct22 oc23 kV23 dc23 pm23 cd23 ct23 oc24 kV24 dc24 pm24 cd24 ct24 oc25 kV25 dc25 pm25 cd25 ct25 oc26 kV26 dc26 pm26 cd26 ct26 oc27 kV27 dc27 pm27 cd27 ct27 oc28 kV28 dc28 pm28 cd28 ct28 oc29 kV29 dc29 pm29 cd29 ct29 oc30 kV30 dc30 pm30 cd30 ct30 oc31 kV31 dc31 pm31 cd31 ct31 oc32 kV32 dc32 pm32 cd32 ct32 oc33 kV33 dc33 pm33 cd33 ct33 oc34 kV34 dc34 pm34 cd34 ct34 oc35 kV35 dc35 pm35 cd35 ct35 oc36 kV36 dc36 pm36 cd36 ct36 oc37 kV37 dc37 pm37 cd37 ct37 oc38 kV38 dc38 pm38 cd38 ct38 oc39 kV39 dc39 pm39 cd39 ct39 oc40 kV40 dc40 pm40 cd40 ct40 oc41 kV41 dc41 pm41 cd41 ct41:Value}
  (a1:PySem.W.nsIn K mainGlobals "least_of"=some (some (.ref f1)))
  (l1:K.lookup f1=some ⟨oc1,od1,.func (PySem.W.fnOf "least_of" "least_of" (n9 V7) (i9 V7) (e6 V7) .none kV1 dc1 pm1 an1 cd1 ct1),sl1⟩) (c1:PySem.W.codeIn K cd1 "least_of"=true) (k1:PySem.W.keepIn K (.ref f1)=true)
  (a2:PySem.W.nsIn K mainGlobals "names_of"=some (some (.ref f2)))
  (l2:K.lookup f2=some ⟨oc2,od2,.func (PySem.W.fnOf "names_of" "names_of" (n9 R5) (i9 R5) (e6 R5) .none kV2 dc2 pm2 an2 cd2 ct2),sl2⟩) (c2:PySem.W.codeIn K cd2 "names_of"=true) (k2:PySem.W.keepIn K (.ref f2)=true)
  (a3:PySem.W.nsIn K mainGlobals "guards_of"=some (some (.ref f3)))
  (l3:K.lookup f3=some ⟨oc3,od3,.func (PySem.W.fnOf "guards_of" "guards_of" (n9 P9) (i9 P9) (e6 P9) .none kV3 KO pm3 an3 cd3 ct3),sl3⟩) (c3:PySem.W.codeIn K cd3 "guards_of"=true) (k3:PySem.W.keepIn K (.ref f3)=true)
  (a4:PySem.W.nsIn K mainGlobals "loads_of"=some (some (.ref f4)))
  (l4:K.lookup f4=some ⟨oc4,od4,.func (PySem.W.fnOf "loads_of" "loads_of" (n9 V9) (i9 V9) (e6 V9) .none kV4 dc4 pm4 an4 cd4 ct4),sl4⟩) (c4:PySem.W.codeIn K cd4 "loads_of"=true) (k4:PySem.W.keepIn K (.ref f4)=true)
  (a5:PySem.W.nsIn K mainGlobals "has_guard"=some (some (.ref f5)))
  (l5:K.lookup f5=some ⟨oc5,od5,.func (PySem.W.fnOf "has_guard" "has_guard" (n9 P8) (i9 P8) (e6 P8) .none kV5 dc5 pm5 an5 cd5 ct5),sl5⟩) (c5:PySem.W.codeIn K cd5 "has_guard"=true) (k5:PySem.W.keepIn K (.ref f5)=true)
  (a6:PySem.W.nsIn K mainGlobals "has_load"=some (some (.ref f6)))
  (l6:K.lookup f6=some ⟨oc6,od6,.func (PySem.W.fnOf "has_load" "has_load" (n9 T9) (i9 T9) (e6 T9) .none kV6 dc6 pm6 an6 cd6 ct6),sl6⟩) (c6:PySem.W.codeIn K cd6 "has_load"=true) (k6:PySem.W.keepIn K (.ref f6)=true)
  (a7:PySem.W.nsIn K mainGlobals "has_place"=some (some (.ref f7)))
  (l7:K.lookup f7=some ⟨oc7,od7,.func (PySem.W.fnOf "has_place" "has_place" (n9 Q0) (i9 Q0) (e6 Q0) .none kV7 dc7 pm7 an7 cd7 ct7),sl7⟩) (c7:PySem.W.codeIn K cd7 "has_place"=true) (k7:PySem.W.keepIn K (.ref f7)=true)
  (a8:PySem.W.nsIn K mainGlobals "climb"=some (some (.ref f8)))
  (l8:K.lookup f8=some ⟨oc8,od8,.func (PySem.W.fnOf "climb" "climb" (n9 bI) (i9 bI) (e6 bI) .none kV8 dc8 pm8 an8 cd8 ct8),sl8⟩) (c8:PySem.W.codeIn K cd8 "climb"=true) (k8:PySem.W.keepIn K (.ref f8)=true)
  (a9:PySem.W.nsIn K mainGlobals "over"=some (some (.ref f9)))
  (l9:K.lookup f9=some ⟨oc9,od9,.func (PySem.W.fnOf "over" "over" (n9 gC) (i9 gC) (e6 gC) .none kV9 dc9 pm9 an9 cd9 ct9),sl9⟩) (c9:PySem.W.codeIn K cd9 "over"=true) (k9:PySem.W.keepIn K (.ref f9)=true)
  (a10:PySem.W.nsIn K mainGlobals "fed_guards"=some (some (.ref f10)))
  (l10:K.lookup f10=some ⟨oc10,od10,.func (PySem.W.fnOf "fed_guards" "fed_guards" (n9 L9) (i9 L9) (e6 L9) .none kV10 dc10 pm10 an10 cd10 ct10),sl10⟩) (c10:PySem.W.codeIn K cd10 "fed_guards"=true) (k10:PySem.W.keepIn K (.ref f10)=true)
  (a11:PySem.W.nsIn K mainGlobals "draws_fed"=some (some (.ref f11)))
  (l11:K.lookup f11=some ⟨oc11,od11,.func (PySem.W.fnOf "draws_fed" "draws_fed" (n9 L8) (i9 L8) (e6 L8) .none kV11 dc11 pm11 an11 cd11 ct11),sl11⟩) (c11:PySem.W.codeIn K cd11 "draws_fed"=true) (k11:PySem.W.keepIn K (.ref f11)=true)
  (a12:PySem.W.nsIn K mainGlobals "draws"=some (some (.ref f12)))
  (l12:K.lookup f12=some ⟨oc12,od12,.func (PySem.W.fnOf "draws" "draws" (n9 du) (i9 du) (e6 du) .none kV12 dc12 pm12 an12 cd12 ct12),sl12⟩) (c12:PySem.W.codeIn K cd12 "draws"=true) (k12:PySem.W.keepIn K (.ref f12)=true)
  (a13:PySem.W.nsIn K mainGlobals "rest"=some (some (.ref f13)))
  (l13:K.lookup f13=some ⟨oc13,od13,.func (PySem.W.fnOf "rest" "rest" (n9 gJ) (i9 gJ) (e6 gJ) .none kV13 dc13 pm13 an13 cd13 ct13),sl13⟩) (c13:PySem.W.codeIn K cd13 "rest"=true) (k13:PySem.W.keepIn K (.ref f13)=true)
  (a14:PySem.W.nsIn K mainGlobals "awake"=some (some (.ref f14)))
  (l14:K.lookup f14=some ⟨oc14,od14,.func (PySem.W.fnOf "awake" "awake" (n9 bL) (i9 bL) (e6 bL) .none kV14 dc14 pm14 an14 cd14 ct14),sl14⟩) (c14:PySem.W.codeIn K cd14 "awake"=true) (k14:PySem.W.keepIn K (.ref f14)=true)
  (a15:PySem.W.nsIn K mainGlobals "loud"=some (some (.ref f15)))
  (l15:K.lookup f15=some ⟨oc15,od15,.func (PySem.W.fnOf "loud" "loud" (n9 dI) (i9 dI) (e6 dI) .none kV15 dc15 pm15 an15 cd15 ct15),sl15⟩) (c15:PySem.W.codeIn K cd15 "loud"=true) (k15:PySem.W.keepIn K (.ref f15)=true)
  (a16:PySem.W.nsIn K mainGlobals "quiet_rest"=some (some (.ref f16)))
  (l16:K.lookup f16=some ⟨oc16,od16,.func (PySem.W.fnOf "quiet_rest" "quiet_rest" (n9 L7) (i9 L7) (e6 L7) .none kV16 dc16 pm16 an16 cd16 ct16),sl16⟩) (c16:PySem.W.codeIn K cd16 "quiet_rest"=true) (k16:PySem.W.keepIn K (.ref f16)=true)
  (a17:PySem.W.nsIn K mainGlobals "way_of"=some (some (.ref f17)))
  (l17:K.lookup f17=some ⟨oc17,od17,.func (PySem.W.fnOf "way_of" "way_of" (n9 X8) (i9 X8) (e6 X8) .none kV17 dc17 pm17 an17 cd17 ct17),sl17⟩) (c17:PySem.W.codeIn K cd17 "way_of"=true) (k17:PySem.W.keepIn K (.ref f17)=true)
  (a18:PySem.W.nsIn K mainGlobals "wakes_at"=some (some (.ref f18)))
  (l18:K.lookup f18=some ⟨oc18,od18,.func (PySem.W.fnOf "wakes_at" "wakes_at" (n9 U3) (i9 U3) (e6 U3) .none kV18 dc18 pm18 an18 cd18 ct18),sl18⟩) (c18:PySem.W.codeIn K cd18 "wakes_at"=true) (k18:PySem.W.keepIn K (.ref f18)=true)
  (a19:PySem.W.nsIn K mainGlobals "blind"=some (some (.ref f19)))
  (l19:K.lookup f19=some ⟨oc19,od19,.func (PySem.W.fnOf "blind" "blind" (n9 cY) (i9 cY) (e6 cY) .none kV19 dc19 pm19 an19 cd19 ct19),sl19⟩) (c19:PySem.W.codeIn K cd19 "blind"=true) (k19:PySem.W.keepIn K (.ref f19)=true)
  (a20:PySem.W.nsIn K mainGlobals "_law_cell_at"=some (some (.ref f20)))
  (l20:K.lookup f20=some ⟨oc20,od20,.func (PySem.W.fnOf "_law_cell_at" "_law_cell_at" (n9 aY) (i9 aY) (e6 aY) .none kV20 dc20 pm20 an20 cd20 ct20),sl20⟩) (c20:PySem.W.codeIn K cd20 "_law_cell_at"=true) (k20:PySem.W.keepIn K (.ref f20)=true)
  (a21:PySem.W.nsIn K mainGlobals "_law_feed"=some (some (.ref f21)))
  (l21:K.lookup f21=some ⟨oc21,od21,.func (PySem.W.fnOf "_law_feed" "_law_feed" (n9 iK) (i9 iK) (e6 iK) .none kV21 dc21 pm21 an21 cd21 ct21),sl21⟩) (c21:PySem.W.codeIn K cd21 "_law_feed"=true) (k21:PySem.W.keepIn K (.ref f21)=true)
  (a22:PySem.W.nsIn K mainGlobals "_law_take"=some (some (.ref f22)))
  (l22:K.lookup f22=some ⟨oc22,od22,.func (PySem.W.fnOf "_law_take" "_law_take" (n9 iF) (i9 iF) (e6 iF) .none kV22 dc22 pm22 an22 cd22 ct22),sl22⟩) (c22:PySem.W.codeIn K cd22 "_law_take"=true) (k22:PySem.W.keepIn K (.ref f22)=true)
  (a23:PySem.W.nsIn K mainGlobals "_law_names"=some (some (.ref f23)))
  (l23:K.lookup f23=some ⟨oc23,od23,.func (PySem.W.fnOf "_law_names" "_law_names" (n9 X1) (i9 X1) (e6 X1) .none kV23 dc23 pm23 an23 cd23 ct23),sl23⟩) (c23:PySem.W.codeIn K cd23 "_law_names"=true) (k23:PySem.W.keepIn K (.ref f23)=true)
  (a24:PySem.W.nsIn K mainGlobals "_law_overs"=some (some (.ref f24)))
  (l24:K.lookup f24=some ⟨oc24,od24,.func (PySem.W.fnOf "_law_overs" "_law_overs" (n9 df) (i9 df) (e6 df) .none kV24 dc24 pm24 an24 cd24 ct24),sl24⟩) (c24:PySem.W.codeIn K cd24 "_law_overs"=true) (k24:PySem.W.keepIn K (.ref f24)=true)
  (a25:PySem.W.nsIn K mainGlobals "_law_small_curve"=some (some (.ref f25)))
  (l25:K.lookup f25=some ⟨oc25,od25,.func (PySem.W.fnOf "_law_small_curve" "_law_small_curve" (n9 Q9) (i9 Q9) (e6 Q9) .none kV25 dc25 pm25 an25 cd25 ct25),sl25⟩) (c25:PySem.W.codeIn K cd25 "_law_small_curve"=true) (k25:PySem.W.keepIn K (.ref f25)=true)
  (a26:PySem.W.nsIn K mainGlobals "_law_lifted"=some (some (.ref f26)))
  (l26:K.lookup f26=some ⟨oc26,od26,.func (PySem.W.fnOf "_law_lifted" "_law_lifted" (n9 W7) (i9 W7) (e6 W7) .none kV26 dc26 pm26 an26 cd26 ct26),sl26⟩) (c26:PySem.W.codeIn K cd26 "_law_lifted"=true) (k26:PySem.W.keepIn K (.ref f26)=true)
  (a27:PySem.W.nsIn K mainGlobals "_law_rest"=some (some (.ref f27)))
  (l27:K.lookup f27=some ⟨oc27,od27,.func (PySem.W.fnOf "_law_rest" "_law_rest" (n9 bO) (i9 bO) (e6 bO) .none kV27 dc27 pm27 an27 cd27 ct27),sl27⟩) (c27:PySem.W.codeIn K cd27 "_law_rest"=true) (k27:PySem.W.keepIn K (.ref f27)=true)
  (a28:PySem.W.nsIn K mainGlobals "_law_small_guards"=some (some (.ref f28)))
  (l28:K.lookup f28=some ⟨oc28,od28,.func (PySem.W.fnOf "_law_small_guards" "_law_small_guards" (n9 Q3) (i9 Q3) (e6 Q3) .none kV28 dc28 pm28 an28 cd28 ct28),sl28⟩) (c28:PySem.W.codeIn K cd28 "_law_small_guards"=true) (k28:PySem.W.keepIn K (.ref f28)=true)
  (a29:PySem.W.nsIn K mainGlobals "_law_small_loads"=some (some (.ref f29)))
  (l29:K.lookup f29=some ⟨oc29,od29,.func (PySem.W.fnOf "_law_small_loads" "_law_small_loads" (n9 U4) (i9 U4) (e6 U4) .none kV29 dc29 pm29 an29 cd29 ct29),sl29⟩) (c29:PySem.W.codeIn K cd29 "_law_small_loads"=true) (k29:PySem.W.keepIn K (.ref f29)=true)
  (a30:PySem.W.nsIn K mainGlobals "_law_small_board"=some (some (.ref f30)))
  (l30:K.lookup f30=some ⟨oc30,od30,.func (PySem.W.fnOf "_law_small_board" "_law_small_board" (n9 R4) (i9 R4) (e6 R4) .none kV30 dc30 pm30 an30 cd30 ct30),sl30⟩) (c30:PySem.W.codeIn K cd30 "_law_small_board"=true) (k30:PySem.W.keepIn K (.ref f30)=true)
  (a31:PySem.W.nsIn K mainGlobals "_law_path"=some (some (.ref f31)))
  (l31:K.lookup f31=some ⟨oc31,od31,.func (PySem.W.fnOf "_law_path" "_law_path" (n9 ed) (i9 ed) (e6 ed) .none kV31 dc31 pm31 an31 cd31 ct31),sl31⟩) (c31:PySem.W.codeIn K cd31 "_law_path"=true) (k31:PySem.W.keepIn K (.ref f31)=true)
  (a32:PySem.W.nsIn K mainGlobals "_law_lows"=some (some (.ref f32)))
  (l32:K.lookup f32=some ⟨oc32,od32,.func (PySem.W.fnOf "_law_lows" "_law_lows" (n9 dw) (i9 dw) (e6 dw) .none kV32 dc32 pm32 an32 cd32 ct32),sl32⟩) (c32:PySem.W.codeIn K cd32 "_law_lows"=true) (k32:PySem.W.keepIn K (.ref f32)=true)
  (a33:PySem.W.nsIn K mainGlobals "_law_loud"=some (some (.ref f33)))
  (l33:K.lookup f33=some ⟨oc33,od33,.func (PySem.W.fnOf "_law_loud" "_law_loud" (n9 dm) (i9 dm) (e6 dm) .none kV33 dc33 pm33 an33 cd33 ct33),sl33⟩) (c33:PySem.W.codeIn K cd33 "_law_loud"=true) (k33:PySem.W.keepIn K (.ref f33)=true)
  (a34:PySem.W.nsIn K mainGlobals "_law_places"=some (some (.ref f34)))
  (l34:K.lookup f34=some ⟨oc34,od34,.func (PySem.W.fnOf "_law_places" "_law_places" (n9 S4) (i9 S4) (e6 S4) .none kV34 dc34 pm34 an34 cd34 ct34),sl34⟩) (c34:PySem.W.codeIn K cd34 "_law_places"=true) (k34:PySem.W.keepIn K (.ref f34)=true)
  (a35:PySem.W.nsIn K mainGlobals "_law_sized"=some (some (.ref f35)))
  (l35:K.lookup f35=some ⟨oc35,od35,.func (PySem.W.fnOf "_law_sized" "_law_sized" (n9 dt) (i9 dt) (e6 dt) .none kV35 dc35 pm35 an35 cd35 ct35),sl35⟩) (c35:PySem.W.codeIn K cd35 "_law_sized"=true) (k35:PySem.W.keepIn K (.ref f35)=true)
  (a36:PySem.W.nsIn K mainGlobals "_law_most"=some (some (.ref f36)))
  (l36:K.lookup f36=some ⟨oc36,od36,.func (PySem.W.fnOf "_law_most" "_law_most" (n9 iJ) (i9 iJ) (e6 iJ) .none kV36 dc36 pm36 an36 cd36 ct36),sl36⟩) (c36:PySem.W.codeIn K cd36 "_law_most"=true) (k36:PySem.W.keepIn K (.ref f36)=true)
  (a37:PySem.W.nsIn K mainGlobals "_law_sighted"=some (some (.ref f37)))
  (l37:K.lookup f37=some ⟨oc37,od37,.func (PySem.W.fnOf "_law_sighted" "_law_sighted" (n9 U2) (i9 U2) (e6 U2) .none kV37 dc37 pm37 an37 cd37 ct37),sl37⟩) (c37:PySem.W.codeIn K cd37 "_law_sighted"=true) (k37:PySem.W.keepIn K (.ref f37)=true)
  (a38:PySem.W.nsIn K mainGlobals "_law_case"=some (some (.ref f38)))
  (l38:K.lookup f38=some ⟨oc38,od38,.func (PySem.W.fnOf "_law_case" "_law_case" (n9 jf) (i9 jf) (e6 jf) .none kV38 dc38 pm38 an38 cd38 ct38),sl38⟩) (c38:PySem.W.codeIn K cd38 "_law_case"=true) (k38:PySem.W.keepIn K (.ref f38)=true)
  (a39:PySem.W.nsIn K mainGlobals "_law_turns"=some (some (.ref f39)))
  (l39:K.lookup f39=some ⟨oc39,od39,.func (PySem.W.fnOf "_law_turns" "_law_turns" (n9 bA) (i9 bA) (e6 bA) .none kV39 dc39 pm39 an39 cd39 ct39),sl39⟩) (c39:PySem.W.codeIn K cd39 "_law_turns"=true) (k39:PySem.W.keepIn K (.ref f39)=true)
  (a40:PySem.W.nsIn K mainGlobals "_law_blind"=some (some (.ref f40)))
  (l40:K.lookup f40=some ⟨oc40,od40,.func (PySem.W.fnOf "_law_blind" "_law_blind" (n9 aT) (i9 aT) (e6 aT) .none kV40 dc40 pm40 an40 cd40 ct40),sl40⟩) (c40:PySem.W.codeIn K cd40 "_law_blind"=true) (k40:PySem.W.keepIn K (.ref f40)=true)
  (a41:PySem.W.nsIn K mainGlobals "law"=some (some (.ref f41)))
  (l41:K.lookup f41=some ⟨oc41,od41,.func (PySem.W.fnOf "law" "law" (n9 X4) (i9 X4) (e6 X4) .none kV41 dc41 pm41 an41 cd41 ct41),sl41⟩) (c41:PySem.W.codeIn K cd41 "law"=true) (k41:PySem.W.keepIn K (.ref f41)=true)
  {cNoPlace:Addr}
  (xaNoPlace:PySem.W.nsIn K mainGlobals "NoPlace"=some (some (.ref cNoPlace)))
  (xeNoPlace:PySem.W.excIn K cNoPlace [.type "ValueError",.type "Exception",.type "BaseException",.type "object"] "ValueError.__new__"=true)
  (z1:PySem.W.nsIn K mainGlobals "isinstance"=some none)
  (z2:PySem.W.nsIn K mainGlobals "str"=some none)
  (z3:PySem.W.nsIn K mainGlobals "set"=some none)
  (z4:PySem.W.nsIn K mainGlobals "reversed"=some none)
  (z5:PySem.W.nsIn K mainGlobals "len"=some none)
  (z6:PySem.W.nsIn K mainGlobals "int"=some none)
  (z7:PySem.W.nsIn K mainGlobals "list"=some none)
  (z8:PySem.W.nsIn K mainGlobals "range"=some none)
  (z9:PySem.W.nsIn K mainGlobals "tuple"=some none)
  (z10:PySem.W.nsIn K mainGlobals "dict"=some none)
  (z11:PySem.W.nsIn K mainGlobals "sorted"=some none)
  (z12:PySem.W.nsIn K mainGlobals "max"=some none)
  (z13:PySem.W.nsIn K mainGlobals "repr"=some none) :
  ∃fd:FuncData,(∀(s:Shared) (v:Value),BindsTo s fd ⟨[v],[]⟩ [("_law_script",v)])/\∀base:Heap,K.In base->base.Ns mainGlobals mg->x5 l.prog w K mg base O9 8 fa fd ["_law_script"] (sx K):=by
 have e:=hfa.symm.trans (PySem.W.mg_of X G a41)
 cases e
 have F1:=p7 (st:=V7) l1 c1 k1
 have b1:=F1.binds (ps:=["curve"]) fun _ _ _ _ _ _ us hl=>match us,hl with | [_],_=>rfl
 have m1:=PySem.W.mg_of X G a1
 have F2:=p7 (st:=R5) l2 c2 k2
 have b2:=F2.binds (ps:=["rows"]) fun _ _ _ _ _ _ us hl=>match us,hl with | [_],_=>rfl
 have m2:=PySem.W.mg_of X G a2
 have F3:=p7 (st:=P9) l3 c3 k3
 have b3:=F3.binds (ps:=["board"]) fun _ _ _ _ _ _ us hl=>match us,hl with | [_],_=>rfl
 have m3:=PySem.W.mg_of X G a3
 have F4:=p7 (st:=V9) l4 c4 k4
 have b4:=F4.binds (ps:=["board"]) fun _ _ _ _ _ _ us hl=>match us,hl with | [_],_=>rfl
 have m4:=PySem.W.mg_of X G a4
 have F5:=p7 (st:=P8) l5 c5 k5
 have b5:=F5.binds (ps:=["board","thing"]) fun _ _ _ _ _ _ us hl=>match us,hl with | [_,_],_=>rfl
 have m5:=PySem.W.mg_of X G a5
 have F6:=p7 (st:=T9) l6 c6 k6
 have b6:=F6.binds (ps:=["board","thing"]) fun _ _ _ _ _ _ us hl=>match us,hl with | [_,_],_=>rfl
 have m6:=PySem.W.mg_of X G a6
 have F7:=p7 (st:=Q0) l7 c7 k7
 have b7:=F7.binds (ps:=["board","thing"]) fun _ _ _ _ _ _ us hl=>match us,hl with | [_,_],_=>rfl
 have m7:=PySem.W.mg_of X G a7
 have F8:=p7 (st:=bI) l8 c8 k8
 have b8:=F8.binds (ps:=["guards","name"]) fun _ _ _ _ _ _ us hl=>match us,hl with | [_,_],_=>rfl
 have m8:=PySem.W.mg_of X G a8
 have F9:=p7 (st:=gC) l9 c9 k9
 have b9:=F9.binds (ps:=["board","place"]) fun _ _ _ _ _ _ us hl=>match us,hl with | [_,_],_=>rfl
 have m9:=PySem.W.mg_of X G a9
 have F10:=p7 (st:=L9) l10 c10 k10
 have b10:=F10.binds (ps:=["board","opened"]) fun _ _ _ _ _ _ us hl=>match us,hl with | [_,_],_=>rfl
 have m10:=PySem.W.mg_of X G a10
 have F11:=p7 (st:=L8) l11 c11 k11
 have b11:=F11.binds (ps:=["board","lit","pulls"]) fun _ _ _ _ _ _ us hl=>match us,hl with | [_,_,_],_=>rfl
 have m11:=PySem.W.mg_of X G a11
 have F12:=p7 (st:=du) l12 c12 k12
 have b12:=F12.binds (ps:=["board","opened","pulls"]) fun _ _ _ _ _ _ us hl=>match us,hl with | [_,_,_],_=>rfl
 have m12:=PySem.W.mg_of X G a12
 have F13:=p7 (st:=gJ) l13 c13 k13
 have b13:=F13.binds (ps:=["board"]) fun _ _ _ _ _ _ us hl=>match us,hl with | [_],_=>rfl
 have m13:=PySem.W.mg_of X G a13
 have F14:=p7 (st:=bL) l14 c14 k14
 have b14:=F14.binds (ps:=["board","found"]) fun _ _ _ _ _ _ us hl=>match us,hl with | [_,_],_=>rfl
 have m14:=PySem.W.mg_of X G a14
 have F15:=p7 (st:=dI) l15 c15 k15
 have b15:=F15.binds (ps:=["board"]) fun _ _ _ _ _ _ us hl=>match us,hl with | [_],_=>rfl
 have m15:=PySem.W.mg_of X G a15
 have F16:=p7 (st:=L7) l16 c16 k16
 have b16:=F16.binds (ps:=["board"]) fun _ _ _ _ _ _ us hl=>match us,hl with | [_],_=>rfl
 have m16:=PySem.W.mg_of X G a16
 have F17:=p7 (st:=X8) l17 c17 k17
 have b17:=F17.binds (ps:=["board","place"]) fun _ _ _ _ _ _ us hl=>match us,hl with | [_,_],_=>rfl
 have m17:=PySem.W.mg_of X G a17
 have F18:=p7 (st:=U3) l18 c18 k18
 have b18:=F18.binds (ps:=["row"]) fun _ _ _ _ _ _ us hl=>match us,hl with | [_],_=>rfl
 have m18:=PySem.W.mg_of X G a18
 have F19:=p7 (st:=cY) l19 c19 k19
 have b19:=F19.binds (ps:=["board","most"]) fun _ _ _ _ _ _ us hl=>match us,hl with | [_,_],_=>rfl
 have m19:=PySem.W.mg_of X G a19
 have F20:=p7 (st:=aY) l20 c20 k20
 have b20:=F20.binds (ps:=["_law_script","_law_k"]) fun _ _ _ _ _ _ us hl=>match us,hl with | [_,_],_=>rfl
 have m20:=PySem.W.mg_of X G a20
 have F21:=p7 (st:=iK) l21 c21 k21
 have b21:=F21.binds (ps:=["_law_script","_law_k"]) fun _ _ _ _ _ _ us hl=>match us,hl with | [_,_],_=>rfl
 have m21:=PySem.W.mg_of X G a21
 have F22:=p7 (st:=iF) l22 c22 k22
 have b22:=F22.binds (ps:=["_law_feed_here","_law_many"]) fun _ _ _ _ _ _ us hl=>match us,hl with | [_,_],_=>rfl
 have m22:=PySem.W.mg_of X G a22
 have F23:=p7 (st:=X1) l23 c23 k23
 have b23:=F23.binds (ps:=["_law_feed_here","_law_many"]) fun _ _ _ _ _ _ us hl=>match us,hl with | [_,_],_=>rfl
 have m23:=PySem.W.mg_of X G a23
 have F24:=p7 (st:=df) l24 c24 k24
 have b24:=F24.binds (ps:=["_law_board"]) fun _ _ _ _ _ _ us hl=>match us,hl with | [_],_=>rfl
 have m24:=PySem.W.mg_of X G a24
 have F25:=p7 (st:=Q9) l25 c25 k25
 have b25:=F25.binds (ps:=["_law_feed_here","_law_unit","_law_time"]) fun _ _ _ _ _ _ us hl=>match us,hl with | [_,_,_],_=>rfl
 have m25:=PySem.W.mg_of X G a25
 have F26:=p7 (st:=W7) l26 c26 k26
 have b26:=F26.binds (ps:=["_law_guard","_law_more"]) fun _ _ _ _ _ _ us hl=>match us,hl with | [_,_],_=>rfl
 have m26:=PySem.W.mg_of X G a26
 have F27:=p7 (st:=bO) l27 c27 k27
 have b27:=F27.binds (ps:=["_law_board"]) fun _ _ _ _ _ _ us hl=>match us,hl with | [_],_=>rfl
 have m27:=PySem.W.mg_of X G a27
 have F28:=p7 (st:=Q3) l28 c28 k28
 have b28:=F28.binds (ps:=["_law_script","_law_names_here","_law_unit","_law_time"]) fun _ _ _ _ _ _ us hl=>match us,hl with | [_,_,_,_],_=>rfl
 have m28:=PySem.W.mg_of X G a28
 have F29:=p7 (st:=U4) l29 c29 k29
 have b29:=F29.binds (ps:=["_law_script","_law_names_here","_law_guards","_law_unit","_law_time"]) fun _ _ _ _ _ _ us hl=>match us,hl with | [_,_,_,_,_],_=>rfl
 have m29:=PySem.W.mg_of X G a29
 have F30:=p7 (st:=R4) l30 c30 k30
 have b30:=F30.binds (ps:=["_law_script","_law_unit","_law_time"]) fun _ _ _ _ _ _ us hl=>match us,hl with | [_,_,_],_=>rfl
 have m30:=PySem.W.mg_of X G a30
 have F31:=p7 (st:=ed) l31 c31 k31
 have b31:=F31.binds (ps:=["_law_board","_law_place"]) fun _ _ _ _ _ _ us hl=>match us,hl with | [_,_],_=>rfl
 have m31:=PySem.W.mg_of X G a31
 have F32:=p7 (st:=dw) l32 c32 k32
 have b32:=F32.binds (ps:=["_law_path_here","_law_most_here"]) fun _ _ _ _ _ _ us hl=>match us,hl with | [_,_],_=>rfl
 have m32:=PySem.W.mg_of X G a32
 have F33:=p7 (st:=dm) l33 c33 k33
 have b33:=F33.binds (ps:=["_law_board"]) fun _ _ _ _ _ _ us hl=>match us,hl with | [_],_=>rfl
 have m33:=PySem.W.mg_of X G a33
 have F34:=p7 (st:=S4) l34 c34 k34
 have b34:=F34.binds (ps:=["_law_board"]) fun _ _ _ _ _ _ us hl=>match us,hl with | [_],_=>rfl
 have m34:=PySem.W.mg_of X G a34
 have F35:=p7 (st:=dt) l35 c35 k35
 have b35:=F35.binds (ps:=["_law_script"]) fun _ _ _ _ _ _ us hl=>match us,hl with | [_],_=>rfl
 have m35:=PySem.W.mg_of X G a35
 have F36:=p7 (st:=iJ) l36 c36 k36
 have b36:=F36.binds (ps:=["_law_feed_here","_law_path_here","_law_unit"]) fun _ _ _ _ _ _ us hl=>match us,hl with | [_,_,_],_=>rfl
 have m36:=PySem.W.mg_of X G a36
 have F37:=p7 (st:=U2) l37 c37 k37
 have b37:=F37.binds (ps:=["_law_board"]) fun _ _ _ _ _ _ us hl=>match us,hl with | [_],_=>rfl
 have m37:=PySem.W.mg_of X G a37
 have F38:=p7 (st:=jf) l38 c38 k38
 have b38:=F38.binds (ps:=["_law_script"]) fun _ _ _ _ _ _ us hl=>match us,hl with | [_],_=>rfl
 have m38:=PySem.W.mg_of X G a38
 have F39:=p7 (st:=bA) l39 c39 k39
 have b39:=F39.binds (ps:=["_law_path_here","_law_at","_law_greatness"]) fun _ _ _ _ _ _ us hl=>match us,hl with | [_,_,_],_=>rfl
 have m39:=PySem.W.mg_of X G a39
 have F40:=p7 (st:=aT) l40 c40 k40
 have b40:=F40.binds (ps:=["_law_board","_law_most_here"]) fun _ _ _ _ _ _ us hl=>match us,hl with | [_,_],_=>rfl
 have m40:=PySem.W.mg_of X G a40
 have F41:=p7 (st:=X4) l41 c41 k41
 have q1:=PySem.W.mg_none_of X G z1
 have q2:=PySem.W.mg_none_of X G z2
 have q3:=PySem.W.mg_none_of X G z3
 have q4:=PySem.W.mg_none_of X G z4
 have q5:=PySem.W.mg_none_of X G z5
 have q6:=PySem.W.mg_none_of X G z6
 have q7:=PySem.W.mg_none_of X G z7
 have q8:=PySem.W.mg_none_of X G z8
 have q9:=PySem.W.mg_none_of X G z9
 have q10:=PySem.W.mg_none_of X G z10
 have q11:=PySem.W.mg_none_of X G z11
 have q12:=PySem.W.mg_none_of X G z12
 have q13:=PySem.W.mg_none_of X G z13
 have xmNoPlace:=PySem.W.mg_of X G xaNoPlace
 refine⟨PySem.W.fnOf "law" "law" (n9 X4) (i9 X4) (e6 X4) .none kV41 dc41 pm41 an41 cd41 ct41,fun s v=>.of_eq rfl,fun base KB GB=>?_⟩
 have CLeastOf:A5 l.prog w K mg base "least_of" 1 ["curve"] (w5 K G3) f1 _:=⟨tm F1 pZ uP,m1,k1,b1⟩
 have CNamesOf:A5 l.prog w K mg base "names_of" 1 ["rows"] (w5 K G7) f2 _:=⟨vF F2 qw tB,m2,k2,b2⟩
 have CGuardsOf:A5 l.prog w K mg base "guards_of" 2 ["board"] (w5 K C8) f3 _:=⟨qO F3 CNamesOf oA ql,m3,k3,b3⟩
 have CLoadsOf:A5 l.prog w K mg base "loads_of" 2 ["board"] (w5 K N1) f4 _:=⟨tW F4 CNamesOf oS tQ,m4,k4,b4⟩
 have CHasGuard:A5 l.prog w K mg base "has_guard" 3 ["board","thing"] (w5 K J9) f5 _:=⟨pW F5 CGuardsOf q1 q2 mQ qu,m5,k5,b5⟩
 have CHasLoad:A5 l.prog w K mg base "has_load" 3 ["board","thing"] (w5 K N6) f6 _:=⟨vj F6 CLoadsOf q1 q2 qP uu,m6,k6,b6⟩
 have CHasPlace:A5 l.prog w K mg base "has_place" 4 ["board","thing"] (w5 K K2) f7 _:=⟨pC F7 CHasGuard CHasLoad lO pP,m7,k7,b7⟩
 have CClimb:A5 l.prog w K mg base "climb" 1 ["guards","name"] (w5 K aq) f8 _:=⟨Ea F8 wj Bf,m8,k8,b8⟩
 have COver:Ik l.prog w K mg base "over" 5 ["board","place"] (JM K mg eh) f9 _:=⟨Ie F9 CHasPlace CClimb (PySem.W.Ji KB GB xaNoPlace xeNoPlace) Bt HA,m9,k9,b9⟩
 have CFedGuards:A5 l.prog w K mg base "fed_guards" 1 ["board","opened"] (w5 K D5) f10 _:=⟨oa F10 q3 kJ lL,m10,k10,b10⟩
 have CDrawsFed:A5 l.prog w K mg base "draws_fed" 1 ["board","lit","pulls"] (w5 K J6) f11 _:=⟨qb F11 q4 nM oY,m11,k11,b11⟩
 have CDraws:A5 l.prog w K mg base "draws" 2 ["board","opened","pulls"] (w5 K az) f12 _:=⟨DH F12 CFedGuards CDrawsFed zO BU,m12,k12,b12⟩
 have CRest:A5 l.prog w K mg base "rest" 3 ["board"] (w5 K bf) f13 _:=⟨FP F13 CDraws Bo Hv,m13,k13,b13⟩
 have CAwake:A5 l.prog w K mg base "awake" 2 ["board","found"] (w5 K ae) f14 _:=⟨Ck F14 CLeastOf ym DN,m14,k14,b14⟩
 have CLoudG:A5 l.prog w K mg base "loud" 4 ["board"] (w5 K aE) f15 _:=⟨DY F15 CRest CAwake Am Bh,m15,k15,b15⟩
 have CQuietRest:A5 l.prog w K mg base "quiet_rest" 5 ["board"] (w5 K D2) f16 _:=⟨kW F16 CRest CLoudG jC nJ,m16,k16,b16⟩
 have CWayOf:A5 l.prog w K mg base "way_of" 6 ["board","place"] (w5 K aI) f17 _:=⟨CK F17 COver CQuietRest As DQ,m17,k17,b17⟩
 have CWakesAt:A5 l.prog w K mg base "wakes_at" 2 ["row"] (w5 K D3) f18 _:=⟨vh F18 CLeastOf qD uZ,m18,k18,b18⟩
 have CBlind:A5 l.prog w K mg base "blind" 7 ["board","most"] (w5 K T2) f19 _:=⟨Di F19 CGuardsOf CWayOf CWakesAt vL AH,m19,k19,b19⟩
 have CCellAt:A5 l.prog w K mg base "_law_cell_at" 1 ["_law_script","_law_k"] (w5 K S1) f20 _:=⟨zD F20 q5 tF zu,m20,k20,b20⟩
 have CFeed:A5 l.prog w K mg base "_law_feed" 2 ["_law_script","_law_k"] (w5 K O3) f21 _:=⟨HM F21 CCellAt DG Gw,m21,k21,b21⟩
 have CTake:A5 l.prog w K mg base "_law_take" 1 ["_law_feed_here","_law_many"] (fW K p9) f22 _:=⟨GF F22 AZ FG,m22,k22,b22⟩
 have CNames:A5 l.prog w K mg base "_law_names" 2 ["_law_feed_here","_law_many"] (fW K aa) f23 _:=⟨AK F23 CTake q6 q7 q8 yt Ec,m23,k23,b23⟩
 have COvers:A5 l.prog w K mg base "_law_overs" 1 ["_law_board"] (w5 K T1) f24 _:=⟨DD F24 xb CW,m24,k24,b24⟩
 have CSmCurve:A5 l.prog w K mg base "_law_small_curve" 2 ["_law_feed_here","_law_unit","_law_time"] (fW K N2) f25 _:=⟨uN F25 CTake q8 q9 qa uM,m25,k25,b25⟩
 have CLifted:A5 l.prog w K mg base "_law_lifted" 1 ["_law_guard","_law_more"] (w5 K M6) f26 _:=⟨xJ F26 q9 vq zF,m26,k26,b26⟩
 have CRestL:A5 l.prog w K mg base "_law_rest" 2 ["_law_board"] (w5 K L0) f27 _:=⟨Cf F27 COvers q10 q6 wO Dx,m27,k27,b27⟩
 have CSmGuards:A5 l.prog w K mg base "_law_small_guards" 3 ["_law_script","_law_names_here","_law_unit","_law_time"] (w5 K K5) f28 _:=⟨rh F28 CFeed CTake CSmCurve q6 q5 q8 nP oU,m28,k28,b28⟩
 have CSmLoads:A5 l.prog w K mg base "_law_small_loads" 3 ["_law_script","_law_names_here","_law_guards","_law_unit","_law_time"] (w5 K O1) f29 _:=⟨tD F29 CFeed CTake q5 q8 q9 qf uG,m29,k29,b29⟩
 have CSmBoard:A5 l.prog w K mg base "_law_small_board" 4 ["_law_script","_law_unit","_law_time"] (w5 K N3) f30 _:=⟨uI F30 CFeed CTake CNames CLifted CRestL CSmGuards CSmLoads q9 pF uH,m30,k30,b30⟩
 have CPath:A5 l.prog w K mg base "_law_path" 3 ["_law_board","_law_place"] (w5 K bc) f31 _:=⟨HX F31 COvers CRestL q10 Dc HF,m31,k31,b31⟩
 have CLowsL:A5 l.prog w K mg base "_law_lows" 1 ["_law_path_here","_law_most_here"] (w5 K ai) f32 _:=⟨Du F32 q7 q11 xw BF,m32,k32,b32⟩
 have CLoudL:A5 l.prog w K mg base "_law_loud" 3 ["_law_board"] (w5 K Z3) f33 _:=⟨AU F33 CRestL wJ CJ,m33,k33,b33⟩
 have CPlaces:A5 l.prog w K mg base "_law_places" 1 ["_law_board"] (w5 K S3) f34 _:=⟨zi F34 vw yF,m34,k34,b34⟩
 have CSized:A5 l.prog w K mg base "_law_sized" 5 ["_law_script"] (w5 K Z9) f35 _:=⟨CU F35 CFeed CTake CSmBoard Af Cz,m35,k35,b35⟩
 have CMost:A5 l.prog w K mg base "_law_most" 2 ["_law_feed_here","_law_path_here","_law_unit"] (fW K ez) f36 _:=⟨Ig F36 CTake q5 q12 BX GO,m36,k36,b36⟩
 have CSighted:A5 l.prog w K mg base "_law_sighted" 3 ["_law_board"] (w5 K N4) f37 _:=⟨vC F37 CLifted CRestL q12 q9 qW tR,m37,k37,b37⟩
 have CCase:A5 l.prog w K mg base "_law_case" 6 ["_law_script"] (w5 K dX) f38 _:=⟨FE F38 CFeed CTake CPath CPlaces CSized CMost CSighted q5 AQ Hg,m38,k38,b38⟩
 have CTurns:A5 l.prog w K mg base "_law_turns" 1 ["_law_path_here","_law_at","_law_greatness"] (w5 K X6) f39 _:=⟨AO F39 q5 wH Dw,m39,k39,b39⟩
 have CBlindL:A5 l.prog w K mg base "_law_blind" 4 ["_law_board","_law_most_here"] (w5 K P7) f40 _:=⟨xX F40 CPath CLowsL CTurns q5 q8 tY Ac,m40,k40,b40⟩
 exact(Co F41 CBlind CLoudL CCase CBlindL q13 wX Cs).imp Gi
theorem walk{l:PySem.W.OpenLaw}{q:Program}{loose:List Str}{XP:(Str->Option Value)->Heap->Prop}{YP:World->Heap->Prop}{d:DefRec}{K:Params->PySem.W.Frag}(hn:l.most=some 63)(hdf:d.params.defaults=[])
  (hY:∀(w:World) (h:Heap),YP w h->(K w.params).In h)
  (F:∀(w:World) (mg:Str->Option Value) (fa:Addr) (h:Heap),(K w.params).In h->h.Ns mainGlobals mg->mg d.name=some (.ref fa) ->
   ∃fd:FuncData,(∀(s:Shared) (u:Value),BindsTo s fd ⟨[u],[]⟩ [("_law_script",u)])/\∀base:Heap,(K w.params).In base->base.Ns mainGlobals mg->x5 l.prog w (K w.params) mg base O9 8 fa fd ["_law_script"] (sx (K w.params))) :
  PySem.W.WalkO q loose XP YP l.row.toRowW d [] (fun f vs=>PySem.call f vs):=
 L2.CP (n:=63) (k:=8) (x:="_law_script") (CX:=fun _=>O9) (sp:=fun w=>sx (K w.params)) hn (by decide) hdf ⟨rfl,by decide,by decide,rfl⟩ hY F (fun _ _ a ns hl _ hS=>⟨a,ns,rfl,hS,hl,fun _=>rfl⟩) fun _ _ _ _ _ z=>z
end My
end
open PySem PySem.W PyProof.Rows
set_option maxRecDepth 100000 in
set_option maxHeartbeats 0 in
theorem PySem.Challenge.cw_fuseboard_k50_blind_pairs_holds : PySem.Challenge.rw_fuseboard_k50_blind_pairs.Holds := by
 w_on;o_law;k_head;(case hw=>w_witness2)
 k_fill
 refine My.walk (l:=PySem.Challenge.rw_fuseboard_k50_blind_pairs) rfl rfl (fun w h Y=>PySem.W.kIn_of Y) ?F
 case F=>
  intro w mg fa h KX G hmg
  refine' My.all_mk KX G hmg ?a1 ?l1 ?c1 ?k1 ?a2 ?l2 ?c2 ?k2 ?a3 ?l3 ?c3 ?k3 ?a4 ?l4 ?c4 ?k4 ?a5 ?l5 ?c5 ?k5 ?a6 ?l6 ?c6 ?k6 ?a7 ?l7 ?c7 ?k7 ?a8 ?l8 ?c8 ?k8 ?a9 ?l9 ?c9 ?k9 ?a10 ?l10 ?c10 ?k10 ?a11 ?l11 ?c11 ?k11 ?a12 ?l12 ?c12 ?k12 ?a13 ?l13 ?c13 ?k13 ?a14 ?l14 ?c14 ?k14 ?a15 ?l15 ?c15 ?k15 ?a16 ?l16 ?c16 ?k16 ?a17 ?l17 ?c17 ?k17 ?a18 ?l18 ?c18 ?k18 ?a19 ?l19 ?c19 ?k19 ?a20 ?l20 ?c20 ?k20 ?a21 ?l21 ?c21 ?k21 ?a22 ?l22 ?c22 ?k22 ?a23 ?l23 ?c23 ?k23 ?a24 ?l24 ?c24 ?k24 ?a25 ?l25 ?c25 ?k25 ?a26 ?l26 ?c26 ?k26 ?a27 ?l27 ?c27 ?k27 ?a28 ?l28 ?c28 ?k28 ?a29 ?l29 ?c29 ?k29 ?a30 ?l30 ?c30 ?k30 ?a31 ?l31 ?c31 ?k31 ?a32 ?l32 ?c32 ?k32 ?a33 ?l33 ?c33 ?k33 ?a34 ?l34 ?c34 ?k34 ?a35 ?l35 ?c35 ?k35 ?a36 ?l36 ?c36 ?k36 ?a37 ?l37 ?c37 ?k37 ?a38 ?l38 ?c38 ?k38 ?a39 ?l39 ?c39 ?k39 ?a40 ?l40 ?c40 ?k40 ?a41 ?l41 ?c41 ?k41 ?xaNoPlace ?xeNoPlace ?z1 ?z2 ?z3 ?z4 ?z5 ?z6 ?z7 ?z8 ?z9 ?z10 ?z11 ?z12 ?z13
  (case a1|l1|c1|k1|a2|l2|c2|k2|a3|l3|c3|k3|a4|l4|c4|k4|a5|l5|c5|k5|a6|l6|c6|k6|a7|l7|c7|k7|a8|l8|c8|k8|a9|l9|c9|k9|a10|l10|c10|k10|a11|l11|c11|k11|a12|l12|c12|k12|a13|l13|c13|k13|a14|l14|c14|k14|a15|l15|c15|k15|a16|l16|c16|k16|a17|l17|c17|k17|a18|l18|c18|k18|a19|l19|c19|k19|a20|l20|c20|k20|a21|l21|c21|k21|a22|l22|c22|k22|a23|l23|c23|k23|a24|l24|c24|k24|a25|l25|c25|k25|a26|l26|c26|k26|a27|l27|c27|k27|a28|l28|c28|k28|a29|l29|c29|k29|a30|l30|c30|k30|a31|l31|c31|k31|a32|l32|c32|k32|a33|l33|c33|k33|a34|l34|c34|k34|a35|l35|c35|k35|a36|l36|c36|k36|a37|l37|c37|k37|a38|l38|c38|k38|a39|l39|c39|k39|a40|l40|c40|k40|a41|l41|c41|k41|xaNoPlace=>k_is)
  (case xeNoPlace=>first | kernel_rfl | k_qdec | decide +kernel)
  (case z1|z2|z3|z4|z5|z6|z7|z8|z9|z10|z11|z12|z13=>k_is)
#print axioms PySem.Challenge.cw_fuseboard_k50_blind_pairs_holds
