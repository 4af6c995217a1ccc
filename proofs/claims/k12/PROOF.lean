import PyProof.Rows.All
import Wide.All
import OpenK.AllK
import Wide.FinOn
import Lean
import PyProof.EqAt
import PyProof.EqKinds
import PyProof.TupleCall
import PyProof.NeKinds
import PyProof.WalksEnum
import PyProof.EnumMake
import PyProof.ZipIter
import PyProof.Draws
import PyProof.DictIter
import PyProof.DictWalks
import PyProof.Rows.DictUnroll
import PyProof.DictCompW
import PyProof.ReprRoads
import PyProof.ReprLen
import PyProof.P3Eq
import PyProof.Rows.FStr
import PyProof.Rows.StrSplitAre
import PyProof.Rows.StrItems
import PyProof.Rows.FStrParts
import KE.KIntText
import PyProof.StrWalks
import PyProof.MeetsStr
import PyProof.Rows.ReprOcc
import PyProof.StrLawsTight
import PyProof.StationsW
import PyProof.Rows.TopTwo
import PyProof.RulesAs
import PyProof.RulesDel
import PyProof.ExcArgs
import OpenK.KOwn
import KE.KRevIter
import PyProof.Rows.StrLen
import PyProof.SliceStr2
import PyProof.StrBlockI
import KE.KDictOf
import PyProof.AttrMissSeq
import KE.KRevSl
import PyProof.Rows.SetFrom
import PyProof.WalksMore
import PyProof.SetRoads
import KE.KEqDict
import PyProof.Rows.SumAny
import PyProof.InstStore
import PyProof.InstStoreFacts
import PySem.Challenge.RW_fuseboard_k12_boards_let_by
set_option Elab.async false
set_option linter.all false
set_option genSizeOf false
set_option genSizeOfSpec false
set_option maxRecDepth 100000
def PySem.W.Fast.tw12109367636871649852:Unit:=()
def PySem.W.Fast.tw13242590246808279120:Unit:=()
def PySem.W.Fast.tw5138942510768582337:Unit:=()
def PySem.W.Fast.tw10994340875022972630:Unit:=()
def PySem.W.Fast.tw15039970299118932052:Unit:=()
def PySem.W.Fast.tw17949103839154696109:Unit:=()
def PySem.W.Fast.tw2656465659621576898:Unit:=()
def PySem.W.Fast.tw16258974530978297254:Unit:=()
def PySem.W.Fast.tw12342940244030387772:Unit:=()
def PySem.W.Fast.tw16731707003062573228:Unit:=()
def PySem.W.Fast.tw17647140925118101347:Unit:=()
def PySem.W.Fast.tw15253685375920510226:Unit:=()
def PySem.W.Fast.tw5198019402377937321:Unit:=()
def PySem.W.Fast.tw15655393811916147393:Unit:=()
def PySem.W.Fast.tw1331035615072181885:Unit:=()
def PySem.W.Fast.tw10280298139088368030:Unit:=()
def PySem.W.Fast.tw13868590813315697891:Unit:=()
def PySem.W.Fast.tw2078572836091792157:Unit:=()
def PySem.W.Fast.tw3306549943942154670:Unit:=()
def PySem.W.Fast.tw7052426441891011054:Unit:=()
def PySem.W.Fast.tw14030500138080177744:Unit:=()
def PySem.W.Fast.tw11032467466643879875:Unit:=()
def PySem.W.Fast.tw7119741530143691563:Unit:=()
def PySem.W.Fast.tw4751343586428847755:Unit:=()
def PySem.W.Fast.tw12310272099458578161:Unit:=()
def PySem.W.Fast.tw14798632988322473524:Unit:=()
def PySem.W.Fast.tw15601984568936714526:Unit:=()
def PySem.W.Fast.tw11238516414427874353:Unit:=()
def PySem.W.Fast.tw658363394993552314:Unit:=()
def PySem.W.Fast.tw9120737256716377345:Unit:=()
def PySem.W.Fast.tw10405130269719725737:Unit:=()
def PySem.W.Fast.tw5697997640022796623:Unit:=()
def PySem.W.Fast.tw10645634927585898312:Unit:=()
def PySem.W.Fast.tw8940581544514344981:Unit:=()
def PySem.W.Fast.tw4479385446853959456:Unit:=()
def PySem.W.Fast.tw4605957345398539246:Unit:=()
def PySem.W.Fast.tw824526719109719847:Unit:=()
def PySem.W.Fast.tw17684294956688847032:Unit:=()
def PySem.W.Fast.tw4019896690454620860:Unit:=()
def PySem.W.Fast.tw7958884792584739951:Unit:=()
def PySem.W.Fast.tw8792936447153360732:Unit:=()
def PySem.W.Fast.tw9925493979666221873:Unit:=()
def PySem.W.Fast.tw6854241032960394701:Unit:=()
def PySem.W.Fast.tw17716425358322766044:Unit:=()
def PySem.W.Fast.tw3037902841173229611:Unit:=()
def PySem.W.Fast.tw4909097547858196112:Unit:=()
def PySem.W.Fast.tw11112877733470842065:Unit:=()
def PySem.W.Fast.tw13179012289664007931:Unit:=()
def PySem.W.Fast.tw1921053061876817739:Unit:=()
def PySem.W.Fast.tw11382377290898791864:Unit:=()
def PySem.W.Fast.tw5728146593898988074:Unit:=()
def PySem.W.Fast.tw6926505583341960160:Unit:=()
def PySem.W.Fast.tw9411432170423322113:Unit:=()
def PySem.W.Fast.tw7260859177659234649:Unit:=()
def PySem.W.Fast.tw7707857762207377274:Unit:=()
def PySem.W.Fast.tw14940594151222474957:Unit:=()
def PySem.W.Fast.tw16662101201340470918:Unit:=()
def PySem.W.Fast.tw12739528449565305718:Unit:=()
def PySem.W.Fast.tw2649564034183910210:Unit:=()
def PySem.W.Fast.tw13489374853319814613:Unit:=()
def PySem.W.Fast.tw5930282826291254438:Unit:=()
def PySem.W.Fast.tw10326156227628826806:Unit:=()
def PySem.W.Fast.tw5811948121456751187:Unit:=()
def PySem.W.Fast.tw9404967952349199801:Unit:=()
def PySem.W.Fast.tw1464683136337073764:Unit:=()
def PySem.W.Fast.tw1482608632204531577:Unit:=()
def PySem.W.Fast.tw3052074732426791991:Unit:=()
def PySem.W.Fast.tw2988762826225991984:Unit:=()
def PySem.W.Fast.tw2619438521808301917:Unit:=()
def PySem.W.Fast.tw4856791053662906866:Unit:=()
def PySem.W.Fast.tw1507987563893437780:Unit:=()
def PySem.W.Fast.tw5538165007843975787:Unit:=()
def PySem.W.Fast.tw1845295484853696857:Unit:=()
def PySem.W.Fast.tw2550884948892044141:Unit:=()
def PySem.W.Fast.tw8206212612288443880:Unit:=()
def PySem.W.Fast.tw13820222299068345886:Unit:=()
def PySem.W.Fast.tw1627025412711367503:Unit:=()
def PySem.W.Fast.tw15838477484192076089:Unit:=()
def PySem.W.Fast.tw1538009452549111991:Unit:=()
def PySem.W.Fast.tw14361453496044354496:Unit:=()
def PySem.W.Fast.tw9111992188803082832:Unit:=()
def PySem.W.Fast.tw13026175904126313193:Unit:=()
def PySem.W.Fast.tw2066952768682060718:Unit:=()
def PySem.W.Fast.tw18039543575516117575:Unit:=()
def PySem.W.Fast.tw4532564309411402586:Unit:=()
def PySem.W.Fast.tw11844581992312518691:Unit:=()
def PySem.W.Fast.tw2557665899631060620:Unit:=()
def PySem.W.Fast.tw6057131973447140615:Unit:=()
def PySem.W.Fast.tw17880316811167406386:Unit:=()
def PySem.W.Fast.tw14051178556489574856:Unit:=()
def PySem.W.Fast.tw6051810218994311679:Unit:=()
def PySem.W.Fast.tw7909985139977528914:Unit:=()
def PySem.W.Fast.tw4400167803474104612:Unit:=()
def PySem.W.Fast.tw4494134483612141046:Unit:=()
def PySem.W.Fast.tw7255822827564032195:Unit:=()
def PySem.W.Fast.tw3851825611732394269:Unit:=()
def PySem.W.Fast.tw3430887762564772305:Unit:=()
def PySem.W.Fast.tw4891412570798274708:Unit:=()
def PySem.W.Fast.tw9571859751678572113:Unit:=()
def PySem.W.Fast.tw2053412858038244699:Unit:=()
def PySem.W.Fast.tw3682909672111439426:Unit:=()
def PySem.W.Fast.tw2604994567799092551:Unit:=()
def PySem.W.Fast.tw4820684909731883862:Unit:=()
def PySem.W.Fast.tw14452983469645582473:Unit:=()
def PySem.W.Fast.tw973520191075532816:Unit:=()
def PySem.W.Fast.tw12130970100507007850:Unit:=()
def PySem.W.Fast.tw13106231194263272064:Unit:=()
def PySem.W.Fast.tw1316808772655502818:Unit:=()
def PySem.W.Fast.tw648883067634387756:Unit:=()
def PySem.W.Fast.tw5005029186372923468:Unit:=()
def PySem.W.Fast.tw1779903343648523773:Unit:=()
def PySem.W.Fast.tw13365230675927725488:Unit:=()
def PySem.W.Fast.tw191661815169073108:Unit:=()
def PySem.W.Fast.tw6743510774358632138:Unit:=()
def PySem.W.Fast.tw1023376731748627597:Unit:=()
def PySem.W.Fast.tw17585844184150487072:Unit:=()
def PySem.W.Fast.tw7751713183410357542:Unit:=()
def PySem.W.Fast.tw580563263749170269:Unit:=()
def PySem.W.Fast.tw17829606351249149123:Unit:=()
def PySem.W.Fast.tw2596692573351520711:Unit:=()
def PySem.W.Fast.tw15587137858301604483:Unit:=()
def PySem.W.Fast.tw10317545777183683165:Unit:=()
def PySem.W.Fast.tw1504456566267678354:Unit:=()
def PySem.W.Fast.tw1305325276221948032:Unit:=()
def PySem.W.Fast.tw13364308307697568820:Unit:=()
def PySem.W.Fast.tw7797264178763688665:Unit:=()
def PySem.W.Fast.tw17444956438413884112:Unit:=()
def PySem.W.Fast.tw13551301563333362596:Unit:=()
def PySem.W.Fast.tw5686297562343589806:Unit:=()
def PySem.W.Fast.tw14776520445376124935:Unit:=()
def PySem.W.Fast.tw912312544663028438:Unit:=()
def PySem.W.Fast.tw13628464153728518335:Unit:=()
def PySem.W.Fast.tw575097115560503322:Unit:=()
def PySem.W.Fast.tw10931098677404498180:Unit:=()
def PySem.W.Fast.tw4850191961711525706:Unit:=()
def PySem.W.Fast.tw13413198314316978986:Unit:=()
def PySem.W.Fast.tw7340333122475650590:Unit:=()
def PySem.W.Fast.tw11925210303104217061:Unit:=()
def PySem.W.Fast.tw4104945686539368849:Unit:=()
def PySem.W.Fast.tw14262225786819550071:Unit:=()
def PySem.W.Fast.tw6840918818073702600:Unit:=()
def PySem.W.Fast.tw1704900027586574413:Unit:=()
def PySem.W.Fast.tw15088389014357605436:Unit:=()
def PySem.W.Fast.tw3085708530585807174:Unit:=()
def PySem.W.Fast.tw14311830192068856423:Unit:=()
def PySem.W.Fast.tw15090598043405886824:Unit:=()
def PySem.W.Fast.tw14743555147370313738:Unit:=()
def PySem.W.Fast.tw4226622332705008703:Unit:=()
def PySem.W.Fast.tw14290877465577432917:Unit:=()
def PySem.W.Fast.tw10211309831942468690:Unit:=()
def PySem.W.Fast.tw10059414405044339632:Unit:=()
def PySem.W.Fast.tw756628895433177591:Unit:=()
def PySem.W.Fast.tw18114075322523517490:Unit:=()
def PySem.W.Fast.tw1220371502709851916:Unit:=()
def PySem.W.Fast.tw14525726424168724254:Unit:=()
def PySem.W.Fast.tw5750097278134851211:Unit:=()
def PySem.W.Fast.tw5817339483257758578:Unit:=()
def PySem.W.Fast.tw17440784611062358250:Unit:=()
def PySem.W.Fast.tw14655144611595235882:Unit:=()
def PySem.W.Fast.tw14030176597545673556:Unit:=()
def PySem.W.Fast.tw5668574049273738823:Unit:=()
def PySem.W.Fast.tw15602638459886563400:Unit:=()
def PySem.W.Fast.tw7461000095914945381:Unit:=()
def PySem.W.Fast.tw1502696763271866289:Unit:=()
def PySem.W.Fast.tw14277673498712803844:Unit:=()
def PySem.W.Fast.tw9398592618101034097:Unit:=()
def PySem.W.Fast.tw18360066212242598335:Unit:=()
def PySem.W.Fast.tw8878730758913978173:Unit:=()
def PySem.W.Fast.tw6750726072946715761:Unit:=()
def PySem.W.Fast.tw12805545836075646391:Unit:=()
def PySem.W.Fast.tw1152250085504638636:Unit:=()
def PySem.W.Fast.tw14339834949752185952:Unit:=()
def PySem.W.Fast.tw384538715693980080:Unit:=()
def PySem.W.Fast.tw13837519623282118403:Unit:=()
def PySem.W.Fast.tw15236291474327076105:Unit:=()
def PySem.W.Fast.tw16466815161125510588:Unit:=()
def PySem.W.Fast.tw15674531293976137987:Unit:=()
def PySem.W.Fast.tw4400106882340859001:Unit:=()
def PySem.W.Fast.tw17631976312658577875:Unit:=()
def PySem.W.Fast.tw14631643480481387191:Unit:=()
def PySem.W.Fast.tw12845110415668052330:Unit:=()
def PySem.W.Fast.tw14554976335824724841:Unit:=()
def PySem.W.Fast.tw15115242232500444626:Unit:=()
def PySem.W.Fast.tw15777856167421396902:Unit:=()
def PySem.W.Fast.tw8348787870489175220:Unit:=()
def PySem.W.Fast.tw8958333033867945695:Unit:=()
def PySem.W.Fast.tw13358191328822114639:Unit:=()
def PySem.W.Fast.tw2286270534987545369:Unit:=()
def PySem.W.Fast.tw16687467292475612211:Unit:=()
def PySem.W.Fast.tw3005735182400561317:Unit:=()
def PySem.W.Fast.tw767414808916789410:Unit:=()
def PySem.W.Fast.tw5611244156839408088:Unit:=()
def PySem.W.Fast.tw18021264767925142767:Unit:=()
def PySem.W.Fast.tw3737002348194070280:Unit:=()
def PySem.W.Fast.tw15238099490200639612:Unit:=()
def PySem.W.Fast.tw13990325141563732690:Unit:=()
def PySem.W.Fast.tw4474879279733049714:Unit:=()
def PySem.W.Fast.tw15668725051103252444:Unit:=()
def PySem.W.Fast.tw1956968452947762727:Unit:=()
def PySem.W.Fast.tw13452874816235158025:Unit:=()
def PySem.W.Fast.tw12620968899766426408:Unit:=()
def PySem.W.Fast.tw14878967911744918737:Unit:=()
def PySem.W.Fast.tw6850187479271737230:Unit:=()
def PySem.W.Fast.tw7934358413476687415:Unit:=()
def PySem.W.Fast.tw12133330686698506194:Unit:=()
def PySem.W.Fast.tw6971254587168888951:Unit:=()
def PySem.W.Fast.tw879954153551955508:Unit:=()
def PySem.W.Fast.tw17258843648136645201:Unit:=()
def PySem.W.Fast.tw2577168683739532974:Unit:=()
def PySem.W.Fast.tw8989421029380740998:Unit:=()
namespace L2
open PySem PySem.Spec PyProof.Rows
noncomputable abbrev Key:=Sum Int Str
noncomputable def dw:Key -> Value -> Bool
 | .inl k,v=>Value.isInt k v
 | .inr x,v=>Value.isStrOf x v
noncomputable def En (w:World):Key -> Int
 | .inl k=>hashInt k
 | .inr x=>hashStr w x
theorem r8:∀ {k:Key} {v:Value},dw k v = true -> (∃ i t,k = Sum.inl i /\ v = Value.int i t) \/ (∃ x t,k = Sum.inr x /\ v = Value.str x t)
 | .inl i,v,h=>by
  obtain ⟨t,e⟩:=Value.isInt_shape (k:=i) (v:=v) h
  exact .inl ⟨i,t,rfl,e⟩
 | .inr x,v,h=>by
  obtain ⟨t,e⟩:=Value.isStrOf_shape (x:=x) (v:=v) h
  exact .inr ⟨x,t,rfl,e⟩
theorem tE (i:Int) (t:Tok):dw (.inl i) (.int i t) = true:=by simp [dw,Value.isInt]
theorem tY (x:Str) (t:Tok):dw (.inr x) (.str x t) = true:=by simp [dw,Value.isStrOf]
theorem DR (a b:Int):decide ((Sum.inl a:Key) = Sum.inl b) = (a == b):=by
 by_cases e:a = b
 ·subst e; simp
 ·have h:¬ (Sum.inl a:Key) = Sum.inl b:=fun q=>e (Sum.inl.inj q)
  rw [decide_eq_false h]
  exact (beq_eq_false_iff_ne.mpr e).symm
theorem DF (a b:Str):decide ((Sum.inr a:Key) = Sum.inr b) = decide (a = b):=by
 by_cases e:a = b
 ·subst e; simp
 ·have h:¬ (Sum.inr a:Key) = Sum.inr b:=fun q=>e (Sum.inr.inj q)
  rw [decide_eq_false h,decide_eq_false e]
theorem Ca (a:Int) (b:Str):decide ((Sum.inl a:Key) = Sum.inr b) = false:=decide_eq_false (fun q=>nomatch q)
theorem DD (a:Str) (b:Int):decide ((Sum.inr a:Key) = Sum.inl b) = false:=decide_eq_false (fun q=>nomatch q)
noncomputable def w5 (prog:Program) (w:World):PySem.KeyKind prog w Key where
 is:=dw
 hash:=En w
 inj:=fun v a b ha hb=>by
  rcases r8 ha with ⟨i,t,rfl,rfl⟩ | ⟨x,t,rfl,rfl⟩
  ·rcases r8 hb with ⟨j,u,rfl,e⟩ | ⟨y,u,rfl,e⟩
   ·injection e with e1 _; rw [e1]
   ·exact nomatch e
  ·rcases r8 hb with ⟨j,u,rfl,e⟩ | ⟨y,u,rfl,e⟩
   ·exact nomatch e
   ·injection e with e1 _; rw [e1]
 byValue:=fun k v h=>by
  rcases r8 h with ⟨i,t,rfl,rfl⟩ | ⟨x,t,rfl,rfl⟩ <;> rfl
 pyHash:=fun hv h=>by
  rcases r8 hv with ⟨i,t,rfl,rfl⟩ | ⟨x,t,rfl,rfl⟩
  ·exact wpAny_pyHash_int h
  ·exact wpAny_pyHash_str h
 eqBool:=fun hu hv h=>by
  rcases r8 hu with ⟨i,t,rfl,rfl⟩ | ⟨x,t,rfl,rfl⟩
  ·rcases r8 hv with ⟨j,u,rfl,rfl⟩ | ⟨y,u,rfl,rfl⟩
   ·rw [DR] at h; exact wpAny_eqBool_int h
   ·rw [Ca] at h; exact SeqAt.EqAt.int_str i t y u _ _ _ _ h
  ·rcases r8 hv with ⟨j,u,rfl,rfl⟩ | ⟨y,u,rfl,rfl⟩
   ·rw [DD] at h; exact SeqAt.EqAt.str_int x t j u _ _ _ _ h
   ·rw [DF] at h; exact wpAny_eqBool_str h
 «strs»:=fun k x t v h=>by
  rcases r8 h with ⟨i,u,rfl,e⟩ | ⟨y,u,rfl,e⟩
  ·exact nomatch e
  ·injection e with e1 _
   subst e1
   cases v <;> rfl
theorem lL (prog:Program) (w:World) (i:Int) (t:Tok):(w5 prog w).is (.inl i) (.int i t) = true:=tE i t
theorem lA (prog:Program) (w:World) (x:Str) (t:Tok):(w5 prog w).is (.inr x) (.str x t) = true:=tY x t
end L2
namespace L2
open PySem PySem.Spec PyProof.Rows
inductive V where
 | non | bl (b:Bool) | int (i:Int) | str (x:Str) | byt (b:Array UInt8) | flt (b:UInt64) | ref (a:Addr) | ty (n:String)
 deriving DecidableEq
noncomputable def RelV:V -> Value -> Prop
 | .non,u=>u = Value.none
 | .bl b,u=>u = Value.bool b
 | .int i,u=>∃ t,u = Value.int i t
 | .str x,u=>∃ t,u = Value.str x t
 | .byt b,u=>∃ t,u = Value.bytes b t
 | .flt b,u=>∃ t,u = Value.float b t
 | .ref a,u=>u = Value.ref a
 | .ty n,u=>u = Value.type n
noncomputable abbrev Vals:List V -> List Value -> Prop:=Paired RelV
theorem Vals.length {xs:List V} {us:List Value} (r:Vals xs us):xs.length = us.length:=Paired.length r
theorem Vals.get:∀ {xs:List V} {us:List Value} {i:Nat} {x:V},Vals xs us -> xs[i]? = some x -> ∃ u,us[i]? = some u /\ RelV x u
 | _,_,_,_,.nil,e=>by simp at e
 | _,_,0,_,.cons r _,e=>by simp at e; subst e; exact ⟨_,rfl,r⟩
 | _,_,i + 1,x,.cons _ t,e=>by
  obtain ⟨u,h1,h2⟩:=Vals.get (i:=i) (x:=x) t (by simpa using e)
  exact ⟨u,by simpa using h1,h2⟩
theorem Vals.set {x:V} {u:Value} (r:RelV x u):∀ {xs:List V} {us:List Value} (i:Nat),Vals xs us -> Vals (xs.set i x) (us.set i u)
 | _,_,_,.nil=>.nil
 | _,_,0,.cons _ t=>.cons r t
 | _,_,i + 1,.cons q t=>.cons q (Vals.set r i t)
theorem Vals.append:∀ {xs ys:List V} {us ws:List Value},Vals xs us -> Vals ys ws -> Vals (xs ++ ys) (us ++ ws)
 | _,_,_,_,.nil,s=>s
 | _,_,_,_,.cons r t,s=>.cons r (Vals.append t s)
theorem Vals.take:∀ {xs:List V} {us:List Value} (n:Nat),Vals xs us -> Vals (xs.take n) (us.take n)
 | _,_,0,_=>.nil
 | _,_,_ + 1,.nil=>.nil
 | _,_,n + 1,.cons r t=>.cons r (Vals.take n t)
theorem Vals.drop:∀ {xs:List V} {us:List Value} (n:Nat),Vals xs us -> Vals (xs.drop n) (us.drop n)
 | _,_,0,r=>r
 | _,_,_ + 1,.nil=>.nil
 | _,_,n + 1,.cons _ t=>Vals.drop n t
noncomputable def ag:Option V -> Option Value -> Prop
 | some v,some u=>RelV v u
 | none,none=>True
 | _,_=>False
noncomputable def KV {κ:Type}:List (κ × V) -> List (κ × Value) -> Prop:=Paired fun (p:κ × V) (q:κ × Value)=>p.1 = q.1 /\ RelV p.2 q.2
noncomputable def kV:Key -> V
 | .inl i=>.int i
 | .inr x=>.str x
inductive HO where
 /-- a list -/
 | lst (xs:List V)
 /-- a tuple (never changes) -/
 | tup (xs:List V)
 /-- a dict whose keys are ints and texts; one whose keys are tuples of ints and texts (the empty one is both) -/
 | dK (kvs:List (Key × V)) | dE (kvs:List (Key × V)) (ep:Nat) | dT (kvs:List (List Key × V))
 /-- a set of ints: its members,its size -/
 | set (S:Key -> Bool) (n:Nat)
 /-- an instance of the class at C,its dict at dx,its attributes -/
 | ins (C dx:Addr) (fs:List (Str × V))
 /-- the dict of the instance at x -/
 | own (x:Addr)
 /-- the dict of an exception -/
 | xd (fs:List (Str × V))
 /-- a bound method,f of x -/
 | met (f x:Addr)
 /-- a range object lo,lo + 1,.. below hi -/
 | rng (lo hi:Int)
 /-- a thing that is known to the object (the script; a dict while a loop walks it): read,never written while it is so -/
 | frz (o:Obj) (u:HO)
 /-- a code object's table -/
 | tbl (ps:Array Value)
 /-- any other thing,by what is true of its one object (a def of one's own: SetO a S n:=HO.ext fun h=>..) -/
 | ext (φ:Heap -> Prop)
noncomputable abbrev Hp:=Addr -> Option HO
noncomputable def upd (H:Hp) (a:Addr) (o:HO):Hp:=fun b=>if b = a then some o else H b
theorem i4 {H:Hp} {a:Addr} {o:HO}:upd H a o a = some o:=by unfold upd; rw [if_pos rfl]
theorem i6 {H:Hp} {a b:Addr} {o:HO} (h:b ≠ a):upd H a o b = H b:=by unfold upd; rw [if_neg h]
theorem qw {H:Hp} {a:Addr} {o u:HO}:upd (upd H a o) a u = upd H a u:=by
 funext b; unfold upd; split <;> rfl
theorem FJ {H:Hp} {a b:Addr} {o u:HO} (h:H a = some o) (h':H b = some u) (d:o ≠ u):a ≠ b:=by
 intro e; subst e; rw [h] at h'; exact d (Option.some.inj h')
theorem u5 {H:Hp} {a b:Addr} {o:HO} (h:H a = some o) (h':H b = none):a ≠ b:=by
 intro e; subst e; rw [h] at h'; cases h'
section
variable (P:Program) (w:World)
noncomputable def w8 (H:Hp) (h:Heap) (a:Addr):HO -> Prop
 | .lst xs=>xs.length <= sizeLine /\ ∃ (its:List Value) (n:Nat),Vals xs its /\ h.get? a = some { cls:=.type "list",data:=.seq its.toArray n }
 | .tup xs=>xs.length <= sizeLine /\ ∃ its:List Value,Vals xs its /\ IsTup h a its.toArray
 | .dK kvs=>kvs.length <= sizeLine /\ (a == sysModules) = false /\ ∃ vs,KV kvs vs /\ h.DictOf (w5 P w) a vs
 | .dE kvs ep=>kvs.length <= sizeLine /\ (a == sysModules) = false /\ ∃ vs,KV kvs vs /\ h.DictAt (w5 P w) a vs ep
 | .dT kvs=>kvs.length <= sizeLine /\ (a == sysModules) = false /\ ∃ xs:List (List Key × Addr × Value),
   Paired (fun (p:List Key × V) (q:List Key × Addr × Value)=>p.1 = q.1 /\ H q.2.1 = some (.tup (p.1.map kV)) /\ RelV p.2 q.2.2) kvs xs /\
   ∃ o es ep,h.get? a = some o /\ o.ExactDict /\ o.data = .dict es ep /\ es.toList = xs.map (entryOfKey (tupleKind (w5 P w))) /\ (xs.map (·.1)).Nodup
 | .set S n=>h.SetOf (w5 P w) a S n
 | .ins C dx fs=>H dx = some (.own a) /\ fs.length <= 1000 /\ dx ≠ a /\ h.get? a = some (PySem.W.instObj C dx) /\
   ∃ mA,h.Ns1 dx mA /\ (∀ f,ag (fs.lookup f) (mA f)) /\ PySem.Within mA (fs.map (·.1))
 | .own _=>∃ o,h.get? a = some o
 | .xd fs=>∃ mA,h.Ns1 a mA /\ ∀ f,ag (fs.lookup f) (mA f)
 | .rng lo hi=>∃ t u v,h.get? a = some { cls:=.type "range",data:=.fields #[.int lo t,.int hi u,.int 1 v] }
 | .frz o u=>h.get? a = some o /\ w8 H h a u
 | .tbl ps=>h.get? a = some { cls:=.none,data:=.fields ps }
 | .met f x=>h.get? a = some (PySem.W.methodObj (.ref f) (.ref x))
 | .ext φ=>φ h /\ (∃ o,h.get? a = some o) /\ ∀ h1 h2:Heap,φ h1 -> (∀ o,h1.get? a = some o -> h2.get? a = some o) -> φ h2
def P2 (H:Hp) (h:Heap):Prop:=∀ a o,H a = some o -> w8 P w H h a o
end
section
variable {P:Program} {w:World} {H H':Hp} {h h':Heap} {a:Addr} {o:HO}
theorem w8.lt (x:w8 P w H h a o):a < h.objs.size:=by
 cases o with
 | lst xs=>obtain ⟨_,_,_,_,e⟩:=x; exact Heap.lt_size e
 | tup xs=>obtain ⟨_,_,_,p⟩:=x; exact p.lt
 | dK kvs=>obtain ⟨_,_,_,_,o,_,_,e,_⟩:=x; exact Heap.lt_size e
 | dE kvs ep=>obtain ⟨_,_,_,_,o,_,e,_⟩:=x; exact Heap.lt_size e
 | dT kvs=>obtain ⟨_,_,_,_,o,_,_,e,_⟩:=x; exact Heap.lt_size e
 | set S n=>obtain ⟨o,_,_,_,e,_⟩:=x; exact Heap.lt_size e
 | ins C dx fs=>obtain ⟨_,_,_,e,_⟩:=x; exact Heap.lt_size e
 | own y=>obtain ⟨_,e⟩:=x; exact Heap.lt_size e
 | xd fs=>obtain ⟨_,⟨_,_,_,e,_⟩,_⟩:=x; exact Heap.lt_size e
 | rng lo hi=>obtain ⟨_,_,_,e⟩:=x; exact Heap.lt_size e
 | frz ob u=>obtain ⟨e,_⟩:=x; exact Heap.lt_size e
 | tbl ps=>exact Heap.lt_size (show h.get? a = some _ from x)
 | met f y=>exact Heap.lt_size (show h.get? a = some _ from x)
 | ext φ=>obtain ⟨_,⟨_,e⟩,_⟩:=x; exact Heap.lt_size e
theorem Paired.Di {α β:Type} {F G:α -> β -> Prop}:∀ {l₁:List α} {l₂:List β},Paired F l₁ l₂ -> (∀ a b,F a b -> G a b) -> Paired G l₁ l₂
 | _,_,.nil,_=>.nil
 | _,_,.cons r t,f=>.cons (f _ _ r) (Paired.Di t f)
theorem w8.jA (x:w8 P w H h a o) (k:∀ b u,(b = a \/ H b = some (.own a)) -> h.get? b = some u -> h'.get? b = some u)
  (ho:∀ b,H b = some (.own a) -> H' b = some (.own a)) (ht:∀ b xs,H b = some (.tup xs) -> H' b = some (.tup xs)):w8 P w H' h' a o:=by
 induction o with
 | lst xs=>obtain ⟨z,its,n,r,e⟩:=x; exact ⟨z,its,n,r,k _ _ (.inl rfl) e⟩
 | tup xs=>obtain ⟨z,its,r,ob,e,c⟩:=x; exact ⟨z,its,r,ob,k _ _ (.inl rfl) e,c⟩
 | dK kvs=>obtain ⟨z,y,vs,r,ob,es,ep,e,c⟩:=x; exact ⟨z,y,vs,r,ob,es,ep,k _ _ (.inl rfl) e,c⟩
 | dE kvs ep=>obtain ⟨z,y,vs,r,ob,es,e,c⟩:=x; exact ⟨z,y,vs,r,ob,es,k _ _ (.inl rfl) e,c⟩
 | dT kvs=>
  obtain ⟨z,y,xs,r,ob,es,ep,e,c⟩:=x
  exact ⟨z,y,xs,Paired.Di r fun p q z=>⟨z.1,ht _ _ z.2.1,z.2.2⟩,ob,es,ep,k _ _ (.inl rfl) e,c⟩
 | set S n=>obtain ⟨ob,es,ep,t,e,c⟩:=x; exact ⟨ob,es,ep,t,k _ _ (.inl rfl) e,c⟩
 | ins C dx fs=>
  obtain ⟨d,z,ne,e,mA,⟨od,es,ep,e2,c⟩,r⟩:=x
  exact ⟨ho _ d,z,ne,k _ _ (.inl rfl) e,mA,⟨od,es,ep,k _ _ (.inr d) e2,c⟩,r⟩
 | own y=>obtain ⟨ob,e⟩:=x; exact ⟨ob,k _ _ (.inl rfl) e⟩
 | xd fs=>obtain ⟨mA,⟨od,es,ep,e,c⟩,r⟩:=x; exact ⟨mA,⟨od,es,ep,k _ _ (.inl rfl) e,c⟩,r⟩
 | rng lo hi=>obtain ⟨t,u,v,e⟩:=x; exact ⟨t,u,v,k _ _ (.inl rfl) e⟩
 | frz ob u ih=>obtain ⟨e,q⟩:=x; exact ⟨k _ _ (.inl rfl) e,ih q⟩
 | tbl ps=>
  have e:h.get? a = some { cls:=.none,data:=.fields ps }:=x
  show h'.get? a = some { cls:=.none,data:=.fields ps }
  exact k a _ (.inl rfl) e
 | met f y=>
  have e:h.get? a = some (PySem.W.methodObj (.ref f) (.ref y)):=x
  show h'.get? a = some (PySem.W.methodObj (.ref f) (.ref y))
  exact k a _ (.inl rfl) e
 | ext φ=>obtain ⟨p,⟨o,e⟩,st⟩:=x; exact ⟨st _ _ p fun o q=>k _ _ (.inl rfl) q,⟨o,k _ _ (.inl rfl) e⟩,st⟩
theorem P2.lt (x:P2 P w H h) (e:H a = some o):a < h.objs.size:=(x a o e).lt
theorem P2.fresh (x:P2 P w H h) (e:h.objs.size <= a):H a = none:=by
 cases q:H a with
 | none=>rfl
 | some u=>exact absurd (Nat.lt_of_lt_of_le (x.lt q) e) (Nat.lt_irrefl _)
theorem P2.kept (x:P2 P w H h) (k:∀ b u,h.get? b = some u -> h'.get? b = some u):P2 P w H h':=fun a o e=>
 (x a o e).jA (fun b u _ q=>k b u q) (fun _ q=>q) fun _ _ q=>q
theorem P2.laid (x:P2 P w H h) (k:∀ b u,h.get? b = some u -> h'.get? b = some u) (hp:h.objs.size <= a) (new:w8 P w (upd H a o) h' a o):P2 P w (upd H a o) h':=fun b u e=>by
 have hn:=x.fresh hp
 by_cases hb:b = a
 ·subst hb; rw [i4] at e; cases e; exact new
 ·rw [i6 hb] at e
  exact (x b u e).jA (fun c v _ q=>k c v q) (fun c q=>by rw [i6 (u5 q hn)]; exact q) fun c xs q=>by rw [i6 (u5 q hn)]; exact q
end
def Dd (H:Hp) (a:Addr) (kvs:List (Key × V)):Prop:=H a = some (.dK kvs) \/ ∃ ep,H a = some (.dE kvs ep)
theorem Dd.ok {P:Program} {w:World} {H:Hp} {h:Heap} {a:Addr} {kvs:List (Key × V)} (r:Dd H a kvs) (x:P2 P w H h):w8 P w H h a (.dK kvs):=by
 rcases r with r | ⟨ep,r⟩
 ·exact x a _ r
 ·obtain ⟨z,y,vs,r2,d⟩:=(show w8 P w H h a (.dE kvs ep) from x a _ r)
  exact ⟨z,y,vs,r2,d.dictOf⟩
def Rd (H:Hp) (a:Addr) (u:HO):Prop:=H a = some u \/ ∃ o,H a = some (.frz o u)
theorem Rd.ok {P:Program} {w:World} {H:Hp} {h:Heap} {a:Addr} {u:HO} (r:Rd H a u) (x:P2 P w H h):w8 P w H h a u:=by
 rcases r with r | ⟨o,r⟩
 ·exact x a u r
 ·obtain ⟨_,q⟩:=x a _ r
  exact q
noncomputable def eO:Option HO -> Prop
 | some (.lst _)=>True
 | some (.dK _)=>True
 | some (.dE _ _)=>True
 | some (.dT _)=>True
 | some (.set _ _)=>True
 | some (.ins _ _ _)=>True
 | some (.ext _)=>True
 | _=>False
theorem Dd.HJ {H:Hp} {a:Addr} {kvs:List (Key × V)} (r:Dd H a kvs):eO (H a):=by
 rcases r with r | ⟨ep,r⟩ <;> (rw [r]; exact True.intro)
section
variable {P:Program} {w:World} {H:Hp} {h h':Heap} {x e:Addr} {o':HO}
theorem P2.write (ok:P2 P w H h) (mu:eO (H x)) (he:e = x \/ H e = some (.own x)) (k:∀ b u,b ≠ e -> h.get? b = some u -> h'.get? b = some u) (heo:∃ u,h'.get? e = some u)
  (new:w8 P w (upd H x o') h' x o'):P2 P w (upd H x o') h':=fun b u q=>by
 have nown:∀ c y,H c = some (.own y) -> c ≠ x:=fun c y r z=>by subst z; rw [r] at mu; exact mu
 have ntup:∀ c xs,H c = some (.tup xs) -> c ≠ x:=fun c xs r z=>by subst z; rw [r] at mu; exact mu
 by_cases hb:b = x
 ·subst hb; rw [i4] at q; cases q; exact new
 ·rw [i6 hb] at q
  by_cases hbe:b = e
  ·have q':H b = some (.own x):=by
    rcases he with z | z
    ·exact absurd (hbe.trans z) hb
    ·rw [hbe]; exact z
   rw [q] at q'; cases q'
   obtain ⟨v,hv⟩:=heo
   exact ⟨v,by rw [hbe]; exact hv⟩
  ·refine (ok b u q).jA (fun c v hc r=>k c v ?_ r) (fun c r=>by rw [i6 (nown c b r)]; exact r) fun c xs r=>by rw [i6 (ntup c xs r)]; exact r
   rcases hc with rfl | hc
   ·exact hbe
   ·rintro rfl
    rcases he with z | z
    ·exact nown c b hc z
    ·rw [hc] at z; cases z; exact hb rfl
end
structure Un (fs ex:List Addr) (H H':Hp) (h h':Heap):Prop where
 keep:∀ b o,h.get? b = some o -> H b = none -> b ∉ fs -> b ∉ ex -> h'.get? b = some o
 slot:∀ b o,h.get? b = some o -> H b = none -> b ∈ fs -> b ∉ ex -> ∃ sl,h'.get? b = some { o with slots:=sl }
 free:∀ b o,h.get? b = some o -> H b = none -> b ∉ ex -> H' b = none
 there:∀ b o,h.get? b = some o -> b ∉ ex -> ∃ o',h'.get? b = some o'
 L4:∀ b xs,H b = some (.tup xs) -> H' b = some (.tup xs)
 frzs:∀ b o u,H b = some (.frz o u) -> H' b = some (.frz o u)
 tbls:∀ b ps,H b = some (.tbl ps) -> ∃ more,H' b = some (.tbl (ps ++ more))
section
variable {fs fs' ex ex':List Addr} {H H1 H2:Hp} {h h1 h2 h':Heap} {a x e:Addr} {o:HO}
theorem Un.any (u:Un fs ex H H1 h h1) {b:Addr} {ob:Obj} (q:h.get? b = some ob) (n:H b = none) (hx:b ∉ ex):∃ sl,h1.get? b = some { ob with slots:=sl }:=by
 by_cases hb:b ∈ fs
 ·exact u.slot b ob q n hb hx
 ·exact ⟨ob.slots,u.keep b ob q n hb hx⟩
theorem Un.trans (a:Un fs ex H H1 h h1) (b:Un fs ex H1 H2 h1 h2):Un fs ex H H2 h h2 where
 keep:=fun c ob q n hc hx=>b.keep c ob (a.keep c ob q n hc hx) (a.free c ob q n hx) hc hx
 slot:=fun c ob q n hc hx=>by
  obtain ⟨sl,e1⟩:=a.slot c ob q n hc hx
  obtain ⟨sl',e2⟩:=b.slot c _ e1 (a.free c ob q n hx) hc hx
  exact ⟨sl',e2⟩
 free:=fun c ob q n hx=>by
  obtain ⟨o',e1⟩:=a.there c ob q hx
  exact b.free c o' e1 (a.free c ob q n hx) hx
 there:=fun c ob q hx=>by
  obtain ⟨o',e1⟩:=a.there c ob q hx
  exact b.there c o' e1 hx
 L4:=fun c xs q=>b.L4 c xs (a.L4 c xs q)
 frzs:=fun c ob xs q=>b.frzs c ob xs (a.frzs c ob xs q)
 tbls:=fun c ps q=>by
  obtain ⟨m1,e1⟩:=a.tbls c ps q
  obtain ⟨m2,e2⟩:=b.tbls c _ e1
  exact ⟨m1 ++ m2,by rw [e2,Array.append_assoc]⟩
theorem Un.kept (k:∀ b u,h.get? b = some u -> h'.get? b = some u):Un fs ex H H h h':=
 ⟨fun b ob q _ _ _=>k b ob q,fun b ob q _ _ _=>⟨ob.slots,k b ob q⟩,fun _ _ _ n _=>n,fun b ob q _=>⟨ob,k b ob q⟩,fun _ _ q=>q,fun _ _ _ q=>q,fun _ ps q=>⟨#[],by rw [q]; simp⟩⟩
theorem Un.refl:Un fs ex H H h h:=Un.kept fun _ _ q=>q
theorem Un.laid (k:∀ b u,h.get? b = some u -> h'.get? b = some u) (hp:h.objs.size <= a) (hn:H a = none):Un fs ex H (upd H a o) h h' where
 keep:=fun b u q _ _ _=>k b u q
 slot:=fun b u q _ _ _=>⟨u.slots,k b u q⟩
 free:=fun b u q n _=>by rw [i6 (Nat.ne_of_lt (Nat.lt_of_lt_of_le (Heap.lt_size q) hp))]; exact n
 there:=fun b u q _=>⟨u,k b u q⟩
 L4:=fun b xs q=>by rw [i6 (u5 q hn)]; exact q
 frzs:=fun b u xs q=>by rw [i6 (u5 q hn)]; exact q
 tbls:=fun b ps q=>⟨#[],by rw [i6 (u5 q hn),q]; simp⟩
theorem Un.write (mu:eO (H x)) (he:e = x \/ H e = some (.own x)) (k:∀ b u,b ≠ e -> h.get? b = some u -> h'.get? b = some u) (heo:∃ u,h'.get? e = some u):Un fs ex H (upd H x o) h h':=by
 have hx:∀ b,H b = none -> b ≠ x:=fun b n z=>by subst z; rw [n] at mu; exact mu
 have hb:∀ b,H b = none -> b ≠ e:=fun b n z=>by
  subst z
  rcases he with r | r
  ·exact hx b n r
  ·rw [n] at r; cases r
 have hm:∀ b u,H b = some u -> ¬ eO (some u) -> b ≠ x:=fun b u q nm z=>by subst z; rw [q] at mu; exact nm mu
 refine ⟨fun b u q n _ _=>k b u (hb b n) q,fun b u q n _ _=>⟨u.slots,k b u (hb b n) q⟩,fun b u q n _=>by rw [i6 (hx b n)]; exact n,fun b u q _=>?_,
  fun b xs q=>by rw [i6 (hm b _ q fun z=>z)]; exact q,fun b u xs q=>by rw [i6 (hm b _ q fun z=>z)]; exact q,fun b ps q=>⟨#[],by rw [i6 (hm b _ q fun z=>z),q]; simp⟩⟩
 by_cases hbe:b = e
 ·subst hbe; exact heo
 ·exact ⟨u,k b u hbe q⟩
theorem Un.mono (u:Un fs ex H H1 h h1) (hs:∀ b ∈ fs,b ∈ fs') (hx:∀ b ∈ ex,b ∈ ex'):Un fs' ex' H H1 h h1:=
 ⟨fun b ob q n hb he=>u.keep b ob q n (fun z=>hb (hs b z)) fun z=>he (hx b z),fun _ _ q n _ he=>u.any q n fun z=>he (hx _ z),fun b ob q n he=>u.free b ob q n fun z=>he (hx b z),fun b ob q he=>u.there b ob q fun z=>he (hx b z),u.L4,u.frzs,u.tbls⟩
end
noncomputable def X0 (h:Heap) (H:Hp):List Addr:=(List.range h.objs.size).filter fun a=>(H a).isSome
noncomputable def jH (h:Heap) (H:Hp):Heap:=PySem.W.hideAll h (X0 h H)
theorem tu (h:Heap) (H:Hp):(jH h H).objs.size = h.objs.size:=PySem.W.hideAll_size _ _
theorem uS {h:Heap} {H:Hp} {b:Addr} {o:Obj} (e:h.get? b = some o) (n:H b = none):(jH h H).get? b = some o:=
 PySem.W.hideAll_get _ e fun hm=>by
  have q:(H b).isSome = true:=(List.mem_filter.mp hm).2
  rw [n] at q; simp at q
theorem zd {h:Heap} {H:Hp} {b:Addr} {o:Obj} (e:(jH h H).get? b = some o):h.get? b = some o /\ H b = none:=by
 have e':h.get? b = some o:=PySem.W.of_hideAll (X0 h H) e
 refine ⟨e',?_⟩
 cases q:H b with
 | none=>rfl
 | some x=>
  have hm:b ∈ X0 h H:=List.mem_filter.mpr ⟨List.mem_range.mpr (Heap.lt_size e'),by simp [q]⟩
  have z:(jH h H).get? b = none:=PySem.W.hideAll_none (X0 h H) hm
  rw [z] at e; cases e
end L2
namespace L2
open PySem PySem.Spec PyProof.Rows
structure Mod (K:PySem.W.Frag) (mg:Str -> Option Value) (base:Heap):Prop where
 kin:K.In base
 glob:base.Ns mainGlobals mg
 blt:∃ mb,base.Ns builtinsNs mb /\ ∀ x:Str,x ≠ "__name__" -> mb x = bootBuiltins x
 nolimit:base.NoLimit
structure Cx where
 prog:Program
 w:World
 K:PySem.W.Frag
 mg:Str -> Option Value
 base:Heap
 A:Around
 N:List Str
 s₀:Shared
 H₀:Hp
 env:Env
 outer:List Env
 stack:List Env
 ex:List Addr
 fn:Str -> Bool
 calm:Bool
 pn:List (Addr × Obj)
 xe:Value -> Shared -> Prop
noncomputable def T3 (l:List Env):List Addr:=l.filterMap (·.frame)
noncomputable abbrev Cx.fs (X:Cx):List Addr:=T3 X.outer
def GG (sc:Scope) (x:Str):Prop:=sc.names.lookup x = some .local \/ sc.names.lookup x = some .cell \/ sc.names.lookup x = some .free
def Loc (sc:Scope) (x:Str):Prop:=sc.names.lookup x = some .local \/ sc.names.lookup x = some .cell
def Look (env:Env) (h:Heap) (m:Str -> Option Value) (x:Str) (u:Value):Prop:=
 (env.kindOf x = some .local /\ m x = some u) \/ ((env.kindOf x = some .cell \/ env.kindOf x = some .free) /\ ∃ c,env.cells.lookup x = some c /\ h.IsCell c (some u))
structure Cx.Ok (X:Cx):Prop where
 mod:Mod X.K X.mg X.base
 kind:X.env.scope.kind = .function
 glob:X.env.globals = mainGlobals
 blt:X.env.builtins = builtinsNs
 above:X.s₀.heap.objs.size <= X.env.locals
 inj:∀ x y c,X.env.cells.lookup x = some c -> X.env.cells.lookup y = some c -> x = y
 has:∀ x,(X.env.kindOf x = some .cell \/ X.env.kindOf x = some .free) -> ∃ c,X.env.cells.lookup x = some c
 cab:∀ x c,X.fn x = true -> X.env.cells.lookup x = some c -> X.s₀.heap.objs.size <= c
 hd:X.calm = true -> X.A.handled = none
 frames:X.A.frames = some X.stack
 stk:X.stack = X.outer \/ (X.stack = X.env :: X.outer /\ X.env.frame = some X.env.locals)
 exf:∀ b ∈ X.ex,b ≠ X.env.locals /\ ∀ x c,X.env.cells.lookup x = some c -> c ≠ b
 bs:∀ b o,X.base.get? b = some o -> X.s₀.heap.get? b = some o /\ X.H₀ b = none
 bsz:X.base.objs.size <= X.s₀.heap.objs.size
 noex:∀ b o,X.base.get? b = some o -> b ∉ X.ex
 exfs:∀ b ∈ X.ex,b ∉ X.fs
 cQ:X.s₀.heap.FunFrames X.base X.outer
 frf:∀ b ∈ X.fs,X.H₀ b = none
structure Inv (X:Cx) (pins:List (Addr × Obj)) (σ:List (Option V)) (H:Hp) (s:Shared):Prop where
 ok:X.Ok
 os:s.os = X.s₀.os
 bare:AllBare s.gens
 base:Un X.fs X.ex X.H₀ H X.s₀.heap s.heap
 loc:∃ m,s.heap.Ns X.env.locals m /\ ∀ (i:Nat) (x:Str) (v:V),X.N[i]? = some x -> σ[i]? = some (some v) -> GG X.env.scope x -> ∃ u,RelV v u /\ Look X.env s.heap m x u
 cell:∀ x c,X.env.cells.lookup x = some c -> ∃ v,s.heap.IsCell c v
 free:H X.env.locals = none
 freeC:∀ x c,X.env.cells.lookup x = some c -> H c = none
 pin:∀ p ∈ X.pn ++ pins,s.heap.get? p.1 = some p.2 /\ H p.1 = none /\ p.1 ≠ X.env.locals /\ p.1 ∉ X.fs /\ ∀ v,p.2.data ≠ .cell v
 hok:P2 X.prog X.w H s.heap
 len:σ.length = X.N.length
section
variable {X:Cx} {pins:List (Addr × Obj)} {σ:List (Option V)} {H H':Hp} {s:Shared} {h':Heap}
theorem Cx.Ok.Hw (ok:X.Ok) {b:Addr} {o:Obj} (e:X.base.get? b = some o):b ∉ X.fs:=fun hb=>by
 have:=(ok.cQ.mem hb).1
 rw [e] at this; cases this
theorem Inv.bs (I:Inv X pins σ H s):∀ b o,X.base.get? b = some o -> s.heap.get? b = some o /\ H b = none:=fun b o e=>
 ⟨I.base.keep b o (I.ok.bs b o e).1 (I.ok.bs b o e).2 (I.ok.Hw e) (I.ok.noex b o e),I.base.free b o (I.ok.bs b o e).1 (I.ok.bs b o e).2 (I.ok.noex b o e)⟩
theorem Inv.bk (I:Inv X pins σ H s):∀ b o,X.base.get? b = some o -> s.heap.get? b = some o:=fun b o e=>(I.bs b o e).1
theorem Inv.mod (I:Inv X pins σ H s):Mod X.K X.mg X.base:=I.ok.mod
theorem Inv.gp (I:Inv X pins σ H s):X.K.In s.heap:=I.ok.mod.kin.keeps I.bk
theorem Inv.lt (I:Inv X pins σ H s):X.env.locals < s.heap.objs.size:=let ⟨_,hn,_⟩:=I.loc; hn.lt
theorem Inv.sz (I:Inv X pins σ H s):X.s₀.heap.objs.size <= s.heap.objs.size:=Nat.le_trans I.ok.above (Nat.le_of_lt I.lt)
theorem Inv.Ht (I:Inv X pins σ H s) {a:Addr} (h:s.heap.objs.size <= a):a ∉ X.fs:=fun hb=>by
 obtain ⟨_,o,ho,_⟩:=I.ok.cQ.mem hb
 exact absurd (Nat.lt_of_lt_of_le (Heap.lt_size ho) (Nat.le_trans I.sz h)) (Nat.lt_irrefl _)
theorem Inv.xw (I:Inv X pins σ H s):∀ x c,X.env.cells.lookup x = some c -> c ≠ X.env.locals:=fun x c e z=>by
 obtain ⟨v,o,ho,hd⟩:=I.cell x c e
 obtain ⟨m,⟨o',es,ep,ho',hd',_⟩,_⟩:=I.loc
 rw [z,ho'] at ho; cases ho; rw [hd'] at hd; cases hd
theorem Inv.cQ (I:Inv X pins σ H s):s.heap.FunFrames X.base X.outer:=by
 have all:∀ (l:List Env),(∀ b ∈ T3 l,b ∈ X.fs) -> X.s₀.heap.FunFrames X.base l -> s.heap.FunFrames X.base l:=by
  intro l
  induction l with
  | nil=>intro _ _; trivial
  | cons env r ih=>
   intro hs hl
   obtain ⟨hk,⟨L,o,hf,hn,ho,hd⟩,hr⟩:=hl
   have hL:L ∈ X.fs:=hs L (by unfold T3; rw [List.filterMap_cons,hf]; exact List.mem_cons_self)
   obtain ⟨sl,e⟩:=I.base.slot L o ho (I.ok.frf L hL) hL fun z=>I.ok.exfs L z hL
   exact ⟨hk,⟨L,_,hf,hn,e,hd⟩,ih (fun b hb=>hs b (by unfold T3; rw [List.filterMap_cons,hf]; exact List.mem_cons_of_mem _ hb)) hr⟩
 exact all X.outer (fun _ hb=>hb) I.ok.cQ
theorem Inv.stack (I:Inv X pins σ H s):s.heap.FunFrames X.base X.stack:=by
 rcases I.ok.stk with e | ⟨e,hf⟩
 ·rw [e]; exact I.cQ
 ·rw [e]
  obtain ⟨m,hn,_⟩:=I.loc
  refine .cons (by rw [I.ok.kind]; decide) hf hn ?_ I.cQ
  exact Heap.get?_none_of_le (Nat.le_trans I.ok.bsz I.ok.above)
theorem Inv.oR (I:Inv X pins σ H s):∀ b ∈ T3 X.stack,b ∈ X.env.locals :: X.fs:=fun b hb=>by
 rcases I.ok.stk with e | ⟨e,hf⟩
 ·rw [e] at hb; exact List.mem_cons_of_mem _ hb
 ·rw [e] at hb
  unfold T3 at hb
  rw [List.filterMap_cons,hf] at hb
  exact hb
theorem Inv.dY (I:Inv X pins σ H s):∀ b ∈ T3 X.stack,H b = none:=fun b hb=>by
 rcases List.mem_cons.mp (I.oR b hb) with e | hb
 ·rw [e]; exact I.free
 ·obtain ⟨_,o,ho,_⟩:=I.ok.cQ.mem hb
  exact I.base.free b o ho (I.ok.frf b hb) fun z=>I.ok.exfs b z hb
theorem Inv.step {g':Array GenState} {t':Nat} {d':Drawn} {ch:List Addr} (I:Inv X pins σ H s)
  (hch:∀ b ∈ ch,(b ∈ X.ex \/ X.s₀.heap.objs.size <= b) /\ b ≠ X.env.locals /\ (∀ x c,X.env.cells.lookup x = some c -> c ≠ b) /\ ∀ p ∈ X.pn ++ pins,p.1 ≠ b)
  (keep:∀ b o,b ≠ X.env.locals -> b ∉ X.fs -> b ∉ ch -> s.heap.get? b = some o -> H b = none -> h'.get? b = some o)
  (slot:∀ b o,b ≠ X.env.locals -> b ∈ X.fs -> b ∉ ch -> s.heap.get? b = some o -> H b = none -> ∃ sl,h'.get? b = some { o with slots:=sl }) (free:∀ b o,b ∉ ch -> s.heap.get? b = some o -> H b = none -> H' b = none)
  (there:∀ b o,b ∉ ch -> s.heap.get? b = some o -> ∃ o',h'.get? b = some o')
  (L4:∀ b xs,H b = some (.tup xs) -> H' b = some (.tup xs)) (frzs:∀ b o u,H b = some (.frz o u) -> H' b = some (.frz o u)) (tbls:∀ b ps,H b = some (.tbl ps) -> ∃ more,H' b = some (.tbl (ps ++ more)))
  (ns:∀ m,s.heap.Ns X.env.locals m -> h'.Ns X.env.locals m) (hok:P2 X.prog X.w H' h') (hg:AllBare g') :
  Inv X pins σ H' { s with heap:=h',gens:=g',drawn:=d',toks:=t' }:=by
 have neL:∀ b o,X.s₀.heap.get? b = some o -> b ≠ X.env.locals:=fun b o e=>Nat.ne_of_lt (Nat.lt_of_lt_of_le (Heap.lt_size e) I.ok.above)
 have neC:∀ b o,X.s₀.heap.get? b = some o -> b ∉ X.ex -> b ∉ ch:=fun b o e hx hb=>by
  rcases (hch b hb).1 with z | z
  ·exact hx z
  ·exact absurd (Nat.lt_of_lt_of_le (Heap.lt_size e) z) (Nat.lt_irrefl _)
 have cellK:∀ x c,X.env.cells.lookup x = some c -> ∀ v,s.heap.IsCell c v -> h'.IsCell c v:=fun x c e v ⟨o,ho,hd⟩=>by
  have nch:c ∉ ch:=fun z=>(hch c z).2.2.1 x c e rfl
  by_cases hc:c ∈ X.fs
  ·obtain ⟨sl,q⟩:=slot c o (I.xw x c e) hc nch ho (I.freeC x c e)
   exact ⟨_,q,hd⟩
  ·exact ⟨o,keep c o (I.xw x c e) hc nch ho (I.freeC x c e),hd⟩
 refine ⟨I.ok,I.os,hg,⟨fun b o e n hb hx=>?_,fun b o e n hb hx=>?_,fun b o e n hx=>?_,fun b o e hx=>?_,fun b xs e=>L4 b xs (I.base.L4 b xs e),fun b o xs e=>frzs b o xs (I.base.frzs b o xs e),fun b ps e=>?_⟩,?_,fun x c e=>?_,?_,fun x c e=>?_,fun p hp=>?_,hok,I.len⟩
 ·exact keep b o (neL b o e) hb (neC b o e hx) (I.base.keep b o e n hb hx) (I.base.free b o e n hx)
 ·obtain ⟨sl,e1⟩:=I.base.slot b o e n hb hx
  obtain ⟨sl',e2⟩:=slot b _ (neL b o e) hb (neC b o e hx) e1 (I.base.free b o e n hx)
  exact ⟨sl',e2⟩
 ·obtain ⟨o',e1⟩:=I.base.there b o e hx
  exact free b o' (neC b o e hx) e1 (I.base.free b o e n hx)
 ·obtain ⟨o',e1⟩:=I.base.there b o e hx
  exact there b o' (neC b o e hx) e1
 ·obtain ⟨m1,e1⟩:=I.base.tbls b ps e
  obtain ⟨m2,e2⟩:=tbls b _ e1
  exact ⟨m1 ++ m2,by rw [e2,Array.append_assoc]⟩
 ·obtain ⟨m,hn,hl⟩:=I.loc
  refine ⟨m,ns m hn,fun i x v e1 e2 e3=>?_⟩
  obtain ⟨u,r,l⟩:=hl i x v e1 e2 e3
  refine ⟨u,r,?_⟩
  rcases l with l | ⟨k,c,e,z⟩
  ·exact .inl l
  ·exact .inr ⟨k,c,e,cellK x c e _ z⟩
 ·obtain ⟨v,z⟩:=I.cell x c e
  exact ⟨v,cellK x c e v z⟩
 ·obtain ⟨m,⟨o,_,_,ho,_⟩,_⟩:=I.loc
  exact free _ o (fun z=>(hch _ z).2.1 rfl) ho I.free
 ·obtain ⟨v,o,ho,hd⟩:=I.cell x c e
  exact free c o (fun z=>(hch c z).2.2.1 x c e rfl) ho (I.freeC x c e)
 ·obtain ⟨e,n,ne,nf,d⟩:=I.pin p hp
  have nch:p.1 ∉ ch:=fun z=>(hch p.1 z).2.2.2 p hp rfl
  exact ⟨keep p.1 p.2 ne nf nch e n,free p.1 p.2 nch e n,ne,nf,d⟩
theorem Inv.un {t':Nat} (I:Inv X pins σ H s) (u:Un X.fs [] H H' s.heap h') (hok:P2 X.prog X.w H' h'):Inv X pins σ H' { s with heap:=h',toks:=t' }:=by
 obtain ⟨m,⟨o,es,ep,ho,r⟩,_⟩:=id I.loc
 obtain ⟨sl,hL⟩:=u.any ho I.free (by simp)
 exact I.step (g':=s.gens) (d':=s.drawn) (ch:=[]) (fun _ z=>nomatch z) (fun b o _ hb _ e n=>u.keep b o e n hb (by simp)) (fun b o _ hb _ e n=>u.slot b o e n hb (by simp)) (fun b o _ e n=>u.free b o e n (by simp)) (fun b o _ e=>u.there b o e (by simp)) u.L4 u.frzs u.tbls (fun m' hm=>by
  obtain ⟨o',es',ep',ho',r'⟩:=hm
  rw [ho] at ho'; cases ho'
  exact ⟨_,es',ep',hL,r'⟩) hok I.bare
theorem Inv.call {g':Array GenState} {t':Nat} {d':Drawn} {ch:List Addr} (I:Inv X pins σ H s) (u:Un (T3 X.stack) ch H H' s.heap h') (hok:P2 X.prog X.w H' h') (hg:AllBare g')
  (hch:∀ b ∈ ch,(b ∈ X.ex \/ X.s₀.heap.objs.size <= b) /\ b ≠ X.env.locals /\ (∀ x c,X.env.cells.lookup x = some c -> c ≠ b) /\ ∀ p ∈ X.pn ++ pins,p.1 ≠ b) :
  Inv X pins σ H' { s with heap:=h',gens:=g',drawn:=d',toks:=t' }:=by
 obtain ⟨m,⟨o,es,ep,ho,r⟩,_⟩:=id I.loc
 obtain ⟨sl,hL⟩:=u.any ho I.free fun z=>(hch _ z).2.1 rfl
 exact I.step (ch:=ch) hch (fun b o hL hb hc e n=>u.keep b o e n (fun z=>(List.mem_cons.mp (I.oR b z)).elim hL hb) hc) (fun b o _ _ hc e n=>u.any e n hc) (fun b o hc e n=>u.free b o e n hc) (fun b o hc e=>u.there b o e hc) u.L4 u.frzs u.tbls (fun m' hm=>by
  obtain ⟨o',es',ep',ho',r'⟩:=hm
  rw [ho] at ho'; cases ho'
  exact ⟨_,es',ep',hL,r'⟩) hok hg
theorem Inv.turned {t':Nat} {it:Addr} (I:Inv X pins σ H s) (k:∀ b o,b ≠ it -> s.heap.get? b = some o -> h'.get? b = some o) (hn:H it = none) (hL:it ≠ X.env.locals)
  (h1:it ∈ X.ex \/ X.s₀.heap.objs.size <= it) (h2:∀ x c,X.env.cells.lookup x = some c -> c ≠ it) (h3:∀ p ∈ X.pn ++ pins,p.1 ≠ it):Inv X pins σ H { s with heap:=h',toks:=t' }:=by
 have nit:∀ b u,H b = some u -> b ≠ it:=fun b u e z=>by rw [z,hn] at e; cases e
 refine I.step (g':=s.gens) (d':=s.drawn) (ch:=[it]) (fun b hb=>?_) (fun b o _ _ hc e _=>k b o (fun z=>hc (by simp [z])) e) (fun b o _ _ hc e _=>⟨o.slots,k b o (fun z=>hc (by simp [z])) e⟩) (fun _ _ _ _ n=>n)
  (fun b o hc e=>⟨o,k b o (fun z=>hc (by simp [z])) e⟩) (fun _ _ e=>e) (fun _ _ _ e=>e) (fun b ps e=>⟨#[],by rw [e]; simp⟩) (fun m hm=>?_) (fun b u e=>?_) I.bare
 ·have e:b = it:=by simpa using hb
  subst e
  exact ⟨h1,hL,h2,h3⟩
 ·obtain ⟨o,es,ep,ho,r⟩:=hm
  exact ⟨o,es,ep,k _ o (Ne.symm hL) ho,r⟩
 ·refine (I.hok b u e).jA (fun c v hc q=>k c v ?_ q) (fun _ q=>q) fun _ _ q=>q
  rcases hc with z | z
  ·rw [z]; exact nit b u e
  ·exact nit c _ z
theorem Inv.tok (I:Inv X pins σ H s) (t:Nat):Inv X pins σ H { s with toks:=t }:=I.un (h':=s.heap) (t':=t) Un.refl I.hok
theorem Inv.kept {t':Nat} (I:Inv X pins σ H s) (k:∀ b u,s.heap.get? b = some u -> h'.get? b = some u):Inv X pins σ H { s with heap:=h',toks:=t' }:=I.un (Un.kept k) (I.hok.kept k)
theorem Inv.laid {a:Addr} {o:HO} {t':Nat} (I:Inv X pins σ H s) (k:∀ b u,s.heap.get? b = some u -> h'.get? b = some u) (hp:s.heap.objs.size <= a) (new:w8 X.prog X.w (upd H a o) h' a o) :
  Inv X pins σ (upd H a o) { s with heap:=h',toks:=t' }:=I.un (Un.laid k hp (I.hok.fresh hp)) (I.hok.laid k hp new)
theorem Inv.write {x e:Addr} {o:HO} {t':Nat} (I:Inv X pins σ H s) (mu:eO (H x)) (he:e = x \/ H e = some (.own x)) (k:∀ b u,b ≠ e -> s.heap.get? b = some u -> h'.get? b = some u) (heo:∃ u,h'.get? e = some u)
  (new:w8 X.prog X.w (upd H x o) h' x o):Inv X pins σ (upd H x o) { s with heap:=h',toks:=t' }:=I.un (Un.write mu he k heo) (I.hok.write mu he k heo new)
theorem Inv.qV {pins':List (Addr × Obj)} (I:Inv X pins σ H s) (h:∀ p ∈ pins',s.heap.get? p.1 = some p.2 /\ H p.1 = none /\ p.1 ≠ X.env.locals /\ p.1 ∉ X.fs /\ ∀ v,p.2.data ≠ .cell v):Inv X pins' σ H s:=
 ⟨I.ok,I.os,I.bare,I.base,I.loc,I.cell,I.free,I.freeC,fun p hp=>(List.mem_append.mp hp).elim (fun z=>I.pin p (List.mem_append_left _ z)) (h p),I.hok,I.len⟩
theorem eQ {N:List Str} (hN:N.Nodup) {i j:Nat} {x:Str} (a:N[i]? = some x) (b:N[j]? = some x):i = j:=by
 obtain ⟨h1,e1⟩:=List.getElem?_eq_some_iff.mp a
 obtain ⟨h2,e2⟩:=List.getElem?_eq_some_iff.mp b
 exact (List.getElem_inj hN).mp (e1.trans e2.symm)
theorem T7 {M:Model} {A:Around} {E:Value -> Shared -> Prop} {i:Nat} {x:Str} {v:V} {u:Value} {Q:Unit -> Shared -> Prop} (I:Inv X pins σ H s) (hN:X.N.Nodup) (hi:X.N[i]? = some x) (hx:Loc X.env.scope x) (r:RelV v u)
  (h:∀ s',Inv X pins (σ.set i (some v)) H s' -> (∃ a,Heap.SameBut a s.heap s'.heap /\ (a = X.env.locals \/ X.env.cells.lookup x = some a)) -> Q () s') (hf:X.fn x = true \/ X.env.scope.names.lookup x = some .local:=by first | exact .inl rfl | exact .inr rfl | assumption):wpAny M A (storeName X.env x u) Q E s:=by
 obtain ⟨m,hn,hl⟩:=id I.loc
 have hcls:(X.env.scope.kind == .class || (X.env.scope.kind == .module && X.env.locals != X.env.globals)) = false:=by rw [I.ok.kind]; rfl
 have hiσ:i < σ.length:=by rw [I.len]; exact (List.getElem?_eq_some_iff.mp hi).1
 have xw:=I.xw
 have tracked:∀ {a:Addr} {h':Heap},(∃ o,s.heap.get? a = some o /\ H a = none) -> Heap.SameBut a s.heap h' -> P2 X.prog X.w H h':=fun {a h'} ha hs b ob e=>by
  obtain ⟨_,_,hfree⟩:=ha
  refine (I.hok b ob e).jA (fun c w' hc q=>(hs.2 c ?_).trans q) (fun _ q=>q) fun _ _ q=>q
  rintro rfl
  rcases hc with rfl | hc
  ·rw [hfree] at e; cases e
  ·rw [hfree] at hc; cases hc
 rcases hx with hk | hk
 ·refine wpAny_storeName_local hk hn (fun h' hn' hs=>?_) hcls
  obtain ⟨oL,_,_,hoL,_⟩:=id hn
  refine h _ ⟨I.ok,I.os,I.bare,⟨fun b o e n hb hx=>?_,fun b o e n hb hx=>?_,I.base.free,fun b o e hx=>?_,I.base.L4,I.base.frzs,I.base.tbls⟩,⟨_,hn',fun j y v' e1 e2 e3=>?_⟩,fun y c e=>?_,I.free,I.freeC,fun p hp=>?_,tracked ⟨oL,hoL,I.free⟩ hs,by simpa using I.len⟩ ⟨_,hs,.inl rfl⟩
  ·exact (hs.2 b (Nat.ne_of_lt (Nat.lt_of_lt_of_le (Heap.lt_size e) I.ok.above))).trans (I.base.keep b o e n hb hx)
  ·obtain ⟨sl,e1⟩:=I.base.slot b o e n hb hx
   exact ⟨sl,(hs.2 b (Nat.ne_of_lt (Nat.lt_of_lt_of_le (Heap.lt_size e) I.ok.above))).trans e1⟩
  ·obtain ⟨o',e1⟩:=I.base.there b o e hx
   exact ⟨o',(hs.2 b (Nat.ne_of_lt (Nat.lt_of_lt_of_le (Heap.lt_size e) I.ok.above))).trans e1⟩
  ·by_cases hj:j = i
   ·subst hj
    rw [hi] at e1; cases e1
    rw [List.getElem?_set_self hiσ] at e2
    cases e2
    exact ⟨u,r,.inl ⟨hk,by simp⟩⟩
   ·rw [List.getElem?_set_ne (Ne.symm hj)] at e2
    obtain ⟨u',r',q⟩:=hl j y v' e1 e2 e3
    refine ⟨u',r',?_⟩
    rcases q with ⟨k,e⟩ | ⟨k,c,e,z⟩
    ·refine .inl ⟨k,?_⟩
     have:y ≠ x:=fun e=>hj (eQ hN e1 (e ▸ hi))
     simp [this,e]
    ·exact .inr ⟨k,c,e,z.sameBut hs (xw y c e)⟩
  ·obtain ⟨w',z⟩:=I.cell y c e
   exact ⟨w',z.sameBut hs (xw y c e)⟩
  ·obtain ⟨e,n,ne,nf,d⟩:=I.pin p hp
   exact ⟨(hs.2 p.1 ne).trans e,n,ne,nf,d⟩
 ·have hfn:X.fn x = true:=by
   rcases hf with z | z
   ·exact z
   ·rw [z] at hk; cases hk
  obtain ⟨c,hc⟩:=I.ok.has x (.inl hk)
  obtain ⟨w',z⟩:=I.cell x c hc
  refine wpAny_storeName_cell I.ok.kind hk hc z (fun h' hc' hs=>?_)
  obtain ⟨oc,hoc,hocd⟩:=id z
  refine h { s with heap:=h' } ⟨I.ok,I.os,I.bare,⟨fun b o e n hb hx=>?_,fun b o e n hb hx=>?_,I.base.free,fun b o e hx=>?_,I.base.L4,I.base.frzs,I.base.tbls⟩,⟨m,hn.sameBut hs (Ne.symm (xw x c hc)),fun j y v' e1 e2 e3=>?_⟩,fun y c' e=>?_,I.free,I.freeC,fun p hp=>?_,tracked ⟨oc,hoc,I.freeC x c hc⟩ hs,by simpa using I.len⟩ ⟨c,hs,.inr hc⟩
  ·exact (hs.2 b (Nat.ne_of_lt (Nat.lt_of_lt_of_le (Heap.lt_size e) (I.ok.cab x c hfn hc)))).trans (I.base.keep b o e n hb hx)
  ·obtain ⟨sl,e1⟩:=I.base.slot b o e n hb hx
   exact ⟨sl,(hs.2 b (Nat.ne_of_lt (Nat.lt_of_lt_of_le (Heap.lt_size e) (I.ok.cab x c hfn hc)))).trans e1⟩
  ·obtain ⟨o',e1⟩:=I.base.there b o e hx
   exact ⟨o',(hs.2 b (Nat.ne_of_lt (Nat.lt_of_lt_of_le (Heap.lt_size e) (I.ok.cab x c hfn hc)))).trans e1⟩
  ·by_cases hj:j = i
   ·subst hj
    rw [hi] at e1; cases e1
    rw [List.getElem?_set_self hiσ] at e2
    cases e2
    exact ⟨u,r,.inr ⟨.inl hk,c,hc,hc'⟩⟩
   ·rw [List.getElem?_set_ne (Ne.symm hj)] at e2
    obtain ⟨u',r',q⟩:=hl j y v' e1 e2 e3
    refine ⟨u',r',?_⟩
    rcases q with q | ⟨k,c',e,z'⟩
    ·exact .inl q
    ·refine .inr ⟨k,c',e,z'.sameBut hs ?_⟩
     rintro rfl
     exact hj (eQ hN e1 (I.ok.inj _ _ _ e hc ▸ hi))
  ·by_cases hcc:c' = c
   ·subst hcc; exact ⟨_,hc'⟩
   ·obtain ⟨w2,z2⟩:=I.cell y c' e
    exact ⟨w2,z2.sameBut hs hcc⟩
  ·obtain ⟨e,n,ne,nf,d⟩:=I.pin p hp
   refine ⟨(hs.2 p.1 ?_).trans e,n,ne,nf,d⟩
   intro q
   rw [q,hoc] at e
   have q':oc = p.2:=Option.some.inj e
   exact d w' (by rw [<- q']; exact hocd)
theorem lP {M:Model} {A:Around} {E:Value -> Shared -> Prop} {i:Nat} {x:Str} {v:V} {u:Value} {Q:Unit -> Shared -> Prop} (I:Inv X pins σ H s) (hN:X.N.Nodup) (hi:X.N[i]? = some x) (hx:Loc X.env.scope x) (r:RelV v u)
  (h:∀ s',Inv X pins (σ.set i (some v)) H s' -> Q () s') (hf:X.fn x = true \/ X.env.scope.names.lookup x = some .local:=by first | exact .inl rfl | exact .inr rfl | assumption):wpAny M A (storeName X.env x u) Q E s:=
 T7 I hN hi hx r (fun s' I' _=>h s' I') hf
theorem Inv.iE {s':Shared} {ch:List Addr} (I:Inv X pins σ H s) (ho:s'.os = s.os) (u:Un (T3 X.stack) ch H H' s.heap s'.heap) (hok:P2 X.prog X.w H' s'.heap) (hg:AllBare s'.gens)
  (hch:∀ b ∈ ch,(b ∈ X.ex \/ X.s₀.heap.objs.size <= b) /\ b ≠ X.env.locals /\ (∀ x c,X.env.cells.lookup x = some c -> c ≠ b) /\ ∀ p ∈ X.pn ++ pins,p.1 ≠ b):Inv X pins σ H' s':=by
 obtain ⟨h',g',d',t',o'⟩:=s'
 have e:o' = s.os:=ho
 subst e
 exact I.call (g':=g') (t':=t') (d':=d') u hok hg hch
end
noncomputable abbrev XK:=Value -> Option Addr -> Hp -> Prop
noncomputable abbrev St:=List (Option V)
noncomputable abbrev VK:=V -> Hp -> Prop
noncomputable abbrev TE:=St -> Hp -> VK -> Prop
noncomputable abbrev TT:=St -> Hp -> (Bool -> Hp -> Prop) -> Prop
noncomputable abbrev TA:=St -> Hp -> (List V -> Hp -> Prop) -> Prop
structure Ends where
 nx:St -> Hp -> Prop
 rt:VK
 bk:St -> Hp -> Prop:=fun _ _=>False
 ct:St -> Hp -> Prop:=fun _ _=>False
noncomputable abbrev TS:=Ends -> St -> Hp -> Prop
def EP (X:Cx) (pins:List (Addr × Obj)) (σ:St) (Q:VK) (u:Value) (s':Shared):Prop:=∃ v H',Inv X pins σ H' s' /\ RelV v u /\ Q v H'
def TP (X:Cx) (pins:List (Addr × Obj)) (σ:St) (Q:Bool -> Hp -> Prop) (b:Bool) (s':Shared):Prop:=∃ H',Inv X pins σ H' s' /\ Q b H'
def AP (X:Cx) (pins:List (Addr × Obj)) (σ:St) (Q:List V -> Hp -> Prop) (us:List Value) (s':Shared):Prop:=∃ vs H',Inv X pins σ H' s' /\ Vals vs us /\ Q vs H'
def SP (X:Cx) (pins:List (Addr × Obj)) (D:Ends) (f:Flow) (s':Shared):Prop:=
 match f with
 | .next=>∃ σ' H',Inv X pins σ' H' s' /\ D.nx σ' H'
 | .brk=>∃ σ' H',Inv X pins σ' H' s' /\ D.bk σ' H'
 | .cont=>∃ σ' H',Inv X pins σ' H' s' /\ D.ct σ' H'
 | .ret u=>∃ v σ' H',Inv X pins σ' H' s' /\ RelV v u /\ D.rt v H'
structure PE (X:Cx) (e:Expr) (t:TE)  : Prop where
 of ::
 run :
 ∀ (pins:List (Addr × Obj)) (s:Shared) (σ:St) (H:Hp) (Q:VK),Inv X pins σ H s -> t σ H Q -> wpAny (model X.prog X.w) X.A (eval e X.env) (EP X pins σ Q) X.xe s
noncomputable instance {X:Cx} {e:Expr} {t:TE}  : CoeFun (PE X e t) fun _=>
 ∀ (pins:List (Addr × Obj)) (s:Shared) (σ:St) (H:Hp) (Q:VK),Inv X pins σ H s -> t σ H Q -> wpAny (model X.prog X.w) X.A (eval e X.env) (EP X pins σ Q) X.xe s:=⟨PE.run⟩
structure PT (X:Cx) (e:Expr) (t:TT)  : Prop where
 of ::
 run :
 ∀ (pins:List (Addr × Obj)) (s:Shared) (σ:St) (H:Hp) (Q:Bool -> Hp -> Prop),Inv X pins σ H s -> t σ H Q -> wpAny (model X.prog X.w) X.A (isTrue e X.env (eval e X.env)) (TP X pins σ Q) X.xe s
noncomputable instance {X:Cx} {e:Expr} {t:TT}  : CoeFun (PT X e t) fun _=>
 ∀ (pins:List (Addr × Obj)) (s:Shared) (σ:St) (H:Hp) (Q:Bool -> Hp -> Prop),Inv X pins σ H s -> t σ H Q -> wpAny (model X.prog X.w) X.A (isTrue e X.env (eval e X.env)) (TP X pins σ Q) X.xe s:=⟨PT.run⟩
structure PW (X:Cx) (e:Expr) (t:TT)  : Prop where
 of ::
 run :
 ∀ (whole:Sem Value) (pins:List (Addr × Obj)) (s:Shared) (σ:St) (H:Hp) (Q:Bool -> Hp -> Prop),Inv X pins σ H s -> t σ H Q -> wpAny (model X.prog X.w) X.A (isTrue e X.env whole) (TP X pins σ Q) X.xe s
noncomputable instance {X:Cx} {e:Expr} {t:TT}  : CoeFun (PW X e t) fun _=>
 ∀ (whole:Sem Value) (pins:List (Addr × Obj)) (s:Shared) (σ:St) (H:Hp) (Q:Bool -> Hp -> Prop),Inv X pins σ H s -> t σ H Q -> wpAny (model X.prog X.w) X.A (isTrue e X.env whole) (TP X pins σ Q) X.xe s:=⟨PW.run⟩
theorem PW.pt {X:Cx} {e:Expr} {t:TT} (h:PW X e t):PT X e t:=.of (h _)
structure PA (X:Cx) (es:List Expr) (t:TA)  : Prop where
 of ::
 run :
 ∀ (pos:Pos) (pins:List (Addr × Obj)) (s:Shared) (σ:St) (H:Hp) (Q:List V -> Hp -> Prop),Inv X pins σ H s -> t σ H Q -> wpAny (model X.prog X.w) X.A (spliced (backTo pos (starEach es X.env))) (AP X pins σ Q) X.xe s
noncomputable instance {X:Cx} {es:List Expr} {t:TA}  : CoeFun (PA X es t) fun _=>
 ∀ (pos:Pos) (pins:List (Addr × Obj)) (s:Shared) (σ:St) (H:Hp) (Q:List V -> Hp -> Prop),Inv X pins σ H s -> t σ H Q -> wpAny (model X.prog X.w) X.A (spliced (backTo pos (starEach es X.env))) (AP X pins σ Q) X.xe s:=⟨PA.run⟩
structure PS (X:Cx) (st:Stmt) (t:TS)  : Prop where
 of ::
 run :
 ∀ (pins:List (Addr × Obj)) (s:Shared) (σ:St) (H:Hp) (D:Ends),Inv X pins σ H s -> t D σ H -> wpAny (model X.prog X.w) X.A (exec st X.env) (SP X pins D) X.xe s
noncomputable instance {X:Cx} {st:Stmt} {t:TS}  : CoeFun (PS X st t) fun _=>
 ∀ (pins:List (Addr × Obj)) (s:Shared) (σ:St) (H:Hp) (D:Ends),Inv X pins σ H s -> t D σ H -> wpAny (model X.prog X.w) X.A (exec st X.env) (SP X pins D) X.xe s:=⟨PS.run⟩
structure jR (X:Cx) (st:List Stmt) (t:TS)  : Prop where
 of ::
 run :
 ∀ (pins:List (Addr × Obj)) (s:Shared) (σ:St) (H:Hp) (D:Ends),Inv X pins σ H s -> t D σ H -> wpAny (model X.prog X.w) X.A (execs st X.env) (SP X pins D) X.xe s
noncomputable instance {X:Cx} {st:List Stmt} {t:TS}  : CoeFun (jR X st t) fun _=>
 ∀ (pins:List (Addr × Obj)) (s:Shared) (σ:St) (H:Hp) (D:Ends),Inv X pins σ H s -> t D σ H -> wpAny (model X.prog X.w) X.A (execs st X.env) (SP X pins D) X.xe s:=⟨jR.run⟩
theorem B6 {α:Type} {t:Sem α} {Q Q':α -> Shared -> Prop} {M:Model} {A:Around} {E:Value -> Shared -> Prop} {s:Shared} (h:wpAny M A t Q E s) (hQ:∀ a s,Q a s -> Q' a s):wpAny M A t Q' E s:=wpAny_mono h hQ fun _ _ x=>x
end L2
namespace L2
open PySem PySem.Spec PyProof.Rows
section
variable {X:Cx}
def W8 (i:Nat):TE:=fun σ H Q=>∃ v,σ[i]? = some (some v) /\ Q v H
def tC (v:V):TE:=fun _ H Q=>Q v H
theorem BX {i:Nat} {x:Str} {pos:Pos} (hN:X.N[i]? = some x) (hv:GG X.env.scope x) (hd:(x == ("__debug__" : Str)) = false:=by decide) (hcd:(x == ("__classdict__" : Str)) = false:=by decide):PE X (.Name x pos) (W8 i):=by
 refine .of ?_
 intro pins s σ H Q I h
 obtain ⟨v,e,h⟩:=h
 obtain ⟨m,hn,hl⟩:=I.loc
 obtain ⟨u,r,l⟩:=hl i x v hN e hv
 have fin:EP X pins σ Q u s:=⟨v,H,I,r,h⟩
 rcases l with ⟨hk,hm⟩ | ⟨hk,c,hc,hcell⟩
 ·exact wpAny_Name (wpAny_loadName_local I.ok.kind hk hn hm fin) hd
 ·rcases hk with hk | hk
  ·exact wpAny_Name (wpAny_loadName_cell I.ok.kind hk hc hcell fin) hd
  ·exact wpAny_Name (wpAny_loadName_free I.ok.kind hk hc hcell fin hcd) hd
theorem DH {i j pos}:PE X (.Constant (.int i) j pos) (tC (.int i)):=.of <|  fun _ _ _ H _ I h=>wpAny_Constant_int ⟨.int i,H,I.tok _,⟨_,rfl⟩,h⟩
theorem Fw {b j pos}:PE X (.Constant (.bool b) j pos) (tC (.bl b)):=.of <|  fun _ _ _ H _ I h=>Constant_bool ⟨.bl b,H,I,rfl,h⟩
theorem CF {j pos}:PE X (.Constant .none j pos) (tC .non):=.of <|  fun _ _ _ H _ I h=>Constant_none ⟨.non,H,I,rfl,h⟩
theorem BL {x j pos}:PE X (.Constant (.str x) j pos) (tC (.str x)):=.of <|  fun _ _ _ H _ I h=>Calls.Constant_str ⟨.str x,H,I.tok _,⟨_,rfl⟩,h⟩
def Gl (X:Cx) (x:Str):Prop:=X.env.kindOf x = some .globalImplicit
theorem bB {E:Value -> Shared -> Prop} {pins:List (Addr × Obj)} {s:Shared} {σ:St} {H:Hp} {x:Str} {u:Value} {pos:Pos} {Q:Value -> Shared -> Prop} (I:Inv X pins σ H s) (hg:Gl X x) (hm:X.mg x = some u) (h:Q u s)
  (hd:(x == ("__debug__" : Str)) = false:=by decide):wpAny (model X.prog X.w) X.A (eval (.Name x pos) X.env) Q E s:=
 Calls.Name_function_global I.ok.kind hg (Calls.loadGlobal_global (by rw [I.ok.glob]; exact I.mod.glob.keeps I.bk) hm h) hd
theorem bo {E:Value -> Shared -> Prop} {pins:List (Addr × Obj)} {s:Shared} {σ:St} {H:Hp} {x:Str} {u:Value} {pos:Pos} {Q:Value -> Shared -> Prop} (I:Inv X pins σ H s) (hg:Gl X x) (hm:X.mg x = none) (hv:bootBuiltins x = some u) (h:Q u s)
  (hn:x ≠ "__name__" := by decide) (hd:(x == ("__debug__" : Str)) = false:=by decide):wpAny (model X.prog X.w) X.A (eval (.Name x pos) X.env) Q E s:=by
 obtain ⟨mb,h1,h2⟩:=I.mod.blt
 exact Calls.Name_function_global I.ok.kind hg (Calls.loadGlobal_builtin (by rw [I.ok.glob]; exact I.mod.glob.keeps I.bk) hm (by rw [I.ok.blt]; exact h1.keeps I.bk) ((h2 x hn).trans hv) h) hd
theorem V8 {x:Str} {v:V} {u:Value} {pos:Pos} (hg:Gl X x) (hm:X.mg x = some u) (r:RelV v u) (hd:(x == ("__debug__" : Str)) = false:=by decide):PE X (.Name x pos) (tC v):=.of <| 
 fun _ _ _ H _ I h=>bB I hg hm ⟨v,H,I,r,h⟩ hd
theorem J9 {x:Str} {v:V} {u:Value} {pos:Pos} (hg:Gl X x) (hm:X.mg x = none) (hv:bootBuiltins x = some u) (r:RelV v u) (hn:x ≠ "__name__" := by decide) (hd:(x == ("__debug__" : Str)) = false:=by decide):PE X (.Name x pos) (tC v):=.of <| 
 fun _ _ _ H _ I h=>bo I hg hm hv ⟨v,H,I,r,h⟩ hn hd
variable {a b:Expr} {ta tb:TE} {pos:Pos}
variable {tA tB':TT} {rest:List Expr}
def Hf (t u:TT):TT:=fun σ H Q=>t σ H fun c H1=>if c = true then u σ H1 Q else Q false H1
def Iz (t u:TT):TT:=fun σ H Q=>t σ H fun c H1=>if c = true then Q true H1 else u σ H1 Q
def He (t:TT):TT:=fun σ H Q=>t σ H fun c H1=>Q (!c) H1
theorem Ae (ha:PT X a tA):PW X (.BoolOp .And [a] pos) tA:=by
 refine .of ?_
 intro wh pins s σ H Q I h
 refine isTrue_and (B6 (ha pins s σ H Q I h) fun c s1 e=>?_)
 cases c with
 | true=>exact isTrue_and_nil e
 | false=>exact e
theorem Cr (ha:PT X a tA):PW X (.BoolOp .Or [a] pos) tA:=by
 refine .of ?_
 intro wh pins s σ H Q I h
 refine isTrue_or (B6 (ha pins s σ H Q I h) fun c s1 e=>?_)
 cases c with
 | false=>exact isTrue_or_nil e
 | true=>exact e
theorem BS (ha:PT X a tA) (hb:PW X (.BoolOp .And (b :: rest) pos) tB'):PW X (.BoolOp .And (a :: b :: rest) pos) (Hf tA tB'):=by
 refine .of ?_
 intro wh pins s σ H Q I h
 refine isTrue_and (B6 (ha pins s σ H _ I h) fun c s1 ⟨H1,I1,q1⟩=>?_)
 cases c with
 | true=>exact hb wh pins s1 σ H1 Q I1 q1
 | false=>exact ⟨H1,I1,q1⟩
theorem El (ha:PT X a tA) (hb:PW X (.BoolOp .Or (b :: rest) pos) tB'):PW X (.BoolOp .Or (a :: b :: rest) pos) (Iz tA tB'):=by
 refine .of ?_
 intro wh pins s σ H Q I h
 refine isTrue_or (B6 (ha pins s σ H _ I h) fun c s1 ⟨H1,I1,q1⟩=>?_)
 cases c with
 | true=>exact ⟨H1,I1,q1⟩
 | false=>exact hb wh pins s1 σ H1 Q I1 q1
theorem Dr (ha:PT X a tA):PT X (.UnaryOp .Not a pos) (He tA):=by
 refine .of ?_
 intro pins s σ H Q I h
 exact isTrue_not (ha pins s σ H (fun c H1=>Q (!c) H1) I h)
def Ff (ta tb:TE):TE:=fun σ H Q=>ta σ H fun x H1=>∃ c,x = .bl c /\ if c = true then tb σ H1 Q else Q (.bl false) H1
def Ha (ta tb:TE):TE:=fun σ H Q=>ta σ H fun x H1=>∃ c,x = .bl c /\ if c = true then Q (.bl true) H1 else tb σ H1 Q
def ES (ta:TE):TE:=fun σ H Q=>ta σ H fun x H1=>∃ c,x = .bl c /\ Q (.bl (!c)) H1
theorem DL {op} {t:TE} (h:PE X a t):PE X (.BoolOp op [a] pos) t:=.of <|  fun pins s σ H Q I hw=>BoolOp_one (h pins s σ H Q I hw)
theorem BA (ha:PE X a ta) (hb:PE X (.BoolOp .And (b :: rest) pos) tb):PE X (.BoolOp .And (a :: b :: rest) pos) (Ff ta tb):=by
 refine .of ?_
 intro pins s σ H Q I h
 refine BoolOp_and (B6 (ha pins s σ H _ I h) fun v s1 ⟨x,H1,I1,r1,q1⟩=>?_)
 obtain ⟨c,rfl,q1⟩:=q1
 cases r1
 refine wpAny_truthy_bool ?_
 cases c with
 | true=>exact hb pins s1 σ H1 Q I1 q1
 | false=>exact ⟨.bl false,H1,I1,rfl,q1⟩
theorem Fu (ha:PE X a ta) (hb:PE X (.BoolOp .Or (b :: rest) pos) tb):PE X (.BoolOp .Or (a :: b :: rest) pos) (Ha ta tb):=by
 refine .of ?_
 intro pins s σ H Q I h
 refine BoolOp_or (B6 (ha pins s σ H _ I h) fun v s1 ⟨x,H1,I1,r1,q1⟩=>?_)
 obtain ⟨c,rfl,q1⟩:=q1
 cases r1
 refine wpAny_truthy_bool ?_
 cases c with
 | false=>exact hb pins s1 σ H1 Q I1 q1
 | true=>exact ⟨.bl true,H1,I1,rfl,q1⟩
theorem Bu (ha:PE X a ta):PE X (.UnaryOp .Not a pos) (ES ta):=by
 refine .of ?_
 intro pins s σ H Q I h
 refine UnaryOp_ (B6 (ha pins s σ H _ I h) fun v s1 ⟨x,H1,I1,r1,q1⟩=>?_)
 obtain ⟨c,rfl,q1⟩:=q1
 cases r1
 exact not_of (wpAny_truthy_bool ⟨.bl (!c),H1,I1,rfl,q1⟩)
end
end L2
namespace L2
open PySem PySem.Spec PyProof.Rows
def S3 (K:PySem.W.Frag) (H:Hp) (a:Addr) (xs:List V):Prop:=
 Rd H a (.lst xs) \/
  ∃ (o:Obj) (its:Array Value) (n:Nat),K.lookup a = some o /\ o.cls = .type "list" /\ o.dict = none /\ o.data = .seq its n /\ its.size <= sizeLine /\ Vals xs its.toList
def O8 (K:PySem.W.Frag) (H:Hp) (a:Addr) (xs:List V):Prop:=
 Rd H a (.tup xs) \/
  ∃ (o:Obj) (its:Array Value) (n:Nat),K.lookup a = some o /\ o.cls = .type "tuple" /\ o.data = .seq its n /\ its.size <= sizeLine /\ Vals xs its.toList
noncomputable def Hx:Value -> Option V
 | .none=>some .non
 | .bool b=>some (.bl b)
 | .int i _=>some (.int i)
 | .str x _=>some (.str x)
 | .bytes b _=>some (.byt b)
 | .float b _=>some (.flt b)
 | .ref a=>some (.ref a)
 | .type n=>some (.ty n)
 | _=>none
theorem RelV.abs {x:V} {u:Value} (r:RelV x u):Hx u = some x:=by
 cases x with
 | non=>cases r; rfl
 | bl _=>cases r; rfl
 | int _=>obtain ⟨t,rfl⟩:=r; rfl
 | str _=>obtain ⟨t,rfl⟩:=r; rfl
 | byt _=>obtain ⟨t,rfl⟩:=r; rfl
 | flt _=>obtain ⟨t,rfl⟩:=r; rfl
 | ref _=>cases r; rfl
 | ty _=>cases r; rfl
theorem RelV.inj {x y:V} {u:Value} (r:RelV x u) (q:RelV y u):x = y:=Option.some.inj (r.abs.symm.trans q.abs)
theorem Vals.inj:∀ {xs ys:List V} {us:List Value},Vals xs us -> Vals ys us -> xs = ys
 | _,_,_,.nil,.nil=>rfl
 | _,_,_,.cons r t,.cons r' t'=>by rw [r.inj r',Vals.inj t t']
section
variable {X:Cx} {pins:List (Addr × Obj)} {σ:St} {H:Hp} {s:Shared} {a:Addr} {xs ys:List V}
theorem S3.of {K:PySem.W.Frag} (h:H a = some (.lst xs)):S3 K H a xs:=.inl (.inl h)
theorem O8.of {K:PySem.W.Frag} (h:H a = some (.tup xs)):O8 K H a xs:=.inl (.inl h)
theorem Inv.list (I:Inv X pins σ H s) (h:S3 X.K H a xs):∃ its:List Value,Vals xs its /\ PlainL s.heap a its.toArray /\ xs.length <= sizeLine:=by
 rcases h with h | ⟨o,its,n,hk,hc,hd,hs,hz,r⟩
 ·obtain ⟨z,its,n,r,e⟩:=h.ok I.hok
  exact ⟨its,r,⟨_,n,e,rfl,rfl,rfl⟩,z⟩
 ·refine ⟨its.toList,r,⟨o,n,I.gp a o hk,hc,hd,by simpa using hs⟩,?_⟩
  have e:=r.length
  simp only [Array.length_toList] at e
  omega
theorem Inv.tuple (I:Inv X pins σ H s) (h:O8 X.K H a xs):∃ its:List Value,Vals xs its /\ IsTup s.heap a its.toArray /\ xs.length <= sizeLine:=by
 rcases h with h | ⟨o,its,n,hk,hc,hs,hz,r⟩
 ·obtain ⟨z,its,r,p⟩:=h.ok I.hok
  exact ⟨its,r,p,z⟩
 ·refine ⟨its.toList,r,⟨o,I.gp a o hk,hc,n,by simpa using hs⟩,?_⟩
  have e:=r.length
  simp only [Array.length_toList] at e
  omega
theorem Inv.nu (I:Inv X pins σ H s) (h:S3 X.K H a xs) (h':S3 X.K H a ys):xs = ys:=by
 obtain ⟨its,r,⟨o,n,e,_,_,d⟩,_⟩:=I.list h
 obtain ⟨its',r',⟨o',n',e',_,_,d'⟩,_⟩:=I.list h'
 rw [e] at e'; cases e'
 rw [d] at d'
 injection d' with d1 _
 have:its = its':=by simpa using congrArg Array.toList d1
 subst this
 exact r.inj r'
theorem Inv.cI (I:Inv X pins σ H s) (h:O8 X.K H a xs) (h':O8 X.K H a ys):xs = ys:=by
 obtain ⟨its,r,⟨o,e,_,n,d⟩,_⟩:=I.tuple h
 obtain ⟨its',r',⟨o',e',_,n',d'⟩,_⟩:=I.tuple h'
 rw [e] at e'; cases e'
 rw [d] at d'
 injection d' with d1 _
 have:its = its':=by simpa using congrArg Array.toList d1
 subst this
 exact r.inj r'
end
noncomputable abbrev Cx.cb (X:Cx) (E:Value -> Shared -> Prop):Cx:={ X with xe:=E }
noncomputable abbrev Cx.DO (X:Cx):Cx:=X.cb fun _ _=>False
theorem Cx.Ok.cb {X:Cx} (ok:X.Ok) (E:Value -> Shared -> Prop):(X.cb E).Ok:=
 ⟨ok.mod,ok.kind,ok.glob,ok.blt,ok.above,ok.inj,ok.has,ok.cab,ok.hd,ok.frames,ok.stk,ok.exf,ok.bs,ok.bsz,ok.noex,ok.exfs,ok.cQ,ok.frf⟩
theorem Cx.Ok.ak {X:Cx} {E:Value -> Shared -> Prop} (ok:(X.cb E).Ok):X.Ok:=
 ⟨ok.mod,ok.kind,ok.glob,ok.blt,ok.above,ok.inj,ok.has,ok.cab,ok.hd,ok.frames,ok.stk,ok.exf,ok.bs,ok.bsz,ok.noex,ok.exfs,ok.cQ,ok.frf⟩
section
variable {X:Cx} {pins:List (Addr × Obj)} {σ:St} {H:Hp} {s:Shared} {E:Value -> Shared -> Prop}
theorem Inv.cb (I:Inv X pins σ H s) (E:Value -> Shared -> Prop):Inv (X.cb E) pins σ H s:=⟨I.ok.cb E,I.os,I.bare,I.base,I.loc,I.cell,I.free,I.freeC,I.pin,I.hok,I.len⟩
theorem Inv.ak (I:Inv (X.cb E) pins σ H s):Inv X pins σ H s:=⟨I.ok.ak,I.os,I.bare,I.base,I.loc,I.cell,I.free,I.freeC,I.pin,I.hok,I.len⟩
theorem SP.ak {D:Ends} {f:Flow} {s':Shared} (h:SP (X.cb E) pins D f s'):SP X pins D f s':=by
 cases f with
 | next=>obtain ⟨σ',H',I,q⟩:=h; exact ⟨σ',H',I.ak,q⟩
 | brk=>obtain ⟨σ',H',I,q⟩:=h; exact ⟨σ',H',I.ak,q⟩
 | cont=>obtain ⟨σ',H',I,q⟩:=h; exact ⟨σ',H',I.ak,q⟩
 | ret u=>obtain ⟨v,σ',H',I,r,q⟩:=h; exact ⟨v,σ',H',I.ak,r,q⟩
theorem jR.DO {st:List Stmt} {t:TS} (h:jR X.DO st t):jR X st t:=.of <|  fun pins s σ H D I hw=>
 wpAny_mono (h pins s σ H D (I.cb _) hw) (fun _ _ q=>q.ak) fun _ _ z=>False.elim z
end
section
variable {X:Cx} {st:Stmt} {rest:List Stmt} {t u:TS} {e:Expr} {te:TE} {pos:Pos}
def vb:TS:=fun D σ H=>D.nx σ H
def vN (t u:TS):TS:=fun D σ H=>t { D with nx:=u D } σ H
theorem qH:jR X [] vb:=.of <|  fun _ _ σ H _ I h=>wpAny_execs_nil ⟨σ,H,I,h⟩
theorem fY (h1:PS X st t) (h2:jR X rest u):jR X (st :: rest) (vN t u):=by
 refine .of ?_
 intro pins s σ H D I h
 refine wpAny_execs_cons (B6 (h1 pins s σ H { D with nx:=u D } I h) fun f s1 q=>?_)
 cases f with
 | next=>
  obtain ⟨σ',H',I',q⟩:=q
  exact h2 pins s1 σ' H' D I' q
 | ret v=>exact q
 | brk=>exact q
 | cont=>exact q
theorem zi (h1:PS X st t):jR X [st] t:=by
 refine .of ?_
 intro pins s σ H D I h
 refine wpAny_execs_cons (B6 (h1 pins s σ H D I h) fun f s1 q=>?_)
 cases f with
 | next=>exact wpAny_execs_nil q
 | ret v=>exact q
 | brk=>exact q
 | cont=>exact q
theorem Inv.quiet {pins:List (Addr × Obj)} {σ:St} {H:Hp} {s:Shared} (I:Inv X pins σ H s):interactive X.env = false:=by simp [interactive,I.ok.kind]
def FC (te:TE):TS:=fun D σ H=>te σ H fun _ H1=>D.nx σ H1
theorem zx (he:PE X e te) (hs:swapsWith e none pos.line X.env = pure false:=by rfl):PS X (.Expr e pos) (FC te):=by
 refine .of ?_
 intro pins s σ H D I h
 exact wpAny_Expr_any (B6 (he pins s σ H _ I h) fun v s1 ⟨x,H1,I1,r1,q1⟩=>⟨σ,H1,I1,q1⟩) I.quiet hs
def GH (te:TE):TS:=fun D σ H=>te σ H D.rt
theorem qb (he:PE X e te):PS X (.Return (some e) pos) (GH te):=by
 refine .of ?_
 intro pins s σ H D I h
 exact wpAny_Return_some (B6 (he pins s σ H _ I h) fun v s1 ⟨x,H1,I1,r1,q1⟩=>⟨x,σ,H1,I1,r1,q1⟩)
def Hu (c:TT) (t u:TS):TS:=fun D σ H=>c σ H fun b H1=>if b = true then t D σ H1 else u D σ H1
theorem Gp {c:Expr} {a b:List Stmt} {tc:TT} (hc:PT X c tc) (ha:jR X a t) (hb:jR X b u):PS X (.If c a b pos) (Hu tc t u):=by
 refine .of ?_
 intro pins s σ H D I h
 refine wpAny_If (B6 (hc pins s σ H _ I h) fun d s1 ⟨H1,I1,q1⟩=>?_)
 cases d with
 | true=>exact ha pins s1 σ H1 D I1 q1
 | false=>exact hb pins s1 σ H1 D I1 q1
end
noncomputable abbrev TG:=V -> St -> Hp -> (St -> Hp -> Prop) -> Prop
noncomputable abbrev Aj:=List V -> St -> Hp -> (St -> Hp -> Prop) -> Prop
structure PG (X:Cx) (target:Expr) (t:TG)  : Prop where
 of ::
 run :
 ∀ (pins:List (Addr × Obj)) (s:Shared) (σ:St) (H:Hp) (v:V) (u:Value) (Q:St -> Hp -> Prop),Inv X pins σ H s -> RelV v u -> t v σ H Q ->
  wpAny (model X.prog X.w) X.A (assign target X.env u) (fun _ s'=>∃ σ' H',Inv X pins σ' H' s' /\ Q σ' H') X.xe s
noncomputable instance {X:Cx} {target:Expr} {t:TG}  : CoeFun (PG X target t) fun _=>
 ∀ (pins:List (Addr × Obj)) (s:Shared) (σ:St) (H:Hp) (v:V) (u:Value) (Q:St -> Hp -> Prop),Inv X pins σ H s -> RelV v u -> t v σ H Q ->
  wpAny (model X.prog X.w) X.A (assign target X.env u) (fun _ s'=>∃ σ' H',Inv X pins σ' H' s' /\ Q σ' H') X.xe s:=⟨PG.run⟩
structure yJ (X:Cx) (ts:List Expr) (t:Aj)  : Prop where
 of ::
 run :
 ∀ (pins:List (Addr × Obj)) (s:Shared) (σ:St) (H:Hp) (vs:List V) (us:List Value) (Q:St -> Hp -> Prop),Inv X pins σ H s -> Vals vs us -> t vs σ H Q ->
  wpAny (model X.prog X.w) X.A (assignInOrder ((assignEach ts X.env).map (·.2)) us) (fun _ s'=>∃ σ' H',Inv X pins σ' H' s' /\ Q σ' H') X.xe s
noncomputable instance {X:Cx} {ts:List Expr} {t:Aj}  : CoeFun (yJ X ts t) fun _=>
 ∀ (pins:List (Addr × Obj)) (s:Shared) (σ:St) (H:Hp) (vs:List V) (us:List Value) (Q:St -> Hp -> Prop),Inv X pins σ H s -> Vals vs us -> t vs σ H Q ->
  wpAny (model X.prog X.w) X.A (assignInOrder ((assignEach ts X.env).map (·.2)) us) (fun _ s'=>∃ σ' H',Inv X pins σ' H' s' /\ Q σ' H') X.xe s:=⟨yJ.run⟩
noncomputable abbrev CJ:=V -> V -> V -> Hp -> (Hp -> Prop) -> Prop
def Fp (X:Cx) (t:CJ):Prop:=
 ∀ (pins:List (Addr × Obj)) (s:Shared) (σ:St) (H:Hp) (o i v:V) (ov iv u:Value) (Q:Hp -> Prop),Inv X pins σ H s -> RelV o ov -> RelV i iv -> RelV v u -> t o i v H Q ->
  wpAny (model X.prog X.w) X.A (setItem ov iv u) (fun _ s'=>∃ H',Inv X pins σ H' s' /\ Q H') X.xe s
section
variable {X:Cx} {pos:Pos}
def mQ (i:Nat):TG:=fun v σ H Q=>Q (σ.set i (some v)) H
theorem j3 {i:Nat} {x:Str} (hN:X.N.Nodup) (hi:X.N[i]? = some x) (hx:Loc X.env.scope x) (hf:X.fn x = true \/ X.env.scope.names.lookup x = some .local:=by first | exact .inl rfl | exact .inr rfl | assumption):PG X (.Name x pos) (mQ i):=by
 refine .of ?_
 intro pins s σ H v u Q I r h
 exact wpAny_assign_Name (lP I hN hi hx r (fun s' I'=>⟨_,H,I',h⟩) hf)
noncomputable def Hy:Aj:=fun vs σ H Q=>vs = [] /\ Q σ H
noncomputable def Ft (t:TG) (u:Aj):Aj:=fun vs σ H Q=>∃ v r,vs = v :: r /\ t v σ H fun σ' H'=>u r σ' H' Q
theorem zc:yJ X [] Hy:=by
 refine .of ?_
 intro pins s σ H vs us Q I r h
 obtain ⟨e,h⟩:=h
 subst e
 cases r
 exact assignInOrder_nil ⟨σ,H,I,h⟩
theorem uR {e:Expr} {es:List Expr} {t:TG} {u:Aj} (h1:PG X e t) (h2:yJ X es u)
  (hs:(assignEach (e :: es) X.env).map (·.2) = assign e X.env :: (assignEach es X.env).map (·.2):=by rfl):yJ X (e :: es) (Ft t u):=by
 refine .of ?_
 intro pins s σ H vs us Q I r h
 obtain ⟨v,vr,e1,h⟩:=h
 subst e1
 cases r with
 | cons r rr=>
  rw [hs]
  refine assignInOrder_cons (B6 (h1 pins s σ H _ _ _ I r h) fun _ s1 ⟨σ1,H1,I1,q1⟩=>?_)
  exact h2 pins s1 σ1 H1 _ _ Q I1 rr q1
def Ep (K:PySem.W.Frag) (n:Nat) (t:Aj):TG:=fun v σ H Q=>∃ a xs,v = .ref a /\ O8 K H a xs /\ xs.length = n /\ t xs σ H Q
theorem bc {es:List Expr} {k:Nat} {t:Aj} {n:Nat} (hc:X.calm = true) (h:yJ X es t)
  (hn:(assignEach es X.env).length = n:=by rfl) (hst:(assignEach es X.env).findIdx? (·.1) = none:=by rfl):PG X (.Tuple es k pos) (Ep X.K n t):=by
 refine .of ?_
 intro pins s σ H v u Q I r hw
 obtain ⟨a,xs,e1,hq,hl,hw⟩:=hw
 subst e1
 cases r
 obtain ⟨its,rv,ht,hz⟩:=I.tuple hq
 refine assign_Tuple_tuple (I.ok.hd hc) ht (by simp [hn,<- hl,rv.length]) hst fun h' hx=>?_
 have I1:Inv X pins σ H { s with heap:=h' }:=I.kept (t':=s.toks) fun b o e=>hx b o (Nat.ne_of_lt (Heap.lt_size e)) e
 exact h pins _ σ H xs _ Q I1 (by simpa using rv) hw
def X7 (to ti:TE) (t:CJ):TG:=fun v σ H Q=>to σ H fun o H1=>ti σ H1 fun i H2=>t o i v H2 fun H3=>Q σ H3
theorem fX {o i:Expr} {to ti:TE} {t:CJ} (ho:PE X o to) (hi:PE X i ti) (hs:Fp X t)
  (ha:∀ v,assign (.Subscript o i pos) X.env v = (do
   let ov <- holding [v] (eval o X.env)
   let iv <- holding [v,ov] (eval i X.env)
   standAt pos
   holding [v,ov,iv] (setItem ov iv v)
   release [v,ov,iv] []):=by intro _; rfl):PG X (.Subscript o i pos) (X7 to ti t):=by
 refine .of ?_
 intro pins s σ H v u Q I r h
 rw [ha]
 refine wpAny_bind (wpAny_holding (B6 (ho pins s σ H _ I h) fun ov s1 ⟨x,H1,I1,r1,q1⟩=>?_))
 refine wpAny_bind (wpAny_holding (B6 (hi pins s1 σ H1 _ I1 q1) fun iv s2 ⟨y,H2,I2,r2,q2⟩=>?_))
 refine wpAny_bind (wpAny_standAt (wpAny_bind (wpAny_holding (B6 (hs pins s2 σ H2 x y v ov iv u _ I2 r1 r2 r q2) fun _ s3 ⟨H3,I3,q3⟩=>?_))))
 exact wpAny_release ⟨σ,H3,I3,q3⟩
def sk (te:TE) (g:TG):TS:=fun D σ H=>te σ H fun x H1=>g x σ H1 D.nx
theorem U3 {tg e:Expr} {te:TE} {g:TG} (he:PE X e te) (hg:PG X tg g) (hs:swapsWithSole [tg] e pos.line X.env = pure false:=by rfl) (hw:swappedStores [tg] e X.env = pure none:=by rfl)
  (h1:(assignEach [tg] X.env).map (·.2) = [assign tg X.env]:=by rfl):PS X (.Assign [tg] e pos) (sk te g):=by
 refine .of ?_
 intro pins s σ H D I h
 refine wpAny_Assign_stores (B6 (he pins s σ H _ I h) fun v s1 ⟨x,H1,I1,r1,q1⟩=>?_) hs hw
 rw [h1]
 exact B6 (hg pins s1 σ H1 x v _ I1 r1 q1) fun _ s2 q=>q
theorem xH {i:Nat} {x:Str} {e:Expr} {te:TE} {pos':Pos} (hN:X.N.Nodup) (hi:X.N[i]? = some x) (hx:Loc X.env.scope x) (he:PE X e te) (hs:swapsWith e (some (.Name x pos')) pos.line X.env = pure false:=by rfl) (hf:X.fn x = true \/ X.env.scope.names.lookup x = some .local:=by first | exact .inl rfl | exact .inr rfl | assumption) :
  PS X (.Assign [.Name x pos'] e pos) (sk te (mQ i)):=by
 refine .of ?_
 intro pins s σ H D I h
 refine wpAny_Assign_Name (B6 (he pins s σ H _ I h) fun v s1 ⟨y,H1,I1,r1,q1⟩=>?_) hs
 exact lP I1 hN hi hx r1 (fun s2 I2=>⟨_,H1,I2,q1⟩) hf
end
section
variable {X:Cx} {pos:Pos}
def Ct (c:TT) (tb:TS):TS:=fun D σ H=>∃ W:Nat -> St -> Hp -> Prop,(∃ m,W m σ H) /\ ∀ m σ H,W m σ H ->
 c σ H fun b H1=>if b = true then ∃ N:St -> Hp -> Prop,(∀ σ' H',N σ' H' -> ∃ m',m' < m /\ W m' σ' H') /\ tb { D with nx:=N,ct:=N,bk:=D.nx } σ H1 else D.nx σ H1
theorem wy {c:Expr} {body:List Stmt} {tc:TT} {tb:TS} (hp:PassesOwn (model X.prog X.w) X.A X.env X.xe) (hc:PT X c tc) (hb:jR X body tb):PS X (.While c body [] pos) (Ct tc tb):=by
 refine .of ?_
 intro pins s σ H D I h
 obtain ⟨W,⟨m0,w0⟩,turn⟩:=h
 refine wpAny_While (codeAny_whileLoop (fun n s'=>∃ σ' H',Inv X pins σ' H' s' /\ W n σ' H') ?_ m0 ⟨σ,H,I,w0⟩)
 rintro n s1 ⟨σ1,H1,I1,w1⟩
 refine wpAny_passesOwn hp (B6 (hc pins s1 σ1 H1 _ I1 (turn n σ1 H1 w1)) fun b s2 ⟨H2,I2,q2⟩=>?_)
 cases b with
 | true=>
  obtain ⟨N,hN,q2⟩:=q2
  rw [if_pos rfl]
  refine wpAny_passesOwn hp (B6 (hb pins s2 σ1 H2 _ I2 q2) fun f s3 q3=>?_)
  cases f with
  | next=>
   obtain ⟨σ3,H3,I3,n3⟩:=q3
   obtain ⟨m',hm,w3⟩:=hN σ3 H3 n3
   exact ⟨m',hm,σ3,H3,I3,w3⟩
  | cont=>
   obtain ⟨σ3,H3,I3,n3⟩:=q3
   obtain ⟨m',hm,w3⟩:=hN σ3 H3 n3
   exact ⟨m',hm,σ3,H3,I3,w3⟩
  | brk=>exact q3
  | ret v=>exact q3
 | false=>
  rw [if_neg Bool.false_ne_true]
  exact wpAny_execs_nil ⟨σ1,H2,I2,q2⟩
end
structure It where
 go:Nat -> Hp -> Prop
 yld:Nat -> Hp -> V -> Hp -> Prop
 stop:Nat -> Hp -> Prop
def S1 (X:Cx) (pins:List (Addr × Obj)) (H:Hp) (b:Addr):Prop:=
 H b = none /\ b ≠ X.env.locals /\ b ∉ X.fs /\ (b ∈ X.ex \/ X.s₀.heap.objs.size <= b) /\ (∀ x c,X.env.cells.lookup x = some c -> c ≠ b) /\ ∀ p ∈ X.pn ++ pins,p.1 ≠ b
theorem Inv.js {X:Cx} {pins:List (Addr × Obj)} {σ:St} {H H':Hp} {s:Shared} {b:Addr} (I:Inv X pins σ H s) (hb:s.heap.objs.size <= b) (hn:H' b = none):S1 X pins H' b:=by
 refine ⟨hn,Nat.ne_of_gt (Nat.lt_of_lt_of_le I.lt hb),I.Ht hb,.inr (Nat.le_trans I.sz hb),fun x c e z=>?_,fun p hp z=>?_⟩
 ·obtain ⟨v,q⟩:=I.cell x c e
  exact absurd (Nat.lt_of_lt_of_le q.lt (by rw [z]; exact hb)) (Nat.lt_irrefl _)
 ·exact absurd (Nat.lt_of_lt_of_le (Heap.lt_size (I.pin p hp).1) (by rw [z]; exact hb)) (Nat.lt_irrefl _)
structure Turn (P:Program) (w:World) (K:PySem.W.Frag) (tg:Expr) (J:It) (fp:List Addr) (it:Addr) (tn:Nat -> Heap -> Prop):Prop where
 mem:it ∈ fp
 obj:∀ i h,tn i h -> ∀ b ∈ fp,∃ o,h.get? b = some o /\ ∀ v,o.data ≠ .cell v
 keep:∀ i h h',tn i h -> (∀ b ∈ fp,∀ o,h.get? b = some o -> h'.get? b = some o) -> tn i h'
 item:∀ (X:Cx),X.prog = P -> X.w = w -> X.K = K -> X.calm = true -> ∀ (i:Nat) (pins:List (Addr × Obj)) (s:Shared) (σ:St) (H:Hp) (E:Value -> Shared -> Prop),Inv X pins σ H s -> (∀ b ∈ fp,S1 X pins H b) -> tn i s.heap -> J.go i H ->
  wpAny (model P w) X.A (pyNext (.ref it)) (fun r s1=>∃ u,r = some u /\
   wpAny (model P w) X.A (letOwnedTupleGo tg (.ref it) u) (fun _ s2=>∃ x H',Inv X pins σ H' s2 /\ RelV x u /\ J.yld i H x H' /\ tn (i + 1) s2.heap /\ ∀ b ∈ fp,H' b = none) E s1) E s
 done:∀ (X:Cx),X.prog = P -> X.w = w -> X.K = K -> X.calm = true -> ∀ (i:Nat) (pins:List (Addr × Obj)) (s:Shared) (σ:St) (H:Hp) (E:Value -> Shared -> Prop),Inv X pins σ H s -> (∀ b ∈ fp,S1 X pins H b) -> tn i s.heap -> J.stop i H ->
  wpAny (model P w) X.A (pyNext (.ref it)) (fun r s1=>r = none /\ Inv X pins σ H s1) E s
 self:∀ (A:Around) (i:Nat) (s:Shared) (Q:Value -> Shared -> Prop) (E:Value -> Shared -> Prop),tn i s.heap -> Q (.ref it) s -> wpAny (model P w) A (pyIter (.ref it)) Q E s
noncomputable abbrev TI:=St -> Hp -> (It -> Hp -> Prop) -> Prop
def HE (X:Cx) (pins:List (Addr × Obj)) (σ:St) (tg:Expr) (R:It -> Hp -> Prop) (itv:Value) (s2:Shared):Prop:=
 ∃ (it:Addr) (fp:List Addr) (tn:Nat -> Heap -> Prop) (J:It) (H':Hp),itv = .ref it /\ Inv X pins σ H' s2 /\ Turn X.prog X.w X.K tg J fp it tn /\ tn 0 s2.heap /\ (∀ b ∈ fp,S1 X pins H' b) /\ R J H'
structure PI (X:Cx) (tg iter:Expr) (wi:TI)  : Prop where
 of ::
 run :
 ∀ (pins:List (Addr × Obj)) (s:Shared) (σ:St) (H:Hp) (R:It -> Hp -> Prop),Inv X pins σ H s -> wi σ H R ->
  wpAny (model X.prog X.w) X.A (eval iter X.env) (fun v s1=>wpAny (model X.prog X.w) X.A (pyIter v) (HE X pins σ tg R) X.xe s1) X.xe s
noncomputable instance {X:Cx} {tg iter:Expr} {wi:TI}  : CoeFun (PI X tg iter wi) fun _=>
 ∀ (pins:List (Addr × Obj)) (s:Shared) (σ:St) (H:Hp) (R:It -> Hp -> Prop),Inv X pins σ H s -> wi σ H R ->
  wpAny (model X.prog X.w) X.A (eval iter X.env) (fun v s1=>wpAny (model X.prog X.w) X.A (pyIter v) (HE X pins σ tg R) X.xe s1) X.xe s:=⟨PI.run⟩
theorem rg {M:Model} {A:Around} {E:Value -> Shared -> Prop} {s:Shared} {tg:Expr} {it:Addr} {u:Value} {o:Obj} {n:String} {vs:Array Value} {Q:Unit -> Shared -> Prop} (ho:s.heap.get? it = some o) (hc:o.cls = .type n) (hd:o.data = .fields vs)
    (hn:["enumerate", "zip", "dict_itemiterator", "dict_reverseitemiterator", "odict_iterator", "itertools.zip_longest", "itertools.pairwise"].contains n = false) (hQ:Q () s):wpAny M A (letOwnedTupleGo tg (.ref it) u) Q E s:=by
  unfold letOwnedTupleGo
  cases tg <;> first
    | exact wpAny_pure hQ
    | (cases u <;> first
        | exact wpAny_pure hQ
        | (refine wpAny_bind (wpAny_load ho ?_)
           rw [hc,hd]
           show wpAny M A (if (["enumerate", "zip", "dict_itemiterator", "dict_reverseitemiterator", "odict_iterator", "itertools.zip_longest", "itertools.pairwise"].contains n && vs[0]? == some (rawInt _)) = true then _ else _) Q E s
           rw [if_neg (by intro h; rw [hn,Bool.false_and] at h; cases h)]
           exact wpAny_pure hQ))
noncomputable def Gs (K:PySem.W.Frag) (a:Addr):It:=
 ⟨fun i H=>∃ xs x,S3 K H a xs /\ xs[i]? = some x,fun i H x H'=>H' = H /\ ∀ xs,S3 K H a xs -> xs[i]? = some x,fun i H=>∃ xs,S3 K H a xs /\ xs.length <= i⟩
noncomputable def Hn (K:PySem.W.Frag) (a:Addr):It:=
 ⟨fun i H=>∃ xs x,O8 K H a xs /\ xs[i]? = some x,fun i H x H'=>H' = H /\ ∀ xs,O8 K H a xs -> xs[i]? = some x,fun i H=>∃ xs,O8 K H a xs /\ xs.length <= i⟩
noncomputable def Ez (lo:Int) (n:Nat):It:=⟨fun i _=>i < n,fun i H x H'=>H' = H /\ x = .int (lo + i),fun i _=>n <= i⟩
theorem tV {P:Program} {w:World} {K:PySem.W.Frag} {tg:Expr} (a it:Addr):Turn P w K tg (Gs K a) [it] it (fun i h=>h.IsListIter it a i) where
 mem:=by simp
 obj:=fun i h st b hb=>by
  have e:b = it:=by simpa using hb
  subst e
  obtain ⟨o,e,c,d⟩:=st
  exact ⟨o,e,fun v z=>by rw [d] at z; cases z⟩
 keep:=fun i h h' st k=>st.at fun o e=>k it (by simp) o e
 item:=by
  intro X hP hw hK hc i pins s σ H E I hf st hg
  subst hP hw hK
  obtain ⟨xs,x,hq,hx⟩:=hg
  obtain ⟨its,rv,p,hz⟩:=I.list hq
  obtain ⟨u,hu,ru⟩:=rv.get hx
  obtain ⟨f0,f1,f2,f3,f4,f5⟩:=hf it (by simp)
  refine wpAny_pyNext_list_item st p.isList (x:=u) (by simpa using hu) fun h' st' sb=>?_
  have I1:Inv X pins σ H { s with heap:=h' }:=I.turned (t':=s.toks) (fun b o hb e=>(sb.2 b hb).trans e) f0 f1 f3 f4 f5
  obtain ⟨o,e,c,d⟩:=id st'
  exact ⟨u,rfl,rg (s:={ s with heap:=h' }) e c d (by decide) ⟨x,H,I1,ru,⟨rfl,fun ys hy=>by rw [I.nu hy hq]; exact hx⟩,st',fun b hb=>(hf b hb).1⟩⟩
 done:=by
  intro X hP hw hK hc i pins s σ H E I hf st hg
  subst hP hw hK
  obtain ⟨xs,hq,hx⟩:=hg
  obtain ⟨its,rv,p,hz⟩:=I.list hq
  obtain ⟨f0,f1,f2,f3,f4,f5⟩:=hf it (by simp)
  have hl:=rv.length
  exact wpAny_pyNext_list_end (I.ok.hd hc) st p.isList (by simp; omega) fun h' eb=>⟨rfl,I.turned (t':=s.toks) (fun b o hb e=>eb b o hb e) f0 f1 f3 f4 f5⟩
 self:=fun _ _ _ _ _ st h=>wpAny_pyIter_listiter st h
theorem oX {P:Program} {w:World} {K:PySem.W.Frag} {tg:Expr} (a it:Addr):Turn P w K tg (Hn K a) [it] it (fun i h=>h.IsTupleIter it a i) where
 mem:=by simp
 obj:=fun i h st b hb=>by
  have e:b = it:=by simpa using hb
  subst e
  obtain ⟨o,e,c,d⟩:=st
  exact ⟨o,e,fun v z=>by rw [d] at z; cases z⟩
 keep:=fun i h h' st k=>st.at fun o e=>k it (by simp) o e
 item:=by
  intro X hP hw hK hc i pins s σ H E I hf st hg
  subst hP hw hK
  obtain ⟨xs,x,hq,hx⟩:=hg
  obtain ⟨its,rv,p,hz⟩:=I.tuple hq
  obtain ⟨u,hu,ru⟩:=rv.get hx
  obtain ⟨f0,f1,f2,f3,f4,f5⟩:=hf it (by simp)
  refine wpAny_pyNext_tuple_item st (show s.heap.IsTuple a its.toArray from p) (x:=u) (by simpa using hu) fun h' st' sb=>?_
  have I1:Inv X pins σ H { s with heap:=h' }:=I.turned (t':=s.toks) (fun b o hb e=>(sb.2 b hb).trans e) f0 f1 f3 f4 f5
  obtain ⟨o,e,c,d⟩:=id st'
  exact ⟨u,rfl,rg (s:={ s with heap:=h' }) e c d (by decide) ⟨x,H,I1,ru,⟨rfl,fun ys hy=>by rw [I.cI hy hq]; exact hx⟩,st',fun b hb=>(hf b hb).1⟩⟩
 done:=by
  intro X hP hw hK hc i pins s σ H E I hf st hg
  subst hP hw hK
  obtain ⟨xs,hq,hx⟩:=hg
  obtain ⟨its,rv,p,hz⟩:=I.tuple hq
  obtain ⟨f0,f1,f2,f3,f4,f5⟩:=hf it (by simp)
  have hl:=rv.length
  exact wpAny_pyNext_tuple_end (I.ok.hd hc) st (show s.heap.IsTuple a its.toArray from p) (by simp; omega) fun h' eb=>⟨rfl,I.turned (t':=s.toks) (fun b o hb e=>eb b o hb e) f0 f1 f3 f4 f5⟩
 self:=fun _ _ _ _ _ st h=>wpAny_pyIter_tupleiter st h
theorem oB {P:Program} {w:World} {K:PySem.W.Frag} {tg:Expr} (it:Addr) (lo:Int) (n:Nat):Turn P w K tg (Ez lo n) [it] it (fun i h=>IsRangeIter h it (lo + (i:Nat) * 1) ((n:Int) - (i:Nat)) 1) where
 mem:=by simp
 obj:=fun i h st b hb=>by
  have e:b = it:=by simpa using hb
  subst e
  exact ⟨_,st,fun v z=>by
   have z':Data.fields _ = Data.cell v:=z
   cases z'⟩
 keep:=fun i h h' st k=>k it (by simp) _ st
 item:=by
  intro X hP hw hK hc i pins s σ H E I hf st hg
  subst hP hw hK
  obtain ⟨f0,f1,f2,f3,f4,f5⟩:=hf it (by simp)
  have W:=Walks.range (prog:=X.prog) (w:=X.w) (I.ok.hd hc) it lo 1 n
  refine W.item i s _ _ hg st fun v h' tk hv st' kk=>?_
  obtain ⟨t,rfl⟩:=hv
  have I1:Inv X pins σ H { s with heap:=h',toks:=tk }:=I.turned (fun b o hb e=>kk b o (by simpa using hb) e) f0 f1 f3 f4 f5
  refine ⟨_,rfl,rg (s:={ s with heap:=h',toks:=tk }) (n := "range_iterator") st' rfl rfl (by decide) ⟨.int (lo + i),H,I1,⟨t,?_⟩,⟨rfl,rfl⟩,st',fun b hb=>(hf b hb).1⟩⟩
  rw [Int.mul_one]
 done:=by
  intro X hP hw hK hc i pins s σ H E I hf st hg
  subst hP hw hK
  obtain ⟨f0,f1,f2,f3,f4,f5⟩:=hf it (by simp)
  exact wpAny_pyNext_range_end (I.ok.hd hc) st (by have:n <= i:=hg; omega) fun h' eb=>⟨rfl,I.turned (t':=s.toks) (fun b o hb e=>eb b o hb e) f0 f1 f3 f4 f5⟩
 self:=fun _ _ _ _ _ st h=>wpAny_pyIter_rangeiter st h
end L2
namespace L2
open PySem PySem.Spec PyProof.Rows
section
variable {X:Cx} {tg:Expr}
theorem nP {pins:List (Addr × Obj)} {σ:St} {H:Hp} {s:Shared} {R:It -> Hp -> Prop} {E:Value -> Shared -> Prop} {lo hi:Int} {t u v:Tok} {tk:Nat} (I:Inv X pins σ H s) (h1:-(2 ^ 62) <= lo) (h2:lo < 2 ^ 62) (h3:-(2 ^ 62) <= hi) (h4:hi < 2 ^ 62)
  (q:R (Ez lo (hi - lo).toNat) H):wpAny (model X.prog X.w) X.A (pyIter (.ref s.heap.objs.size)) (HE X pins σ tg R) E { s with heap:=s.heap.push { cls:=.type "range",data:=.fields #[.int lo t,.int hi u,.int 1 v] },toks:=tk }:=by
 refine wpAny_pyIter_range (IsRange.new ..) (small_one h1 h2 h3 h4) ?_
 have I1:Inv X pins σ H { s with heap:=s.heap.push { cls:=.type "range",data:=.fields #[.int lo t,.int hi u,.int 1 v] },toks:=tk }:=I.kept fun b o e=>Heap.get?_push_of_some _ e
 refine ⟨(s.heap.push { cls:=.type "range",data:=.fields #[.int lo t,.int hi u,.int 1 v] }).objs.size,[(s.heap.push { cls:=.type "range",data:=.fields #[.int lo t,.int hi u,.int 1 v] }).objs.size],_,_,H,rfl,
  I1.kept (t':=tk) fun b o e=>Heap.get?_push_of_some _ e,oB _ lo (hi - lo).toNat,?_,fun b hb=>?_,q⟩
 ·have e1:lo + ((0:Nat):Int) * 1 = lo:=by simp
  have e2:(((hi - lo).toNat:Nat):Int) - ((0:Nat):Int) = Builtin.Range.rangeSize lo hi 1:=by rw [rangeSize_one]; split <;> omega
  show IsRangeIter _ _ (lo + ((0:Nat):Int) * 1) ((((hi - lo).toNat:Nat):Int) - ((0:Nat):Int)) 1
  rw [e1,e2]
  exact Heap.get?_push_size _ rfl
 ·have e:b = (s.heap.push { cls:=.type "range",data:=.fields #[.int lo t,.int hi u,.int 1 v] }).objs.size:=by simpa using hb
  subst e
  exact I1.js (Nat.le_refl _) (I1.hok.fresh (Nat.le_refl _))
def xQ (ta:TA):TI:=fun σ H R=>ta σ H fun vs H1=>∃ j:Int,vs = [.int j] /\ -(2 ^ 62) <= j /\ j < 2 ^ 62 /\ R (Ez 0 j.toNat) H1
def Bi (ta:TA):TI:=fun σ H R=>ta σ H fun vs H1=>∃ i j:Int,vs = [.int i,.int j] /\ (-(2 ^ 62) <= i /\ i < 2 ^ 62 /\ -(2 ^ 62) <= j /\ j < 2 ^ 62) /\ R (Ez i (j - i).toNat) H1
theorem C7 {a:Expr} {ta:TA} {p pos:Pos} (hg:Gl X "range") (hm:X.mg "range" = none) (ha:PA X [a] ta) (hs:starEach [a] X.env = [(false,eval a X.env)]:=by rfl):PI X tg (.Call (.Name "range" p) [a] [] pos) (xQ ta):=by
 refine .of ?_
 intro pins s σ H R I h
 refine Call_ (bo I hg hm boot_range (PyProof.Rows.callWith_type1 (B6 (ha pos pins s σ H _ I h) fun us s1 ⟨vs,H1,I1,r1,q1⟩=>?_) hs rfl))
 obtain ⟨j,e,q1,q2,q⟩:=q1
 subst e
 cases r1 with
 | cons r rr=>
  cases rr
  obtain ⟨t,rfl⟩:=r
  exact call_range_1 (nP I1 (by omega) (by omega) q1 q2 (by simpa using q))
theorem tH {a b:Expr} {ta:TA} {p pos:Pos} (hg:Gl X "range") (hm:X.mg "range" = none) (ha:PA X [a,b] ta) (hs:starEach [a,b] X.env = [(false,eval a X.env),(false,eval b X.env)]:=by rfl) (hs2:starEach [b] X.env = [(false,eval b X.env)]:=by rfl) :
  PI X tg (.Call (.Name "range" p) [a,b] [] pos) (Bi ta):=by
 refine .of ?_
 intro pins s σ H R I h
 refine Call_ (bo I hg hm boot_range (PyProof.Rows.callWith_type1 (B6 (ha pos pins s σ H _ I h) fun us s1 ⟨vs,H1,I1,r1,q1⟩=>?_) (by rw [hs,hs2]) (by rw [hs2]; rfl)))
 obtain ⟨i,j,e,⟨q1,q2,q3,q4⟩,q⟩:=q1
 subst e
 cases r1 with
 | cons r rr=>
  cases rr with
  | cons r' rr=>
   cases rr
   obtain ⟨t,rfl⟩:=r
   obtain ⟨t',rfl⟩:=r'
   exact call_range_2 (nP I1 q1 q2 q3 q4 q)
def Ex (wi:TI) (g:TG) (tb:TS):TS:=fun D σ H=>wi σ H fun J H1=>∃ W:Nat -> Nat -> St -> Hp -> Prop,(∃ m,W 0 m σ H1) /\ ∀ i m σ H,W i m σ H ->
 (J.stop i H /\ D.nx σ H) \/ (J.go i H /\ ∃ N:St -> Hp -> Prop,(∀ σ' H',N σ' H' -> ∃ m',m' < m /\ W (i + 1) m' σ' H') /\ ∀ x H',J.yld i H x H' -> g x σ H' fun σ2 H2=>tb { D with nx:=N,ct:=N,bk:=D.nx } σ2 H2)
noncomputable def cR (fp:List Addr) (h:Heap):List (Addr × Obj):=fp.filterMap fun b=>(h.get? b).map fun o=>(b,o)
theorem M0 {fp:List Addr} {h:Heap} {b:Addr} {o:Obj} (hb:b ∈ fp) (e:h.get? b = some o):(b,o) ∈ cR fp h:=List.mem_filterMap.mpr ⟨b,hb,by rw [e]; rfl⟩
theorem rR {fp:List Addr} {h:Heap} {p:Addr × Obj} (hp:p ∈ cR fp h):p.1 ∈ fp /\ h.get? p.1 = some p.2:=by
 obtain ⟨b,hb,e⟩:=List.mem_filterMap.mp hp
 cases q:h.get? b with
 | none=>rw [q] at e; cases e
 | some o=>
  rw [q] at e
  have e':(b,o) = p:=Option.some.inj e
  subst e'
  exact ⟨hb,q⟩
theorem Inv.pinned {pins:List (Addr × Obj)} {σ:St} {H:Hp} {s:Shared} {fp:List Addr} (I:Inv X pins σ H s) (hf:∀ b ∈ fp,S1 X pins H b) (ho:∀ b ∈ fp,∃ o,s.heap.get? b = some o /\ ∀ v,o.data ≠ .cell v):Inv X (pins ++ cR fp s.heap) σ H s:=
 I.qV fun p hp=>(List.mem_append.mp hp).elim (fun z=>I.pin p (List.mem_append_right _ z)) fun z=>by
  obtain ⟨hb,e⟩:=rR z
  obtain ⟨f0,f1,f2,_⟩:=hf p.1 hb
  obtain ⟨o,e',d⟩:=ho p.1 hb
  rw [e] at e'; cases e'
  exact ⟨e,f0,f1,f2,d⟩
theorem Inv.ae {pins pl:List (Addr × Obj)} {σ:St} {H:Hp} {s:Shared} (I:Inv X (pins ++ pl) σ H s):Inv X pins σ H s:=I.qV fun p hp=>I.pin p (List.mem_append_right _ (List.mem_append_left _ hp))
theorem M6 {iter:Expr} {body:List Stmt} {wi:TI} {g:TG} {tb:TS} {pos:Pos} (hp:PassesOwn (model X.prog X.w) X.A X.env X.xe) (hc:X.calm = true) (hi:PI X tg iter wi) (hg:PG X tg g) (hb:jR X body tb)
  (hs:∀ x,foldedSetIterable iter X.env x = pure x:=by intro _; rfl):PS X (.For tg iter body [] pos) (Ex wi g tb):=by
 refine .of ?_
 intro pins s σ H D I h
 refine wpAny_For (B6 (hi pins s σ H _ I h) fun v s1 h1=>B6 h1 fun itv s2 h2=>?_) hs
 obtain ⟨it,fp,tn,J,H2,e,I2,T,st2,f2,W,⟨m0,w0⟩,turn⟩:=h2
 subst e
 have stat:∀ {H':Hp},(∀ b ∈ fp,H' b = none) -> ∀ b ∈ fp,S1 X pins H' b:=fun hn b hb=>⟨hn b hb,(f2 b hb).2⟩
 refine codeAny_forLoop_any (fun n s'=>∃ i σ' H',Inv X pins σ' H' s' /\ tn i s'.heap /\ (∀ b ∈ fp,H' b = none) /\ W i n σ' H') ?_ m0 ⟨0,σ,H2,I2,st2,fun b hb=>(f2 b hb).1,w0⟩
 rintro n s3 ⟨i,σ3,H3,I3,st3,fr3,w3⟩
 rcases turn i n σ3 H3 w3 with ⟨stop,qn⟩ | ⟨go,N,hN,step⟩
 ·refine wpAny_passesOwn hp (B6 (T.done X rfl rfl rfl hc i pins s3 σ3 H3 X.xe I3 (stat fr3) st3 stop) fun r s4 ⟨hr,I4⟩=>?_)
  subst hr
  exact wpAny_execs_nil ⟨σ3,H3,I4,qn⟩
 ·refine wpAny_passesOwn hp (B6 (T.item X rfl rfl rfl hc i pins s3 σ3 H3 X.xe I3 (stat fr3) st3 go) fun r s4 ⟨u,hr,h4⟩=>?_)
  subst hr
  refine wpAny_passesOwn hp (B6 h4 fun _ s5 ⟨x,H5,I5,r5,y5,st5,fr5⟩=>?_)
  have I5':=I5.pinned (stat fr5) (T.obj _ _ st5)
  refine wpAny_passesOwn hp (B6 (hg _ s5 σ3 H5 x u _ I5' r5 (step x H5 y5)) fun _ s6 ⟨σ6,H6,I6,q6⟩=>?_)
  refine wpAny_passesOwn hp (B6 (hb _ s6 σ6 H6 _ I6 q6) fun f s7 q7=>?_)
  have again:∀ {σ7:St} {H7:Hp},Inv X (pins ++ cR fp s5.heap) σ7 H7 s7 -> N σ7 H7 -> ∃ m,m < n /\ ∃ i σ' H',Inv X pins σ' H' s7 /\ tn i s7.heap /\ (∀ b ∈ fp,H' b = none) /\ W i m σ' H':=fun {σ7 H7} I7 n7=>by
   obtain ⟨m',hm,w7⟩:=hN σ7 H7 n7
   refine ⟨m',hm,i + 1,σ7,H7,I7.ae,T.keep _ _ _ st5 fun b hb o e=>(I7.pin (b,o) (List.mem_append_right _ (List.mem_append_right _ (M0 hb e)))).1,fun b hb=>?_,w7⟩
   obtain ⟨o,e,d⟩:=T.obj _ _ st5 b hb
   exact (I7.pin (b,o) (List.mem_append_right _ (List.mem_append_right _ (M0 hb e)))).2.1
  cases f with
  | next=>obtain ⟨σ7,H7,I7,n7⟩:=q7; exact again I7 n7
  | cont=>obtain ⟨σ7,H7,I7,n7⟩:=q7; exact again I7 n7
  | brk=>obtain ⟨σ7,H7,I7,q7⟩:=q7; exact ⟨σ7,H7,I7.ae,q7⟩
  | ret v=>obtain ⟨x7,σ7,H7,I7,r7,q7⟩:=q7; exact ⟨x7,σ7,H7,I7.ae,r7,q7⟩
end
end L2
namespace L2
open PySem PySem.Spec PyProof.Rows
noncomputable abbrev R2:=V -> V -> Hp -> VK -> Prop
def J4 (X:Cx) (f:Value -> Value -> Sem Value) (r:R2):Prop:=
 ∀ (pins:List (Addr × Obj)) (s:Shared) (σ:St) (H:Hp) (x y:V) (v u:Value) (Q:VK),Inv X pins σ H s -> RelV x v -> RelV y u -> r x y H Q ->
  wpAny (model X.prog X.w) X.A (f v u) (EP X pins σ Q) X.xe s
def Hd (X:Cx) (f:Value -> Sem Value) (r:V -> Hp -> VK -> Prop):Prop:=
 ∀ (pins:List (Addr × Obj)) (s:Shared) (σ:St) (H:Hp) (x:V) (v:Value) (Q:VK),Inv X pins σ H s -> RelV x v -> r x H Q ->
  wpAny (model X.prog X.w) X.A (f v) (EP X pins σ Q) X.xe s
def Z6 (X:Cx) (f:Value) (r:List V -> Hp -> VK -> Prop):Prop:=
 ∀ (pins:List (Addr × Obj)) (s:Shared) (σ:St) (H:Hp) (xs:List V) (us:List Value) (Q:VK),Inv X pins σ H s -> Vals xs us -> r xs H Q ->
  wpAny (model X.prog X.w) X.A (call f us) (EP X pins σ Q) X.xe s
def GX (X:Cx) (r:V -> Hp -> (Bool -> Hp -> Prop) -> Prop):Prop:=
 ∀ (pins:List (Addr × Obj)) (s:Shared) (σ:St) (H:Hp) (x:V) (v:Value) (Q:Bool -> Hp -> Prop),Inv X pins σ H s -> RelV x v -> r x H Q ->
  wpAny (model X.prog X.w) X.A (truthy v) (TP X pins σ Q) X.xe s
def Eg (r:R2) (ta tb:TE):TE:=fun σ H Q=>ta σ H fun x H1=>tb σ H1 fun y H2=>r x y H2 Q
def IC (r:V -> Hp -> VK -> Prop) (ta:TE):TE:=fun σ H Q=>ta σ H fun x H1=>r x H1 Q
def rI (C:Int -> Int -> Prop) (g:Int -> Int -> V):R2:=fun x y H Q=>∃ i j,x = .int i /\ y = .int j /\ C i j /\ Q (g i j) H
def uG (g:Int -> Int -> V):R2:=fun x y H Q=>∃ i j,x = .int i /\ y = .int j /\ Q (g i j) H
noncomputable def rU (g:Int -> V):V -> Hp -> VK -> Prop:=fun x H Q=>∃ i,x = .int i /\ Q (g i) H
section
variable {X:Cx} {a b c:Expr} {ta tb tc:TE} {pos:Pos}
theorem CN (ha:PE X a ta) (hb:PE X b tb) {pins:List (Addr × Obj)} {s:Shared} {σ:St} {H:Hp} {R:V -> V -> Hp -> Prop} (I:Inv X pins σ H s)
  (h:ta σ H fun x H1=>tb σ H1 fun y H2=>R x y H2) {Q:Value -> Shared -> Prop} {f:Value -> Value -> Sem Value}
  (hf:∀ v u s2 x y H2,Inv X pins σ H2 s2 -> RelV x v -> RelV y u -> R x y H2 -> wpAny (model X.prog X.w) X.A (f v u) Q X.xe s2) :
  wpAny (model X.prog X.w) X.A (eval a X.env) (fun v s₁=>wpAny (model X.prog X.w) X.A (eval b X.env) (fun u s₂=>wpAny (model X.prog X.w) X.A (f v u) Q X.xe s₂) X.xe s₁) X.xe s:=by
 refine B6 (ha pins s σ H _ I h) fun v s1 ⟨x,H1,I1,r1,q1⟩=>?_
 refine B6 (hb pins s1 σ H1 _ I1 q1) fun u s2 ⟨y,H2,I2,r2,q2⟩=>?_
 exact hf v u s2 x y H2 I2 r1 r2 q2
theorem Bt {op:Operator} {r:R2} (ho:J4 X (binaryOp op) r) (ha:PE X a ta) (hb:PE X b tb):PE X (.BinOp a op b pos) (Eg r ta tb):=by
 refine .of ?_
 intro pins s σ H Q I h
 exact wpAny_BinOp (CN ha hb I h fun v u s2 x y H2 I2 rx ry q=>ho pins s2 σ H2 x y v u Q I2 rx ry q)
theorem FO {op:UnaryOp} {r:V -> Hp -> VK -> Prop} (ho:Hd X (unaryOp op) r) (ha:PE X a ta):PE X (.UnaryOp op a pos) (IC r ta):=by
 refine .of ?_
 intro pins s σ H Q I h
 exact UnaryOp_ (B6 (ha pins s σ H _ I h) fun v s1 ⟨x,H1,I1,r1,q1⟩=>ho pins s1 σ H1 x v Q I1 r1 q1)
theorem Gu {f:Value -> Value -> Sem Value} {C:Int -> Int -> Prop} {g:Int -> Int -> Int}
  (rule:∀ (i j:Int) (t u:Tok) (s:Shared) (Q:Value -> Shared -> Prop) (E:Value -> Shared -> Prop),C i j -> Q (.int (g i j) s.toks) { s with toks:=s.toks + 1 } -> wpAny (model X.prog X.w) X.A (f (.int i t) (.int j u)) Q E s) :
  J4 X f (rI C fun i j=>.int (g i j)):=by
 intro pins s σ H x y v u Q I rx ry h
 obtain ⟨i,j,rfl,rfl,hc,q⟩:=h
 obtain ⟨t,rfl⟩:=rx
 obtain ⟨t',rfl⟩:=ry
 exact rule i j t t' s _ _ hc ⟨.int (g i j),H,I.tok _,⟨_,rfl⟩,q⟩
theorem Em {f:Value -> Value -> Sem Value} {g:Int -> Int -> Int}
  (rule:∀ (i j:Int) (t u:Tok) (s:Shared) (Q:Value -> Shared -> Prop) (E:Value -> Shared -> Prop),Q (.int (g i j) s.toks) { s with toks:=s.toks + 1 } -> wpAny (model X.prog X.w) X.A (f (.int i t) (.int j u)) Q E s) :
  J4 X f (uG fun i j=>.int (g i j)):=by
 intro pins s σ H x y v u Q I rx ry h
 obtain ⟨i,j,rfl,rfl,q⟩:=h
 obtain ⟨t,rfl⟩:=rx
 obtain ⟨t',rfl⟩:=ry
 exact rule i j t t' s _ _ ⟨.int (g i j),H,I.tok _,⟨_,rfl⟩,q⟩
theorem zv {f:Value -> Value -> Sem Value} {g:Int -> Int -> Bool}
  (rule:∀ (i j:Int) (t u:Tok) (s:Shared) (Q:Value -> Shared -> Prop) (E:Value -> Shared -> Prop),Q (.bool (g i j)) s -> wpAny (model X.prog X.w) X.A (f (.int i t) (.int j u)) Q E s) :
  J4 X f (uG fun i j=>.bl (g i j)):=by
 intro pins s σ H x y v u Q I rx ry h
 obtain ⟨i,j,rfl,rfl,q⟩:=h
 obtain ⟨t,rfl⟩:=rx
 obtain ⟨t',rfl⟩:=ry
 exact rule i j t t' s _ _ ⟨.bl (g i j),H,I,rfl,q⟩
def gU (i j:Int):Prop:=0 <= j /\ j <= 1000000 /\ i.natAbs < 2 ^ 64
def U6 (i j:Int):Prop:=(-(2 ^ 64) < i /\ i < 2 ^ 64) \/ (-(2 ^ 64) < j /\ j < 2 ^ 64)
theorem U6.ok {i j:Int} (h:U6 i j):IntMulOk i j:=by
 rcases h with ⟨h1,h2⟩ | ⟨h1,h2⟩
 ·exact .of_left (intBits_le_64 h1 h2)
 ·exact .of_right (intBits_le_64 h1 h2)
theorem CY:J4 X (binaryOp .Add) (uG fun i j=>.int (i + j)):=Em fun _ _ _ _ _ _ _ q=>add_int q
theorem vS:J4 X (binaryOp .Sub) (uG fun i j=>.int (i - j)):=Em fun _ _ _ _ _ _ _ q=>sub_int q
theorem DE:J4 X (binaryOp .Mult) (rI U6 fun i j=>.int (i * j)):=Gu fun _ _ _ _ _ _ _ hc q=>mul_int q hc.ok
theorem uQ:J4 X (binaryOp .Mod) (rI (fun _ j=>0 < j) fun i j=>.int (i % j)):=Gu fun i j _ _ _ _ _ hc q=>by
 have h1:(0:Int) < j:=hc
 exact mod_int' (by omega) (by rw [Int.fmod_eq_emod_of_nonneg i (by omega)]; exact q)
theorem CI:J4 X (binaryOp .Pow) (rI gU fun i j=>.int (i ^ j.toNat)):=Gu fun _ _ _ _ _ _ _ hc q=>pow_int_small hc.1 hc.2.1 hc.2.2 q
theorem Ij {f:Value -> Sem Value} {g:Int -> Int}
  (rule:∀ (i:Int) (t:Tok) (s:Shared) (Q:Value -> Shared -> Prop) (E:Value -> Shared -> Prop),Q (.int (g i) s.toks) { s with toks:=s.toks + 1 } -> wpAny (model X.prog X.w) X.A (f (.int i t)) Q E s) :
  Hd X f (rU fun i=>.int (g i)):=by
 intro pins s σ H x v Q I rx h
 obtain ⟨i,rfl,q⟩:=h
 obtain ⟨t,rfl⟩:=rx
 exact rule i t s _ _ ⟨.int (g i),H,I.tok _,⟨_,rfl⟩,q⟩
theorem Ck:Hd X (unaryOp .USub) (rU fun i=>.int (-i)):=Ij fun _ _ _ _ _ q=>neg_int q
end
noncomputable def CU:V -> V -> Bool
 | .non,.non=>true | .non,.int _=>true | .int _,.non=>true | .non,.bl _=>true | .bl _,.non=>true | .non,.str _=>true | .str _,.non=>true
 | .int _,.int _=>true | .bl _,.bl _=>true | .str _,.str _=>true | .byt _,.byt _=>true
 | .int _,.str _=>true | .str _,.int _=>true | .bl _,.str _=>true | .str _,.bl _=>true
 | _,_=>false
def HM:R2:=fun x y H Q=>CU x y = true /\ Q (.bl (decide (x = y))) H
def Ie:R2:=fun x y H Q=>CU x y = true /\ Q (.bl (!decide (x = y))) H
theorem qQ {i j:Int}:decide (V.int i = V.int j) = (i == j):=by
 rw [Bool.eq_iff_iff]
 simp
theorem yh {i j:Bool}:decide (V.bl i = V.bl j) = (i == j):=by
 rw [Bool.eq_iff_iff]
 simp
theorem rK {i j:Str}:decide (V.str i = V.str j) = (i == j):=by
 rw [Bool.eq_iff_iff]
 simp
theorem qY {i j:Array UInt8}:decide (V.byt i = V.byt j) = (i.toList == j.toList):=by
 rw [Bool.eq_iff_iff]
 cases i
 cases j
 simp
section
variable {X:Cx} {a b c:Expr} {ta tb tc:TE} {pos:Pos}
theorem p7 {pins:List (Addr × Obj)} {σ:St} {H:Hp} {s:Shared} {Q:VK} {k k':Bool} (I:Inv X pins σ H s) (q:Q (.bl k) H) (e:k = k'):EP X pins σ Q (.bool k') s:=by
 subst e
 exact ⟨.bl k,H,I,rfl,q⟩
theorem lz:J4 X (compareOp .Eq) HM:=by
 intro pins s σ H x y v u Q I rx ry h
 obtain ⟨hs,q⟩:=h
 cases x with
 | non=>
  cases rx
  cases y with
  | non=>cases ry; exact PySem.EqNone.eq_none_none (p7 I q (by simp))
  | bl j=>cases ry; exact PySem.EqNone.eq_none_bool (p7 I q (by simp))
  | int j=>obtain ⟨t',rfl⟩:=ry; exact PySem.EqNone.eq_none_int (p7 I q (by simp))
  | str j=>obtain ⟨t',rfl⟩:=ry; exact PySem.EqNone.eq_none_str (p7 I q (by simp))
  | _=>exact absurd (show false = true from hs) Bool.false_ne_true
 | bl i=>
  cases rx
  cases y with
  | non=>cases ry; exact PySem.EqNone.eq_bool_none (p7 I q (by simp))
  | bl j=>cases ry; exact eq_bool (p7 I q yh)
  | str j=>obtain ⟨t',rfl⟩:=ry; exact PySem.EqMixed.eq_bool_str (p7 I q (by simp))
  | _=>exact absurd (show false = true from hs) Bool.false_ne_true
 | int i=>
  obtain ⟨t,rfl⟩:=rx
  cases y with
  | non=>cases ry; exact PySem.EqNone.eq_int_none (p7 I q (by simp))
  | int j=>obtain ⟨t',rfl⟩:=ry; exact eq_int (p7 I q qQ)
  | str j=>obtain ⟨t',rfl⟩:=ry; exact PySem.EqMixed.eq_int_str (p7 I q (by simp))
  | _=>exact absurd (show false = true from hs) Bool.false_ne_true
 | str i=>
  obtain ⟨t,rfl⟩:=rx
  cases y with
  | non=>cases ry; exact PySem.EqNone.eq_str_none (p7 I q (by simp))
  | bl j=>cases ry; exact PySem.EqMixed.eq_str_bool (p7 I q (by simp))
  | int j=>obtain ⟨t',rfl⟩:=ry; exact PySem.EqMixed.eq_str_int (p7 I q (by simp))
  | str j=>obtain ⟨t',rfl⟩:=ry; exact eq_str (p7 I q rK)
  | _=>exact absurd (show false = true from hs) Bool.false_ne_true
 | byt i=>
  obtain ⟨t,rfl⟩:=rx
  cases y with
  | byt j=>obtain ⟨t',rfl⟩:=ry; exact PySem.W.eq_bytes (p7 I q qY)
  | _=>exact absurd (show false = true from hs) Bool.false_ne_true
 | _=>cases y <;> exact absurd (show false = true from hs) Bool.false_ne_true
theorem EO:J4 X (compareOp .NotEq) Ie:=by
 intro pins s σ H x y v u Q I rx ry h
 obtain ⟨hs,q⟩:=h
 cases x with
 | non=>
  cases rx
  cases y with
  | non=>cases ry; exact PySem.EqNone.ne_none_none (p7 I q (by simp))
  | bl j=>cases ry; exact PySem.EqNone.ne_none_bool (p7 I q (by simp))
  | int j=>obtain ⟨t',rfl⟩:=ry; exact PySem.EqNone.ne_none_int (p7 I q (by simp))
  | str j=>obtain ⟨t',rfl⟩:=ry; exact PySem.EqNone.ne_none_str (p7 I q (by simp))
  | _=>exact absurd (show false = true from hs) Bool.false_ne_true
 | bl i=>
  cases rx
  cases y with
  | non=>cases ry; exact PySem.EqNone.ne_bool_none (p7 I q (by simp))
  | bl j=>cases ry; exact ne_bool (p7 I q (congrArg not yh))
  | str j=>obtain ⟨t',rfl⟩:=ry; exact PySem.EqMixed.ne_bool_str (p7 I q (by simp))
  | _=>exact absurd (show false = true from hs) Bool.false_ne_true
 | int i=>
  obtain ⟨t,rfl⟩:=rx
  cases y with
  | non=>cases ry; exact PySem.EqNone.ne_int_none (p7 I q (by simp))
  | int j=>obtain ⟨t',rfl⟩:=ry; exact ne_int (p7 I q (congrArg not qQ))
  | str j=>obtain ⟨t',rfl⟩:=ry; exact PySem.EqMixed.ne_int_str (p7 I q (by simp))
  | _=>exact absurd (show false = true from hs) Bool.false_ne_true
 | str i=>
  obtain ⟨t,rfl⟩:=rx
  cases y with
  | non=>cases ry; exact PySem.EqNone.ne_str_none (p7 I q (by simp))
  | bl j=>cases ry; exact PySem.EqMixed.ne_str_bool (p7 I q (by simp))
  | int j=>obtain ⟨t',rfl⟩:=ry; exact PySem.EqMixed.ne_str_int (p7 I q (by simp))
  | str j=>obtain ⟨t',rfl⟩:=ry; exact ne_str (p7 I q (congrArg not rK))
  | _=>exact absurd (show false = true from hs) Bool.false_ne_true
 | byt i=>
  obtain ⟨t,rfl⟩:=rx
  cases y with
  | byt j=>obtain ⟨t',rfl⟩:=ry; exact PySem.W.ne_bytes (p7 I q (congrArg not qY))
  | _=>exact absurd (show false = true from hs) Bool.false_ne_true
 | _=>cases y <;> exact absurd (show false = true from hs) Bool.false_ne_true
theorem xI:J4 X (compareOp .Lt) (uG fun i j=>.bl (decide (i < j))):=zv fun _ _ _ _ _ _ _ q=>lt_int q
theorem Fs:J4 X (compareOp .LtE) (uG fun i j=>.bl (decide (i <= j))):=zv fun _ _ _ _ _ _ _ q=>le_int q
theorem Bq:J4 X (compareOp .Gt) (uG fun i j=>.bl (decide (j < i))):=zv fun _ _ _ _ _ _ _ q=>gt_int q
theorem Ga:J4 X (compareOp .GtE) (uG fun i j=>.bl (decide (j <= i))):=zv fun _ _ _ _ _ _ _ q=>ge_int q
theorem rY:J4 X (compareOp .In) (fun x y H Q=>∃ i j,x = .str i /\ y = .str j /\ Q (.bl (!(Builtin.Str.occurrences j i 0 j.length 1).isEmpty)) H):=by
 intro pins s σ H x y v u Q I rx ry h
 obtain ⟨i,j,rfl,rfl,q⟩:=h
 obtain ⟨t,rfl⟩:=rx
 obtain ⟨t',rfl⟩:=ry
 exact in_str (p7 I q rfl)
theorem yv:J4 X (compareOp .Is) (fun x y H Q=>y = .non /\ Q (.bl (decide (x = .non))) H):=by
 intro pins s σ H x y v u Q I rx ry h
 obtain ⟨rfl,q⟩:=h
 cases ry
 refine is_none_gen (p7 I q ?_)
 cases x <;> first
  | (cases rx; rfl)
  | (obtain ⟨t,rfl⟩:=rx; rfl)
theorem Ay:J4 X (compareOp .IsNot) (fun x y H Q=>y = .non /\ Q (.bl (!decide (x = .non))) H):=by
 intro pins s σ H x y v u Q I rx ry h
 obtain ⟨rfl,q⟩:=h
 cases ry
 refine isnot_none_gen (p7 I q ?_)
 cases x <;> first
  | (cases rx; rfl)
  | (obtain ⟨t,rfl⟩:=rx; rfl)
theorem kF:J4 X (compareOp .NotIn) (fun x y H Q=>∃ i j,x = .str i /\ y = .str j /\ Q (.bl (!(!(Builtin.Str.occurrences j i 0 j.length 1).isEmpty))) H):=by
 intro pins s σ H x y v u Q I rx ry h
 obtain ⟨i,j,rfl,rfl,q⟩:=h
 obtain ⟨t,rfl⟩:=rx
 obtain ⟨t',rfl⟩:=ry
 exact notIn_str (p7 I q rfl)
theorem J4.or {f:Value -> Value -> Sem Value} {r r':R2} (h:J4 X f r) (h':J4 X f r'):J4 X f (fun x y H Q=>r x y H Q \/ r' x y H Q):=by
 intro pins s σ H x y v u Q I rx ry q
 rcases q with q | q
 ·exact h pins s σ H x y v u Q I rx ry q
 ·exact h' pins s σ H x y v u Q I rx ry q
theorem p3 (b:Expr) {op:CmpOp} (h:op ≠ .In:=by decide) (h2:op ≠ .NotIn:=by decide):behindInMarks op b = false:=by
 have e1:(op == CmpOp.In) = false:=by cases op <;> first | rfl | exact absurd rfl h
 have e2:(op == CmpOp.NotIn) = false:=by cases op <;> first | rfl | exact absurd rfl h2
 cases b <;> simp [behindInMarks,e1,e2]
theorem qO {op:CmpOp} {r:R2} (ho:J4 X (compareOp op) r) (ha:PE X a ta) (hb:PE X b tb) (hm:behindInMarks op b = false):PE X (.Compare a [op] [b] pos) (Eg r ta tb):=by
 refine .of ?_
 intro pins s σ H Q I h
 exact wpAny_Compare1 (CN ha hb I h fun v u s2 x y H2 I2 rx ry q=>ho pins s2 σ H2 x y v u Q I2 rx ry q) hm
def Bc (t:TE):TT:=fun σ H Q=>t σ H fun x H'=>∃ k,x = .bl k /\ Q k H'
theorem qx {op:CmpOp} {r:R2} (ho:J4 X (compareOp op) r) (ha:PE X a ta) (hb:PE X b tb) (hm:behindInMarks op b = false):PT X (.Compare a [op] [b] pos) (Bc (Eg r ta tb)):=by
 refine .of ?_
 intro pins s σ H Q I h
 refine wpAny_isTrue_Compare1 (B6 (ha pins s σ H _ I h) fun v s1 ⟨x,H1,I1,r1,q1⟩=>B6 (hb pins s1 σ H1 _ I1 q1) fun u s2 ⟨y,H2,I2,r2,q2⟩=>
  B6 (ho pins s2 σ H2 x y v u _ I2 r1 r2 q2) fun c s3 ⟨z,H3,I3,r3,k,e,q3⟩=>?_) hm
 subst e
 cases r3
 exact wpAny_truthy_bool ⟨H3,I3,q3⟩
def oU (r r':R2) (ta tb tc:TE):TE:=fun σ H Q=>ta σ H fun x H1=>tb σ H1 fun y H2=>r x y H2 fun z H3=>∃ k,z = .bl k /\
 (if k = true then tc σ H3 fun w' H4=>r' y w' H4 Q else Q (.bl false) H3)
theorem vR {op op':CmpOp} {r r':R2} (ho:J4 X (compareOp op) r) (ho':J4 X (compareOp op') r') (ha:PE X a ta) (hb:PE X b tb) (hc:PE X c tc)
  (hm:lastMarks [op,op'] [b,c] = false:=by with_unfolding_all rfl):PE X (.Compare a [op,op'] [b,c] pos) (oU r r' ta tb tc):=by
 refine .of ?_
 intro pins s σ H Q I h
 refine Compare_chain (B6 (ha pins s σ H _ I h) fun v s1 ⟨x,H1,I1,r1,q1⟩=>chain_link (B6 (hb pins s1 σ H1 _ I1 q1) fun u s2 ⟨y,H2,I2,r2,q2⟩=>
  B6 (ho pins s2 σ H2 x y v u _ I2 r1 r2 q2) fun d s3 ⟨z,H3,I3,r3,k,e,q3⟩=>?_)) hm
 subst e
 cases r3
 refine wpAny_truthy_bool ?_
 cases k with
 | false=>exact ite_ff ⟨.bl false,H3,I3,rfl,q3⟩
 | true=>exact ite_tt (chain_last (B6 (hc pins s3 σ H3 _ I3 q3) fun w' s4 ⟨z',H4,I4,r4,q4⟩=>ho' pins s4 σ H4 y z' u w' Q I4 r2 r4 q4))
theorem wc {op op':CmpOp} {r r':R2} (ho:J4 X (compareOp op) r) (ho':J4 X (compareOp op') r') (ha:PE X a ta) (hb:PE X b tb) (hc:PE X c tc)
  (hm:lastMarks [op,op'] [b,c] = false:=by with_unfolding_all rfl):PT X (.Compare a [op,op'] [b,c] pos) (Bc (oU r r' ta tb tc)):=by
 refine .of ?_
 intro pins s σ H Q I h
 refine isTrue_chain (B6 (ha pins s σ H _ I h) fun v s1 ⟨x,H1,I1,r1,q1⟩=>test_link (B6 (hb pins s1 σ H1 _ I1 q1) fun u s2 ⟨y,H2,I2,r2,q2⟩=>
  B6 (ho pins s2 σ H2 x y v u _ I2 r1 r2 q2) fun d s3 ⟨z,H3,I3,r3,k,e,q3⟩=>?_)) hm
 subst e
 cases r3
 refine wpAny_truthy_bool ?_
 cases k with
 | false=>
  obtain ⟨k',e',q'⟩:=q3
  cases e'
  exact ite_ff ⟨H3,I3,q'⟩
 | true=>
  refine ite_tt (test_last (B6 (hc pins s3 σ H3 _ I3 q3) fun w' s4 ⟨z',H4,I4,r4,q4⟩=>B6 (ho' pins s4 σ H4 y z' u w' _ I4 r2 r4 q4) fun d' s5 ⟨z2,H5,I5,r5,k2,e2,q5⟩=>?_))
  subst e2
  cases r5
  exact wpAny_truthy_bool ⟨H5,I5,q5⟩
def Fz (K:PySem.W.Frag) (x:V) (H:Hp) (k:Bool):Prop:=
 match x with
 | .non=>k = false
 | .bl b=>k = b
 | .int i=>k = (i != 0)
 | .str y=>y.length <= sizeLine /\ k = ((y.length:Int) != 0)
 | .byt y=>y.size <= sizeLine /\ k = ((y.size:Int) != 0)
 | .ref p=>(∃ xs,S3 K H p xs /\ k = !xs.isEmpty) \/ (∃ xs,O8 K H p xs /\ k = !xs.isEmpty) \/ ∃ kvs,Dd H p kvs /\ k = !kvs.isEmpty
 | _=>False
theorem pd {κ:Type} {kvs:List (κ × V)} {vs:List (κ × Value)} (r:KV kvs vs):(!vs.isEmpty) = !kvs.isEmpty:=by
 cases r <;> rfl
theorem fS {xs:List V} {its:List Value} (r:Vals xs its):(!its.toArray.isEmpty) = !xs.isEmpty:=by
 cases r <;> simp
theorem cF:(sizeLine:Nat) < 2 ^ 63:=by rw [sizeLine_eq]; decide
theorem CO:GX X (fun x H Q=>∃ k,Fz X.K x H k /\ Q k H):=by
 intro pins s σ H x v Q I rx h
 obtain ⟨k,e,q⟩:=h
 have hl:=cF
 have hs:sizeLine = 16777216:=sizeLine_eq
 cases x with
 | non=>
  cases rx
  have e':k = false:=e
  subst e'
  exact truthy_none ⟨H,I,q⟩
 | bl b=>
  cases rx
  have e':k = b:=e
  subst e'
  exact wpAny_truthy_bool ⟨H,I,q⟩
 | int i=>
  obtain ⟨t,rfl⟩:=rx
  have e':k = (i != 0):=e
  subst e'
  exact PySem.P.truthy_int ⟨H,I,q⟩
 | str y=>
  obtain ⟨t,rfl⟩:=rx
  obtain ⟨hy,e'⟩:y.length <= sizeLine /\ k = ((y.length:Int) != 0):=e
  subst e'
  exact PySem.P.truthy_str (by omega) ⟨H,I.tok _,q⟩
 | byt y=>
  obtain ⟨t,rfl⟩:=rx
  obtain ⟨hy,e'⟩:y.size <= sizeLine /\ k = ((y.size:Int) != 0):=e
  subst e'
  exact PySem.W.truthy_bytes (by omega) ⟨H,I.tok _,q⟩
 | ref p=>
  cases rx
  have e':(∃ xs,S3 X.K H p xs /\ k = !xs.isEmpty) \/ (∃ xs,O8 X.K H p xs /\ k = !xs.isEmpty) \/ ∃ kvs,Dd H p kvs /\ k = !kvs.isEmpty:=e
  rcases e' with ⟨xs,hx,e'⟩ | ⟨xs,hx,e'⟩ | ⟨kvs,hx,e'⟩
  ·subst e'
   obtain ⟨its,r,pl,hz⟩:=I.list hx
   have hlen:=r.length
   exact wpAny_truthy_list pl.isList (by simp only [List.size_toArray]; omega) ⟨H,I.tok _,by rw [fS r]; exact q⟩
  ·subst e'
   obtain ⟨its,r,pl,hz⟩:=I.tuple hx
   have hlen:=r.length
   exact truthy_tuple pl (by simp only [List.size_toArray]; omega) ⟨H,I.tok _,by rw [fS r]; exact q⟩
  ·subst e'
   obtain ⟨hz,hS,vs,r,m⟩:kvs.length <= sizeLine /\ (p == sysModules) = false /\ ∃ vs,KV kvs vs /\ s.heap.DictOf (w5 X.prog X.w) p vs:=(show w8 X.prog X.w H s.heap p (.dK kvs) from hx.ok I.hok)
   have hlen:kvs.length = vs.length:=Paired.length r
   exact wpAny_truthy_dict hS m (by omega) ⟨H,I.tok _,by rw [pd r]; exact q⟩
 | _=>exact (show False from e).elim
theorem vC (ha:PE X a ta) (he:∀ whole,isTrue a X.env whole = (do let v <- whole; standAt a.pos; holding [v] (truthy v))) :
  PT X a (fun σ H Q=>ta σ H fun x H'=>∃ k,Fz X.K x H' k /\ Q k H'):=by
 refine .of ?_
 intro pins s σ H Q I h
 exact isTrue_plain (B6 (ha pins s σ H _ I h) fun v s1 ⟨x,H1,I1,r1,q1⟩=>CO pins s1 σ H1 x v Q I1 r1 q1) (he _)
theorem pN:J4 X (binaryOp .Add) (fun x y H Q=>∃ i j,x = .str i /\ y = .str j /\ i.length + j.length <= sizeLine /\ Q (.str (i ++ j)) H):=by
 intro pins s σ H x y v u Q I rx ry h
 obtain ⟨i,j,rfl,rfl,hz,q⟩:=h
 obtain ⟨t,rfl⟩:=rx
 obtain ⟨t',rfl⟩:=ry
 exact add_str (fun t' tk=>⟨.str (i ++ j),H,I.tok _,⟨_,rfl⟩,q⟩) hz
theorem vals1 {x:V} {us:List Value} (r:Vals [x] us):∃ u,us = [u] /\ RelV x u:=by
 cases r with
 | cons r1 r2=>cases r2; exact ⟨_,rfl,r1⟩
theorem vals2 {x y:V} {us:List Value} (r:Vals [x,y] us):∃ u w',us = [u,w'] /\ RelV x u /\ RelV y w':=by
 cases r with
 | cons r1 r2=>
  cases r2 with
  | cons r3 r4=>cases r4; exact ⟨_,_,rfl,r1,r3⟩
theorem tq:Z6 X (.type "int") (fun xs H Q=>(∃ i,xs = [.int i] /\ Q (.int i) H) \/ ∃ k,xs = [.bl k] /\ Q (.int (if k then 1 else 0)) H):=by
 intro pins s σ H xs us Q I r h
 rcases h with ⟨i,rfl,q⟩ | ⟨k,rfl,q⟩
 ·obtain ⟨u,rfl,t,rfl⟩:=vals1 r
  exact call_int_int ⟨.int i,H,I,⟨_,rfl⟩,q⟩
 ·obtain ⟨u,rfl,r1⟩:=vals1 r
  cases r1
  exact call_int_bool ⟨.int (if k then 1 else 0),H,I.tok _,⟨_,rfl⟩,q⟩
def DP (K:PySem.W.Frag) (x:V) (H:Hp) (n:Nat):Prop:=
 match x with
 | .str y=>y.length <= sizeLine /\ n = y.length
 | .byt y=>y.size <= sizeLine /\ n = y.size
 | .ref p=>(∃ xs,S3 K H p xs /\ n = xs.length) \/ ∃ xs,O8 K H p xs /\ n = xs.length
 | _=>False
theorem A9:Z6 X (.builtin "len") (fun xs H Q=>∃ x n,xs = [x] /\ DP X.K x H n /\ Q (.int n) H):=by
 intro pins s σ H xs us Q I r h
 obtain ⟨x,n,rfl,e,q⟩:=h
 obtain ⟨u,rfl,rx⟩:=vals1 r
 have hl:=cF
 have hs:sizeLine = 16777216:=sizeLine_eq
 cases x with
 | str y=>
  obtain ⟨t,rfl⟩:=rx
  obtain ⟨hy,e'⟩:y.length <= sizeLine /\ n = y.length:=e
  subst e'
  exact len_str (by omega) ⟨.int _,H,I.tok _,⟨_,rfl⟩,q⟩
 | byt y=>
  obtain ⟨t,rfl⟩:=rx
  obtain ⟨hy,e'⟩:y.size <= sizeLine /\ n = y.size:=e
  subst e'
  exact PySem.W.len_bytes (by omega) ⟨.int _,H,I.tok _,⟨_,rfl⟩,q⟩
 | ref p=>
  cases rx
  have e':(∃ xs,S3 X.K H p xs /\ n = xs.length) \/ ∃ xs,O8 X.K H p xs /\ n = xs.length:=e
  rcases e' with ⟨xs,hx,e'⟩ | ⟨xs,hx,e'⟩
  ·subst e'
   obtain ⟨its,r',pl,hz⟩:=I.list hx
   have hlen:=r'.length
   exact Calls.call_len_list pl.isList (by simp only [List.size_toArray]; omega) ⟨.int xs.length,H,I.tok _,⟨_,by simp only [List.size_toArray]; rw [hlen]⟩,q⟩
  ·subst e'
   obtain ⟨its,r',pl,hz⟩:=I.tuple hx
   have hlen:=r'.length
   exact len_tuple pl (by simp only [List.size_toArray]; omega) ⟨.int xs.length,H,I.tok _,⟨_,by simp only [List.size_toArray]; rw [hlen]⟩,q⟩
 | _=>exact (show False from e).elim
end
end L2
namespace L2
open PySem PySem.Spec PyProof.Rows
structure zN (h:Heap) (x dx C:Addr) (mA:Str -> Option Value):Prop where
 obj:h.get? x = some (PySem.W.instObj C dx)
 ns:h.Ns1 dx mA
 ne:dx ≠ x
theorem sF {h:Heap} {dx:Addr} {mA:Str -> Option Value} (n:h.Ns1 dx mA):∃ od,h.get? dx = some od /\ ∀ name,PySem.W.lookIn name od = some (mA name):=by
 obtain ⟨o,es,ep,ho,hd,hk,_,hm⟩:=n
 refine ⟨o,ho,fun name=>?_⟩
 have e:=hm name
 unfold nsFind findBy at e
 rw [<- Array.find?_toList] at e
 unfold PySem.W.lookIn
 rw [hd]
 dsimp only
 split
 ·rename_i y q
  rw [q] at e
  exact congrArg some e
 ·rename_i q
  rw [q] at e
  have a:es.toList.any (·.refKey) = false:=by
   rw [List.any_eq_false]
   intro y hy
   obtain ⟨z,t,hkey⟩:=hk y (Array.mem_toList_iff.mp hy)
   simp [DictEntry.refKey,hkey]
  have a':¬ es.toList.any (·.refKey) = true:=by rw [a]; exact Bool.false_ne_true
  rw [if_neg a']
  exact congrArg some e
theorem zN.look {h:Heap} {x dx C:Addr} {mA:Str -> Option Value} (I:zN h x dx C mA):∃ od,PySem.W.InstAt h x (PySem.W.instObj C dx) C (some od) /\ ∀ name,PySem.W.lookIn name od = some (mA name):=
 let ⟨od,ho,hl⟩:=sF I.ns
 ⟨od,⟨I.obj,rfl,rfl,ho⟩,hl⟩
section
variable {prog:Program} {w:World} {A:Around} {E:Value -> Shared -> Prop} {s:Shared} {K:PySem.W.Frag} {x dx C f:Addr} {mA:Str -> Option Value} {name:Str} {v:Value}
theorem get_map {expr:Bool} {Q:Value -> Shared -> Prop} (X:K.In s.heap) (I:zN s.heap x dx C mA) (hg:PySem.W.plainGet K C name = true) (hh:PySem.W.hasDictIn K C = true)
  (ha:PySem.W.findIn K (.ref C) name = some none) (hv:mA name = some v) (hv':PySem.W.handedIn v = true) (h:Q v { s with toks:=s.toks + 1 }) :
  wpAny (model prog w) A (getAttr (.ref x) name expr) Q E s:=by
 obtain ⟨od,J,hl⟩:=I.look
 exact PySem.W.get_value X J (PySem.W.plainGet_of hg).1 (PySem.W.findObj_own hh ha rfl (by rw [hl,hv])) hv' h
end
theorem ag.some_of {v:V} {o:Option Value} (r:ag (some v) o):∃ u,o = some u /\ RelV v u:=by
 cases o with
 | none=>exact (show False from r).elim
 | some u=>exact ⟨u,rfl,r⟩
section
variable {P:Program} {w:World} {H H':Hp} {h h':Heap} {a C dx:Addr} {fs fs':List (Str × V)}
theorem zq (hok:P2 P w H h) (e:H a = some (.ins C dx fs)):∃ mA,zN h a dx C mA /\ (∀ f,ag (fs.lookup f) (mA f)) /\ PySem.Within mA (fs.map (·.1)) /\ fs.length <= 1000 /\ H dx = some (.own a):=by
 obtain ⟨d,z,ne,ob,mA,n,r,q⟩:=(show w8 P w H h a (.ins C dx fs) from hok a _ e)
 exact ⟨mA,⟨ob,n,ne⟩,r,q,z,d⟩
end
structure HA (K:PySem.W.Frag) (C:Addr):Prop where
 pg:PySem.W.plainGet K C Str.empty = true
 hd:PySem.W.hasDictIn K C = true
 po:PySem.W.plainOver K C = true
 sa:PySem.W.findIn K (.ref C) "__setattr__" = some (some (.builtin "object.__setattr__"))
theorem HA.get {K:PySem.W.Frag} {C:Addr} (c:HA K C) (f:Str):PySem.W.plainGet K C f = true:=c.pg
section
variable {X:Cx} {pins:List (Addr × Obj)} {σ:St} {H:Hp} {s:Shared} {a C dx:Addr} {fs:List (Str × V)} {f:Str} {v:V} {A:Around} {E:Value -> Shared -> Prop}
theorem yO {prog:Program} {w:World} {env:Env} {e:Expr} {f:Str} {pos:Pos} {s:Shared} {Q:Value -> Shared -> Prop} (hb:attributeBase e f env (eval e env) = eval e env)
  (h:wpAny (model prog w) A (eval e env) (fun o s₁=>wpAny (model prog w) A (getAttr o f true) Q E s₁) E s):wpAny (model prog w) A (eval (.Attribute e f pos) env) Q E s:=
 Attribute_any_ h (by rw [arm_eval_Attribute,hb])
end
section
variable {X:Cx} {o e value:Expr} {f:Str} {pos pos' tpos:Pos} {ta tv:TE}
end
section
variable {X:Cx} {pins:List (Addr × Obj)} {σ:St} {H:Hp} {s:Shared} {A:Around} {E:Value -> Shared -> Prop} {Q:Value -> Shared -> Prop} {c:Value} {b:Bool}
inductive aY (K:PySem.W.Frag) (H:Hp):V -> Value -> Prop where
 | non:aY K H .non (.type "NoneType")
 | bl (x:Bool):aY K H (.bl x) (.type "bool")
 | int (i:Int):aY K H (.int i) (.type "int")
 | str (x:Str):aY K H (.str x) (.type "str")
 | flt (x:UInt64):aY K H (.flt x) (.type "float")
 | lst {a:Addr} {xs:List V} (e:H a = some (.lst xs)):aY K H (.ref a) (.type "list")
 | frz {a:Addr} {o:Obj} {xs:List V} (e:H a = some (.frz o (.lst xs))):aY K H (.ref a) (.type "list")
 | tup {a:Addr} {xs:List V} (e:H a = some (.tup xs)):aY K H (.ref a) (.type "tuple")
 | dK {a:Addr} {kvs:List (Key × V)} (e:Dd H a kvs):aY K H (.ref a) (.type "dict")
 | dT {a:Addr} {kvs:List (List Key × V)} (e:H a = some (.dT kvs)):aY K H (.ref a) (.type "dict")
 | ins {a C dx:Addr} {fs:List (Str × V)} (e:H a = some (.ins C dx fs)) (cl:HA K C) (ha:PySem.W.findIn K (.ref C) "__class__" = some (some (.builtin "object.__class__")))
   (hn:PySem.W.specialIn K (.builtin "object.__class__") "__get__" = some (some (.builtin "getset_descriptor.__get__"))) (htk:PySem.W.takesIn K (.builtin "object.__class__") = some true)
   (hm:PySem.W.mroIn K C (.type "object") = some true):aY K H (.ref a) (.ref C)
theorem sH {x:V} {u t:Value} (I:Inv X pins σ H s) (rx:RelV x u) (ty:aY X.K H x t) (e:PySem.W.kitOne X.K t c = some b) (h:∀ tk,Q (.bool b) { s with toks:=tk }) :
  wpAny (model X.prog X.w) A (call (.builtin "isinstance") [u,c]) Q E s:=by
 cases ty with
 | non=>cases (show u = Value.none from rx); exact PySem.W.kia_one PySem.W.kitx_none I.gp True.intro e (fun z=>nomatch z) h
 | bl y=>cases (show u = Value.bool y from rx); exact PySem.W.kia_one PySem.W.kitx_bool I.gp True.intro e (fun z=>nomatch z) h
 | int i=>obtain ⟨t,q⟩:=(show ∃ t,u = Value.int i t from rx); cases q; exact PySem.W.kia_one PySem.W.kitx_int I.gp True.intro e (fun z=>nomatch z) h
 | str y=>obtain ⟨t,q⟩:=(show ∃ t,u = Value.str y t from rx); cases q; exact PySem.W.kia_one PySem.W.kitx_str I.gp True.intro e (fun z=>nomatch z) h
 | flt y=>obtain ⟨t,q⟩:=(show ∃ t,u = Value.float y t from rx); cases q; exact PySem.W.kia_one PySem.W.kitx_float I.gp True.intro e (fun z=>nomatch z) h
 | @lst a xs ea=>
  cases (show u = Value.ref a from rx)
  obtain ⟨_,_,n,_,h1⟩:=(show w8 X.prog X.w H s.heap a (.lst xs) from I.hok a _ ea)
  exact PySem.W.kia_one PySem.W.kitx_list I.gp ⟨_,h1,rfl⟩ e (fun z=>nomatch z) h
 | @frz a ob xs ea=>
  cases (show u = Value.ref a from rx)
  obtain ⟨_,_,_,n,_,h1⟩:=(show w8 X.prog X.w H s.heap a (.frz ob (.lst xs)) from I.hok a _ ea)
  exact PySem.W.kia_one PySem.W.kitx_list I.gp ⟨_,h1,rfl⟩ e (fun z=>nomatch z) h
 | @tup a xs ea=>
  cases (show u = Value.ref a from rx)
  obtain ⟨_,_,_,p⟩:=(show w8 X.prog X.w H s.heap a (.tup xs) from I.hok a _ ea)
  obtain ⟨o,h1,h2,_⟩:=p
  exact PySem.W.kia_one PySem.W.kitx_tuple I.gp ⟨o,h1,h2⟩ e (fun z=>nomatch z) h
 | @dK a kvs ea=>
  cases (show u = Value.ref a from rx)
  obtain ⟨_,_,vs,_,p⟩:=(show w8 X.prog X.w H s.heap a (.dK kvs) from ea.ok I.hok)
  obtain ⟨o,es,ep,h1,h2,_⟩:=p
  exact PySem.W.kia_one PySem.W.kitx_dict I.gp ⟨o,h1,h2.1⟩ e (fun z=>nomatch z) h
 | @dT a kvs ea=>
  cases (show u = Value.ref a from rx)
  obtain ⟨_,_,xs,_,o,es,ep,h1,h2,_⟩:=(show w8 X.prog X.w H s.heap a (.dT kvs) from I.hok a _ ea)
  exact PySem.W.kia_one PySem.W.kitx_dict I.gp ⟨o,h1,h2.1⟩ e (fun z=>nomatch z) h
 | @ins a C dx fs ea cl ha hn htk hm=>
  cases (show u = Value.ref a from rx)
  obtain ⟨mA,O,_⟩:=zq I.hok ea
  obtain ⟨od,J,_⟩:=O.look
  exact PySem.W.kia_one (PySem.W.kitx_own (cl.get _) cl.hd ha hn htk hm) I.gp J e (fun z=>nomatch z) h
end
end L2
namespace L2
open PySem PySem.Spec PyProof.Rows
structure E6 (k:Nat) (A:Around):Prop where
 hd:A.handled = none
 dp:A.depth + 3 * k + 5 < recursionLimit
 un:A.units + 16 * k + 200 < cLine
 gd:A.guards = some []
theorem E6.mono {j k:Nat} {A:Around} (r:E6 k A) (h:j <= k):E6 j A:=⟨r.hd,by have:=r.dp; omega,by have:=r.un; omega,r.gd⟩
theorem E6.deeper {k:Nat} {A:Around} (r:E6 (k + 1) A) (env:Env):E6 k (A.deeper env):=
 ⟨r.hd,by have:=r.dp; show A.depth + 1 + 3 * k + 5 < _; omega,by have:=r.un; show A.units + 3 + 16 * k + 200 < _; omega,r.gd⟩
theorem pZ {A:Around} {C:Addr} {us:List Value} {kw:List (Str × Value)}:(A.under (.builtin "type.__call__" ⟨.ref C :: us,kw⟩)).depth = A.depth + 1:=by
 first | rfl | simp [Around.under,Code.weight,Code.isCreation,Code.isGuard,Code.isCaller,Code.frames,Code.isFrame,guardIds]
theorem qg {A:Around} {C:Addr} {us:List Value} {kw:List (Str × Value)}:(A.under (.builtin "type.__call__" ⟨.ref C :: us,kw⟩)).units = A.units + 1:=by
 first | rfl | simp [Around.under,Code.cUnits,Code.frames,Code.isFrame]
theorem E6.make {k:Nat} {A:Around} (r:E6 (k + 1) A) (C:Addr) (us:List Value) (kw:List (Str × Value)):E6 k (A.under (.builtin "type.__call__" ⟨.ref C :: us,kw⟩)):=
 ⟨r.hd,by have:=r.dp; rw [pZ]; omega,by have:=r.un; rw [qg]; omega,(by first | exact r.gd | (have:=r.gd; simp [Around.under,Code.weight,Code.isCreation,Code.isGuard,Code.isCaller,Code.frames,Code.isFrame,guardIds,this]))⟩
theorem E6.depth {k:Nat} {A:Around} (r:E6 k A):A.depth < recursionLimit:=by have:=r.dp; omega
theorem E6.units {k:Nat} {A:Around} (r:E6 k A):A.units + 64 < cLine:=by have:=r.un; omega
def GJ:TA:=fun _ H Q=>Q [] H
def AV (ta:TE) (tr:TA):TA:=fun σ H Q=>ta σ H fun x H1=>tr σ H1 fun xs H2=>Q (x :: xs) H2
section
variable {X:Cx} {e:Expr} {es:List Expr} {te:TE} {t:TA} {pos:Pos}
theorem R7:PA X [] GJ:=.of <|  fun _ _ _ _ H Q I h=>Calls.spliced_nil ⟨[],H,I,.nil,h⟩
theorem yQ (ha:PE X e te) (hr:PA X es t) (hs:starEach (e :: es) X.env = (false,eval e X.env) :: starEach es X.env:=by rfl):PA X (e :: es) (AV te t):=by
 refine .of ?_
 intro pos pins s σ H Q I h
 rw [hs]
 show wpAny _ _ (spliced ((false,eval e X.env) :: backTo pos (starEach es X.env))) _ _ s
 refine Calls.spliced_cons (B6 (ha pins s σ H _ I h) fun u s1 ⟨x,H1,I1,r1,q1⟩=>?_)
 exact B6 (hr pos pins s1 σ H1 _ I1 q1) fun us s2 ⟨xs,H2,I2,r2,q2⟩=>⟨x :: xs,H2,I2,.cons r1 r2,q2⟩
def Hc (t:TA):TE:=fun σ H Q=>t σ H fun xs H1=>xs.length <= sizeLine /\ ∀ p,H1 p = none -> Q (.ref p) (upd H1 p (.tup xs))
def HH (t:TA):TE:=fun σ H Q=>t σ H fun xs H1=>xs.length <= sizeLine /\ ∀ p,H1 p = none -> Q (.ref p) (upd H1 p (.lst xs))
theorem xG {x1} (h:PA X es t):PE X (.Tuple es x1 pos) (Hc t):=by
 refine .of ?_
 intro pins s σ H Q I hq
 refine wpAny_Tuple_spliced (B6 (h pos pins s σ H _ I hq) fun us s1 ⟨xs,H1,I1,r,z,q⟩=>⟨by rw [<- r.length]; exact z,?_⟩)
 have hf:H1 s1.heap.objs.size = none:=I1.hok.fresh (Nat.le_refl _)
 refine ⟨.ref s1.heap.objs.size,upd H1 s1.heap.objs.size (.tup xs),I1.laid (t':=s1.toks) (fun b u e=>Heap.get?_push_of_some _ e) (Nat.le_refl _) ?_,rfl,q _ hf⟩
 exact ⟨z,us,r,⟨_,Heap.get?_push_size _ rfl,rfl,_,rfl⟩⟩
theorem wR (h:PA X es t):PE X (.List es pos) (HH t):=by
 refine .of ?_
 intro pins s σ H Q I hq
 refine wpAny_List_spliced (B6 (h pos pins s σ H _ I hq) fun us s1 ⟨xs,H1,I1,r,z,q⟩=>⟨by rw [<- r.length]; exact z,?_⟩)
 have hf:H1 s1.heap.objs.size = none:=I1.hok.fresh (Nat.le_refl _)
 refine ⟨.ref s1.heap.objs.size,upd H1 s1.heap.objs.size (.lst xs),I1.laid (t':=s1.toks) (fun b u e=>Heap.get?_push_of_some _ e) (Nat.le_refl _) ?_,rfl,q _ hf⟩
 exact ⟨z,us,0,r,Heap.get?_push_size _ rfl⟩
end
noncomputable abbrev Sp:=List V -> Hp -> VK -> XK -> Prop
noncomputable abbrev oV:=List Env -> Hp -> Shared -> XK -> Value -> Shared -> Prop
structure pR (P:Program) (w:World) (K:PySem.W.Frag) (mg:Str -> Option Value) (base:Heap) (A:Around) (outer:List Env) (s:Shared) (H:Hp):Prop where
 frames:A.frames = some outer
 mod:Mod K mg base
 bs:∀ b o,base.get? b = some o -> s.heap.get? b = some o /\ H b = none
 bsz:base.objs.size <= s.heap.objs.size
 cQ:s.heap.FunFrames base outer
 frf:∀ b ∈ T3 outer,H b = none
 hok:P2 P w H s.heap
 bare:AllBare s.gens
def CE (outer:List Env) (P:Program) (w:World) (H:Hp) (s:Shared) (Q:VK) (u:Value) (s':Shared):Prop:=
 ∃ v H',s'.os = s.os /\ AllBare s'.gens /\ Un (T3 outer) [] H H' s.heap s'.heap /\ P2 P w H' s'.heap /\ RelV v u /\ Q v H'
def CR (CX:oV) (outer:List Env) (P:Program) (w:World) (H:Hp) (s:Shared) (Q:VK) (E:XK) (r:Result) (s':Shared):Prop:=
 match r with
 | .ok (.ret u)=>CE outer P w H s Q u s'
 | .ok _=>False
 | .error e=>CX outer H s E e s'
structure y4 (P:Program) (w:World) (K:PySem.W.Frag) (mg:Str -> Option Value) (base:Heap) (CX:oV) (k:Nat) (f:Addr) (fd:FuncData) (ps:List Str) (sp:Sp):Prop where
 len:∀ vs H Q E,sp vs H Q E -> vs.length = ps.length
 run:∀ (A:Around) (outer:List Env) (s:Shared) (H:Hp) (args:Args) (us:List Value) (vs:List V) (Q:VK) (E:XK),E6 k A -> pR P w K mg base A outer s H -> BindsTo s fd args (ps.zip us) -> Vals vs us -> sp vs H Q E ->
  codeAny (model P w) A (.call (.ref f) args) (CR CX outer P w H s Q E) s
theorem y4.mono {P:Program} {w:World} {K:PySem.W.Frag} {mg:Str -> Option Value} {base:Heap} {CX:oV} {j k:Nat} {f:Addr} {fd:FuncData} {ps:List Str} {sp:Sp} (F:y4 P w K mg base CX j f fd ps sp) (h:j <= k) :
  y4 P w K mg base CX k f fd ps sp:=⟨F.len,fun A outer s H args us vs Q E hr=>F.run A outer s H args us vs Q E (hr.mono h)⟩
theorem y4.imp {P:Program} {w:World} {K:PySem.W.Frag} {mg:Str -> Option Value} {base:Heap} {CX:oV} {k:Nat} {f:Addr} {fd:FuncData} {ps:List Str} {sp sp':Sp} (F:y4 P w K mg base CX k f fd ps sp)
  (h:∀ vs H Q E,sp' vs H Q E -> sp vs H Q E):y4 P w K mg base CX k f fd ps sp':=
 ⟨fun vs H Q E q=>F.len vs H Q E (h _ _ _ _ q),fun A outer s H args us vs Q E hr he hb hv hs=>F.run A outer s H args us vs Q E hr he hb hv (h _ _ _ _ hs)⟩
theorem pR.make {P:Program} {w:World} {K:PySem.W.Frag} {mg:Str -> Option Value} {base:Heap} {A:Around} {outer:List Env} {s:Shared} {H:Hp} (e:pR P w K mg base A outer s H) (C:Addr) (us:List Value) (kw:List (Str × Value)) :
  pR P w K mg base (A.under (.builtin "type.__call__" ⟨.ref C :: us,kw⟩)) outer s H:=⟨by first | exact e.frames | (simpa [Around.under,Code.envs,Code.isFrame,pushEnvs] using e.frames),e.mod,e.bs,e.bsz,e.cQ,e.frf,e.hok,e.bare⟩
section
variable {X:Cx} {pins:List (Addr × Obj)} {σ:St} {H:Hp} {s s':Shared}
theorem Inv.Cv (I:Inv X pins σ H s):pR X.prog X.w X.K X.mg X.base X.A X.stack s H:=
 ⟨I.ok.frames,I.ok.mod,I.bs,Nat.le_trans I.ok.bsz I.sz,I.stack,I.dY,I.hok,I.bare⟩
theorem Inv.after {Q:VK} {u:Value} (I:Inv X pins σ H s) (h:CE X.stack X.prog X.w H s Q u s'):EP X pins σ Q u s':=by
 obtain ⟨v,H',os,bare,un,hok,r,q⟩:=h
 obtain ⟨hh,g,d,t,os'⟩:=s'
 obtain rfl:os' = s.os:=os
 exact ⟨v,H',I.call (h':=hh) (g':=g) (d':=d) (t':=t) (ch:=[]) un hok bare (fun b z=>absurd z (by simp)),r,q⟩
end
def Ge (sp:Sp) (dvs:List V) (E:XK) (t:TA):TE:=fun σ H Q=>t σ H fun vs H1=>sp (vs ++ dvs) H1 Q E
def Binds (K:PySem.W.Frag) (fd:FuncData) (ps:List Str) (ds:List Value):Prop:=
 ∀ (s:Shared) (us:List Value),K.In s.heap -> (us ++ ds).length = ps.length -> BindsTo s fd ⟨us,[]⟩ (ps.zip (us ++ ds))
theorem Binds.all {K:PySem.W.Frag} {fd:FuncData} {ps:List Str} (h:∀ us:List Value,us.length = ps.length -> bindArgs fd ⟨us,[]⟩ = pure (ps.zip us)):Binds K fd ps []:=fun s us _ hl=>by
 rw [List.append_nil] at hl ⊢
 exact .of_eq (h us hl)
def Passes (CX:oV) (X:Cx) (E:XK):Prop:=∀ (pins:List (Addr × Obj)) (σ:St) (H:Hp) (s:Shared) (e:Value) (s':Shared),Inv X pins σ H s -> CX X.stack H s E e s' -> X.xe e s'
section
variable {X:Cx} {CX:oV} {k:Nat} {f C:Addr} {fd:FuncData} {ps:List Str} {sp:Sp} {dvs:List V} {ds:List Value} {E:XK} {x m:Str} {p pos apos:Pos} {e o:Expr} {es:List Expr} {ta:TE} {t:TA}
theorem Dn {pins:List (Addr × Obj)} {σ:St} {H:Hp} {s:Shared} {Q:VK} {us:List Value} {vs:List V} (F:y4 X.prog X.w X.K X.mg X.base CX k f fd ps sp) (hr:E6 k X.A) (hb:Binds X.K fd ps ds) (hd:Vals dvs ds) (hx:Passes CX X E)
  (I:Inv X pins σ H s) (r:Vals vs us) (h:sp (vs ++ dvs) H Q E):wpAny (model X.prog X.w) X.A (call (.ref f) us) (EP X pins σ Q) X.xe s:=by
 have r2:Vals (vs ++ dvs) (us ++ ds):=r.append hd
 have hl:(us ++ ds).length = ps.length:=by rw [<- r2.length]; exact F.len _ _ _ _ h
 refine wpAny_call (codeAny_mono (F.run X.A X.stack s H ⟨us,[]⟩ (us ++ ds) (vs ++ dvs) Q E hr I.Cv (hb s us I.gp hl) r2 h) fun r s' hq=>?_)
 cases r with
 | error e=>exact hx pins σ H s e s' I hq
 | ok fl=>
  cases fl with
  | ret u=>exact I.after hq
  | next=>exact False.elim hq
  | brk=>exact False.elim hq
  | cont=>exact False.elim hq
theorem dX (F:y4 X.prog X.w X.K X.mg X.base CX k f fd ps sp) (hr:E6 k X.A) (hg:Gl X x) (hm:X.mg x = some (.ref f)) (hk:PySem.W.keepIn X.K (.ref f) = true) (hb:Binds X.K fd ps ds) (hd:Vals dvs ds) (hx:Passes CX X E)
  (ha:PA X (e :: es) t) (hdb:(x == ("__debug__" : Str)) = false:=by decide) (he:starEach (e :: es) X.env = (false,eval e X.env) :: starEach es X.env:=by rfl) (hpl:(backTo pos (starEach es X.env)).any (·.1) = false:=by rfl) :
  PE X (.Call (.Name x p) (e :: es) [] pos) (Ge sp dvs E t):=by
 refine .of ?_
 intro pins s σ H Q I h
 refine wpAny_Call_Name_kw (bB I hg hm ?_ hdb)
 refine PySem.W.callWith_K (h₀:=X.base) I.ok.mod.kin hk (B6 (ha pos pins s σ H _ I h) fun us s1 ⟨vs,H1,I1,r,q⟩=>⟨I1.gp,?_⟩) he hpl
 exact Dn F hr hb hd hx I1 r q
end
section
variable {X:Cx} {CX:oV} {k:Nat} {f C:Addr} {fd:FuncData} {ps ks:List Str} {sp:Sp} {E:XK} {x m:Str} {p pos apos kpos:Pos} {e o:Expr} {es:List Expr} {kws:List Keyword} {te ta:TE} {t tk:TA} {nm:Option Str}
variable {g:List Value -> List Value -> List Value} {gV:List V -> List V -> List V}
end
structure o4 (N P:List Str) (sc:Scope):Prop where
 kind:sc.kind = .function
 co:sc.isCoroutine = false
 gen:sc.isGenerator = false
 nd:N.Nodup
 pre:N.take P.length = P
 par:∀ x ∈ P,sc.names.lookup x = some .local \/ sc.names.lookup x = some .cell
 nofree:∀ y ∈ sc.names,y.2 ≠ .free
theorem ie {kindOf:Str -> Option NameKind} {x:Str}:∀ {binds:List (Str × Value)} {m:Str -> Option Value},(∀ v,(x,v) ∉ binds) -> bindL kindOf binds m x = m x
 | [],_,_=>rfl
 | (n,v) :: r,m,h=>by
  unfold bindL
  rw [ie fun w hw=>h w (List.mem_cons_of_mem _ hw)]
  split
  ·have:x ≠ n:=by rintro rfl; exact h v List.mem_cons_self
   simp [this]
  ·rfl
theorem iB {kindOf:Str -> Option NameKind} {x:Str}:∀ {binds:List (Str × Value)} {m:Str -> Option Value},(∀ v,(x,v) ∉ binds) -> bindC kindOf binds m x = m x
 | [],_,_=>rfl
 | (n,v) :: r,m,h=>by
  unfold bindC
  rw [iB fun w hw=>h w (List.mem_cons_of_mem _ hw)]
  split
  ·rfl
  ·have:x ≠ n:=by rintro rfl; exact h v List.mem_cons_self
   simp [this]
theorem iV {kindOf:Str -> Option NameKind} {x:Str} {v:Value}:∀ {P:List Str} {vs:List Value} {i:Nat} {m:Str -> Option Value},P.Nodup -> P[i]? = some x -> vs[i]? = some v -> kindOf x = some .local ->
  bindL kindOf (P.zip vs) m x = some v
 | [],_,_,_,_,h,_,_=>by simp at h
 | _ :: _,[],_,_,_,_,h,_=>by simp at h
 | p :: P,w :: vs,0,m,nd,h1,h2,hk=>by
  simp at h1 h2; subst h1; subst h2
  show bindL kindOf ((p,w) :: P.zip vs) m p = _
  unfold bindL
  rw [ie fun v hv=>(List.nodup_cons.mp nd).1 (List.of_mem_zip hv).1,if_pos hk]
  simp
 | p :: P,w :: vs,i + 1,m,nd,h1,h2,hk=>by
  show bindL kindOf ((p,w) :: P.zip vs) m x = _
  unfold bindL
  exact iV (i:=i) (List.nodup_cons.mp nd).2 (by simpa using h1) (by simpa using h2) hk
theorem iT {kindOf:Str -> Option NameKind} {x:Str} {v:Value}:∀ {P:List Str} {vs:List Value} {i:Nat} {m:Str -> Option Value},P.Nodup -> P[i]? = some x -> vs[i]? = some v -> kindOf x ≠ some .local ->
  bindC kindOf (P.zip vs) m x = some v
 | [],_,_,_,_,h,_,_=>by simp at h
 | _ :: _,[],_,_,_,_,h,_=>by simp at h
 | p :: P,w :: vs,0,m,nd,h1,h2,hk=>by
  simp at h1 h2; subst h1; subst h2
  show bindC kindOf ((p,w) :: P.zip vs) m p = _
  unfold bindC
  rw [iB fun v hv=>(List.nodup_cons.mp nd).1 (List.of_mem_zip hv).1,if_neg hk]
  simp
 | p :: P,w :: vs,i + 1,m,nd,h1,h2,hk=>by
  show bindC kindOf ((p,w) :: P.zip vs) m x = _
  unfold bindC
  exact iT (i:=i) (List.nodup_cons.mp nd).2 (by simpa using h1) (by simpa using h2) hk
noncomputable def start (N:List Str) (vs:List V):St:=vs.map some ++ List.replicate (N.length - vs.length) none
noncomputable def bR (CX:oV) (P:Program) (w:World) (K:PySem.W.Frag) (mg:Str -> Option Value) (base:Heap) (N:List Str) (qual:Str) (scope:Scope) (f:Addr) (cd:Value) (A:Around) (outer:List Env) (s:Shared) (H:Hp) (E:XK):Cx where
 prog:=P
 w:=w
 K:=K
 mg:=mg
 base:=base
 A:=A.deeper (envOfC qual scope s.heap.objs.size f cd)
 N:=N
 s₀:=s
 H₀:=H
 env:=envOfC qual scope s.heap.objs.size f cd
 outer:=outer
 stack:=envOfC qual scope s.heap.objs.size f cd :: outer
 ex:=[]
 calm:=true
 fn:=fun _=>true
 pn:=[]
 xe:=fun e s'=>wpAny (model P w) (A.deeper (envOfC qual scope s.heap.objs.size f cd)) (leaving (envOfC qual scope s.heap.objs.size f cd) e) (fun _ s''=>CX outer H s E e s'') (fun e' s''=>CX outer H s E e' s'') s'
theorem lX {sc:Scope} {n:Nat} {x:Str} (h:sc.names.lookup x = some .cell):∃ c,(cellsFrom n sc.names []).lookup x = some c:=by
 have q:=PySem.W.cellsFrom_some sc.names n [] (.inl h)
 exact Option.isSome_iff_exists.mp q
theorem uA {CX:oV} {P:Program} {w:World} {K:PySem.W.Frag} {mg:Str -> Option Value} {base:Heap} {N ps:List Str} {qual:Str} {scope:Scope} {f:Addr} {cd:Value} {A:Around} {outer:List Env} {s s1:Shared} {H:Hp} {E:XK} {us:List Value} {vs:List V}
  (S:o4 N ps scope) (hd:A.handled = none) (e0:pR P w K mg base A outer s H) (hl:vs.length = ps.length) (r:Vals vs us)
  (x:InCallC s s.heap.objs.size (bindL (envOfC qual scope s.heap.objs.size f cd).kindOf (ps.zip us) fun _=>none) (cellsFrom (s.heap.objs.size + 1) scope.names []) (bindC (envOfC qual scope s.heap.objs.size f cd).kindOf (ps.zip us) fun _=>none) s1) :
  Inv (bR CX P w K mg base N qual scope f cd A outer s H E) [] (start N vs) H s1:=by
 have hpl:ps.length <= N.length:=by have:=congrArg List.length S.pre; rw [List.length_take] at this; omega
 obtain ⟨h1,tk,rfl,hk⟩:=x.done
 have noA:∀ b:Addr,b ∉ (bR CX P w K mg base N qual scope f cd A outer s H E).ex:=fun b z=>absurd (show b ∈ ([]:List Addr) from z) (by simp)
 refine ⟨⟨e0.mod,S.kind,rfl,rfl,Nat.le_refl _,fun y z c h1 h2=>?_,fun y hy=>?_,fun y c _ h=>?_,fun _=>hd,Around.frames_deeper e0.frames,.inr ⟨rfl,rfl⟩,fun b z=>absurd z (noA b),e0.bs,e0.bsz,fun b _ _=>noA b,fun b z=>absurd z (noA b),e0.cQ,e0.frf⟩,
  rfl,e0.bare,Un.kept hk,⟨_,x.toInCall.ns,fun i y v h1 h2 h3=>?_⟩,fun y c h=>⟨_,x.cell y c h⟩,e0.hok.fresh (Nat.le_refl _),fun y c h=>?_,fun p hp=>absurd (show p ∈ ([]:List (Addr × Obj)) from hp) (by simp),e0.hok.kept hk,?_⟩
 ·exact name_of_addr x.apart (PySem.mem_of_lookup h1) (PySem.mem_of_lookup h2)
 ·have hy:scope.names.lookup y = some .cell \/ scope.names.lookup y = some .free:=hy
  rcases hy with hy | hy
  ·exact lX hy
  ·exact absurd rfl (S.nofree _ (PySem.mem_of_lookup hy))
 ·exact Nat.le_of_lt (x.above y c (PySem.mem_of_lookup h))
 ·have hi:i < vs.length:=by
   unfold start at h2
   by_cases hi:i < vs.length
   ·exact hi
   ·rw [List.getElem?_append_right (by simpa using hi)] at h2
    rw [List.getElem?_replicate] at h2
    split at h2 <;> cases h2
  have ha:vs[i]? = some v:=by
   unfold start at h2
   rw [List.getElem?_append_left (by simpa using hi),List.getElem?_map] at h2
   cases e:vs[i]? with
   | none=>rw [e] at h2; cases h2
   | some a=>rw [e] at h2; cases h2; rfl
  obtain ⟨u,hu,rv⟩:=r.get ha
  have hp:ps[i]? = some y:=by
   rw [<- S.pre,List.getElem?_take_of_lt (by omega)]; exact h1
  have ndP:ps.Nodup:=by rw [<- S.pre]; exact S.nd.sublist (List.take_sublist _ _)
  refine ⟨u,rv,?_⟩
  rcases S.par y (List.mem_of_getElem? hp) with k | k
  ·exact .inl ⟨k,iV ndP hp hu k⟩
  ·obtain ⟨c,e⟩:=lX (n:=s.heap.objs.size + 1) k
   refine .inr ⟨.inl k,c,e,?_⟩
   have q:=x.cell y c e
   rw [iT ndP hp hu (by show scope.names.lookup y ≠ _; rw [k]; decide)] at q
   exact q
 ·exact e0.hok.fresh (Nat.le_of_lt (x.above y c (PySem.mem_of_lookup h)))
 ·unfold start
  show _ = N.length
  rw [List.length_append,List.length_map,List.length_replicate]
  omega
theorem Bm {CX:oV} {P:Program} {w:World} {K:PySem.W.Frag} {mg:Str -> Option Value} {base:Heap} {k:Nat} {f:Addr} {name qual:Str} {params:Arguments} {body:List Stmt} {scope:Scope} {dV kV doc pm cdv ct oc:Value} {an od:Option Addr}
  {osl:Array (Option Value)} {N ps:List Str} {sp:Sp} (lk:K.lookup f = some ⟨oc,od,.func (PySem.W.fnOf name qual params body scope dV kV doc pm an cdv ct),osl⟩) (hcd:PySem.W.codeIn K cdv qual = true) (S:o4 N ps scope)
  (len:∀ vs H Q E,sp vs H Q E -> vs.length = ps.length)
  (hbody:∀ (A:Around) (outer:List Env) (s:Shared) (H:Hp) (vs:List V) (Q:VK) (E:XK),E6 k (A.deeper (envOfC qual scope s.heap.objs.size f cdv)) -> sp vs H Q E ->
   ∃ t,jR (bR CX P w K mg base N qual scope f cdv A outer s H E) body t /\ t { nx:=fun _ H'=>Q .non H',rt:=Q } (start N vs) H) :
  y4 P w K mg base CX (k + 1) f (PySem.W.fnOf name qual params body scope dV kV doc pm an cdv ct) ps sp:=by
 refine ⟨len,fun A outer s H args us vs Q E hr e0 hb r hsp=>?_⟩
 have hl:=len _ _ _ _ hsp
 have KX:K.In s.heap:=e0.mod.kin.keeps fun b o e=>(e0.bs b o e).1
 have lim:s.heap.NoLimit:=e0.mod.nolimit.keeps fun b o e=>(e0.bs b o e).1
 have hkind:∀ y ∈ ps.zip us,scope.names.lookup y.1 = some .local \/ (scope.names.lookup y.1 = some .cell /\ ((cellsFrom (s.heap.objs.size + 1) scope.names []).lookup y.1).isSome = true):=fun ⟨n,v⟩ hy=>by
  rcases S.par n (List.of_mem_zip hy).1 with q | q
  ·exact .inl q
  ·exact .inr ⟨q,PySem.W.cellsFrom_some _ _ _ (.inl q)⟩
 refine codeAny_call_function hr.depth (KX _ _ lk) rfl S.co S.gen rfl (PySem.W.codeRec_of KX hcd) (hb _ _ _ _ ?_)
 refine wpAny_newFunctionEnv_cells S.kind hkind fun env he s1 x=>?_
 subst he
 refine ⟨lim.keeps x.toInCall.keep,codeAny_func ?_⟩
 obtain ⟨t,ht,hq⟩:=hbody A outer s H vs Q E (hr.deeper _) hsp
 have I:Inv (bR CX P w K mg base N qual scope f cdv A outer s H E) [] (start N vs) H s1:=uA S hr.hd e0 hl r x
 refine wpAny_mono (ht [] s1 (start N vs) H _ I hq) (fun fl s' hs=>?_) fun e s' hs=>hs
 have fin:∀ {σ':St} {H':Hp} {v:V} {u:Value},Inv (bR CX P w K mg base N qual scope f cdv A outer s H E) [] σ' H' s' -> RelV v u -> Q v H' -> CE outer P w H s Q u s':=
  fun {σ' H' v u} J rv q=>⟨v,H',J.os,J.bare,J.base,J.hok,rv,q⟩
 cases fl with
 | ret u=>
  obtain ⟨v,σ',H',J,rv,q⟩:=hs
  exact fin J rv q
 | next=>
  obtain ⟨σ',H',J,q⟩:=hs
  exact fin (v:=V.non) (u:=Value.none) J rfl q
 | brk=>
  obtain ⟨_,_,_,q⟩:=hs
  exact False.elim q
 | cont=>
  obtain ⟨_,_,_,q⟩:=hs
  exact False.elim q
end L2
namespace L2
open PySem PySem.Spec PyProof.Rows
section
variable {X:Cx} {x:Str} {p pos:Pos} {e:Expr} {es:List Expr} {t:TA} {id T:String} {r:List V -> Hp -> VK -> Prop}
def Gr (r:List V -> Hp -> VK -> Prop) (t:TA):TE:=fun σ H Q=>t σ H fun vs H1=>r vs H1 Q
theorem wC (hc:Z6 X (.builtin id) r) (hg:Gl X x) (hm:X.mg x = none) (hv:bootBuiltins x = some (.builtin id)) (ha:PA X (e :: es) t) (hn:x ≠ "__name__" := by decide) (hdb:(x == ("__debug__" : Str)) = false:=by decide)
  (he:starEach (e :: es) X.env = (false,eval e X.env) :: starEach es X.env:=by rfl) (hpl:(backTo pos (starEach es X.env)).any (·.1) = false:=by rfl):PE X (.Call (.Name x p) (e :: es) [] pos) (Gr r t):=by
 refine .of ?_
 intro pins s σ H Q I h
 refine wpAny_Call_Name_kw (bo I hg hm hv ?_ hn hdb)
 exact PyProof.Rows.callWith_builtin1 (B6 (ha pos pins s σ H _ I h) fun us s1 ⟨vs,H1,I1,r1,q1⟩=>hc pins s1 σ H1 vs us Q I1 r1 q1) he hpl
theorem iC (hc:Z6 X (.type T) r) (hg:Gl X x) (hm:X.mg x = none) (hv:bootBuiltins x = some (.type T)) (ha:PA X (e :: es) t) (hn:x ≠ "__name__" := by decide) (hdb:(x == ("__debug__" : Str)) = false:=by decide)
  (he:starEach (e :: es) X.env = (false,eval e X.env) :: starEach es X.env:=by rfl) (hpl:(backTo pos (starEach es X.env)).any (·.1) = false:=by rfl):PE X (.Call (.Name x p) (e :: es) [] pos) (Gr r t):=by
 refine .of ?_
 intro pins s σ H Q I h
 refine wpAny_Call_Name_kw (bo I hg hm hv ?_ hn hdb)
 exact PyProof.Rows.callWith_type1 (B6 (ha pos pins s σ H _ I h) fun us s1 ⟨vs,H1,I1,r1,q1⟩=>hc pins s1 σ H1 vs us Q I1 r1 q1) he hpl
end
end L2
namespace HT
open PySem PyProof.Rows
section
open PySem.SeqAt
open PySem.AutoSeq1 (wpAny_loadPart')
open PySem.MeetsSeq PySem.MeetsSeq2 PySem.MeetsSeq3
end
section
variable {prog:Program} {w:World} {A:Around} {E:Value -> Shared -> Prop} {s:Shared}
theorem Az {t b:Addr} {vs ws:List Value} {Q:Value -> Shared -> Prop} (ht:IsTup s.heap t vs.toArray) (hb:IsTup s.heap b ws.toArray) (hv:vs ≠ [])
  (h1:ws = [] -> Q (.ref t) s) (h2:ws ≠ [] -> Q (.ref s.heap.objs.size) { s with heap:=s.heap.push { cls:=.type "tuple",data:=.seq (vs ++ ws).toArray } })
  (hsz:vs.length + ws.length <= sizeLine):wpAny (model prog w) A (binaryOp .Add (.ref t) (.ref b)) Q E s:=by
 obtain ⟨⟨cls,dd,data,sl⟩,ho,hc,n,hd⟩:=id ht
 obtain ⟨⟨cls2,dd2,data2,sl2⟩,ho2,hc2,n2,hd2⟩:=id hb
 simp only at hc hd hc2 hd2
 subst hc hd hc2 hd2
 have e:vs.toArray ++ ws.toArray = (vs ++ ws).toArray:=by simp
 by_cases hw:ws = []
 ·exact concat_meets ⟨_,ho,rfl⟩ ⟨_,ho2,rfl⟩ noFill_tuple_add seq_tuple_add PySem.F.slot_tuple_add PySem.F.entry_tuple_add (PySem.F.args_tuple_add_2 _ _)
   (tuple_addW1 t b vs.toArray ws.toArray n n2 dd dd2 sl sl2 (by simpa using hv) (by simp [hw])) ⟨ho,ho2,h1 hw⟩
 ·refine concat_meets ⟨_,ho,rfl⟩ ⟨_,ho2,rfl⟩ noFill_tuple_add seq_tuple_add PySem.F.slot_tuple_add PySem.F.entry_tuple_add (PySem.F.args_tuple_add_2 _ _)
   (tuple_addW2 t b vs.toArray ws.toArray n n2 dd dd2 sl sl2 (by simpa using hv) (by simpa using hw) (by rw [List.size_toArray,List.size_toArray]; exact hsz)) ⟨ho,ho2,?_⟩
  rw [e]
  exact h2 hw
noncomputable def D1 (n d:Nat):Option Int -> Nat
 | none=>d
 | some v=>if v < 0 then (v + (n:Int)).toNat else min v.toNat n
theorem BE (n d:Nat) (hd:d <= n) (o:Option Int):D1 n d o <= n:=by
 cases o with
 | none=>exact hd
 | some v=>
  show (if v < 0 then (v + (n:Int)).toNat else min v.toNat n) <= n
  by_cases hv:v < 0
  ·rw [if_pos hv]; omega
  ·rw [if_neg hv]; exact Nat.min_le_right _ _
theorem qS (v:Int) (n d:Nat):(if v < 0 then max (v + (n:Int)) 0 else min v (n:Int)) = ((D1 n d (some v):Nat):Int):=by
 show (if v < 0 then max (v + (n:Int)) 0 else min v (n:Int)) = (((if v < 0 then (v + (n:Int)).toNat else min v.toNat n):Nat):Int)
 by_cases hv:v < 0
 ·simp only [if_pos hv]; omega
 ·simp only [if_neg hv]; omega
theorem pf (lo hi:Option Int) (n:Nat):Builtin.Slice.sliceAdjust lo hi 1 (n:Int) = (((D1 n 0 lo:Nat):Int),((D1 n n hi:Nat):Int)):=by
 have h1:¬ ((1:Int) < 0):=by omega
 unfold Builtin.Slice.sliceAdjust
 simp only [h1,if_false]
 refine Prod.ext ?_ ?_
 ·cases lo with
  | none=>rfl
  | some v=>exact qS v n 0
 ·cases hi with
  | none=>rfl
  | some v=>exact qS v n n
theorem pq (i j:Nat):Builtin.Slice.slicePlaces (i:Int) (j:Int) 1 = j - i:=by
 unfold Builtin.Slice.slicePlaces
 have h1:(1:Int) > 0:=by omega
 simp only [h1,if_true,Int.ediv_one]
 split <;> omega
theorem fg {v:Value} {o:Option Int} {Q:Option Int -> Shared -> Prop} (p:IsPart v o) (h:Q o s):wpAny (model prog w) A (Builtin.Slice.slicePartIndex v) Q E s:=by
 cases p with
 | none=>exact slicePart_none h
 | int i t=>exact slicePart_int h
theorem T4 {sl:Addr} {vl vu:Value} {lo hi:Option Int} {n:Nat} {Q:Int × Int × Nat -> Shared -> Prop} (hs:s.heap.IsSliceOf sl vl vu .none) (pl:IsPart vl lo) (pu:IsPart vu hi)
  (h:Q (((D1 n 0 lo:Nat):Int),1,D1 n n hi - D1 n 0 lo) s):wpAny (model prog w) A (Builtin.Slice.sliceApplied (.ref sl) (pure (n:Int))) Q E s:=by
 obtain ⟨os,hos,hcs,hds⟩:=id hs
 unfold Builtin.Slice.sliceApplied Builtin.Slice.sliceFields
 refine wpAny_bind (wpAny_bind (wpAny_field hos hds (x:=vl) rfl (wpAny_bind (wpAny_field hos hds (x:=vu) rfl (wpAny_bind (wpAny_field hos hds (x:=.none) rfl (wpAny_pure ?_)))))))
 refine wpAny_bind (slicePart_none ?_)
 show wpAny _ _ (if ((1:Int) == 0) = true then _ else _) _ _ s
 rw [if_neg (by decide)]
 refine wpAny_bind (fg pl (wpAny_bind (fg pu (wpAny_bind (wpAny_pure ?_)))))
 show wpAny _ _ (match Builtin.Slice.sliceAdjust lo hi 1 (n:Int) with | (lo,hi)=>pure (lo,(1:Int),Builtin.Slice.slicePlaces lo hi 1)) _ _ s
 rw [pf lo hi n]
 show wpAny _ _ (pure (((D1 n 0 lo:Nat):Int),(1:Int),Builtin.Slice.slicePlaces ((D1 n 0 lo:Nat):Int) ((D1 n n hi:Nat):Int) 1)) _ _ s
 rw [pq]
 exact wpAny_pure h
theorem xA (xs:Array Value) (i k:Nat):((List.range k).filterMap fun (m:Nat)=>xs[((i:Int) + (m:Int) * 1).toNat]?).toArray = ((xs.toList.drop i).take k).toArray:=by
 have e:(fun (m:Nat)=>xs[((i:Int) + (m:Int) * 1).toNat]?) = fun m=>xs[i + m]?:=by
  funext m
  have:((i:Int) + (m:Int) * 1).toNat = i + m:=by omega
  rw [this]
 rw [e]
 have:=pick_run xs i k
 rw [List.filterMap_map] at this
 have e2:((fun x=>xs[x]?) ∘ fun x=>i + x) = fun m=>xs[i + m]?:=rfl
 rw [e2] at this
 rw [this]
theorem bX {t sl:Addr} {items:Array Value} {vl vu:Value} {lo hi:Option Int} {Q:Value -> Shared -> Prop} (ht:IsTup s.heap t items) (hs:s.heap.IsSliceOf sl vl vu .none) (pl:IsPart vl lo) (pu:IsPart vu hi)
  (hw:¬ (D1 items.size 0 lo = 0 /\ D1 items.size items.size hi = items.size))
  (h:Q (.ref s.heap.objs.size) { s with heap:=s.heap.push { cls:=.type "tuple",data:=.seq ((items.toList.drop (D1 items.size 0 lo)).take (D1 items.size items.size hi - D1 items.size 0 lo)).toArray } })
  (hsz:items.size <= sizeLine):wpAny (model prog w) A (getItem (.ref t) (.ref sl)) Q E s:=by
 have htake:sizeOk (.seq ((items.toList.drop (D1 items.size 0 lo)).take (D1 items.size items.size hi - D1 items.size 0 lo)).toArray):=by
  show ((items.toList.drop (D1 items.size 0 lo)).take (D1 items.size items.size hi - D1 items.size 0 lo)).toArray.size <= sizeLine
  rw [List.size_toArray,List.length_take,List.length_drop,Array.length_toList]
  omega
 have hj:D1 items.size items.size hi <= items.size:=BE _ _ (Nat.le_refl _) hi
 obtain ⟨os,hos,hcs,hds⟩:=id hs
 have hTs:s.TypeIs (.ref sl) "slice" := ⟨os,hos,hcs⟩
 unfold getItem
 try with_reducible refine wpAny_holding ?_
 first | refine wpAny_bind (wpAny_pure ?_) | skip
 refine wpAny_bind (wpAny_sequenceKey ht.typeIs (by decide) ?_)
 refine wpAny_bind (wpAny_callSpecial?_slot (name:=Str.ofString "__getitem__") ht.typeIs PyProof.Rows.slot_tuple_getitem
  (wpAny_call_entry PyProof.Rows.slot_tuple_getitem ht.typeIs entry_tuple_getitem ?_ (args_tuple_getitem _ _)))
 show wpAny _ _ (Builtin.Tuple.tupleItemsOf (.ref t) >>= _) _ _ s
 refine wpAny_bind (tupleItemsOf_ ht ?_)
 refine wpAny_bind (wpAny_typeOf hTs ?_)
 rw [if_pos (by decide)]
 refine wpAny_bind (T4 hs pl pu ?_)
 have hno:¬ ((((D1 items.size 0 lo:Nat):Int) == 0 && (1:Int) == 1 && (D1 items.size items.size hi - D1 items.size 0 lo) == items.size) = true):=by
  intro q
  rw [Bool.and_eq_true,Bool.and_eq_true] at q
  have q1:((D1 items.size 0 lo:Nat):Int) = 0:=eq_of_beq q.1.1
  have q2:D1 items.size items.size hi - D1 items.size 0 lo = items.size:=eq_of_beq q.2
  exact hw ⟨by omega,by omega⟩
 show wpAny _ _ (if (((D1 items.size 0 lo:Nat):Int) == 0 && (1:Int) == 1 && (D1 items.size items.size hi - D1 items.size 0 lo) == items.size) = true then _ else _) _ _ s
 rw [if_neg hno,xA]
 first
  | exact wpAny_bind (m:=Builtin.Tuple.tupleExact _) (wpAny_newObj_type (wpAny_pure ⟨_,rfl,wpAny_pure h⟩) htake)
  | exact wpAny_bind (m:=Builtin.Tuple.tupleExact _) (wpAny_newObj_type (wpAny_bind (wpAny_pure (wpAny_pure ⟨_,rfl,wpAny_pure h⟩))) htake)
  | exact wpAny_bind (wpAny_bind (m:=Builtin.Tuple.tupleExact _) (wpAny_newObj_type (wpAny_pure (wpAny_pure ⟨_,rfl,wpAny_pure h⟩)) htake))
  | exact wpAny_bind (wpAny_bind (m:=Builtin.Tuple.tupleExact _) (wpAny_newObj_type (wpAny_pure ⟨_,rfl,wpAny_pure h⟩) htake))
end
end HT
namespace L2
open PySem PySem.Spec PyProof.Rows
noncomputable abbrev TO:=St -> Hp -> (Option Int -> Hp -> Prop) -> Prop
structure PO (X:Cx) (e:Option Expr) (t:TO)  : Prop where
 of ::
 run :
 ∀ (pins:List (Addr × Obj)) (s:Shared) (σ:St) (H:Hp) (Q:Option Int -> Hp -> Prop),Inv X pins σ H s -> t σ H Q ->
  wpAny (model X.prog X.w) X.A (evalPart e X.env) (fun u s'=>∃ o H',Inv X pins σ H' s' /\ IsPart u o /\ Q o H') X.xe s
noncomputable instance {X:Cx} {e:Option Expr} {t:TO}  : CoeFun (PO X e t) fun _=>
 ∀ (pins:List (Addr × Obj)) (s:Shared) (σ:St) (H:Hp) (Q:Option Int -> Hp -> Prop),Inv X pins σ H s -> t σ H Q ->
  wpAny (model X.prog X.w) X.A (evalPart e X.env) (fun u s'=>∃ o H',Inv X pins σ H' s' /\ IsPart u o /\ Q o H') X.xe s:=⟨PO.run⟩
def zT:TO:=fun _ H Q=>Q none H
def Fh (t:TE):TO:=fun σ H Q=>t σ H fun x H1=>∃ i,x = .int i /\ Q (some i) H1
section
variable {X:Cx} {e:Expr} {te:TE} {lo hi:Option Expr} {tl th:TO} {pos p2:Pos}
theorem Af:PO X none zT:=by
 refine .of ?_
 intro pins s σ H Q I h
 rw [evalPart_none]
 exact wpAny_pure ⟨none,H,I,.none,h⟩
theorem zS (h:PE X e te):PO X (some e) (Fh te):=by
 refine .of ?_
 intro pins s σ H Q I hw
 rw [evalPart_some]
 refine B6 (h pins s σ H _ I hw) fun u s1 ⟨x,H1,I1,r1,q1⟩=>?_
 obtain ⟨i,rfl,q⟩:=q1
 obtain ⟨t,rfl⟩:=r1
 exact ⟨some i,H1,I1,.int i t,q⟩
def AW (X:Cx) (r:V -> Option Int -> Option Int -> Hp -> VK -> Prop):Prop:=
 ∀ (pins:List (Addr × Obj)) (s:Shared) (σ:St) (H:Hp) (x:V) (v vl vu:Value) (lo hi:Option Int) (sl:Addr) (Q:VK),Inv X pins σ H s -> RelV x v -> s.heap.IsSliceOf sl vl vu .none -> IsPart vl lo -> IsPart vu hi -> r x lo hi H Q ->
  ∃ T id,typeLookup (.type T) "__getitem__" = pure (some (.builtin id)) /\ s.TypeIs v T /\ wpAny (model X.prog X.w) X.A (getItem v (.ref sl)) (EP X pins σ Q) X.xe s
theorem AW.or {r r':V -> Option Int -> Option Int -> Hp -> VK -> Prop} (h:AW X r) (h':AW X r'):AW X (fun x lo hi H Q=>r x lo hi H Q \/ r' x lo hi H Q):=by
 intro pins s σ H x v vl vu lo hi sl Q I rx hs pl pu q
 rcases q with q | q
 ·exact h pins s σ H x v vl vu lo hi sl Q I rx hs pl pu q
 ·exact h' pins s σ H x v vl vu lo hi sl Q I rx hs pl pu q
def Ir (r:V -> Option Int -> Option Int -> Hp -> VK -> Prop) (te:TE) (tl th:TO):TE:=fun σ H Q=>te σ H fun x H1=>tl σ H1 fun l H2=>th σ H2 fun u H3=>r x l u H3 Q
theorem kR {r:V -> Option Int -> Option Int -> Hp -> VK -> Prop} (hr:AW X r) (he:PE X e te) (hl:PO X lo tl) (hu:PO X hi th):PE X (.Subscript e (.Slice lo hi none p2) pos) (Ir r te tl th):=by
 refine .of ?_
 intro pins s σ H Q I h
 refine Subscript_ (B6 (he pins s σ H _ I h) fun v s1 ⟨x,H1,I1,r1,q1⟩=>?_)
 refine wpAny_Slice (B6 (hl pins s1 σ H1 _ I1 q1) fun vl s2 ⟨l,H2,I2,pl,q2⟩=>B6 (hu pins s2 σ H2 _ I2 q2) fun vu s3 ⟨u,H3,I3,pu,q3⟩=>?_)
 rw [evalPart_none]
 refine wpAny_pure ?_
 have I4:Inv X pins σ H3 { s3 with heap:=s3.heap.push { cls:=.type "slice",data:=.fields #[vl,vu,.none] } }:=I3.kept (t':=s3.toks) fun b ob q=>Heap.get?_push_of_some _ q
 obtain ⟨T,id,hT,ht,hg⟩:=hr pins { s3 with heap:=s3.heap.push { cls:=.type "slice",data:=.fields #[vl,vu,.none] } } σ H3 x v vl vu l u s3.heap.objs.size Q I4 r1 (Heap.IsSliceOf.new ..) pl pu q3
 show wpAny (model X.prog X.w) X.A (subscriptTail e (.Slice lo hi none p2) v (.ref s3.heap.objs.size)) (EP X pins σ Q) X.xe { s3 with heap:=s3.heap.push { cls:=.type "slice",data:=.fields #[vl,vu,.none] } }
 exact tail_any (ops:=[.ref s3.heap.objs.size,v]) ht hT hg (by with_unfolding_all rfl)
noncomputable def dN (xs:List V) (lo hi:Option Int):List V:=(xs.drop (HT.D1 xs.length 0 lo)).take (HT.D1 xs.length xs.length hi - HT.D1 xs.length 0 lo)
theorem dC (xs:List V) (lo hi:Option Int):(dN xs lo hi).length <= xs.length:=by
 unfold dN
 rw [List.length_take,List.length_drop]
 omega
noncomputable def Ho (K:PySem.W.Frag):V -> Option Int -> Option Int -> Hp -> VK -> Prop:=fun x lo hi H Q=>∃ a xs,x = .ref a /\ O8 K H a xs /\
 ¬ (HT.D1 xs.length 0 lo = 0 /\ HT.D1 xs.length xs.length hi = xs.length) /\ ∀ p,H p = none -> Q (.ref p) (upd H p (.tup (dN xs lo hi)))
theorem DJ:AW X (Ho X.K):=by
 intro pins s σ H x v vl vu lo hi sl Q I rx hs pl pu h
 obtain ⟨a,xs,rfl,hx,hw,q⟩:=h
 cases rx
 obtain ⟨its,r,ht,hz⟩:=I.tuple hx
 have hlen:its.toArray.size = xs.length:=by rw [List.size_toArray]; exact r.length.symm
 refine ⟨"tuple",_,PyProof.Rows.slot_tuple_getitem.lookup,ht.typeIs,?_⟩
 refine HT.bX ht hs pl pu (by rw [hlen]; exact hw) ?_ (by rw [hlen]; exact hz)
 rw [hlen]
 refine ⟨.ref s.heap.objs.size,_,I.laid (t':=s.toks) (o:=.tup (dN xs lo hi)) (fun b ob q=>Heap.get?_push_of_some _ q) (Nat.le_refl _) ?_,rfl,q _ (I.hok.fresh (Nat.le_refl _))⟩
 exact ⟨Nat.le_trans (dC xs lo hi) hz,_,(r.drop (HT.D1 xs.length 0 lo)).take (HT.D1 xs.length xs.length hi - HT.D1 xs.length 0 lo),IsTup.new _ _⟩
def Es (K:PySem.W.Frag):R2:=fun x y H Q=>∃ a b xs ys,x = .ref a /\ y = .ref b /\ O8 K H a xs /\ O8 K H b ys /\ xs ≠ [] /\ xs.length + ys.length <= sizeLine /\
 (ys = [] -> Q (.ref a) H) /\ (ys ≠ [] -> ∀ p,H p = none -> Q (.ref p) (upd H p (.tup (xs ++ ys))))
theorem Vals.bQ {xs:List V} {us:List Value} (r:Vals xs us):us = [] ↔ xs = []:=by
 cases r with
 | nil=>simp
 | cons _ _=>simp
theorem Ak:J4 X (binaryOp .Add) (Es X.K):=by
 intro pins s σ H x y v u Q I rx ry h
 obtain ⟨a,b,xs,ys,rfl,rfl,ha,hb,hx,hz,q1,q2⟩:=h
 cases rx
 cases ry
 obtain ⟨its,r1,p1,_⟩:=I.tuple ha
 obtain ⟨its2,r2,p2,_⟩:=I.tuple hb
 refine HT.Az p1 p2 (fun z=>hx (r1.bQ.mp z)) (fun z=>⟨.ref a,H,I,rfl,q1 (r2.bQ.mp z)⟩) (fun z=>?_) (by rw [<- r1.length,<- r2.length]; exact hz)
 refine ⟨.ref s.heap.objs.size,_,I.laid (t':=s.toks) (o:=.tup (xs ++ ys)) (fun b ob q=>Heap.get?_push_of_some _ q) (Nat.le_refl _) ?_,rfl,q2 (fun w=>z (r2.bQ.mpr w)) _ (I.hok.fresh (Nat.le_refl _))⟩
 exact ⟨by rw [List.length_append]; exact hz,_,r1.append r2,IsTup.new _ _⟩
end
end L2
namespace L2
open PySem PySem.Spec PyProof.Rows
noncomputable def kc (n:Nat) (i:Int):Option Nat:=if 0 <= i then (if i < n then some i.toNat else none) else if -(n:Int) <= i then some (i + n).toNat else none
noncomputable def P1 {α:Type} (xs:List α) (i:Int):Option α:=(kc xs.length i).bind fun j=>xs[j]?
theorem qX {n:Nat} {i:Int} {j:Nat} (h:kc n i = some j):seqIndex? i n = some j /\ j < n /\ -(n:Int) <= i /\ i < n:=by
 unfold kc at h
 by_cases h0:0 <= i
 ·rw [if_pos h0] at h
  by_cases h1:i < n
  ·rw [if_pos h1] at h
   have e:i.toNat = j:=Option.some.inj h
   exact ⟨by rw [seqIndex_of h0 h1,e],by omega,by omega,h1⟩
  ·rw [if_neg h1] at h; cases h
 ·rw [if_neg h0] at h
  by_cases h1:-(n:Int) <= i
  ·rw [if_pos h1] at h
   have e:(i + n).toNat = j:=Option.some.inj h
   exact ⟨by rw [seqIndex_neg (by omega) h1,e],by omega,h1,by omega⟩
  ·rw [if_neg h1] at h; cases h
theorem jI {α:Type} {xs:List α} {i:Int} {v:α} (h:P1 xs i = some v):∃ j,seqIndex? i xs.length = some j /\ xs[j]? = some v /\ j < xs.length /\ -(xs.length:Int) <= i /\ i < xs.length:=by
 unfold P1 at h
 cases e:kc xs.length i with
 | none=>rw [e] at h; cases h
 | some j=>
  rw [e] at h
  obtain ⟨h1,h2,h3,h4⟩:=qX e
  exact ⟨j,h1,h,h2,h3,h4⟩
theorem oi {α:Type} (xs:List α) (v:α):P1 (xs ++ [v]) (-1) = some v:=by
 have hl:(xs ++ [v]).length = xs.length + 1:=by simp
 have e:kc (xs ++ [v]).length (-1) = some xs.length:=by
  unfold kc
  rw [hl,if_neg (by decide),if_pos (by omega)]
  congr 1
  omega
 unfold P1
 rw [e]
 show (xs ++ [v])[xs.length]? = some v
 simp
def jv (b:Expr):Prop:=∀ o i,subscripted b false o i = operate [o,i] (getItem o i)
def yI (X:Cx) (r:R2):Prop:=
 ∀ (value slice:Expr) (pins:List (Addr × Obj)) (s:Shared) (σ:St) (H:Hp) (x y:V) (v u:Value) (Q:VK),Inv X pins σ H s -> RelV x v -> RelV y u -> r x y H Q ->
  subscripted slice false v u = operate [v,u] (getItem v u) -> wpAny (model X.prog X.w) X.A (subscriptTail value slice v u) (EP X pins σ Q) X.xe s
def Ig (X:Cx) (id:String) (r:V -> List V -> Hp -> VK -> Prop):Prop:=
 ∀ (pins:List (Addr × Obj)) (s:Shared) (σ:St) (H:Hp) (x:V) (xs:List V) (v:Value) (us:List Value) (Q:VK),Inv X pins σ H s -> RelV x v -> Vals xs us -> r x xs H Q ->
  wpAny (model X.prog X.w) X.A (call (.builtin id) (v :: us)) (EP X pins σ Q) X.xe s
section
variable {X:Cx} {a b:Expr} {ta tb:TE} {pos:Pos}
theorem yI.or {r r':R2} (h:yI X r) (h':yI X r'):yI X (fun x y H Q=>r x y H Q \/ r' x y H Q):=by
 intro value slice pins s σ H x y v u Q I rx ry q hs
 rcases q with q | q
 ·exact h value slice pins s σ H x y v u Q I rx ry q hs
 ·exact h' value slice pins s σ H x y v u Q I rx ry q hs
theorem AN {r:R2} (hr:yI X r) (ha:PE X a ta) (hb:PE X b tb) (hs:jv b):PE X (.Subscript a b pos) (Eg r ta tb):=by
 refine .of ?_
 intro pins s σ H Q I h
 exact Subscript_ (CN ha hb I h fun v u s2 x y H2 I2 rx ry q=>hr a b pins s2 σ H2 x y v u Q I2 rx ry q (hs _ _))
def EC (K:PySem.W.Frag):R2:=fun x y H Q=>∃ p xs i v,x = .ref p /\ y = .int i /\ S3 K H p xs /\ P1 xs i = some v /\ Q v H
def FY (K:PySem.W.Frag):R2:=fun x y H Q=>∃ p xs i v,x = .ref p /\ y = .int i /\ O8 K H p xs /\ P1 xs i = some v /\ Q v H
def ED:R2:=fun x y H Q=>∃ z i c,x = .str z /\ y = .int i /\ z.length <= sizeLine /\ P1 z.cps.toList i = some c /\ Q (.str ⟨#[c]⟩) H
theorem Au:yI X (EC X.K):=by
 intro value slice pins s σ H x y v u Q I rx ry h hs
 obtain ⟨p,xs,i,z,rfl,rfl,hq,he,q⟩:=h
 cases rx
 obtain ⟨t,rfl⟩:=ry
 obtain ⟨its,r,pl,hz⟩:=I.list hq
 obtain ⟨j,h1,h2,h3,h4,h5⟩:=jI he
 obtain ⟨w,ew,rw'⟩:=r.get h2
 have hl:=r.length
 have hn:=cF
 have fin:EP X pins σ Q w s:=⟨z,H,I,rw',q⟩
 by_cases h0:0 <= i
 ·have hj:i.toNat = j:=by
   rw [seqIndex_of h0 h5] at h1
   exact Option.some.inj h1
  exact item_listR pl.isList h0 (by omega) (by rw [hj]; simpa using ew) fin hs
 ·have hj:(i + (its.toArray.size:Int)).toNat = j:=by
   rw [seqIndex_neg (by omega) h4] at h1
   rw [List.size_toArray,<- hl]
   exact Option.some.inj h1
  exact subscriptTail_builtinR (x:=w) pl.isList.typeIs slot_list_getitem.lookup
   (wpAny_getItem_list_neg (Q:=fun r s'=>r = w /\ EP X pins σ Q r s') pl.isList (by omega) (by rw [List.size_toArray] <;> omega) (by omega) (by rw [hj]; simpa using ew) ⟨rfl,fin⟩) hs
theorem Cs:yI X (FY X.K):=by
 intro value slice pins s σ H x y v u Q I rx ry h hs
 obtain ⟨p,xs,i,z,rfl,rfl,hq,he,q⟩:=h
 cases rx
 obtain ⟨t,rfl⟩:=ry
 obtain ⟨its,r,pl,hz⟩:=I.tuple hq
 obtain ⟨j,h1,h2,h3,h4,h5⟩:=jI he
 obtain ⟨w,ew,rw'⟩:=r.get h2
 have hl:=r.length
 have hn:=cF
 have fin:EP X pins σ Q w s:=⟨z,H,I,rw',q⟩
 exact subscriptTail_builtinR (x:=w) pl.typeIs slot_tuple_getitem.lookup
  (getItem_tuple (j:=j) (Q:=fun r s'=>r = w /\ EP X pins σ Q r s') pl (by omega) (by omega) (by rw [List.size_toArray,<- hl]; exact h1) (by simpa using ew) ⟨rfl,fin⟩) hs
theorem DC:yI X ED:=by
 intro value slice pins s σ H x y v u Q I rx ry h hs
 obtain ⟨z,i,c,rfl,rfl,hz,he,q⟩:=h
 obtain ⟨t,rfl⟩:=rx
 obtain ⟨t',rfl⟩:=ry
 obtain ⟨j,h1,h2,h3,h4,h5⟩:=jI he
 have hl:z.cps.toList.length = z.length:=by simp [Str.length]
 rw [hl] at h1 h4 h5
 have hn:=cF
 exact tail_any (typeIs_str s z t) slot_str_getitem.lookup (getItem_str (c:=c) (by
  have e1:decide (i < -(2 ^ 63:Int)) = false:=decide_eq_false (by omega)
  have e2:decide (i ≥ 2 ^ 63) = false:=decide_eq_false (by omega)
  rw [e1,e2,Bool.or_false]) (by rw [h1]; simpa using h2) ⟨.str ⟨#[c]⟩,H,I.tok _,⟨_,rfl⟩,q⟩) hs
def GF (K:PySem.W.Frag):R2:=fun x y H Q=>EC K x y H Q \/ FY K x y H Q \/ ED x y H Q
theorem vO:yI X (GF X.K):=Au.or (Cs.or DC)
theorem pT (its:List Value) (n j:Nat) (u:Value):Obj.mapSeq (·.setIfInBounds j u) { cls:=.type "list",data:=.seq its.toArray n } = { cls:=.type "list",data:=.seq (its.set j u).toArray n }:=by
 simp [Obj.mapSeq]
theorem Inv.lst {pins:List (Addr × Obj)} {σ:St} {H:Hp} {s:Shared} {p:Addr} {xs:List V} (I:Inv X pins σ H s) (h:H p = some (.lst xs)) :
  ∃ (its:List Value) (n:Nat),Vals xs its /\ s.heap.get? p = some { cls:=.type "list",data:=.seq its.toArray n } /\ xs.length <= sizeLine:=by
 obtain ⟨z,its,n,r,e⟩:=I.hok p _ h
 exact ⟨its,n,r,e,z⟩
theorem Inv.BR {pins:List (Addr × Obj)} {σ:St} {H:Hp} {s:Shared} {p:Addr} {xs ys:List V} {its its':List Value} {n n':Nat} {f:Obj -> Obj} (I:Inv X pins σ H s) (h:H p = some (.lst xs))
  (ho:s.heap.get? p = some { cls:=.type "list",data:=.seq its.toArray n }) (hf:f { cls:=.type "list",data:=.seq its.toArray n } = { cls:=.type "list",data:=.seq its'.toArray n' }) (r:Vals ys its') (hz:ys.length <= sizeLine) (t:Nat) :
  Inv X pins σ (upd H p (.lst ys)) { s with heap:=s.heap.update p f,toks:=t }:=by
 have e:(s.heap.update p f).get? p = some { cls:=.type "list",data:=.seq its'.toArray n' }:=by
  rw [Heap.get?_update_self f ho (by rw [hf] <;> rfl),hf]
 refine I.write (x:=p) (e:=p) (by rw [h]; trivial) (.inl rfl) (fun b u hb q=>(Heap.get?_update_other _ _ (Ne.symm hb)).trans q) ⟨_,e⟩ ?_
 exact ⟨hz,its',n',r,e⟩
noncomputable def AK:V -> V -> V -> Hp -> (Hp -> Prop) -> Prop:=fun o i v H Q=>∃ p xs k j,o = .ref p /\ i = .int k /\ H p = some (.lst xs) /\ kc xs.length k = some j /\ Q (upd H p (.lst (xs.set j v)))
theorem set_list:Fp X AK:=by
 intro pins s σ H o i v ov iv u Q I ro ri rv h
 obtain ⟨p,xs,k,j,rfl,rfl,hp,hj,q⟩:=h
 cases ro
 obtain ⟨t,rfl⟩:=ri
 obtain ⟨its,n,r,ho,hz⟩:=I.lst hp
 obtain ⟨h1,h2,h3,h4⟩:=qX hj
 have hl:=r.length
 have hn:=cF
 have I':Inv X pins σ (upd H p (.lst (xs.set j v))) { s with heap:=s.heap.update p (Obj.mapSeq (·.setIfInBounds j u)) }:=
  I.BR hp ho (pT its n j u) (r.set rv j) (by rw [List.length_set]; exact hz) s.toks
 by_cases h0:0 <= k
 ·have hk:k.toNat = j:=by
   rw [seqIndex_of h0 h4] at h1
   exact Option.some.inj h1
  exact PySem.W.ki_setAt ho h0 (by omega) (by rw [List.size_toArray,<- hl]; exact h4) (by rw [hk]; exact ⟨_,I',q⟩)
 ·have hk:(k + (its.toArray.size:Int)).toNat = j:=by
   rw [seqIndex_neg (by omega) h3] at h1
   rw [List.size_toArray,<- hl]
   exact Option.some.inj h1
  exact PySem.W.ki_setBack ho (by omega) (by rw [List.size_toArray,<- hl]; exact h3) (by omega) (by rw [hk]; exact ⟨_,I',q⟩)
theorem kq (lo hi:Option Int) (n:Nat):(sliceBounds lo hi none n).1 = ((HT.D1 n 0 lo:Nat):Int) /\ (sliceBounds lo hi none n).2.1 = ((HT.D1 n n hi:Nat):Int) /\ (sliceBounds lo hi none n).2.2 = 1:=by
 refine ⟨?_,?_,rfl⟩
 ·cases lo with
  | none=>simp [sliceBounds,HT.D1]
  | some i=>
   simp only [sliceBounds,HT.D1,Option.getD_none,show (1:Int) > 0 by decide,if_true]
   by_cases h:i < 0
   ·simp only [h,if_true] <;> omega
   ·simp only [h,if_false] <;> omega
 ·cases hi with
  | none=>simp [sliceBounds,HT.D1]
  | some i=>
   simp only [sliceBounds,HT.D1,Option.getD_none,show (1:Int) > 0 by decide,if_true]
   by_cases h:i < 0
   ·simp only [h,if_true] <;> omega
   ·simp only [h,if_false] <;> omega
theorem gH (its:List Value) (lo hi:Option Int):slicePick its.toArray lo hi none = ((its.drop (HT.D1 its.length 0 lo)).take (HT.D1 its.length its.length hi - HT.D1 its.length 0 lo)).toArray:=by
 obtain ⟨h1,h2,h3⟩:=kq lo hi its.toArray.size
 unfold slicePick
 rw [h1,h2,h3]
 simp only [sliceRange_one,pick_run,List.size_toArray] <;> rfl
noncomputable def FD (K:PySem.W.Frag):V -> Option Int -> Option Int -> Hp -> VK -> Prop:=fun x lo hi H Q=>∃ a xs,x = .ref a /\ S3 K H a xs /\ ∀ p,H p = none -> Q (.ref p) (upd H p (.lst (dN xs lo hi)))
theorem qj:AW X (FD X.K):=by
 intro pins s σ H x v vl vu lo hi sl Q I rx hs pl pu h
 obtain ⟨a,xs,rfl,hx,q⟩:=h
 cases rx
 obtain ⟨its,r,ht,hz⟩:=I.list hx
 have hlen:=r.length
 refine ⟨"list",_,slot_list_getitem.lookup,ht.isList.typeIs,?_⟩
 refine wpAny_getItem_list_slice ht.isList hs pl pu .none (by simp) ?_ (by rw [List.size_toArray] <;> omega)
 rw [gH,<- hlen]
 refine ⟨.ref s.heap.objs.size,_,I.laid (t':=s.toks) (o:=.lst (dN xs lo hi)) (fun b ob q=>Heap.get?_push_of_some _ q) (Nat.le_refl _) ?_,rfl,q _ (I.hok.fresh (Nat.le_refl _))⟩
 exact ⟨Nat.le_trans (dC xs lo hi) hz,_,0,(r.drop (HT.D1 xs.length 0 lo)).take (HT.D1 xs.length xs.length hi - HT.D1 xs.length 0 lo),Heap.get?_push_size _ rfl⟩
noncomputable def aT:V -> Bool
 | .non=>true
 | .bl _=>true
 | .int _=>true
 | .str _=>true
 | _=>false
noncomputable def zY:V -> V -> Bool
 | .non,.non=>true
 | .bl a,.bl b=>a == b
 | .bl a,.int b=>(if a then 1 else 0) == b
 | .int a,.bl b=>a == (if b then 1 else 0)
 | .int a,.int b=>a == b
 | .str a,.str b=>a == b
 | _,_=>false
theorem CZ {A:Around} {s:Shared} {y x:V} {u v:Value} (ry:RelV y u) (rx:RelV x v) (fy:aT y = true) (fx:aT x = true):SeqAt.EqAt A s u v (zY y x):=by
 cases y with
 | non=>
  cases ry
  cases x with
  | non=>cases rx; exact SeqAt.EqAt.same _
  | bl b=>cases rx; exact SeqAt.EqAt.none_bool b
  | int b=>obtain ⟨t,rfl⟩:=rx; exact SeqAt.EqAt.none_int b t
  | str b=>obtain ⟨t,rfl⟩:=rx; exact SeqAt.EqAt.none_str b t
  | _=>exact absurd (show false = true from fx) Bool.false_ne_true
 | bl a=>
  cases ry
  cases x with
  | non=>cases rx; exact SeqAt.EqAt.bool_none a
  | bl b=>cases rx; exact SeqAt.EqAt.bool_bool a b
  | int b=>obtain ⟨t,rfl⟩:=rx; exact SeqAt.EqAt.bool_int a b t
  | str b=>obtain ⟨t,rfl⟩:=rx; exact SeqAt.EqAt.bool_str a b t
  | _=>exact absurd (show false = true from fx) Bool.false_ne_true
 | int a=>
  obtain ⟨t',rfl⟩:=ry
  cases x with
  | non=>cases rx; exact SeqAt.EqAt.int_none a t'
  | bl b=>cases rx; exact SeqAt.EqAt.int_bool a t' b
  | int b=>obtain ⟨t,rfl⟩:=rx; exact SeqAt.EqAt.int_int a t' b t
  | str b=>obtain ⟨t,rfl⟩:=rx; exact SeqAt.EqAt.int_str a t' b t
  | _=>exact absurd (show false = true from fx) Bool.false_ne_true
 | str a=>
  obtain ⟨t',rfl⟩:=ry
  cases x with
  | non=>cases rx; exact SeqAt.EqAt.str_none a t'
  | bl b=>cases rx; exact SeqAt.EqAt.str_bool a t' b
  | int b=>obtain ⟨t,rfl⟩:=rx; exact SeqAt.EqAt.str_int a t' b t
  | str b=>obtain ⟨t,rfl⟩:=rx; exact SeqAt.EqAt.str_str a t' b t
  | _=>exact absurd (show false = true from fx) Bool.false_ne_true
 | _=>exact absurd (show false = true from fy) Bool.false_ne_true
noncomputable def pE (x:V) (u:Value):Bool:=match u with
 | .none=>zY .non x
 | .bool b=>zY (.bl b) x
 | .int i _=>zY (.int i) x
 | .str z _=>zY (.str z) x
 | _=>false
theorem vo {x y:V} {u:Value} (r:RelV y u) (f:aT y = true):pE x u = zY y x:=by
 cases y with
 | non=>cases r; rfl
 | bl b=>cases r; rfl
 | int i=>obtain ⟨t,rfl⟩:=r; rfl
 | str z=>obtain ⟨t,rfl⟩:=r; rfl
 | _=>exact absurd (show false = true from f) Bool.false_ne_true
theorem bE {x:V}:∀ {xs:List V} {us:List Value},Vals xs us -> xs.all aT = true -> us.any (pE x) = xs.any fun y=>zY y x
 | _,_,.nil,_=>rfl
 | y :: xs,u :: us,.cons r t,f=>by
  rw [List.all_cons,Bool.and_eq_true] at f
  rw [List.any_cons,List.any_cons,vo r f.1,bE t f.2]
theorem Y9 {A:Around} {s:Shared} {x:V} {v:Value} (rx:RelV x v) (fx:aT x = true):∀ {xs:List V} {us:List Value},Vals xs us -> xs.all aT = true -> ∀ u ∈ us,SeqAt.EqAt A s u v (pE x u)
 | _,_,.nil,_=>fun u hu=>by cases hu
 | y :: xs,u :: us,.cons r t,f=>fun u' hu=>by
  rw [List.all_cons,Bool.and_eq_true] at f
  rcases List.mem_cons.mp hu with rfl | hu
  ·rw [vo r f.1]; exact CZ r rx f.1 fx
  ·exact Y9 rx fx t f.2 u' hu
noncomputable def Gx (x:V) (xs:List V):Bool:=xs.any fun y=>zY y x
def FU (K:PySem.W.Frag) (neg:Bool):R2:=fun x y H Q=>∃ p xs,y = .ref p /\ (S3 K H p xs \/ O8 K H p xs) /\ aT x = true /\ xs.all aT = true /\ Q (.bl (if neg then !Gx x xs else Gx x xs)) H
theorem iM:J4 X (compareOp .In) (FU X.K false):=by
 intro pins s σ H x y v u Q I rx ry h
 obtain ⟨p,xs,rfl,hq,fx,fs,q⟩:=h
 cases ry
 rcases hq with hq | hq
 ·obtain ⟨its,r,pl,hz⟩:=I.list hq
  refine SeqAt.in_listAt (pE x) pl.isList (fun w hw=>Y9 rx fx r fs w (by simpa using hw)) ⟨.bl _,H,I,rfl,?_⟩
  rw [show its.toArray.any (pE x) = its.any (pE x) by simp,bE r fs]
  exact q
 ·obtain ⟨its,r,pl,hz⟩:=I.tuple hq
  refine SeqAt.in_tupleAt (pE x) pl (fun w hw=>Y9 rx fx r fs w (by simpa using hw)) ⟨.bl _,H,I,rfl,?_⟩
  rw [show its.toArray.any (pE x) = its.any (pE x) by simp,bE r fs]
  exact q
theorem bC:J4 X (compareOp .NotIn) (FU X.K true):=by
 intro pins s σ H x y v u Q I rx ry h
 obtain ⟨p,xs,rfl,hq,fx,fs,q⟩:=h
 cases ry
 rcases hq with hq | hq
 ·obtain ⟨its,r,pl,hz⟩:=I.list hq
  refine SeqAt.notIn_listAt (pE x) pl.isList (fun w hw=>Y9 rx fx r fs w (by simpa using hw)) ⟨.bl _,H,I,rfl,?_⟩
  rw [show its.toArray.any (pE x) = its.any (pE x) by simp,bE r fs]
  exact q
 ·obtain ⟨its,r,pl,hz⟩:=I.tuple hq
  refine SeqAt.notIn_tupleAt (pE x) pl (fun w hw=>Y9 rx fx r fs w (by simpa using hw)) ⟨.bl _,H,I,rfl,?_⟩
  rw [show its.toArray.any (pE x) = its.any (pE x) by simp,bE r fs]
  exact q
theorem W7:Z6 X (.type "list") (fun xs H Q=>∃ p ys,xs = [.ref p] /\ (S3 X.K H p ys \/ O8 X.K H p ys) /\ ∀ l,H l = none -> Q (.ref l) (upd H l (.lst ys))):=by
 intro pins s σ H xs us Q I r h
 obtain ⟨p,ys,rfl,hq,q⟩:=h
 obtain ⟨u,rfl,rx⟩:=vals1 r
 cases rx
 have fin:∀ (its:List Value),Vals ys its -> ys.length <= sizeLine -> ∀ (h':Heap) (c':Nat),(∀ b o',s.heap.get? b = some o' -> h'.get? b = some o') ->
   h'.get? s.heap.objs.size = some { cls:=.type "list",dict:=none,data:=.seq its.toArray c',slots:=#[] } -> EP X pins σ Q (.ref s.heap.objs.size) { s with heap:=h' }:=fun its r' hz h' c' kp e=>
  ⟨.ref s.heap.objs.size,_,I.laid (t':=s.toks) kp (Nat.le_refl _) (show w8 X.prog X.w _ h' _ (.lst ys) from ⟨hz,its,c',r',e⟩),rfl,q _ (I.hok.fresh (Nat.le_refl _))⟩
 rcases hq with hq | hq
 ·obtain ⟨its,r',pl,hz⟩:=I.list hq
  have hlen:=r'.length
  obtain ⟨o,ho,hc,n,hd⟩:=pl.isList
  exact call_list_seq p (.inl rfl) ho hc hd (fun h' c' kp e=>fin its r' hz h' c' kp e) (by simp only [List.size_toArray] <;> omega)
 ·obtain ⟨its,r',pl,hz⟩:=I.tuple hq
  have hlen:=r'.length
  obtain ⟨o,ho,hc,n,hd⟩:=pl
  exact call_list_seq p (.inr rfl) ho hc hd (fun h' c' kp e=>fin its r' hz h' c' kp e) (by simp only [List.size_toArray] <;> omega)
theorem y7:Z6 X (.type "tuple") (fun xs H Q=>∃ p ys,xs = [.ref p] /\ ((S3 X.K H p ys /\ ∀ l,H l = none -> Q (.ref l) (upd H l (.tup ys))) \/ (O8 X.K H p ys /\ Q (.ref p) H))):=by
 intro pins s σ H xs us Q I r h
 obtain ⟨p,ys,rfl,h⟩:=h
 obtain ⟨u,rfl,rx⟩:=vals1 r
 cases rx
 rcases h with ⟨hq,q⟩ | ⟨hq,q⟩
 ·obtain ⟨its,r',pl,hz⟩:=I.list hq
  have hlen:=r'.length
  refine call_tuple_list pl.isList (fun h' kp=>?_) (by simp only [List.size_toArray] <;> omega)
  have I1:Inv X pins σ H { s with heap:=h' }:=I.kept (t':=s.toks) kp
  have I2:Inv X pins σ (upd H h'.objs.size (.tup ys)) { s with heap:=h'.push { cls:=.type "tuple",data:=.seq its.toArray } }:=
   I1.laid (t':=s.toks) (fun b o e=>Heap.get?_push_of_some _ e) (Nat.le_refl _) (show w8 X.prog X.w _ _ _ (.tup ys) from ⟨hz,its,r',IsTup.new _ _⟩)
  exact ⟨.ref h'.objs.size,_,I2,rfl,q _ (I1.hok.fresh (Nat.le_refl _))⟩
 ·obtain ⟨its,r',pl,hz⟩:=I.tuple hq
  exact call_tuple_same pl ⟨.ref p,H,I,rfl,q⟩
def Ib (K:PySem.W.Frag) (T:String) (x:V) (H:Hp):Prop:=match x with
 | .str _=>T = "str"
 | .int _=>T = "int"
 | .ref p=>(T = "list" /\ ∃ xs,S3 K H p xs) \/ (T = "tuple" /\ ∃ o,K.lookup p = some o /\ o.cls = .type "tuple" /\ o.dict = none) \/
   (T = "dict" /\ ((∃ kvs,Dd H p kvs) \/ ∃ kvs,H p = some (.dT kvs))) \/ (T = "set" /\ ∃ S n,H p = some (.set S n))
 | _=>False
theorem Dg {pins:List (Addr × Obj)} {σ:St} {H:Hp} {s:Shared} {T:String} {x:V} {v:Value} (I:Inv X pins σ H s) (r:RelV x v) (ty:Ib X.K T x H) :
  s.TypeIs v T /\ ∀ a,v = .ref a -> ∃ ob,s.heap.get? a = some ob /\ ob.dict = none:=by
 cases x with
 | str z=>
  obtain ⟨t,rfl⟩:=r
  cases (show T = "str" from ty)
  exact ⟨typeIs_str s z t,fun _ e=>nomatch e⟩
 | int i=>
  obtain ⟨t,rfl⟩:=r
  cases (show T = "int" from ty)
  exact ⟨typeIs_int s i t,fun _ e=>nomatch e⟩
 | ref p=>
  cases r
  rcases ty with ⟨rfl,xs,hq⟩ | ⟨rfl,o,hk,hc,hd⟩ | ⟨rfl,hk⟩ | ⟨rfl,S,n,hk⟩
  ·obtain ⟨its,_,pl,_⟩:=I.list hq
   refine ⟨pl.isList.typeIs,fun a e=>?_⟩
   cases e
   obtain ⟨o,n,e,c,hd,_⟩:=pl
   exact ⟨o,e,hd⟩
  ·refine ⟨⟨o,I.gp p o hk,hc⟩,fun a e=>?_⟩
   cases e
   exact ⟨o,I.gp _ o hk,hd⟩
  ·have z:∃ o,s.heap.get? p = some o /\ o.ExactDict:=by
    rcases hk with ⟨kvs,hk⟩ | ⟨kvs,hk⟩
    ·obtain ⟨_,_,_,_,o,_,_,e,ex,_⟩:=(show w8 X.prog X.w H s.heap p (.dK kvs) from hk.ok I.hok)
     exact ⟨o,e,ex⟩
    ·obtain ⟨_,_,_,_,o,_,_,e,ex,_⟩:=I.hok p _ hk
     exact ⟨o,e,ex⟩
   obtain ⟨o,e,ex⟩:=z
   refine ⟨⟨o,e,ex.1⟩,fun a e2=>?_⟩
   cases e2
   exact ⟨o,e,ex.2.1⟩
  ·obtain ⟨o,_,_,_,e,ex,_⟩:=I.hok p _ hk
   refine ⟨⟨o,e,ex.1⟩,fun a e2=>?_⟩
   cases e2
   exact ⟨o,e,ex.2.1⟩
 | _=>exact False.elim ty
def HF (K:PySem.W.Frag) (T:String) (r:V -> List V -> Hp -> VK -> Prop) (to:TE) (t:TA):TE:=fun σ H Q=>to σ H fun x H1=>Ib K T x H1 /\ t σ H1 fun xs H2=>r x xs H2 Q
variable {o e:Expr} {es:List Expr} {to:TE} {t:TA} {name:Str} {apos cpos:Pos} {T id:String} {r:V -> List V -> Hp -> VK -> Prop}
theorem cW (pa:PlainAttrs T) (slot:Slot T name id) (hty:typeOf (.builtin id) = pure (.type "method_descriptor")) (hm:Ig X id r) (ho:PE X o to) (ha:PA X (e :: es) t)
  (hbase:attributeBase o name X.env (eval o X.env) = eval o X.env:=by rfl)
  (hfew:((backTo cpos (starEach (e :: es) X.env)).all (fun x=>!x.1) && (backToKw cpos (keywordEach [] X.env)).all (fun x=>x.1.isSome)
   && decide ((e :: es).length + ([]:List Keyword).length + (if ([]:List Keyword).isEmpty then 0 else 1) < 30)) = true:=by rfl)
  (hline:(apos.endLine == cpos.line) = true:=by rfl) (hs:starEach (e :: es) X.env = (false,eval e X.env) :: starEach es X.env:=by rfl) (hplain:(backTo cpos (starEach es X.env)).any (·.1) = false:=by rfl) :
  PE X (.Call (.Attribute o name apos) (e :: es) [] cpos) (HF X.K T r to t):=by
 refine .of ?_
 intro pins s σ H Q I h
 refine wpAny_Call_method_late hbase hfew hline rfl (B6 (ho pins s σ H _ I h) fun v s1 ⟨x,H1,I1,r1,ty,q1⟩=>?_)
 obtain ⟨h1,h2⟩:=Dg I1 r1 ty
 refine ⟨T,id,pa,slot,hty,h1,h2,?_⟩
 have hA:=ha cpos pins s1 σ H1 _ I1 q1
 rw [hs] at hA ⊢
 refine Calls.callWith_builtin (by show (false || (backTo cpos (starEach es X.env)).any (·.1)) = false; rw [hplain] <;> rfl) (Calls.evalArgs_plain ?_)
 exact B6 hA fun us s2 ⟨vs,H2,I2,r2,q2⟩=>hm pins s2 σ H2 x vs v us Q I2 r1 r2 q2
end
end L2
namespace L2
open PySem PySem.Spec PyProof.Rows
def Iu (X:Cx) (id:String) (r:V -> List V -> Hp -> VK -> Prop):Prop:=
 ∀ (pins:List (Addr × Obj)) (s:Shared) (σ:St) (H:Hp) (x:V) (xs:List V) (v:Value) (us:List Value) (Q:VK),Inv X pins σ H s -> RelV x v -> Vals xs us -> r x xs H Q ->
  wpAny (model X.prog X.w) X.A (call (.builtin id) (v :: us)) (EP X pins σ Q) X.xe s
theorem Vals.one:∀ {x:V} {us:List Value},Vals [x] us -> ∃ u,us = [u] /\ RelV x u
 | _,_,.cons r .nil=>⟨_,rfl,r⟩
theorem Vals.rep {xs:List V} {us:List Value} (h:Vals xs us):∀ k:Nat,Vals (List.replicate k xs).flatten (List.replicate k us).flatten
 | 0=>.nil
 | k + 1=>by
  rw [List.replicate_succ,List.replicate_succ,List.flatten_cons,List.flatten_cons]
  exact Vals.append h (Vals.rep h k)
theorem foldl_rep (its:List Value):∀ (k:Nat) (acc:List Value),
  List.foldl (fun x1 x2=>x1 ++ x2) acc.toArray (List.replicate k its.toArray) = (acc ++ (List.replicate k its).flatten).toArray
 | 0,acc=>by simp
 | k + 1,acc=>by
  have e:acc.toArray ++ its.toArray = (acc ++ its).toArray:=by simp
  have e2:(acc ++ its) ++ (List.replicate k its).flatten = acc ++ (List.replicate (k + 1) its).flatten:=by
   rw [List.replicate_succ,List.flatten_cons,List.append_assoc]
  rw [<- e2,<- foldl_rep its k (acc ++ its),<- e,List.replicate_succ,List.foldl_cons]
section
variable {X:Cx} {pins:List (Addr × Obj)} {σ:St} {H:Hp} {s:Shared} {l b:Addr} {xs ys zs:List V}
theorem Inv.Hi {its its':List Value} {n:Nat} {f:Array Value -> Array Value} {t':Nat} (I:Inv X pins σ H s) (hH:H l = some (.lst xs))
  (e:s.heap.get? l = some { cls:=.type "list",data:=.seq its.toArray n }) (hf:f its.toArray = its'.toArray) (hv:Vals ys its') (hz:ys.length <= sizeLine) :
  Inv X pins σ (upd H l (.lst ys)) { s with heap:=s.heap.update l (Obj.mapSeq f),toks:=t' }:=by
 have q:=PySem.IsL.update e f
 rw [hf] at q
 refine I.write (x:=l) (e:=l) (by rw [hH]; exact trivial) (.inl rfl) (fun b' u hb hu=>(Heap.get?_update_other s.heap (Obj.mapSeq f) (Ne.symm hb)).trans hu) ⟨_,q⟩ ?_
 exact ⟨hz,its',_,hv,q⟩
theorem Inv.Dp {its:List Value} {t':Nat} (I:Inv X pins σ H s) (hv:Vals ys its) (hz:ys.length <= sizeLine) :
  Inv X pins σ (upd H s.heap.objs.size (.lst ys)) { s with heap:=s.heap.push { cls:=.type "list",data:=.seq its.toArray },toks:=t' }:=
 I.laid (fun _ _ q=>Heap.get?_push_of_some _ q) (Nat.le_refl _) ⟨hz,its,0,hv,Heap.get?_push_size _ rfl⟩
theorem Inv.fresh (I:Inv X pins σ H s):H s.heap.objs.size = none:=I.hok.fresh (Nat.le_refl _)
theorem Inv.yY (I:Inv X pins σ H s) (hH:H l = some (.lst xs)):xs.length <= sizeLine /\ ∃ (its:List Value) (n:Nat),Vals xs its /\ xs.length = its.length /\ s.heap.get? l = some { cls:=.type "list",data:=.seq its.toArray n }:=by
 obtain ⟨z,its,n,r,e⟩:=I.hok l _ hH
 exact ⟨z,its,n,r,r.length,e⟩
theorem vP {n:Nat} (h:n <= sizeLine):Builtin.List.listTooLong n = false:=by
 unfold Builtin.List.listTooLong
 exact decide_eq_false (by omega)
end
section
variable {X:Cx}
noncomputable def O7:V -> List V -> Hp -> VK -> Prop:=fun x vs H Q=>∃ l xs y,x = .ref l /\ vs = [y] /\ H l = some (.lst xs) /\ xs.length < sizeLine /\ Q .non (upd H l (.lst (xs ++ [y])))
theorem J3:Iu X "list.append" O7:=by
 intro pins s σ H x vs v us Q I rx rv h
 obtain ⟨l,xs,y,rfl,rfl,hH,hz,q⟩:=h
 cases rx
 obtain ⟨u,rfl,ru⟩:=rv.one
 obtain ⟨z,its,n,r,hl,e⟩:=I.yY hH
 refine call_meets F.slot_list_append ⟨_,e,rfl⟩ F.entry_list_append (F.args_list_append_2 _ _) (PySem.list_append l its.toArray n u (by rw [List.size_toArray]; omega)) ⟨e,?_⟩
 refine ⟨.non,_,I.Hi (its':=its ++ [u]) hH e (by simp) (r.append (.cons ru .nil)) ?_,rfl,q⟩
 rw [List.length_append,List.length_singleton]
 omega
def Dt:R2:=fun x y H Q=>∃ l b xs zs,x = .ref l /\ y = .ref b /\ H l = some (.lst xs) /\ H b = some (.lst zs) /\ xs.length + zs.length <= sizeLine /\ ∀ p,H p = none -> Q (.ref p) (upd H p (.lst (xs ++ zs)))
theorem BC:J4 X (binaryOp .Add) Dt:=by
 intro pins s σ H x y v u Q I rx ry h
 obtain ⟨l,b,xs,zs,rfl,rfl,hH,hB,hz,q⟩:=h
 cases rx
 cases ry
 obtain ⟨z,its,n,r,hl,e⟩:=I.yY hH
 obtain ⟨z2,its2,n2,r2,hl2,e2⟩:=I.yY hB
 refine PySem.P.add_list e e2 ?_ (by rw [List.size_toArray,List.size_toArray]; omega)
 have ea:its.toArray ++ its2.toArray = (its ++ its2).toArray:=by simp
 rw [ea]
 exact ⟨.ref _,_,I.Dp (t':=s.toks) (r.append r2) (by rw [List.length_append]; omega),rfl,q _ I.fresh⟩
def FQ:R2:=fun x y H Q=>∃ l k xs,x = .ref l /\ y = .int k /\ H l = some (.lst xs) /\ -(2 ^ 63) <= k /\ k < 2 ^ 63 /\ xs.length * k.toNat <= sizeLine /\
 ∀ p,H p = none -> Q (.ref p) (upd H p (.lst (List.replicate k.toNat xs).flatten))
theorem len_rep {α:Type} (xs:List α) (k:Nat):(List.replicate k xs).flatten.length = k * xs.length:=by
 induction k with
 | zero=>simp
 | succ k ih=>rw [List.replicate_succ,List.flatten_cons,List.length_append,ih,Nat.succ_mul,Nat.add_comm]
theorem CK:J4 X (binaryOp .Mult) FQ:=by
 intro pins s σ H x y v u Q I rx ry h
 obtain ⟨l,k,xs,rfl,rfl,hH,h1,h2,hz,q⟩:=h
 cases rx
 obtain ⟨t,rfl⟩:=ry
 obtain ⟨z,its,n,r,hl,e⟩:=I.yY hH
 have hlen:its.toArray.size * k.toNat <= sizeLine:=by rw [List.size_toArray,<- hl]; exact hz
 have hcap:¬ its.toArray.size * k.toNat > (2 ^ 63 - 1) / 8:=by
  have:(sizeLine:Nat) <= (2 ^ 63 - 1) / 8:=by decide
  omega
 have hfit:¬ (!Builtin.List.listFitsIndex k) = true:=by
  rw [fitsIndex_both h1 h2]
  exact Bool.false_ne_true
 have hlong:¬ Builtin.List.listTooLong (its.toArray.size * k.toNat) = true:=by
  rw [vP hlen]
  exact Bool.false_ne_true
 have hnew:List.foldl (fun x1 x2=>x1 ++ x2) #[] (List.replicate (if its.toArray.isEmpty = true then 0 else k.toNat) its.toArray) = (List.replicate k.toNat its).flatten.toArray:=by
  have f0:∀ m:Nat,List.foldl (fun x1 x2=>x1 ++ x2) #[] (List.replicate m its.toArray) = (List.replicate m its).flatten.toArray:=fun m=>by
   have:=foldl_rep its m []
   rw [List.nil_append] at this
   exact this
  rw [f0]
  cases its with
  | nil=>simp
  | cons a r'=>rw [if_neg (by simp)]
 refine wpAny_binaryOp_repeat_ref (T := "list") (U := "int") (by decide) ⟨_,e,rfl⟩ (fun s'=>typeIs_int s' k t) noFill_list_mul F.fills_int_mul F.slot_int_rmul repeat_list F.slot_int_index.lookup
  (call_meets F.slot_int_rmul (typeIs_int s k t) F.entry_int_rmul (F.args_int_rmul_2 _ _) (int___rmul___int_list k t l its.toArray n)
   ⟨e,rfl,⟨_,e,rfl⟩,call_meets F.slot_list_mul ⟨_,e,rfl⟩ F.entry_list_mul (F.args_list_mul_2 _ _) (AutoListH.list___mul___list_int_3 l its.toArray n k t hfit hcap hlong) ⟨e,?_⟩⟩)
 rw [hnew]
 exact ⟨.ref _,_,I.Dp (t':=s.toks) (r.rep k.toNat) (by rw [len_rep,Nat.mul_comm]; exact hz),rfl,q _ I.fresh⟩
end
section
variable {prog:Program} {w:World} {A:Around} {E:Value -> Shared -> Prop} {s:Shared}
set_option maxRecDepth 100000 in
end
section
variable {X:Cx}
end
end L2
namespace Att
open PySem PySem.W PySem.Calls PyProof.Rows
theorem dW {P:Params} {h:Heap}:∀ (ns:List Int) (vs:List Value),WellAll P h vs (ns.map WData.int) -> IntsAre vs ns:=by
 intro ns
 induction ns with
 | nil=>
  intro vs w
  rw [List.map_nil] at w
  cases w
  exact .nil
 | cons n ns ih=>
  intro vs w
  rw [List.map_cons] at w
  cases w with
  | cons a b=>
   cases a
   exact .cons _ _ (ih _ b)
theorem sV {l:OpenLaw} {n:Nat} (hn:l.most = some n) {P:Params} {h:Heap} {args:List WData} {vals:List Value}
  (hpre:l.row.toRowW.claim.pre args = true) (hwl:WellAll P h vals args) :
  ∃ a vs ns,vals = [Value.ref a] /\ args = [WData.list (ns.map WData.int)] /\ h.get? a = some { cls:=.type "list",data:=.seq vs.toArray } /\ IntsAre vs ns /\ ns.length <= n:=by
 have hsh:WShape.hasAll [] args [.list .int] = true:=(pre_splitW hpre).1
 have hc:l.pre.holds [] { args:=args } = true:=(pre_splitW hpre).2
 obtain ⟨d,r,rfl,h1,h2⟩:=hasAllW_cons hsh
 obtain rfl:=hasAllW_nil h2
 obtain ⟨xs,rfl,h3⟩:=hasW_list h1
 obtain ⟨ns,rfl⟩:=items_int h3
 have hlen:ns.length <= n:=by
  unfold OpenLaw.pre at hc
  have h4:(WTm.not (.lt (.lit (.int (n:Int))) (.len (.arg 0)))).holds [] { args:=[.list (ns.map .int)] } = true:=by
   have h4:=(holds_andW hc).1
   rw [hn] at h4
   exact h4
  have h5:=condW_of h4 (w_not (w_lt w_lit (w_len_list (w_arg rfl))))
  rw [List.length_map] at h5
  refine Nat.le_of_not_lt fun q=>?_
  have q':(n:Int) < ((ns.length:Nat):Int):=by omega
  first
   | (rw [decide_eq_true q'] at h5; exact absurd h5 (by decide))
   | (simp at h5; omega)
 cases hwl with
 | cons w1 w2=>
  cases w2
  cases w1 with
  | list ho hall=>exact ⟨_,_,ns,rfl,rfl,ho,dW ns _ hall,hlen⟩
theorem tO (l:OpenLaw) (args:List WData):l.row.toRowW.claim.post args (.bool true) args = true:=
 postW_of (r:=l.row.toRowW) (X:=(true == true))
  (show WShape.has [] (.bool true) .bool = true by first | rfl | decide | simp [WShape.has,WShape.arms,WShape.armsAll])
  (show (WTm.eq .res (.lit (.bool true))).value [] { args:=args,res:=some (.bool true),after:=args } = some (.bool (true == true)) from w_eq_bool (w_res rfl) w_lit) rfl
theorem lJ {l:OpenLaw} {n:Nat} {q:Program} {loose:List Str} {XP:(Str -> Option Value) -> Heap -> Prop} {YP:World -> Heap -> Prop} {d:DefRec}
  (hn:l.most = some n) (hdf:d.params.defaults = [])
  (call:∀ (w:World) (s₀ s₁:Shared) (mg mb:Str -> Option Value) (fa:Addr) (o:Obj) (pm cd doc:Value) (a:Addr) (vs:List Value) (ns:List Int),
   Ground q loose [] XP w s₀ mg mb s₁.heap -> YP w s₁.heap ->
   s₁.heap.get? fa = some o -> o.data = .func (docDef d.name d.params d.body d.scope pm cd doc) -> s₁.heap.CodeRec cd d.name -> mg d.name = some (.ref fa) ->
   s₁.heap.get? a = some { cls:=.type "list",data:=.seq vs.toArray } -> IntsAre vs ns -> ns.length <= n -> s₁.gens = #[] ->
   codeAny (model l.prog w) callerA (.call (.ref fa) ⟨[.ref a],[]⟩) (fun r s'=>r = .ok (.ret (.bool true)) /\ OldK s₁.heap s'.heap /\ s'.os = s₁.os /\ AllBare s'.gens) s₁) :
  WalkO q loose XP YP l.row.toRowW d [] (fun f vs=>PySem.call f vs):=by
 intro w s₀ s₁ mg mb G Y fa o pm cd doc dV kV ho hd hcd hD hmg hg args vals as hpre hlay hrd hwl hlo
 obtain rfl:dV = .none:=Dflts.none hD hdf
 obtain rfl:kV = .none:=Dflts.noKw hD
 obtain ⟨a,vs,ns,rfl,rfl,hobj,hints,hlen⟩:=sV hn hpre hwl
 refine enter_call (codeAny_mono (call w s₀ s₁ mg mb fa o pm cd doc a vs ns G Y ho (fd_plain hd) hcd hmg hobj hints hlen hg) fun r s' hq=>?_)
 obtain ⟨rfl,h2,h3,h4⟩:=hq
 exact ⟨.inl ⟨.bool true,.bool true,[],rfl,fun _=>rfl,.bool true,tO l _,fun _=>⟨List.Pairwise.nil,fun _ hm=>(nomatch hm)⟩⟩,h2,h3,h4⟩
section
variable {prog:Program} {w:World} {A:Around} {E:Value -> Shared -> Prop} {s:Shared} {K:Frag}
end
end Att
namespace L2
open PySem PySem.Spec PyProof.Rows
theorem iR:∀ {vs:List Value} {ns:List Int},IntsAre vs ns -> Vals (ns.map V.int) vs
 | _,_,.nil=>.nil
 | _,_,.cons n t h=>.cons ⟨t,rfl⟩ (iR h)
def CP (H:Hp):Prop:=∀ b,H b = none \/ ∃ o xs,H b = some (.frz o (.lst xs))
theorem vM {P:Program} {w:World} {K:PySem.W.Frag} {mg mb:Str -> Option Value} {CX:oV} {k:Nat} {fa a:Addr} {fd:FuncData} {x:Str} {sp:Sp} {s₁:Shared} {vs:List Value} {ns:List Int}
  (KX:K.In s₁.heap) (hns:s₁.heap.Ns mainGlobals mg) (hb:s₁.heap.Ns builtinsNs mb) (hbb:∀ x:Str,x ≠ "__name__" -> mb x = bootBuiltins x) (hlim:s₁.heap.NoLimit) (hg:s₁.gens = #[])
  (ha:s₁.heap.get? a = some { cls:=.type "list",data:=.seq vs.toArray }) (hi:IntsAre vs ns) (hl:ns.length <= sizeLine) (hr:E6 k callerA)
  (F:∀ base:Heap,K.In base -> base.Ns mainGlobals mg -> y4 P w K mg base CX k fa fd [x] sp) (hbind:∀ (s:Shared) (u:Value),BindsTo s fd ⟨[u],[]⟩ [(x,u)])
  (hsp:∀ H:Hp,CP H -> S3 K H a (ns.map V.int) -> sp [.ref a] H (fun v _=>v = .bl true) fun _ _ _=>False)
  (hCX:∀ H e s',CX [] H s₁ (fun _ _ _=>False) e s' -> False) :
  codeAny (model P w) callerA (.call (.ref fa) ⟨[.ref a],[]⟩) (fun r s'=>r = .ok (.ret (.bool true)) /\ OldK s₁.heap s'.heap /\ s'.os = s₁.os /\ AllBare s'.gens) s₁:=by
 have rv:=iR hi
 have lenV:=hi.length
 have core:∀ H:Hp,CP H -> S3 K H a (ns.map V.int) -> P2 P w H s₁.heap -> (∀ b,H b ≠ none -> b = a) -> (H a ≠ none -> K.lookup a = none) ->
   codeAny (model P w) callerA (.call (.ref fa) ⟨[.ref a],[]⟩) (fun r s'=>r = .ok (.ret (.bool true)) /\ OldK s₁.heap s'.heap /\ s'.os = s₁.os /\ AllBare s'.gens) s₁:=by
  intro H hO hS hok hA hK
  have base_of:∀ {b:Addr} {o:Obj},s₁.heap.get? b = some o -> H b = none -> (jH s₁.heap H).get? b = some o:=fun e n=>uS e n
  have noA:∀ {b:Addr} {o:Obj} {es:Array DictEntry} {ep:Nat},s₁.heap.get? b = some o -> o.data = .dict es ep -> H b = none:=fun {b o es ep} e d=>by
   cases q:H b with
   | none=>rfl
   | some u=>
    have e':b = a:=hA b (by rw [q]; simp)
    subst e'
    rw [ha] at e; cases e
    have d':Data.seq vs.toArray _ = Data.dict es ep:=d
    cases d'
  have nsK:∀ {b:Addr} {m:Str -> Option Value},s₁.heap.Ns b m -> (jH s₁.heap H).Ns b m:=fun {b m} ⟨o,es,ep,e,d,r⟩=>⟨o,es,ep,base_of e (noA e d),d,r⟩
  have hKb:K.In (jH s₁.heap H):=fun b o e=>base_of (KX b o e) (by
   cases q:H b with
   | none=>rfl
   | some u=>
    have e':b = a:=hA b (by rw [q]; simp)
    subst e'
    rw [hK (by rw [q]; simp)] at e; cases e)
  have hM:Mod K mg (jH s₁.heap H):=⟨hKb,nsK hns,⟨mb,nsK hb,hbb⟩,let ⟨mc,h1,h2⟩:=hlim; ⟨mc,nsK h1,h2⟩⟩
  have e0:pR P w K mg (jH s₁.heap H) callerA [] s₁ H:=⟨rfl,hM,fun b o e=>zd e,Nat.le_of_eq (tu _ _),trivial,fun b hb=>absurd (show b ∈ ([]:List Addr) from hb) (by simp),hok,.of_eq hg⟩
  refine codeAny_mono ((F _ hKb (nsK hns)).run callerA [] s₁ H ⟨[.ref a],[]⟩ [.ref a] [.ref a] _ _ hr e0 (hbind s₁ (.ref a)) (.cons rfl .nil) (hsp H hO hS)) fun r s' h=>?_
  cases r with
  | error e=>exact (hCX H e s' h).elim
  | ok fl=>
   cases fl with
   | next=>exact False.elim h
   | brk=>exact False.elim h
   | cont=>exact False.elim h
   | ret u=>
    obtain ⟨v,H',os,bare,un,hok',r',q⟩:=h
    have q':v = .bl true:=q
    subst q'
    obtain rfl:u = Value.bool true:=r'
    refine ⟨rfl,OldK.of_keep fun b o e=>?_,os,bare⟩
    cases q:H b with
    | none=>exact un.keep b o e q (by intro z; exact absurd (show b ∈ ([]:List Addr) from z) (by simp)) (by simp)
    | some u=>
     rcases hO b with z | ⟨ob,xs,z⟩
     ·rw [q] at z; cases z
     ·have z2:=un.frzs b ob _ z
      obtain ⟨e1,_⟩:=hok b _ z
      obtain ⟨e2,_⟩:=hok' b _ z2
      rw [e] at e1; cases e1
      exact e2
 cases hk:K.lookup a with
 | some o=>
  have e:=KX a o hk
  rw [ha] at e
  cases e
  refine core (fun _=>none) (fun _=>.inl rfl) (.inr ⟨_,vs.toArray,_,hk,rfl,rfl,rfl,by rw [List.size_toArray,lenV]; exact hl,by simpa using rv⟩) (fun b u z=>by have z':(none:Option HO) = some u:=z; cases z') (fun b z=>absurd rfl z) fun z=>absurd rfl z
 | none=>
  refine core (fun b=>if b = a then some (.frz { cls:=.type "list",data:=.seq vs.toArray } (.lst (ns.map V.int))) else none) (fun b=>?_) (.inl (.inr ⟨{ cls:=.type "list",data:=.seq vs.toArray },if_pos rfl⟩)) (fun b u z=>?_) (fun b z=>?_) fun _=>hk
  ·by_cases hb:b = a
   ·exact .inr ⟨_,_,if_pos hb⟩
   ·exact .inl (if_neg hb)
  ·by_cases hb:b = a
   ·have z':=(if_pos hb).symm.trans z
    cases z'
    subst hb
    exact ⟨ha,by rw [List.length_map]; exact hl,vs,_,rv,ha⟩
   ·have z':=(if_neg hb).symm.trans z
    cases z'
  ·by_cases hb:b = a
   ·exact hb
   ·exact absurd (if_neg hb) z
end L2
namespace L2
open PySem PySem.Spec PyProof.Rows
noncomputable abbrev ID {K:PySem.W.Frag} {h:Heap} (_:K.In h):PySem.W.Frag:=K
theorem Ax {l:PySem.W.OpenLaw} {n k:Nat} {q:Program} {loose:List Str} {XP:(Str -> Option Value) -> Heap -> Prop} {YP:World -> Heap -> Prop} {d:DefRec} {K:Params -> PySem.W.Frag} {CX:World -> oV} {sp:World -> Sp} {x:Str}
  (hn:l.most = some n) (hn2:n <= sizeLine) (hdf:d.params.defaults = []) (hr:E6 k callerA)
  (hY:∀ (w:World) (h:Heap),YP w h -> (K w.params).In h)
  (F:∀ (w:World) (mg:Str -> Option Value) (fa:Addr) (h:Heap),(K w.params).In h -> h.Ns mainGlobals mg -> mg d.name = some (.ref fa) ->
   ∃ fd:FuncData,(∀ (s:Shared) (u:Value),BindsTo s fd ⟨[u],[]⟩ [(x,u)]) /\
    ∀ base:Heap,(K w.params).In base -> base.Ns mainGlobals mg -> y4 l.prog w (K w.params) mg base (CX w) k fa fd [x] (sp w))
  (hsp:∀ (w:World) (H:Hp) (a:Addr) (ns:List Int),ns.length <= n -> CP H -> S3 (K w.params) H a (ns.map V.int) -> sp w [.ref a] H (fun v _=>v = .bl true) fun _ _ _=>False)
  (hCX:∀ (w:World) (H:Hp) (s:Shared) (e:Value) (s':Shared),CX w [] H s (fun _ _ _=>False) e s' -> False) :
  PySem.W.WalkO q loose XP YP l.row.toRowW d [] (fun f vs=>PySem.call f vs):=by
 refine Att.lJ hn hdf fun w s₀ s₁ mg mb fa o pm cd doc a vs ns G Y ho hd hcd hmg hobj hints hlen hg=>?_
 have KX:=hY w _ Y
 obtain ⟨fd,hb,hF⟩:=F w mg fa _ KX G.T.g hmg
 exact vM KX G.T.g G.T.b G.T.builtins G.T.nolimit hg hobj hints (Nat.le_trans hlen hn2) hr hF hb (fun H hO hS=>hsp w H a ns hlen hO hS) fun H e s'=>hCX w H s₁ e s'
end L2
namespace L2
open PySem PySem.Spec PyProof.Rows
noncomputable def inClass (s:Stmt) (j:Nat):Stmt:=match s with
 | .ClassDef _ _ _ body _ _ _ _ _ _ _=>body.getD j (.Pass ⟨0,0,0,0⟩)
 | _=>.Pass ⟨0,0,0,0⟩
noncomputable def o6 (s:Stmt):Arguments:=match s with
 | .FunctionDef _ a _ _ _ _ _ _ _ _=>a
 | _=>{ posonlyargs:=[],args:=[],vararg:=none,kwonlyargs:=[],kw_defaults:=[],kwarg:=none,defaults:=[] }
noncomputable def j8 (s:Stmt):List Stmt:=match s with
 | .FunctionDef _ _ b _ _ _ _ _ _ _=>b
 | _=>[]
noncomputable def g6 (s:Stmt):Scope:=match s with
 | .FunctionDef _ _ _ _ _ _ sc _ _ _=>sc
 | _=>{ kind:=.function,names:=[],isGenerator:=false,isCoroutine:=false }
noncomputable abbrev Q9:oV:=fun _ _ _ _ _ _=>False
noncomputable abbrev E0:XK:=fun _ _ _=>False
theorem vg {X:Cx}:Passes Q9 X E0:=fun _ _ _ _ _ _ _ h=>h.elim
structure X1 (K:PySem.W.Frag) (x qual:Str) (st:Stmt) (f:Addr) (fd:FuncData):Prop where
 ex:∃ (oc:Value) (od:Option Addr) (kV doc pm:Value) (an:Option Addr) (cdv ct:Value) (osl:Array (Option Value)),
  fd = PySem.W.fnOf x qual (o6 st) (j8 st) (g6 st) .none kV doc pm an cdv ct /\ K.lookup f = some ⟨oc,od,.func fd,osl⟩ /\ PySem.W.codeIn K cdv qual = true
 kp:PySem.W.keepIn K (.ref f) = true
section
variable {P:Program} {w:World} {K:PySem.W.Frag} {mg:Str -> Option Value} {base:Heap}
theorem X1.ok {x qual:Str} {st:Stmt} {f:Addr} {fd:FuncData} {N ps:List Str} {k:Nat} {sp:Sp} (F:X1 K x qual st f fd) (S:o4 N ps (g6 st)) (len:∀ vs H Q E,sp vs H Q E -> vs.length = ps.length)
  (hbody:∀ (cdv:Value) (A:Around) (outer:List Env) (s:Shared) (H:Hp) (vs:List V) (Q:VK) (E:XK),E6 k (A.deeper (envOfC qual (g6 st) s.heap.objs.size f cdv)) -> sp vs H Q E ->
   ∃ t,jR (bR Q9 P w K mg base N qual (g6 st) f cdv A outer s H E).DO (j8 st) t /\ t { nx:=fun _ H'=>Q .non H',rt:=Q } (start N vs) H):y4 P w K mg base Q9 (k + 1) f fd ps sp:=by
 obtain ⟨oc,od,kV,doc,pm,an,cdv,ct,osl,rfl,lk,hcd⟩:=F.ex
 refine Bm lk hcd S len fun A outer s H vs Q E hr hsp=>?_
 obtain ⟨t,h,q⟩:=hbody cdv A outer s H vs Q E hr hsp
 exact ⟨t,h.DO,q⟩
theorem X1.binds {x qual:Str} {st:Stmt} {f:Addr} {fd:FuncData} {ps:List Str} (F:X1 K x qual st f fd)
  (h:∀ (kV doc pm:Value) (an:Option Addr) (cdv ct:Value) (us:List Value),us.length = ps.length -> bindArgs (PySem.W.fnOf x qual (o6 st) (j8 st) (g6 st) .none kV doc pm an cdv ct) ⟨us,[]⟩ = pure (ps.zip us)):Binds K fd ps []:=by
 obtain ⟨oc,od,kV,doc,pm,an,cdv,ct,osl,rfl,lk,hcd⟩:=F.ex
 exact .all (h kV doc pm an cdv ct)
theorem x3 {x qual:Str} {st:Stmt} {f:Addr} {oc:Value} {od an:Option Addr} {osl:Array (Option Value)} {kV doc pm cdv ct:Value} (l:K.lookup f = some ⟨oc,od,.func (PySem.W.fnOf x qual (o6 st) (j8 st) (g6 st) .none kV doc pm an cdv ct),osl⟩)
  (c:PySem.W.codeIn K cdv qual = true) (k:PySem.W.keepIn K (.ref f) = true):X1 K x qual st f (PySem.W.fnOf x qual (o6 st) (j8 st) (g6 st) .none kV doc pm an cdv ct):=⟨⟨oc,od,kV,doc,pm,an,cdv,ct,osl,rfl,l,c⟩,k⟩
end
theorem j6 {A:Around} {k:Nat} (hr:E6 k A):A.units + 1 < cLine:=Nat.lt_of_le_of_lt (Nat.add_le_add_left (by decide:1 <= 64) _) hr.units
theorem rN {n:Nat} (h:n <= 1000):n < sizeLine:=Nat.lt_of_le_of_lt h (by decide)
section
variable {X:Cx}
theorem pv (i:Nat) {x:Str} {pos:Pos} (hN:X.N[i]? = some x:=by rfl) (hv:GG X.env.scope x:=by first | exact Or.inl rfl | exact Or.inr (Or.inl rfl) | exact Or.inr (Or.inr rfl)) (hd:(x == ("__debug__" : Str)) = false:=by decide)
  (hcd:(x == ("__classdict__" : Str)) = false:=by decide):PE X (.Name x pos) (W8 i):=BX hN hv hd hcd
end
def i7 (H H':Hp):Prop:=∀ b o,H b = some o -> H' b = some o
theorem i7.refl (H:Hp):i7 H H:=fun _ _ h=>h
theorem i7.trans {H H1 H2:Hp} (a:i7 H H1) (b:i7 H1 H2):i7 H H2:=fun c o h=>b c o (a c o h)
theorem i7.free {H H':Hp} (e:i7 H H') {l:Addr} (h:H' l = Option.none):H l = Option.none:=by
 cases q:H l with
 | none=>rfl
 | some o=>
  rw [e l o q] at h
  cases h
end L2
set_option maxHeartbeats 4000000
namespace L2
open PySem PySem.Spec PyProof.Rows
theorem ku {prog:Program} {w:World} {A:Around} {R:Result -> Shared -> Prop} {s:Shared} {elt target iter:Expr} {ifs:List Expr} {scope:Scope} {pos:Pos} {it acc:Value} {env:Env} (I:Nat -> Shared -> Prop)
  (turn:∀ n s,I n s -> wpAny (model prog w) A (pyNext it) (fun r s1=>match r with
   | none=>R (.ok .next) s1
   | some v=>wpAny (model prog w) A (letOwnedTupleGo target it v) (fun _ s2=>wpAny (model prog w) A (assign target env v) (fun _ s3=>
     wpAny (model prog w) A (forIn ifs true fun c r=>if r = true then do let ok <- isTrue c env (eval c env); pure (ForInStep.yield ok) else pure (ForInStep.yield r)) (fun ok s4=>
      if ok = true then wpAny (model prog w) A (eval elt env) (fun x s5=>
       wpAny (model prog w) A (call (.builtin "list.append") [acc,x]) (fun _ s6=>∃ m,m < n /\ I m s6) (fun _ _=>False) s5) (fun _ _=>False) s4
      else ∃ m,m < n /\ I m s4) (fun _ _=>False) s3) (fun _ _=>False) s2) (fun _ _=>False) s1) (fun _ _=>False) s)
  (n:Nat) (h:I n s) :
  codeAny (model prog w) A (.compLoop (.ListComp elt [⟨target,iter,ifs,0⟩] scope pos) 0 it acc env) R s:=by
 refine codeAny_loop rfl I (fun n s hI=>?_) n h
 show wpAny _ A ((compTurn (.ListComp elt [⟨target,iter,ifs,0⟩] scope pos) 0 it acc env).onRaise (fun x=>do noteFrame x env; theTreesLotGoes x)) _ _ s
 refine wpAny_noted ?_
 rw [compTurn_list]
 refine wpAny_bind (wpAny_standAt (wpAny_bind (wpAny_mono (turn n s hI) (fun r s1 h1=>?_) fun _ _ h'=>h'.elim)))
 cases r with
 | none=>exact wpAny_pure h1
 | some v=>
  refine wpAny_bind (wpAny_mono h1 (fun _ s2 h2=>?_) fun _ _ h'=>h'.elim)
  refine wpAny_bind (wpAny_mono h2 (fun _ s3 h3=>wpAny_bind (wpAny_mono h3 (fun ok s4 h4=>?_) fun _ _ h'=>h'.elim)) fun _ _ h'=>h'.elim)
  cases ok with
  | false=>exact wpAny_pure ⟨rfl,h4⟩
  | true=>
   exact wpAny_bind (wpAny_bind (wpAny_mono h4 (fun x s5 h5=>wpAny_bind (wpAny_mono h5 (fun _ s6 h6=>wpAny_pure (wpAny_pure ⟨rfl,h6⟩)) fun _ _ h'=>h'.elim)) fun _ _ h'=>h'.elim))
noncomputable def D6 (env:Env):List (Str × NameKind) -> List (Str × Addr) -> List (Str × Addr)
 | [],acc=>acc
 | (n,k) :: r,acc=>if (k == .free) = true then (match env.cells.lookup n with
   | some a=>D6 env r ((n,a) :: acc)
   | none=>D6 env r acc) else D6 env r acc
theorem fu {env:Env}:∀ (names:List (Str × NameKind)) (acc:List (Str × Addr)),(∀ x ∈ names,x.2 = .free -> ∃ a,env.cells.lookup x.1 = some a) ->
  (forIn names acc fun (x:Str × NameKind) (cs:List (Str × Addr))=>(if (x.2 == NameKind.free) = true then (do let c <- cellOf env x.1; pure (ForInStep.yield ((x.1,c) :: cs))) else pure (ForInStep.yield cs):Sem (ForInStep (List (Str × Addr))))) = (pure (D6 env names acc):Sem (List (Str × Addr)))
 | [],acc,_=>rfl
 | (n,k) :: r,acc,h=>by
  have ih:=fun acc'=>fu (env:=env) r acc' fun x hx=>h x (List.mem_cons_of_mem _ hx)
  rw [List.forIn_cons]
  unfold D6
  by_cases hk:(k == NameKind.free) = true
  ·obtain ⟨a,ha⟩:=h (n,k) List.mem_cons_self (by simpa using hk)
   have ha':env.cells.lookup n = some a:=ha
   simp only [hk,if_true,cellOf,ha',pure_bind]
   exact ih _
  ·have hk':(k == NameKind.free) = false:=by simpa using hk
   simp only [hk',if_false,Bool.false_eq_true,pure_bind]
   exact ih _
theorem bq {env:Env} {scope:Scope} (h:∀ x ∈ scope.names,x.2 = .free -> ∃ a,env.cells.lookup x.1 = some a):closureFor scope env = pure (D6 env scope.names []):=by
 have e:=fu (env:=env) scope.names [] h
 simp only [closureFor]
 exact (congrArg (fun z=>z >>= fun cs=>pure cs) e).trans (by simp)
theorem bN {env:Env}:∀ {names:List (Str × NameKind)} {acc:List (Str × Addr)} {x:Str} {c:Addr},(D6 env names acc).lookup x = some c -> acc.lookup x = some c \/ env.cells.lookup x = some c
 | [],acc,x,c,h=>.inl h
 | (n,k) :: r,acc,x,c,h=>by
  unfold D6 at h
  by_cases hk:(k == NameKind.free) = true
  ·rw [if_pos hk] at h
   cases e:env.cells.lookup n with
   | none=>rw [e] at h; exact bN h
   | some a=>
    rw [e] at h
    rcases bN h with z | z
    ·by_cases hx:x = n
     ·subst hx
      rw [List.lookup_cons] at z
      simp at z
      subst z
      exact .inr e
     ·rw [List.lookup_cons] at z
      have:(x == n) = false:=by simpa using hx
      rw [this] at z
      exact .inl z
    ·exact .inr z
  ·rw [if_neg hk] at h
   exact bN h
theorem S8 {env:Env}:∀ {names:List (Str × NameKind)} {acc:List (Str × Addr)} {x:Str} {c:Addr},acc.lookup x = some c -> ∃ c',(D6 env names acc).lookup x = some c'
 | [],acc,x,c,h=>⟨c,h⟩
 | (n,k) :: r,acc,x,c,h=>by
  unfold D6
  by_cases hk:(k == NameKind.free) = true
  ·rw [if_pos hk]
   cases e:env.cells.lookup n with
   | none=>exact S8 h
   | some a=>
    by_cases hx:x = n
    ·subst hx
     exact S8 (c:=a) (by rw [List.lookup_cons]; simp)
    ·refine S8 (c:=c) ?_
     rw [List.lookup_cons]
     have:(x == n) = false:=by simpa using hx
     rw [this]
     exact h
  ·rw [if_neg hk]
   exact S8 h
theorem gA {env:Env}:∀ {names:List (Str × NameKind)} {acc:List (Str × Addr)} {x:Str},(∀ y ∈ names,y.2 = .free -> ∃ a,env.cells.lookup y.1 = some a) -> (x,NameKind.free) ∈ names -> ∃ c,(D6 env names acc).lookup x = some c
 | [],acc,x,_,h=>by cases h
 | (n,k) :: r,acc,x,ha,h=>by
  unfold D6
  rcases List.mem_cons.mp h with z | z
  ·injection z with e1 e2
   subst e1
   subst e2
   rw [if_pos (by simp)]
   obtain ⟨a,e⟩:=ha (x,.free) List.mem_cons_self rfl
   have e':env.cells.lookup x = some a:=e
   rw [e']
   exact S8 (c:=a) (by rw [List.lookup_cons]; simp)
  ·have ih:=fun acc'=>gA (acc:=acc') (fun y hy=>ha y (List.mem_cons_of_mem _ hy)) z
   by_cases hk:(k == NameKind.free) = true
   ·rw [if_pos hk]
    cases e:env.cells.lookup n with
    | none=>exact ih _
    | some a=>exact ih _
   ·rw [if_neg hk]
    exact ih _
theorem V1 {env:Env}:∀ {names:List (Str × NameKind)} {x:Str} {k:NameKind},
  (names.map fun (n,k)=>if (k == NameKind.free && env.scope.kind == .function && env.kindOf n == some .cell) then (n,NameKind.cell) else (n,k)).lookup x = some k -> (k = .cell \/ k = .free) -> (∀ y ∈ names,y.2 ≠ .cell) -> (x,NameKind.free) ∈ names
 | [],_,_,h,_,_=>by cases h
 | (n,q) :: r,x,k,h,hk,hc=>by
  have ih:=@V1 env r x k
  rw [List.map_cons] at h
  by_cases hq:(q == NameKind.free && env.scope.kind == .function && env.kindOf n == some .cell) = true
  ·have hqf:q = .free:=by
    have:=(Bool.and_eq_true_iff.mp (Bool.and_eq_true_iff.mp hq).1).1
    simpa using this
   simp only [hq,if_true] at h
   by_cases hx:x = n
   ·subst hx; rw [hqf]; exact List.mem_cons_self
   ·rw [List.lookup_cons] at h
    have:(x == n) = false:=by simpa using hx
    rw [this] at h
    exact List.mem_cons_of_mem _ (ih h hk fun y hy=>hc y (List.mem_cons_of_mem _ hy))
  ·have hq':(q == NameKind.free && env.scope.kind == .function && env.kindOf n == some .cell) = false:=by simpa using hq
   simp only [hq',Bool.false_eq_true,if_false] at h
   by_cases hx:x = n
   ·subst hx
    rw [List.lookup_cons] at h
    simp at h
    subst h
    rcases hk with z | z
    ·exact absurd z (hc (x,q) List.mem_cons_self)
    ·rw [z]; exact List.mem_cons_self
   ·rw [List.lookup_cons] at h
    have:(x == n) = false:=by simpa using hx
    rw [this] at h
    exact List.mem_cons_of_mem _ (ih h hk fun y hy=>hc y (List.mem_cons_of_mem _ hy))
noncomputable def O1 (X:Cx) (N:List Str) (scope:Scope) (cl:List (Str × Addr)) (fp:List Addr) (s:Shared) (H:Hp):Cx where
 prog:=X.prog
 w:=X.w
 K:=X.K
 mg:=X.mg
 base:=X.base
 A:=X.A
 N:=N
 s₀:=s
 H₀:=H
 env:=compEnvC scope cl s.heap.objs.size X.env
 outer:=X.stack
 stack:=X.stack
 ex:=fp
 fn:=fun _=>false
 calm:=X.calm
 pn:=[]
 xe:=fun _ _=>False
noncomputable def N7 (cap:List (Option Nat)) (σ:St):St:=cap.map fun o=>match o with
 | some j=>(σ[j]?).join
 | none=>none
noncomputable def aS (XN N:List Str) (XS scope:Scope) (cap:List (Option Nat)):Bool:=
 (cap.length == N.length) && (List.range N.length).all (fun i=>match N[i]?,cap[i]? with
  | some x,some (some j)=>(XN[j]? == some x) && ((XS.names.lookup x == some .cell) || (XS.names.lookup x == some .free)) && (scope.names.lookup x == some .free)
  | some _,some none=>true
  | _,_=>false)
 && scope.names.all (fun y=>y.2 != .cell) && scope.names.all (fun y=>y.2 != .free || (XS.names.lookup y.1 == some .cell) || (XS.names.lookup y.1 == some .free))
 && scope.names.all (fun y=>y.2 != .local || (scope.names.lookup y.1 == some .local))
theorem bz {env:Env}:∀ {names:List (Str × NameKind)} {x:Str},names.lookup x = some .free ->
  (names.map fun (n,k)=>if (k == NameKind.free && env.scope.kind == .function && env.kindOf n == some .cell) then (n,NameKind.cell) else (n,k)).lookup x = some .cell \/
  (names.map fun (n,k)=>if (k == NameKind.free && env.scope.kind == .function && env.kindOf n == some .cell) then (n,NameKind.cell) else (n,k)).lookup x = some .free
 | [],_,h=>by cases h
 | (n,q) :: r,x,h=>by
  have ih:=@bz env r x
  rw [List.map_cons]
  by_cases hx:x = n
  ·subst hx
   rw [List.lookup_cons] at h
   simp at h
   subst h
   by_cases hq:(NameKind.free == NameKind.free && env.scope.kind == .function && env.kindOf x == some .cell) = true
   ·left
    simp only [hq,if_true]
    rw [List.lookup_cons]; simp
   ·right
    have hq':(NameKind.free == NameKind.free && env.scope.kind == .function && env.kindOf x == some .cell) = false:=by simpa using hq
    simp only [hq',Bool.false_eq_true,if_false]
    rw [List.lookup_cons]; simp
  ·have hn:(x == n) = false:=by simpa using hx
   rw [List.lookup_cons,hn] at h
   have ih':=ih h
   by_cases hq:(q == NameKind.free && env.scope.kind == .function && env.kindOf n == some .cell) = true
   ·simp only [hq,if_true]
    rw [List.lookup_cons,hn]
    exact ih'
   ·have hq':(q == NameKind.free && env.scope.kind == .function && env.kindOf n == some .cell) = false:=by simpa using hq
    simp only [hq',Bool.false_eq_true,if_false]
    rw [List.lookup_cons,hn]
    exact ih'
structure N5 (X:Cx) (N:List Str) (scope:Scope) (cap:List (Option Nat)):Prop where
 len:cap.length = N.length
 slot:∀ (i:Nat) (x:Str) (j:Nat),N[i]? = some x -> cap[i]? = some (some j) -> X.N[j]? = some x /\ (X.env.kindOf x = some .cell \/ X.env.kindOf x = some .free) /\ scope.names.lookup x = some .free
 nocell:∀ y ∈ scope.names,y.2 ≠ .cell
 free:∀ y ∈ scope.names,y.2 = .free -> (X.env.kindOf y.1 = some .cell \/ X.env.kindOf y.1 = some .free)
 loc:∀ y ∈ scope.names,y.2 = .local -> scope.names.lookup y.1 = some .local
theorem ah {X:Cx} {XN N:List Str} {XS scope:Scope} {cap:List (Option Nat)} (hN:X.N = XN) (hS:X.env.scope = XS) (h:aS XN N XS scope cap = true):N5 X N scope cap:=by
 subst hN
 subst hS
 unfold aS at h
 rw [Bool.and_eq_true,Bool.and_eq_true,Bool.and_eq_true,Bool.and_eq_true] at h
 obtain ⟨⟨⟨⟨h1,h2⟩,h3⟩,h4⟩,h5⟩:=h
 rw [List.all_eq_true] at h2 h3 h4 h5
 have hlen:cap.length = N.length:=by simpa using h1
 refine ⟨hlen,fun i x j e1 e2=>?_,fun y hy z=>?_,fun y hy z=>?_,fun y hy z=>?_⟩
 ·have hi:i < N.length:=(List.getElem?_eq_some_iff.mp e1).1
  have q:=h2 i (List.mem_range.mpr hi)
  rw [e1,e2] at q
  dsimp only at q
  rw [Bool.and_eq_true,Bool.and_eq_true,Bool.or_eq_true] at q
  obtain ⟨⟨q1,q2⟩,q3⟩:=q
  refine ⟨by simpa using q1,?_,by simpa using q3⟩
  rcases q2 with q2 | q2
  ·exact .inl (beq_iff_eq.mp q2)
  ·exact .inr (beq_iff_eq.mp q2)
 ·have q:=h3 y hy
  rw [z] at q
  exact absurd q (by decide)
 ·have q:=h4 y hy
  rw [z,Bool.or_eq_true,Bool.or_eq_true] at q
  rcases q with (q | q) | q
  ·exact absurd q (by decide)
  ·exact .inl (beq_iff_eq.mp q)
  ·exact .inr (beq_iff_eq.mp q)
 ·have q:=h5 y hy
  rw [z,Bool.or_eq_true] at q
  rcases q with q | q
  ·exact absurd q (by decide)
  ·simpa using q
section
variable {X:Cx} {N:List Str} {scope:Scope} {cap:List (Option Nat)} {fp:List Addr} {pins:List (Addr × Obj)} {σ:St} {H:Hp} {s:Shared}
theorem Inv.Y2 (I:Inv X pins σ H s) (cf:N5 X N scope cap):∀ y ∈ scope.names,y.2 = .free -> ∃ a,X.env.cells.lookup y.1 = some a:=fun y hy z=>I.ok.has y.1 (cf.free y hy z)
theorem X8 {x:Str} {c:Addr} (h:(D6 X.env scope.names []).lookup x = some c):X.env.cells.lookup x = some c:=by
 rcases bN h with z | z
 ·cases z
 ·exact z
theorem mj (I:Inv X pins σ H s) (cf:N5 X N scope cap) (hf:∀ b ∈ fp,∀ x c,X.env.cells.lookup x = some c -> c ≠ b) {C:Addr} {H':Hp} {h':Heap} (u:Un (T3 X.stack) fp H H' s.heap h') :
  ∀ (i:Nat) (x:Str) (v:V),N[i]? = some x -> (N7 cap σ)[i]? = some (some v) -> ∃ w,RelV v w /\ ∀ m,Look (compEnvC scope (D6 X.env scope.names []) C X.env) h' m x w:=by
 intro i x v e1 e2
 unfold N7 at e2
 rw [List.getElem?_map] at e2
 cases ec:cap[i]? with
 | none=>rw [ec] at e2; cases e2
 | some o=>
  rw [ec] at e2
  cases o with
  | none=>cases e2
  | some j=>
   have e3:(σ[j]?).join = some v:=Option.some.inj e2
   have e4:σ[j]? = some (some v):=by
    cases q:σ[j]? with
    | none=>rw [q] at e3; cases e3
    | some o'=>rw [q] at e3; exact congrArg some e3
   obtain ⟨k1,k2,k3⟩:=cf.slot i x j e1 ec
   obtain ⟨m,hn,hl⟩:=I.loc
   have vis:GG X.env.scope x:=by
    rcases k2 with k | k
    ·exact .inr (.inl k)
    ·exact .inr (.inr k)
   obtain ⟨w,r,l⟩:=hl j x v k1 e4 vis
   refine ⟨w,r,fun m'=>?_⟩
   rcases l with ⟨hk,_⟩ | ⟨_,c,hc,o,ho,hd⟩
   ·rcases k2 with k | k
    ·rw [k] at hk; cases hk
    ·rw [k] at hk; cases hk
   ·obtain ⟨c',hc'⟩:=gA (acc:=[]) (I.Y2 cf) (PySem.mem_of_lookup k3)
    have hcc:=X8 hc'
    rw [hc] at hcc
    cases hcc
    obtain ⟨sl,e⟩:=u.any ho (I.freeC x c hc) (fun z=>hf c z x c hc rfl)
    exact .inr ⟨bz k3,c,hc',⟨_,e,hd⟩⟩
theorem Cx.Ok.comp (I:Inv X pins σ H s) (cf:N5 X N scope cap) (hk:scope.kind = .function) (hf:∀ b ∈ fp,S1 X pins H b) (hb:∀ b ∈ fp,b < s.heap.objs.size):(O1 X N scope (D6 X.env scope.names []) fp s H).Ok:=by
 refine ⟨I.ok.mod,hk,I.ok.glob,I.ok.blt,Nat.le_refl _,fun x y c h1 h2=>I.ok.inj x y c (X8 h1) (X8 h2),fun x hx=>?_,fun x c z=>absurd (show false = true from z) Bool.false_ne_true,I.ok.hd,I.ok.frames,.inl rfl,fun b z=>⟨Nat.ne_of_lt (hb b z),fun x c h=>(hf b z).2.2.2.2.1 x c (X8 h)⟩,I.bs,Nat.le_trans I.ok.bsz I.sz,fun b o e z=>?_,fun b z q=>?_,I.stack,I.dY⟩
 ·have hx':(x,NameKind.free) ∈ scope.names:=by
   rcases hx with hx | hx
   ·exact V1 hx (.inl rfl) cf.nocell
   ·exact V1 hx (.inr rfl) cf.nocell
  exact gA (acc:=[]) (I.Y2 cf) hx'
 ·rcases (hf b z).2.2.2.1 with q | q
  ·exact I.ok.noex b o e q
  ·exact absurd (Nat.lt_of_lt_of_le (Heap.lt_size e) (Nat.le_trans I.ok.bsz q)) (Nat.lt_irrefl _)
 ·rcases List.mem_cons.mp (I.oR b q) with e | e
  ·exact (hf b z).2.1 e
  ·exact (hf b z).2.2.1 e
theorem mD (I:Inv X pins σ H s) (cf:N5 X N scope cap) (hk:scope.kind = .function) (hf:∀ b ∈ fp,S1 X pins H b) (hb:∀ b ∈ fp,b < s.heap.objs.size) {h1:Heap} {m:Str -> Option Value} {tk:Nat}
  (hn:h1.Ns s.heap.objs.size m) (keep:∀ b o,s.heap.get? b = some o -> h1.get? b = some o):Inv (O1 X N scope (D6 X.env scope.names []) fp s H) [] (N7 cap σ) H { s with heap:=h1,toks:=tk }:=by
 refine ⟨Cx.Ok.comp I cf hk hf hb,rfl,I.bare,Un.kept keep,⟨m,hn,fun i x v e1 e2 _=>?_⟩,fun x c h=>?_,I.hok.fresh (Nat.le_refl _),fun x c h=>I.freeC x c (X8 h),fun p hp=>absurd (show p ∈ ([]:List (Addr × Obj)) from hp) (by simp),I.hok.kept keep,?_⟩
 ·obtain ⟨w,r,l⟩:=mj (C:=s.heap.objs.size) I cf (fun b z=>(hf b z).2.2.2.2.1) (Un.kept keep) i x v e1 e2
  exact ⟨w,r,l m⟩
 ·obtain ⟨v,o,ho,hd⟩:=I.cell x c (X8 h)
  exact ⟨v,o,keep c o ho,hd⟩
 ·unfold N7
  rw [List.length_map]
  exact cf.len
theorem iD (I:Inv X pins σ H s) (cf:N5 X N scope cap) (hf:∀ b ∈ fp,S1 X pins H b) {pins':List (Addr × Obj)} {σ':St} {H':Hp} {s':Shared} (J:Inv (O1 X N scope (D6 X.env scope.names []) fp s H) pins' σ' H' s') :
  Inv (O1 X N scope (D6 X.env scope.names []) fp s H) pins' (N7 cap σ) H' s':=by
 refine ⟨J.ok,J.os,J.bare,J.base,?_,J.cell,J.free,J.freeC,J.pin,J.hok,?_⟩
 ·obtain ⟨m,hn,_⟩:=J.loc
  refine ⟨m,hn,fun i x v e1 e2 _=>?_⟩
  obtain ⟨w,r,l⟩:=mj (C:=s.heap.objs.size) I cf (fun b z=>(hf b z).2.2.2.2.1) J.base i x v e1 e2
  exact ⟨w,r,l m⟩
 ·unfold N7
  rw [List.length_map]
  exact cf.len
theorem Inv.vF {C:Addr} {h':Heap} (I:Inv X pins σ H s) (hC:S1 X pins H C) (sb:Heap.SameBut C s.heap h'):Inv X pins σ H { s with heap:=h' }:=
 I.turned (t':=s.toks) (fun b o hb e=>(sb.2 b hb).trans e) hC.1 hC.2.1 hC.2.2.2.1 hC.2.2.2.2.1 hC.2.2.2.2.2
end
def zL (X:Cx) (ifs:List Expr) (t:TT):Prop:=
 ∀ (pins:List (Addr × Obj)) (s:Shared) (σ:St) (H:Hp) (Q:Bool -> Hp -> Prop),Inv X pins σ H s -> t σ H Q ->
  wpAny (model X.prog X.w) X.A (forIn ifs true fun c r=>if r = true then do let ok <- isTrue c X.env (eval c X.env); pure (ForInStep.yield ok) else pure (ForInStep.yield r)) (TP X pins σ Q) X.xe s
def GP:TT:=fun _ H Q=>Q true H
theorem rb {X:Cx}:zL X [] GP:=fun _ _ _ H _ I h=>wpAny_tests_nil ⟨H,I,h⟩
theorem AA {X:Cx} {c:Expr} {t:TT} (h:PT X c t):zL X [c] t:=fun pins s σ H Q I q=>wpAny_tests_one (h pins s σ H Q I q)
def Gv (J:It) (g:TG) (tc:TT) (te:TE) (σ0:St) (Q:VK) (H1:Hp):Prop:=∀ d,H1 d = none ->
 ∃ W:Nat -> Nat -> Hp -> Prop,(∃ m,W 0 m (upd H1 d (.lst []))) /\ ∀ i m H,W i m H ->
  (J.stop i H /\ Q (.ref d) H) \/
  (J.go i H /\ ∀ x H',J.yld i H x H' -> g x σ0 H' fun σ2 H2=>tc σ2 H2 fun b H3=>
   if b = true then te σ2 H3 fun v H4=>∃ acc,H4 d = some (.lst acc) /\ acc.length < sizeLine /\ ∃ m',m' < m /\ W (i + 1) m' (upd H4 d (.lst (acc ++ [v])))
   else ∃ m',m' < m /\ W (i + 1) m' H3)
end L2
namespace L2
open PySem PySem.Spec PyProof.Rows
def Hr (H H':Hp):Prop:=∀ b xs,H b = some (.tup xs) -> H' b = some (.tup xs)
theorem i7.L4 {H H':Hp} (h:i7 H H'):Hr H H':=fun b xs e=>h b _ e
theorem i7.n9 {H:Hp} {d:Addr} {o:HO} (h:H d = none):i7 H (upd H d o):=fun b u e=>by
 rw [i6 (u5 e h)]; exact e
section
variable {X:Cx}
noncomputable def FW:V -> Option Value
 | .ty n=>some (.type n)
 | .ref a=>some (.ref a)
 | _=>none
theorem y9:Z6 X (.builtin "isinstance") (fun xs H Q=>∃ x c t cv b,xs = [x,c] /\ FW c = some cv /\ aY X.K H x t /\ PySem.W.kitOne X.K t cv = some b /\ Q (.bl b) H):=by
 intro pins s σ H xs us Q I r h
 obtain ⟨x,c,t,cv,b,rfl,hc,ht,hk,q⟩:=h
 obtain ⟨u,w',rfl,rx,rc⟩:=vals2 r
 have ec:w' = cv:=by
  cases c with
  | ty n=>cases hc; exact rc
  | ref a=>cases hc; exact rc
  | _=>cases hc
 subst ec
 exact sH I rx ht hk fun tk=>⟨.bl b,H,I.tok tk,rfl,q⟩
def aO (i j:Int):Prop:=0 < j /\ j.natAbs.log2 < 9000
theorem xF:J4 X (binaryOp .FloorDiv) (rI aO fun i j=>.int (i / j)):=Gu fun i j _ _ _ _ _ hc q=>by
 have h1:(0:Int) < j:=hc.1
 exact floordiv_int (by omega) (by rw [Int.fdiv_eq_ediv_of_nonneg i (by omega)]; exact q) (.inl (PyProof.noPylong_of_log2 hc.2))
end
end L2
namespace L2
open PySem PySem.Spec PyProof.Rows
section
variable {X:Cx} {pins:List (Addr × Obj)} {σ:St} {H:Hp} {s:Shared} {h':Heap}
theorem Inv.jd {ch:List Addr} {T:Addr} {xs:List V} {its:List Value} {t':Nat} (I:Inv X pins σ H s) (hch:∀ b ∈ ch,S1 X pins H b) (k:∀ b o,b ∉ ch -> s.heap.get? b = some o -> h'.get? b = some o)
  (hT:s.heap.objs.size <= T) (rv:Vals xs its) (hz:xs.length <= sizeLine) (ht:IsTup h' T its.toArray):Inv X pins σ (upd H T (.tup xs)) { s with heap:=h',toks:=t' }:=by
 have hn:H T = none:=I.hok.fresh hT
 have nch:∀ b u,H b = some u -> b ∉ ch:=fun b u e z=>by rw [(hch b z).1] at e; cases e
 have neT:∀ b o,s.heap.get? b = some o -> b ≠ T:=fun b o e=>Nat.ne_of_lt (Nat.lt_of_lt_of_le (Heap.lt_size e) hT)
 refine I.step (g':=s.gens) (d':=s.drawn) (ch:=ch) (fun b hb=>⟨(hch b hb).2.2.2.1,(hch b hb).2.1,(hch b hb).2.2.2.2.1,(hch b hb).2.2.2.2.2⟩) (fun b o _ _ hc e _=>k b o hc e) (fun b o _ _ hc e _=>⟨o.slots,k b o hc e⟩)
  (fun b o hc e n=>by rw [i6 (neT b o e)]; exact n) (fun b o hc e=>⟨o,k b o hc e⟩) (fun b ys e=>by rw [i6 (u5 e hn)]; exact e) (fun b o u e=>by rw [i6 (u5 e hn)]; exact e)
  (fun b ps e=>⟨#[],by rw [i6 (u5 e hn),e]; simp⟩) (fun m hm=>?_) (fun b u e=>?_) I.bare
 ·obtain ⟨o,es,ep,ho,r⟩:=hm
  exact ⟨o,es,ep,k _ o (fun z=>(hch _ z).2.1 rfl) ho,r⟩
 ·by_cases hb:b = T
  ·subst hb
   rw [i4] at e
   cases e
   exact ⟨hz,its,rv,ht⟩
  ·rw [i6 hb] at e
   refine (I.hok b u e).jA (fun c v hc q=>k c v ?_ q) (fun c q=>by rw [i6 (u5 q hn)]; exact q) fun c ys q=>by rw [i6 (u5 q hn)]; exact q
   rcases hc with z | z
   ·rw [z]; exact nch b u e
   ·exact nch c _ z
theorem Inv.rF {ch:List Addr} {t':Nat} (I:Inv X pins σ H s) (hch:∀ b ∈ ch,S1 X pins H b) (k:∀ b o,b ∉ ch -> s.heap.get? b = some o -> h'.get? b = some o):Inv X pins σ H { s with heap:=h',toks:=t' }:=by
 have nch:∀ b u,H b = some u -> b ∉ ch:=fun b u e z=>by rw [(hch b z).1] at e; cases e
 refine I.step (g':=s.gens) (d':=s.drawn) (ch:=ch) (fun b hb=>⟨(hch b hb).2.2.2.1,(hch b hb).2.1,(hch b hb).2.2.2.2.1,(hch b hb).2.2.2.2.2⟩) (fun b o _ _ hc e _=>k b o hc e) (fun b o _ _ hc e _=>⟨o.slots,k b o hc e⟩)
  (fun b o hc e n=>n) (fun b o hc e=>⟨o,k b o hc e⟩) (fun _ _ e=>e) (fun _ _ _ e=>e) (fun b ps e=>⟨#[],by rw [e]; simp⟩) (fun m hm=>?_) (fun b u e=>?_) I.bare
 ·obtain ⟨o,es,ep,ho,r⟩:=hm
  exact ⟨o,es,ep,k _ o (fun z=>(hch _ z).2.1 rfl) ho,r⟩
 ·refine (I.hok b u e).jA (fun c v hc q=>k c v ?_ q) (fun _ q=>q) fun _ _ q=>q
  rcases hc with z | z
  ·rw [z]; exact nch b u e
  ·exact nch c _ z
end
end L2
namespace L2
open PySem PySem.Spec PyProof.Rows
section
variable {prog:Program} {w:World} {A:Around} {E:Value -> Shared -> Prop} {s:Shared}
theorem dP {it l:Addr} {i:Nat} {items:Array Value} {x:Value} {Q:Value -> Shared -> Prop} (hit:s.heap.IsTupleIter it l i) (hl:s.heap.IsTuple l items) (hx:items[i]? = some x)
  (hQ:∀ h',h'.IsTupleIter it l (i + 1) -> Heap.SameBut it s.heap h' -> Q x { s with heap:=h' }):wpAny (model prog w) A (Builtin.SmallTypes.nextOf (.ref it)) Q E s:=by
 obtain ⟨o,ho,hc,hd⟩:=id hit
 obtain ⟨ol,hol,_,nl,hdl⟩:=hl
 unfold Builtin.SmallTypes.nextOf
 refine wpAny_bind (wpAny_callSpecial?_slot (name:=Str.ofString "__next__") hit.typeIs F.slot_tuple_iterator_next (wpAny_call_entry F.slot_tuple_iterator_next hit.typeIs F.entry_tuple_iterator_next ?_ (F.args_tuple_iterator_next_1 _)))
 show wpAny _ _ (field (.ref it) 0 >>= _) _ _ s
 refine wpAny_bind (wpAny_field ho hd (x:=.ref l) rfl ?_)
 show wpAny _ _ (if (Value.ref l == Value.none) = true then _ else _) _ _ s
 rw [if_neg (show ¬ ((Value.ref l == Value.none) = true) from Bool.false_ne_true)]
 show wpAny _ _ (field (.ref it) 1 >>= _) _ _ s
 refine wpAny_bind (wpAny_field ho hd (x:=.int i 0) rfl ?_)
 show wpAny _ _ (seqItems? (.ref l) >>= _) _ _ s
 refine wpAny_bind (wpAny_seqItems hol hdl ?_)
 simp only [Int.toNat_natCast,hx]
 refine wpAny_bind (wpAny_setField ho hd (by simp) (wpAny_pure ⟨x,rfl,wpAny_pure (hQ _ ?_ (Heap.SameBut.update ..))⟩))
 exact ⟨_,Heap.get?_update_self _ ho (Obj.isFreed_of_fields (Obj.data_mapFields hd _)),(Obj.cls_mapFields ..).trans hc,by rw [Obj.data_mapFields hd]; simp [rawInt]⟩
theorem Y1 {it l:Addr} {i:Nat} {items:Array Value} {Q:Value -> Shared -> Prop} (hh:A.handled = none) (hit:s.heap.IsTupleIter it l i) (hl:s.heap.IsTuple l items) (hx:items[i]? = none)
  (hE:∀ h' e,Heap.ExtBut it s.heap h' -> (∃ o,h'.get? e = some o /\ o.cls = .type "StopIteration") -> E (.ref e) { s with heap:=h' }):wpAny (model prog w) A (Builtin.SmallTypes.nextOf (.ref it)) Q E s:=by
 obtain ⟨o,ho,hc,hd⟩:=id hit
 obtain ⟨ol,hol,_,nl,hdl⟩:=hl
 unfold Builtin.SmallTypes.nextOf
 refine wpAny_bind (wpAny_callSpecial?_slot (name:=Str.ofString "__next__") hit.typeIs F.slot_tuple_iterator_next (wpAny_call_entry F.slot_tuple_iterator_next hit.typeIs F.entry_tuple_iterator_next ?_ (F.args_tuple_iterator_next_1 _)))
 show wpAny _ _ (field (.ref it) 0 >>= _) _ _ s
 refine wpAny_bind (wpAny_field ho hd (x:=.ref l) rfl ?_)
 show wpAny _ _ (if (Value.ref l == Value.none) = true then _ else _) _ _ s
 rw [if_neg (show ¬ ((Value.ref l == Value.none) = true) from Bool.false_ne_true)]
 show wpAny _ _ (field (.ref it) 1 >>= _) _ _ s
 refine wpAny_bind (wpAny_field ho hd (x:=.int i 0) rfl ?_)
 show wpAny _ _ (seqItems? (.ref l) >>= _) _ _ s
 refine wpAny_bind (wpAny_seqItems hol hdl ?_)
 simp only [Int.toNat_natCast,hx]
 refine wpAny_bind (wpAny_rule (wpAny_bind (wpAny_setField ho hd (by simp) ?_)))
 show wpAny _ _ (newExc (.type "StopIteration") [] >>= _) _ _ _
 refine wpAny_bind ?_
 simp only [newExc,newTuple]
 refine wpAny_bind (wpAny_newObj_type ?_ (by size_fits))
 refine wpAny_bind (m:=firstArgMember _ _) (wpAny_of_eq (a:=Value.none) (by first | rfl | (simp only [firstArgMember]; rfl)) ?_)
 refine wpAny_newObj_type ?_ (by size_fits)
 simp only [raiseNew]
 refine wpAny_bind (wpAny_handled ?_)
 first | rw [show A.in1.handled = none from hh] | rw [hh]
 refine wpAny_bind (wpAny_pure (wpAny_throw ?_))
 exact hE _ _ (((Heap.SameBut.update ..).extBut.push _).push _) ⟨_,Heap.get?_push_size _ rfl,rfl⟩
end
def uE (b:Bool) (K:PySem.W.Frag) (H:Hp) (a:Addr) (xs:List V):Prop:=match b with
 | true=>O8 K H a xs
 | false=>S3 K H a xs
def dr (b:Bool) (h:Heap) (it l:Addr) (i:Nat):Prop:=match b with
 | true=>h.IsTupleIter it l i
 | false=>h.IsListIter it l i
def je (b:Bool) (h:Heap) (l:Addr) (items:Array Value):Prop:=match b with
 | true=>h.IsTuple l items
 | false=>h.IsList l items
theorem dr.at {b:Bool} {h h':Heap} {it l:Addr} {i:Nat} (x:dr b h it l i) (k:∀ o,h.get? it = some o -> h'.get? it = some o):dr b h' it l i:=by
 cases b with
 | true=>obtain ⟨o,ho,r⟩:=x; exact ⟨o,k o ho,r⟩
 | false=>obtain ⟨o,ho,r⟩:=x; exact ⟨o,k o ho,r⟩
theorem dr.obj {b:Bool} {h:Heap} {it l:Addr} {i:Nat} (x:dr b h it l i):∃ o,h.get? it = some o /\ ∀ v,o.data ≠ .cell v:=by
 cases b with
 | true=>obtain ⟨o,ho,c,d⟩:=x; exact ⟨o,ho,fun v z=>by rw [d] at z; cases z⟩
 | false=>obtain ⟨o,ho,c,d⟩:=x; exact ⟨o,ho,fun v z=>by rw [d] at z; cases z⟩
theorem je.at {b:Bool} {h h':Heap} {l:Addr} {items:Array Value} (x:je b h l items) (k:∀ o,h.get? l = some o -> h'.get? l = some o):je b h' l items:=by
 cases b with
 | true=>obtain ⟨o,ho,r⟩:=x; exact ⟨o,k o ho,r⟩
 | false=>obtain ⟨o,ho,r⟩:=x; exact ⟨o,k o ho,r⟩
theorem je.lt {b:Bool} {h:Heap} {l:Addr} {items:Array Value} (x:je b h l items):l < h.objs.size:=by
 cases b with
 | true=>obtain ⟨o,ho,r⟩:=x; exact Heap.lt_size ho
 | false=>obtain ⟨o,ho,r⟩:=x; exact Heap.lt_size ho
theorem Inv.V4 {X:Cx} {pins:List (Addr × Obj)} {σ:St} {H:Hp} {s:Shared} {b:Bool} {a:Addr} {xs:List V} (I:Inv X pins σ H s) (h:uE b X.K H a xs):∃ its:List Value,Vals xs its /\ je b s.heap a its.toArray /\ xs.length <= sizeLine:=by
 cases b with
 | true=>obtain ⟨its,r,p,z⟩:=I.tuple h; exact ⟨its,r,p,z⟩
 | false=>obtain ⟨its,r,p,z⟩:=I.list h; exact ⟨its,r,p.isList,z⟩
theorem Inv.lE {X:Cx} {pins:List (Addr × Obj)} {σ:St} {H:Hp} {s:Shared} {b:Bool} {a:Addr} {xs ys:List V} (I:Inv X pins σ H s) (h:uE b X.K H a xs) (h':uE b X.K H a ys):xs = ys:=by
 cases b with
 | true=>exact I.cI h h'
 | false=>exact I.nu h h'
theorem cH (b:Bool) {prog:Program} {w:World} {A:Around} (hh:A.handled = none) (it l:Addr) (hne:l ≠ it) (items:Array Value) :
  Draws prog w A it [it,l] items.size (fun i v=>items[i]? = some v) (fun i h=>dr b h it l i /\ je b h l items):=by
 cases b with
 | false=>exact Draws.list hh it l hne items
 | true=>exact {
   live:=fun _ _ st=>let ⟨o,ho,_⟩:=st.1.obj; ⟨o,ho⟩
   frame:=fun _ _ _ st hk=>⟨st.1.at fun o e=>hk it (by simp) o e,st.2.at fun o e=>hk l (by simp) o e⟩
   item:=fun i s Q E hi st hQ=>by
    refine dP st.1 st.2 (x:=items[i]) (by simp [hi]) fun h' hit' hs'=>?_
    exact hQ _ h' s.toks (by simp [hi]) ⟨hit',st.2.at fun o e=>hs'.extBut _ o hne e⟩ hs'
   done:=fun s Q E st hE=>Y1 hh st.1 st.2 (by simp) hE }
section
variable {prog:Program} {w:World} {A:Around} {E:Value -> Shared -> Prop} {s:Shared} {z TI TO i1 i2 l1 l2:Addr} {b1 b2:Bool} {k:Nat} {xs ys:Array Value} {x y a b:Value}
theorem sO {Q:Value -> Shared -> Prop} (hh:A.handled = none) (D:ZipApart z TI TO i1 i2 l1 l2)
  (hz:IsZip s.heap z TI TO .none) (hTI:IsPair s.heap TI (.ref i1) (.ref i2)) (hTO:IsPair s.heap TO a b)
  (h1:dr b1 s.heap i1 l1 k) (h2:dr b2 s.heap i2 l2 k) (hl1:je b1 s.heap l1 xs) (hl2:je b2 s.heap l2 ys) (hx:xs[k]? = some x) (hy:ys[k]? = some y)
  (hQ:∀ h' tk,IsZip h' z TI TO (rawInt s.heap.objs.size) -> IsPair h' TO x y -> dr b1 h' i1 l1 (k + 1) -> dr b2 h' i2 l2 (k + 1) -> IsPair h' s.heap.objs.size x y -> h'.objs.size = s.heap.objs.size + 1 ->
   (∀ c o,c ≠ z -> c ≠ TO -> c ≠ i1 -> c ≠ i2 -> s.heap.get? c = some o -> h'.get? c = some o) -> Q (.ref s.heap.objs.size) { s with heap:=h',toks:=tk }) :
  wpAny (model prog w) A (Builtin.«zip.__next__» ⟨[.ref z],[]⟩) (fun fin s'=>∃ v,fin = .done (.ret v) /\ Q v s') E s:=by
 have kx:k < xs.size:=(Array.getElem?_eq_some_iff.mp hx).1
 have ky:k < ys.size:=(Array.getElem?_eq_some_iff.mp hy).1
 show wpAny _ _ (field (.ref z) 2 >>= _) _ _ _
 refine wpAny_bind (wpAny_field hz rfl (x:=.bool false) rfl ?_)
 show wpAny _ _ (field (.ref z) 3 >>= _) _ _ _
 refine wpAny_bind (wpAny_field hz rfl (x:=.ref TI) rfl ?_)
 refine wpAny_bind (wpAny_seqItems hTI rfl ?_)
 show wpAny _ _ (Builtin.SmallTypes.ownedTupleIsFree (.ref z) >>= _) _ _ _
 refine wpAny_bind ?_
 unfold Builtin.SmallTypes.ownedTupleIsFree
 refine wpAny_bind (wpAny_field hz rfl (x:=.none) rfl (wpAny_pure ?_))
 simp only [if_true]
 refine wpAny_bind (wpAny_rule ?_)
 refine wpAny_bind (wpAny_field hz rfl (x:=.ref TO) rfl ?_)
 refine wpAny_bind (wpAny_setField_rec hz (by simp) fun g1 hz1 hs1=>?_)
 replace hz1:IsZip g1 z TI TO .ellipsis:=hz1
 refine wpAny_bind ?_
 simp only [List.zipIdx_cons,List.zipIdx_nil,List.forIn_cons,List.forIn_nil]
 refine wpAny_bind (wpAny_bind (wpAny_onRaise ?_))
 show wpAny _ _ (Builtin.SmallTypes.nextOf (.ref i1) >>= _) _ _ _
 refine wpAny_bind ((cH b1 hh i1 l1 D.l1i1 xs).item k _ _ _ kx ⟨h1.at fun o e=>hs1.extBut _ o D.i1z e,hl1.at fun o e=>hs1.extBut _ o D.l1z e⟩ fun x' g2 tk2 hx2 st2 hs2=>wpAny_pure ?_)
 have ex:x' = x:=by rw [hx] at hx2; exact (Option.some.inj hx2).symm
 subst ex
 replace hs2:Heap.SameBut i1 g1 g2:=hs2
 have hTO2:IsPair g2 TO a b:=hs2.extBut _ _ D.TOi1 (hs1.extBut _ _ D.TOz hTO)
 refine wpAny_bind (wpAny_seqItems hTO2 rfl ?_)
 refine wpAny_bind (wpAny_updateSeq_pair hTO2 fun g3 hTO3 hs3=>?_)
 replace hTO3:IsPair g3 TO x' b:=hTO3
 replace hs3:Heap.SameBut TO g2 g3:=hs3
 refine wpAny_bind (wpAny_letGo (wpAny_pure ?_))
 refine wpAny_bind (wpAny_bind (wpAny_onRaise ?_))
 show wpAny _ _ (Builtin.SmallTypes.nextOf (.ref i2) >>= _) _ _ _
 refine wpAny_bind ((cH b2 hh i2 l2 D.l2i2 ys).item k _ _ _ ky ⟨h2.at fun o e=>hs3.extBut _ o D.TOi2.symm (hs2.extBut _ o D.i12.symm (hs1.extBut _ o D.i2z e)),hl2.at fun o e=>hs3.extBut _ o D.l2TO (hs2.extBut _ o D.l2i1 (hs1.extBut _ o D.l2z e))⟩ fun y' g4 tk4 hy4 st4 hs4=>wpAny_pure ?_)
 have ey:y' = y:=by rw [hy] at hy4; exact (Option.some.inj hy4).symm
 subst ey
 replace hs4:Heap.SameBut i2 g3 g4:=hs4
 have hTO4:IsPair g4 TO x' b:=hs4.extBut _ _ D.TOi2 hTO3
 refine wpAny_bind (wpAny_seqItems hTO4 rfl ?_)
 refine wpAny_bind (wpAny_updateSeq_pair hTO4 fun g5 hTO5 hs5=>?_)
 replace hTO5:IsPair g5 TO x' y':=hTO5
 replace hs5:Heap.SameBut TO g4 g5:=hs5
 refine wpAny_bind (wpAny_letGo (wpAny_pure (wpAny_pure ?_)))
 refine wpAny_bind (wpAny_seqItems hTO5 rfl ?_)
 refine wpAny_bind (wpAny_newTuple ?_)
 have hsz:g5.objs.size = s.heap.objs.size:=by rw [hs5.1,hs4.1,hs3.1,hs2.1,hs1.1]
 have hz5:IsZip g5 z TI TO .ellipsis:=hs5.extBut _ _ D.TOz.symm (hs4.extBut _ _ D.i2z.symm (hs3.extBut _ _ D.TOz.symm (hs2.extBut _ _ D.i1z.symm hz1)))
 have hk5:∀ c o,c ≠ z -> c ≠ TO -> c ≠ i1 -> c ≠ i2 -> s.heap.get? c = some o -> g5.get? c = some o:=fun c o c1 c2 c3 c4 e=>
  hs5.extBut _ _ c2 (hs4.extBut _ _ c4 (hs3.extBut _ _ c2 (hs2.extBut _ _ c3 (hs1.extBut _ _ c1 e))))
 have h15:dr b1 g5 i1 l1 (k + 1):=st2.1.at fun o e=>hs5.extBut _ o D.TOi1.symm (hs4.extBut _ o D.i12 (hs3.extBut _ o D.TOi1.symm e))
 have h25:dr b2 g5 i2 l2 (k + 1):=st4.1.at fun o e=>hs5.extBut _ o D.TOi2.symm e
 have hzlt:z < g5.objs.size:=Heap.lt_size hz5
 show wpAny _ _ (Builtin.SmallTypes.ownedTupleHandOut (.ref z) (.ref g5.objs.size) >>= _) _ _ _
 refine wpAny_bind ?_
 unfold Builtin.SmallTypes.ownedTupleHandOut
 have hz6:IsZip (g5.push { cls:=.type "tuple",data:=.seq #[x',y'] }) z TI TO .ellipsis:=Heap.get?_push_of_some _ hz5
 refine wpAny_bind (wpAny_setField_rec hz6 (by simp) fun g7 hz7 hs7=>?_)
 replace hz7:IsZip g7 z TI TO (rawInt g5.objs.size):=hz7
 refine wpAny_setField_rec hz7 (by simp) fun g8 hz8 hs8=>?_
 replace hz8:IsZip g8 z TI TO (rawInt g5.objs.size):=hz8
 replace hs7:Heap.SameBut z (g5.push { cls:=.type "tuple",data:=.seq #[x',y'] }) g7:=hs7
 replace hs8:Heap.SameBut z g7 g8:=hs8
 have up:∀ c o,c ≠ z -> g5.get? c = some o -> g8.get? c = some o:=fun c o c1 e=>hs8.extBut _ _ c1 (hs7.extBut _ _ c1 (Heap.get?_push_of_some _ e))
 have hT8:IsPair g8 g5.objs.size x' y':=hs8.extBut _ _ (Nat.ne_of_gt hzlt) (hs7.extBut _ _ (Nat.ne_of_gt hzlt) (Heap.get?_push_size _ rfl))
 have hz8':g8.objs.size = g5.objs.size + 1:=by rw [hs8.1,hs7.1,Heap.size_push]
 rw [hsz] at hz8 hT8 hz8'
 refine wpAny_pure ⟨_,rfl,?_⟩
 show Q (.ref g5.objs.size) _
 rw [hsz]
 exact hQ g8 tk4 hz8 (up _ _ D.TOz hTO5) (h15.at fun o e=>up _ o D.i1z e) (h25.at fun o e=>up _ o D.i2z e) hT8 hz8' fun c o c1 c2 c3 c4 e=>up c o c1 (hk5 c o c1 c2 c3 c4 e)
theorem xU {Q:Fin -> Shared -> Prop} (hh:A.handled = none) (D:ZipApart z TI TO i1 i2 l1 l2)
  (hz:IsZip s.heap z TI TO .none) (hTI:IsPair s.heap TI (.ref i1) (.ref i2)) (hTO:IsPair s.heap TO a b)
  (h1:dr b1 s.heap i1 l1 k) (h2:dr b2 s.heap i2 l2 k) (hl1:je b1 s.heap l1 xs) (hl2:je b2 s.heap l2 ys) (hend:k = xs.size \/ (k < xs.size /\ k = ys.size))
  (hE:∀ h' tk e,(∀ c o,c ≠ z -> c ≠ TO -> c ≠ i1 -> c ≠ i2 -> s.heap.get? c = some o -> h'.get? c = some o) -> (∃ o,h'.get? e = some o /\ o.cls = .type "StopIteration") -> E (.ref e) { s with heap:=h',toks:=tk }) :
  wpAny (model prog w) A (Builtin.«zip.__next__» ⟨[.ref z],[]⟩) Q E s:=by
 show wpAny _ _ (field (.ref z) 2 >>= _) _ _ _
 refine wpAny_bind (wpAny_field hz rfl (x:=.bool false) rfl ?_)
 show wpAny _ _ (field (.ref z) 3 >>= _) _ _ _
 refine wpAny_bind (wpAny_field hz rfl (x:=.ref TI) rfl ?_)
 refine wpAny_bind (wpAny_seqItems hTI rfl ?_)
 show wpAny _ _ (Builtin.SmallTypes.ownedTupleIsFree (.ref z) >>= _) _ _ _
 refine wpAny_bind ?_
 unfold Builtin.SmallTypes.ownedTupleIsFree
 refine wpAny_bind (wpAny_field hz rfl (x:=.none) rfl (wpAny_pure ?_))
 simp only [if_true]
 refine wpAny_bind (wpAny_rule ?_)
 refine wpAny_bind (wpAny_field hz rfl (x:=.ref TO) rfl ?_)
 refine wpAny_bind (wpAny_setField_rec hz (by simp) fun g1 hz1 hs1=>?_)
 replace hz1:IsZip g1 z TI TO .ellipsis:=hz1
 refine wpAny_bind ?_
 simp only [List.zipIdx_cons,List.zipIdx_nil,List.forIn_cons,List.forIn_nil]
 refine wpAny_bind (wpAny_bind (wpAny_onRaise ?_))
 show wpAny _ _ (Builtin.SmallTypes.nextOf (.ref i1) >>= _) _ _ _
 rcases hend with hk | ⟨kx,hk⟩
 ·subst hk
  refine wpAny_bind ((cH b1 hh i1 l1 D.l1i1 xs).done _ _ _ ⟨h1.at fun o e=>hs1.extBut _ o D.i1z e,hl1.at fun o e=>hs1.extBut _ o D.l1z e⟩ fun g2 e hs2 he=>?_)
  obtain ⟨oe,hoe,hce⟩:=he
  have hz2:IsZip g2 z TI TO .ellipsis:=hs2 _ _ D.i1z.symm hz1
  have hez:e ≠ z:=fun q=>by subst q; rw [hz2] at hoe; cases hoe; simp at hce
  exact wpAny_setField_rec hz2 (by simp) fun g3 _ hs3=>hE g3 _ e (fun c o c1 _ c3 _ q=>hs3.extBut _ _ c1 (hs2 _ _ c3 (hs1.extBut _ _ c1 q))) ⟨oe,hs3.extBut _ _ hez hoe,hce⟩
 ·subst hk
  refine wpAny_bind ((cH b1 hh i1 l1 D.l1i1 xs).item _ _ _ _ kx ⟨h1.at fun o e=>hs1.extBut _ o D.i1z e,hl1.at fun o e=>hs1.extBut _ o D.l1z e⟩ fun x' g2 tk2 hx2 st2 hs2=>wpAny_pure ?_)
  replace hs2:Heap.SameBut i1 g1 g2:=hs2
  have hTO2:IsPair g2 TO a b:=hs2.extBut _ _ D.TOi1 (hs1.extBut _ _ D.TOz hTO)
  refine wpAny_bind (wpAny_seqItems hTO2 rfl ?_)
  refine wpAny_bind (wpAny_updateSeq_pair hTO2 fun g3 hTO3 hs3=>?_)
  replace hs3:Heap.SameBut TO g2 g3:=hs3
  refine wpAny_bind (wpAny_letGo (wpAny_pure ?_))
  refine wpAny_bind (wpAny_bind (wpAny_onRaise ?_))
  show wpAny _ _ (Builtin.SmallTypes.nextOf (.ref i2) >>= _) _ _ _
  refine wpAny_bind ((cH b2 hh i2 l2 D.l2i2 ys).done _ _ _ ⟨h2.at fun o e=>hs3.extBut _ o D.TOi2.symm (hs2.extBut _ o D.i12.symm (hs1.extBut _ o D.i2z e)),hl2.at fun o e=>hs3.extBut _ o D.l2TO (hs2.extBut _ o D.l2i1 (hs1.extBut _ o D.l2z e))⟩ fun g4 e hs4 he=>?_)
  replace hs4:Heap.ExtBut i2 g3 g4:=hs4
  obtain ⟨oe,hoe,hce⟩:=he
  have hz4:IsZip g4 z TI TO .ellipsis:=hs4 _ _ D.i2z.symm (hs3.extBut _ _ D.TOz.symm (hs2.extBut _ _ D.i1z.symm hz1))
  have hez:e ≠ z:=fun q=>by subst q; rw [hz4] at hoe; cases hoe; simp at hce
  exact wpAny_setField_rec hz4 (by simp) fun g5 _ hs5=>hE g5 _ e (fun c o c1 c2 c3 c4 q=>hs5.extBut _ _ c1 (hs4 _ _ c4 (hs3.extBut _ _ c2 (hs2.extBut _ _ c3 (hs1.extBut _ _ c1 q))))) ⟨oe,hs5.extBut _ _ hez hoe,hce⟩
theorem cz {Q:Option Value -> Shared -> Prop} (hh:A.handled = none) (D:ZipApart z TI TO i1 i2 l1 l2)
  (hz:IsZip s.heap z TI TO .none) (hTI:IsPair s.heap TI (.ref i1) (.ref i2)) (hTO:IsPair s.heap TO a b)
  (h1:dr b1 s.heap i1 l1 k) (h2:dr b2 s.heap i2 l2 k) (hl1:je b1 s.heap l1 xs) (hl2:je b2 s.heap l2 ys) (hx:xs[k]? = some x) (hy:ys[k]? = some y)
  (hQ:∀ h' tk,IsZip h' z TI TO (rawInt s.heap.objs.size) -> IsPair h' TO x y -> dr b1 h' i1 l1 (k + 1) -> dr b2 h' i2 l2 (k + 1) -> IsPair h' s.heap.objs.size x y -> h'.objs.size = s.heap.objs.size + 1 ->
   (∀ c o,c ≠ z -> c ≠ TO -> c ≠ i1 -> c ≠ i2 -> s.heap.get? c = some o -> h'.get? c = some o) -> Q (some (.ref s.heap.objs.size)) { s with heap:=h',toks:=tk }) :
  wpAny (model prog w) A (pyNext (.ref z)) Q E s:=by
 have hT:s.TypeIs (.ref z) "zip" := ⟨_,hz,rfl⟩
 unfold pyNext
 exact wpAny_bind (wpAny_attempt (wpAny_callSpecial?_slot (name:=Str.ofString "__next__") hT F.slot_zip_next (wpAny_call_entry F.slot_zip_next hT F.entry_zip_next
   (sO hh D hz hTI hTO h1 h2 hl1 hl2 hx hy fun h' tk a1 a2 a3 a4 a5 a6 a7=>wpAny_pure (hQ h' tk a1 a2 a3 a4 a5 a6 a7)) (F.args_zip_next_1 _))))
theorem dS {Q:Option Value -> Shared -> Prop} (hh:A.handled = none) (D:ZipApart z TI TO i1 i2 l1 l2)
  (hz:IsZip s.heap z TI TO .none) (hTI:IsPair s.heap TI (.ref i1) (.ref i2)) (hTO:IsPair s.heap TO a b)
  (h1:dr b1 s.heap i1 l1 k) (h2:dr b2 s.heap i2 l2 k) (hl1:je b1 s.heap l1 xs) (hl2:je b2 s.heap l2 ys) (hend:k = xs.size \/ (k < xs.size /\ k = ys.size))
  (hQ:∀ h' tk,(∀ c o,c ≠ z -> c ≠ TO -> c ≠ i1 -> c ≠ i2 -> s.heap.get? c = some o -> h'.get? c = some o) -> Q none { s with heap:=h',toks:=tk }):wpAny (model prog w) A (pyNext (.ref z)) Q E s:=by
 have hT:s.TypeIs (.ref z) "zip" := ⟨_,hz,rfl⟩
 unfold pyNext
 refine wpAny_bind (wpAny_attempt (wpAny_callSpecial?_slot (name:=Str.ofString "__next__") hT F.slot_zip_next (wpAny_call_entry F.slot_zip_next hT F.entry_zip_next
  (xU hh D hz hTI hTO h1 h2 hl1 hl2 hend fun h' tk e hk he=>?_) (F.args_zip_next_1 _))))
 obtain ⟨o,ho,hc⟩:=he
 refine wpAny_bind (wpAny_isInstance (T := "StopIteration") (b:=true) ⟨o,ho,hc⟩ isSubtype_stop ?_)
 exact wpAny_pure (hQ _ _ hk)
noncomputable def Gq (b:Bool):String:=if b then "tuple_iterator" else "list_iterator"
noncomputable abbrev DZ (b1:Bool) (h:Heap) (l1:Addr):Heap:=h.push { cls:=.type (Gq b1),data:=.fields #[.ref l1,.int 0 0] }
noncomputable abbrev GD (b1 b2:Bool) (h:Heap) (l1 l2:Addr):Heap:=(DZ b1 h l1).push { cls:=.type (Gq b2),data:=.fields #[.ref l2,.int 0 0] }
noncomputable abbrev Gy (b1 b2:Bool) (h:Heap) (l1 l2:Addr):Heap:=(GD b1 b2 h l1 l2).push { cls:=.type "tuple",data:=.seq #[.ref h.objs.size,.ref (DZ b1 h l1).objs.size] }
noncomputable abbrev GA (b1 b2:Bool) (h:Heap) (l1 l2:Addr):Heap:=(Gy b1 b2 h l1 l2).push { cls:=.type "tuple",data:=.seq #[.none,.none] }
noncomputable abbrev zy (b1 b2:Bool) (h:Heap) (l1 l2:Addr):Heap:=(GA b1 b2 h l1 l2).push { cls:=.type "zip",data:=.fields #[.none,.bool false,.bool false,.ref (GD b1 b2 h l1 l2).objs.size,.ref (Gy b1 b2 h l1 l2).objs.size] }
theorem xE (b1 b2:Bool) (l1 l2:Addr) (xs ys:Array Value) :
  Meets (Builtin.«zip.__new__» ⟨[.type "zip",.ref l1,.ref l2],[]⟩) (fun _ R s=>je b1 s.heap l1 xs /\ je b2 s.heap l2 ys /\
   R (.ok (.ret (.ref (GA b1 b2 s.heap l1 l2).objs.size))) { s with heap:=zy b1 b2 s.heap l1 l2 }):=
 .of_wp fun prog w A R s h=>by
  obtain ⟨hp,g,d,tk,os⟩:=s
  obtain ⟨hl1,hl2,h⟩:=h
  have hsub:=sub_zip
  have hl2':je b2 (DZ b1 hp l1) l2 ys:=hl2.at fun o e=>Heap.get?_push_of_some _ e
  cases b1 <;> cases b2
  ·have hL1:Heap.IsList (Shared.heap ⟨hp,g,d,tk,os⟩) l1 xs:=hl1
   have hL2:Heap.IsList (Shared.heap ⟨hp.push { cls:=.type "list_iterator",data:=.fields #[.ref l1,.int 0 0] },g,d,tk,os⟩) l2 ys:=hl2'
   wp_walk using wpAny_pyIter_list hL1,wpAny_pyIter_list hL2
   exact ⟨_,rfl,h⟩
  ·have hL1:Heap.IsList (Shared.heap ⟨hp,g,d,tk,os⟩) l1 xs:=hl1
   have hL2:Heap.IsTuple (Shared.heap ⟨hp.push { cls:=.type "list_iterator",data:=.fields #[.ref l1,.int 0 0] },g,d,tk,os⟩) l2 ys:=hl2'
   wp_walk using wpAny_pyIter_list hL1,wpAny_pyIter_tuple hL2
   exact ⟨_,rfl,h⟩
  ·have hL1:Heap.IsTuple (Shared.heap ⟨hp,g,d,tk,os⟩) l1 xs:=hl1
   have hL2:Heap.IsList (Shared.heap ⟨hp.push { cls:=.type "tuple_iterator",data:=.fields #[.ref l1,.int 0 0] },g,d,tk,os⟩) l2 ys:=hl2'
   wp_walk using wpAny_pyIter_tuple hL1,wpAny_pyIter_list hL2
   exact ⟨_,rfl,h⟩
  ·have hL1:Heap.IsTuple (Shared.heap ⟨hp,g,d,tk,os⟩) l1 xs:=hl1
   have hL2:Heap.IsTuple (Shared.heap ⟨hp.push { cls:=.type "tuple_iterator",data:=.fields #[.ref l1,.int 0 0] },g,d,tk,os⟩) l2 ys:=hl2'
   wp_walk using wpAny_pyIter_tuple hL1,wpAny_pyIter_tuple hL2
   exact ⟨_,rfl,h⟩
theorem sT {Q:Value -> Shared -> Prop} (hl1:je b1 s.heap l1 xs) (hl2:je b2 s.heap l2 ys)
  (h:∀ h',IsZip h' (s.heap.objs.size + 4) (s.heap.objs.size + 2) (s.heap.objs.size + 3) .none -> IsPair h' (s.heap.objs.size + 2) (.ref s.heap.objs.size) (.ref (s.heap.objs.size + 1)) ->
   IsPair h' (s.heap.objs.size + 3) .none .none -> dr b1 h' s.heap.objs.size l1 0 -> dr b2 h' (s.heap.objs.size + 1) l2 0 -> h'.objs.size = s.heap.objs.size + 5 ->
   (∀ c o,s.heap.get? c = some o -> h'.get? c = some o) -> Q (.ref (s.heap.objs.size + 4)) { s with heap:=h' }) :
  wpAny (model prog w) A (call (.type "zip") [.ref l1,.ref l2]) Q E s:=by
 refine callType_new F.called_zip (by decide) (F.typeCall_zip_2 _ _) (F.newCall_zip_2 _ _) (fun obj=>F.args_object_init_3 obj _ _) F.entry_zip_new (xE b1 b2 l1 l2 xs ys) ⟨hl1,hl2,?_⟩
 have z1:(DZ b1 s.heap l1).objs.size = s.heap.objs.size + 1:=Heap.size_push ..
 have z2:(GD b1 b2 s.heap l1 l2).objs.size = s.heap.objs.size + 2:=by rw [Heap.size_push,z1]
 have z3:(Gy b1 b2 s.heap l1 l2).objs.size = s.heap.objs.size + 3:=by rw [Heap.size_push,z2]
 have z4:(GA b1 b2 s.heap l1 l2).objs.size = s.heap.objs.size + 4:=by rw [Heap.size_push,z3]
 have z5:(zy b1 b2 s.heap l1 l2).objs.size = s.heap.objs.size + 5:=by rw [Heap.size_push,z4]
 have g5:(zy b1 b2 s.heap l1 l2).get? (GA b1 b2 s.heap l1 l2).objs.size = some _:=Heap.get?_push_size _ rfl
 have g4:(zy b1 b2 s.heap l1 l2).get? (Gy b1 b2 s.heap l1 l2).objs.size = some _:=Heap.get?_push_of_some _ (Heap.get?_push_size _ rfl)
 have g3:(zy b1 b2 s.heap l1 l2).get? (GD b1 b2 s.heap l1 l2).objs.size = some _:=Heap.get?_push_of_some _ (Heap.get?_push_of_some _ (Heap.get?_push_size _ rfl))
 have g2:(zy b1 b2 s.heap l1 l2).get? (DZ b1 s.heap l1).objs.size = some _:=Heap.get?_push_of_some _ (Heap.get?_push_of_some _ (Heap.get?_push_of_some _ (Heap.get?_push_size _ rfl)))
 have g1:(zy b1 b2 s.heap l1 l2).get? s.heap.objs.size = some _:=Heap.get?_push_of_some _ (Heap.get?_push_of_some _ (Heap.get?_push_of_some _ (Heap.get?_push_of_some _ (Heap.get?_push_size _ rfl))))
 have i1':dr b1 (zy b1 b2 s.heap l1 l2) s.heap.objs.size l1 0:=by
  cases b1 <;> exact ⟨_,g1,rfl,rfl⟩
 have i2':dr b2 (zy b1 b2 s.heap l1 l2) (DZ b1 s.heap l1).objs.size l2 0:=by
  cases b2 <;> exact ⟨_,g2,rfl,rfl⟩
 show _ /\ _
 rw [z2,z3,z4] at g5
 rw [z1,z2] at g3
 rw [z3] at g4
 rw [z1] at i2'
 rw [z4]
 exact ⟨⟨_,g5,rfl⟩,h _ g5 g3 g4 i1' i2' z5 fun c o q=>
  Heap.get?_push_of_some _ (Heap.get?_push_of_some _ (Heap.get?_push_of_some _ (Heap.get?_push_of_some _ (Heap.get?_push_of_some _ q))))⟩
end
noncomputable def HQ (K:PySem.W.Frag) (b1 b2:Bool) (a1 a2:Addr):It:=
  ⟨fun i H=>∃ xs ys x y,uE b1 K H a1 xs /\ uE b2 K H a2 ys /\ xs[i]? = some x /\ ys[i]? = some y,
   fun i H v H'=>∃ p x y,v = .ref p /\ H p = none /\ H' = upd H p (.tup [x,y]) /\ (∀ xs,uE b1 K H a1 xs -> xs[i]? = some x) /\ ∀ ys,uE b2 K H a2 ys -> ys[i]? = some y,
   fun i H=>∃ xs ys,uE b1 K H a1 xs /\ uE b2 K H a2 ys /\ i = min xs.length ys.length⟩
theorem wG {P:Program} {w:World} {K:PySem.W.Frag} {elts:List Expr} {x1:Nat} {tp:Pos} (b1 b2:Bool) (a1 a2 z TI TO i1 i2:Addr) (D:ZipApart z TI TO i1 i2 a1 a2) :
  Turn P w K (.Tuple elts x1 tp) (HQ K b1 b2 a1 a2) [z,TI,TO,i1,i2] z (fun i h=>IsZip h z TI TO .none /\ IsPair h TI (.ref i1) (.ref i2) /\ (∃ a b,IsPair h TO a b) /\ dr b1 h i1 a1 i /\ dr b2 h i2 a2 i) where
 mem:=by simp
 obj:=fun i h st c hc=>by
  obtain ⟨hz,hTI,⟨a,b,hTO⟩,h1,h2⟩:=st
  simp only [List.mem_cons,List.not_mem_nil,or_false] at hc
  rcases hc with rfl | rfl | rfl | rfl | rfl
  ·exact ⟨_,hz,fun v q=>by
    have q':Data.fields _ = Data.cell v:=q
    cases q'⟩
  ·exact ⟨_,hTI,fun v q=>by
    have q':Data.seq _ _ = Data.cell v:=q
    cases q'⟩
  ·exact ⟨_,hTO,fun v q=>by
    have q':Data.seq _ _ = Data.cell v:=q
    cases q'⟩
  ·exact h1.obj
  ·exact h2.obj
 keep:=fun i h h' st k=>by
  obtain ⟨hz,hTI,⟨a,b,hTO⟩,h1,h2⟩:=st
  exact ⟨k z (by simp) _ hz,k TI (by simp) _ hTI,⟨a,b,k TO (by simp) _ hTO⟩,h1.at fun o e=>k i1 (by simp) o e,h2.at fun o e=>k i2 (by simp) o e⟩
 item:=by
  intro X hP hw hK hc i pins s σ H E I hf st hg
  subst hP hw hK
  obtain ⟨hz,hTI,⟨a,b,hTO⟩,h1,h2⟩:=st
  obtain ⟨xs,ys,x,y,q1,q2,hx,hy⟩:=hg
  obtain ⟨its1,r1,p1,_⟩:=I.V4 q1
  obtain ⟨its2,r2,p2,_⟩:=I.V4 q2
  obtain ⟨u,hu,ru⟩:=r1.get hx
  obtain ⟨v,hv,rv⟩:=r2.get hy
  refine cz (I.ok.hd hc) D hz hTI hTO h1 h2 p1 p2 (x:=u) (y:=v) (by simpa using hu) (by simpa using hv) fun h' tk hz' hTO' h1' h2' hT hsz hk=>?_
  refine ⟨_,rfl,wpAny_letOwnedTupleGo_zip hz' fun g hzg hsg=>?_⟩
  replace hsg:Heap.SameBut z h' g:=hsg
  have hzlt:z < s.heap.objs.size:=Heap.lt_size hz
  have ht2:IsTup g s.heap.objs.size [u,v].toArray:=⟨_,(hsg.2 _ (Nat.ne_of_gt hzlt)).trans hT,rfl,_,rfl⟩
  have I2:Inv X pins σ (upd H s.heap.objs.size (.tup [x,y])) { s with heap:=g,toks:=tk }:=by
   refine I.jd (ch:=[z,TI,TO,i1,i2]) hf (fun c o hc q=>?_) (Nat.le_refl _) (.cons ru (.cons rv .nil)) (by show 2 <= sizeLine; decide) ht2
   have c1:c ≠ z:=fun e=>hc (by simp [e])
   have c2:c ≠ TO:=fun e=>hc (by simp [e])
   have c3:c ≠ i1:=fun e=>hc (by simp [e])
   have c4:c ≠ i2:=fun e=>hc (by simp [e])
   exact (hsg.2 c c1).trans (hk c o c1 c2 c3 c4 q)
  refine ⟨.ref s.heap.objs.size,_,I2,rfl,⟨s.heap.objs.size,x,y,rfl,I.fresh,rfl,fun zs hy=>by rw [I.lE hy q1]; exact hx,fun zs hq=>by rw [I.lE hq q2]; exact hy⟩,
   ⟨hzg,hsg.extBut _ _ D.TIz (hk _ _ D.TIz D.TITO D.TIi1 D.TIi2 hTI),⟨_,_,hsg.extBut _ _ D.TOz hTO'⟩,h1'.at fun o e=>hsg.extBut _ o D.i1z e,h2'.at fun o e=>hsg.extBut _ o D.i2z e⟩,fun c hc=>?_⟩
  have hlt:c < s.heap.objs.size:=by
   simp only [List.mem_cons,List.not_mem_nil,or_false] at hc
   rcases hc with rfl | rfl | rfl | rfl | rfl
   ·exact hzlt
   ·exact Heap.lt_size hTI
   ·exact Heap.lt_size hTO
   ·exact Heap.lt_size h1.obj.choose_spec.1
   ·exact Heap.lt_size h2.obj.choose_spec.1
  rw [i6 (Nat.ne_of_lt hlt)]
  exact (hf c hc).1
 done:=by
  intro X hP hw hK hc i pins s σ H E I hf st hg
  subst hP hw hK
  obtain ⟨hz,hTI,⟨a,b,hTO⟩,h1,h2⟩:=st
  obtain ⟨xs,ys,q1,q2,hx⟩:=hg
  obtain ⟨its1,r1,p1,_⟩:=I.V4 q1
  obtain ⟨its2,r2,p2,_⟩:=I.V4 q2
  have l1:=r1.length
  have l2:=r2.length
  refine dS (I.ok.hd hc) D hz hTI hTO h1 h2 p1 p2 (by simp only [List.size_toArray]; omega) fun h' tk hk=>⟨rfl,I.rF (ch:=[z,TI,TO,i1,i2]) hf fun c o hc q=>?_⟩
  exact hk c o (fun e=>hc (by simp [e])) (fun e=>hc (by simp [e])) (fun e=>hc (by simp [e])) (fun e=>hc (by simp [e])) q
 self:=fun _ _ _ _ _ st h=>wpAny_pyIter_zip st.1 h
def EK (K:PySem.W.Frag) (b1 b2:Bool) (ta:TA):TI:=fun σ H R=>ta σ H fun vs H1=>∃ a1 a2,vs = [.ref a1,.ref a2] /\ (∃ xs,uE b1 K H1 a1 xs) /\ (∃ ys,uE b2 K H1 a2 ys) /\ R (HQ K b1 b2 a1 a2) H1
theorem Dh (b1 b2:Bool) {X:Cx} {elts:List Expr} {x1:Nat} {tp:Pos} {a b:Expr} {ta:TA} {p pos:Pos} (hg:Gl X "zip") (hm:X.mg "zip" = none) (ha:PA X [a,b] ta) (hs:starEach [a,b] X.env = [(false,eval a X.env),(false,eval b X.env)]:=by rfl) (hs2:starEach [b] X.env = [(false,eval b X.env)]:=by rfl) :
  PI X (.Tuple elts x1 tp) (.Call (.Name "zip" p) [a,b] [] pos) (EK X.K b1 b2 ta):=by
 refine .of ?_
 intro pins s σ H R I h
 refine Call_ (bo I hg hm boot_zip (PyProof.Rows.callWith_type1 (B6 (ha pos pins s σ H _ I h) fun us s1 ⟨vs,H1,I1,r1,q1⟩=>?_) (by rw [hs,hs2]) (by rw [hs2]; rfl)))
 obtain ⟨l1,l2,e,⟨xs,q1'⟩,⟨ys,q2'⟩,q⟩:=q1
 subst e
 obtain ⟨u1,u2,rfl,ru1,ru2⟩:=vals2 r1
 cases ru1
 cases ru2
 obtain ⟨its1,rr1,p1,_⟩:=I1.V4 q1'
 obtain ⟨its2,rr2,p2,_⟩:=I1.V4 q2'
 refine sT p1 p2 fun h' hz hTI hTO h1 h2 hsz hk=>wpAny_pyIter_zip hz ?_
 have I2:Inv X pins σ H1 { s1 with heap:=h' }:=I1.kept (t':=s1.toks) hk
 have D:ZipApart (s1.heap.objs.size + 4) (s1.heap.objs.size + 2) (s1.heap.objs.size + 3) s1.heap.objs.size (s1.heap.objs.size + 1) l1 l2:=zipApart_new p1.lt p2.lt
 refine ⟨s1.heap.objs.size + 4,[s1.heap.objs.size + 4,s1.heap.objs.size + 2,s1.heap.objs.size + 3,s1.heap.objs.size,s1.heap.objs.size + 1],_,_,H1,rfl,I2,wG b1 b2 l1 l2 _ _ _ _ _ D,⟨hz,hTI,⟨_,_,hTO⟩,h1,h2⟩,fun c hc=>?_,q⟩
 have hle:s1.heap.objs.size <= c:=by
  simp only [List.mem_cons,List.not_mem_nil,or_false] at hc
  rcases hc with q | q | q | q | q <;> rw [q] <;> first | exact Nat.le_refl _ | exact Nat.le_add_right _ _
 exact I1.js hle (I1.hok.fresh hle)
end L2
namespace L2
open PySem PySem.Spec PyProof.Rows
end L2
namespace HT
open PySem PySem.Spec PyProof.Rows
section
variable {prog:Program} {w:World} {A:Around} {E:Value -> Shared -> Prop} {s:Shared}
theorem xy {t b:Addr} {ws:List Value} {Q:Value -> Shared -> Prop} (ht:IsTup s.heap t ([]:List Value).toArray) (hb:IsTup s.heap b ws.toArray) (h:Q (.ref b) s) :
  wpAny (model prog w) A (binaryOp .Add (.ref t) (.ref b)) Q E s:=by
 obtain ⟨⟨c1,d1,x1,l1⟩,g1,e1,n1,f1⟩:=id ht
 obtain ⟨⟨c2,d2,x2,l2⟩,g2,e2,n2,f2⟩:=id hb
 simp only at e1 f1 e2 f2
 subst e1 f1 e2 f2
 exact concat_meets ⟨_,g1,rfl⟩ ⟨_,g2,rfl⟩ noFill_tuple_add seq_tuple_add PySem.F.slot_tuple_add PySem.F.entry_tuple_add (PySem.F.args_tuple_add_2 _ _) (tuple_addW0 t b _ ws.toArray n1 n2 d1 d2 l1 l2 rfl) ⟨g1,g2,h⟩
theorem pG {t sl:Addr} {items:Array Value} {vl vu:Value} {lo hi:Option Int} {Q:Value -> Shared -> Prop} (ht:IsTup s.heap t items) (hs:s.heap.IsSliceOf sl vl vu .none) (pl:IsPart vl lo) (pu:IsPart vu hi)
  (w0:D1 items.size 0 lo = 0) (w1:D1 items.size items.size hi = items.size) (h:Q (.ref t) s):wpAny (model prog w) A (getItem (.ref t) (.ref sl)) Q E s:=by
 obtain ⟨os,hos,hcs,hds⟩:=id hs
 have hTs:s.TypeIs (.ref sl) "slice" := ⟨os,hos,hcs⟩
 unfold getItem
 try with_reducible refine wpAny_holding ?_
 first | refine wpAny_bind (wpAny_pure ?_) | skip
 refine wpAny_bind (wpAny_sequenceKey ht.typeIs (by decide) ?_)
 refine wpAny_bind (wpAny_callSpecial?_slot (name:=Str.ofString "__getitem__") ht.typeIs PyProof.Rows.slot_tuple_getitem
  (wpAny_call_entry PyProof.Rows.slot_tuple_getitem ht.typeIs entry_tuple_getitem ?_ (args_tuple_getitem _ _)))
 show wpAny _ _ (Builtin.Tuple.tupleItemsOf (.ref t) >>= _) _ _ s
 refine wpAny_bind (tupleItemsOf_ ht ?_)
 refine wpAny_bind (wpAny_typeOf hTs ?_)
 rw [if_pos (by decide)]
 refine wpAny_bind (T4 hs pl pu ?_)
 have yes:(((D1 items.size 0 lo:Nat):Int) == 0 && (1:Int) == 1 && (D1 items.size items.size hi - D1 items.size 0 lo) == items.size) = true:=by
  rw [w0,w1]
  simp
 show wpAny _ _ (if (((D1 items.size 0 lo:Nat):Int) == 0 && (1:Int) == 1 && (D1 items.size items.size hi - D1 items.size 0 lo) == items.size) = true then _ else _) _ _ s
 rw [if_pos yes]
 obtain ⟨⟨c1,d1,x1,l1⟩,g1,e1,n1,f1⟩:=id ht
 simp only at e1 f1
 subst e1 f1
 wp_walk using wpAny_loadPart' g1
 exact ⟨_,rfl,wpAny_pure h⟩
end
end HT
namespace L2
open PySem PySem.Spec PyProof.Rows
section
variable {X:Cx} {pos:Pos}
def vK:R2:=fun x y H Q=>∃ a b xs ys,x = .ref a /\ y = .ref b /\ H a = some (.tup xs) /\ H b = some (.tup ys) /\ xs.length + ys.length <= sizeLine /\ ∀ r H',i7 H H' -> H' r = some (.tup (xs ++ ys)) -> Q (.ref r) H'
theorem zp:J4 X (binaryOp .Add) vK:=by
 intro pins s σ H x y v u Q I rx ry h
 obtain ⟨a,b,xs,ys,rfl,rfl,ha,hb,hz,q⟩:=h
 by_cases hx:xs = []
 ·subst hx
  cases rx
  cases ry
  obtain ⟨i1,r1,p1,_⟩:=I.tuple (O8.of ha)
  obtain ⟨i2,r2,p2,_⟩:=I.tuple (O8.of hb)
  obtain rfl:i1 = []:=r1.bQ.mpr rfl
  exact HT.xy p1 p2 ⟨.ref b,H,I,rfl,q b H (i7.refl _) hb⟩
 ·refine Ak pins s σ H _ _ v u Q I rx ry ⟨a,b,xs,ys,rfl,rfl,O8.of ha,O8.of hb,hx,hz,fun z=>q a H (i7.refl _) (by rw [z,List.append_nil]; exact ha),fun z p hp=>q p _ (i7.n9 hp) i4⟩
noncomputable def GO:V -> Option Int -> Option Int -> Hp -> VK -> Prop:=fun x lo hi H Q=>∃ a xs,x = .ref a /\ H a = some (.tup xs) /\ ∀ r H',i7 H H' -> H' r = some (.tup (dN xs lo hi)) -> Q (.ref r) H'
theorem wt:AW X GO:=by
 intro pins s σ H x v vl vu lo hi sl Q I rx hs pl pu h
 obtain ⟨a,xs,rfl,ha,q⟩:=h
 by_cases hw:HT.D1 xs.length 0 lo = 0 /\ HT.D1 xs.length xs.length hi = xs.length
 ·cases rx
  obtain ⟨its,r,ht,hz⟩:=I.tuple (O8.of ha)
  have hlen:its.toArray.size = xs.length:=by rw [List.size_toArray]; exact r.length.symm
  refine ⟨"tuple",_,PyProof.Rows.slot_tuple_getitem.lookup,ht.typeIs,?_⟩
  refine HT.pG ht hs pl pu (by rw [hlen]; exact hw.1) (by rw [hlen]; exact hw.2) ⟨.ref a,H,I,rfl,q a H (i7.refl _) ?_⟩
  rw [ha]
  unfold dN
  rw [hw.1,hw.2]
  simp
 ·exact DJ pins s σ H _ v vl vu lo hi sl Q I rx hs pl pu ⟨a,xs,rfl,O8.of ha,hw,fun p hp=>q p _ (i7.n9 hp) i4⟩
end
end L2
namespace L2
open PySem PySem.Spec PyProof.Rows
end L2
namespace L2
open PySem PySem.Spec PyProof.Rows
section
variable {X:Cx}
noncomputable def isStar:Expr -> Bool
 | .Starred _ _=>true
 | _=>false
theorem L9 {e:Expr} {es:List Expr} {env:Env} (h:isStar e = false):starEach (e :: es) env = (false,eval e env) :: starEach es env:=by
 cases e <;> first | rfl | cases h
theorem cK {e:Expr} {es:List Expr} {te:TE} {t:TA} (ha:PE X e te) (hr:PA X es t) (hs:isStar e = false):PA X (e :: es) (AV te t):=yQ ha hr (L9 hs)
end
end L2
namespace L2
open PySem PySem.Spec PyProof.Rows
noncomputable def oz (dx:Addr) (fs:List (Str × V)):HO:=.ext fun h=>∃ mA,h.Ns1 dx mA /\ (∀ f,ag (fs.lookup f) (mA f)) /\ Within mA (fs.map (·.1))
theorem wA {P:Program} {w:World} {H:Hp} {h:Heap} {dx:Addr} {fs:List (Str × V)} {mA:Str -> Option Value} (n:h.Ns1 dx mA) (r:∀ f,ag (fs.lookup f) (mA f)) (wi:Within mA (fs.map (·.1))):w8 P w H h dx (oz dx fs):=by
 refine ⟨⟨mA,n,r,wi⟩,?_,fun h1 h2 ⟨m,n1,r1,w1⟩ k=>⟨m,n1.at k,r1,w1⟩⟩
 obtain ⟨o,_,_,e,_⟩:=n
 exact ⟨o,e⟩
end L2
namespace L3
open PySem PySem.Spec L2
inductive D where
 | non | bl (b:Bool) | int (i:Int) | str (x:Str)
 | tup (xs:List D) | lst (xs:List D) | dic (kvs:List (Key × D)) | obj (C:Addr) (fs:List (Str × D)) | ty (n:String) | adr (a:Addr) | fz (xs:List D) | st (ks:List Key) | xc (e dx:Addr) (fs:List (Str × V))
mutual
noncomputable def D3:D -> Bool
 | .non=>true
 | .bl _=>true
 | .int _=>true
 | .str _=>true
 | .tup xs=>y8 xs
 | .lst _=>false
 | .dic _=>false
 | .obj _ _=>false
 | .st _=>false
 | .xc _ _ _=>false
 | .ty _=>true
 | .adr _=>true
 | .fz xs=>y8 xs
noncomputable def y8:List D -> Bool
 | []=>true
 | x :: xs=>D3 x && y8 xs
end
def BP (K:PySem.W.Frag) (H:Hp) (a:Addr) (xs:List V):Prop:=
 (∃ o,H a = some (.frz o (.lst xs))) \/
  ∃ (o:Obj) (its:Array Value) (n:Nat),K.lookup a = some o /\ o.cls = .type "list" /\ o.dict = none /\ o.data = .seq its n /\ its.size <= sizeLine /\ Vals xs its.toList
theorem BP.sq {K:PySem.W.Frag} {H:Hp} {a:Addr} {xs:List V} (h:BP K H a xs):S3 K H a xs:=by
 rcases h with ⟨o,h⟩ | h
 ·exact .inl (.inr ⟨o,h⟩)
 ·exact .inr h
mutual
inductive Rep (K:PySem.W.Frag) (H:Hp):V -> D -> List Addr -> Prop
 | non:Rep K H .non .non []
 | bl {b:Bool}:Rep K H (.bl b) (.bl b) []
 | int {i:Int}:Rep K H (.int i) (.int i) []
 | str {x:Str}:Rep K H (.str x) (.str x) []
 | tup {p:Addr} {vs:List V} {ds:List D} {A:List Addr}:H p = some (.tup vs) -> n8 K H vs ds A -> Rep K H (.ref p) (.tup ds) A
 | lst {p:Addr} {vs:List V} {ds:List D} {A:List Addr}:H p = some (.lst vs) -> n8 K H vs ds A -> Rep K H (.ref p) (.lst ds) (p :: A)
 | frz {p:Addr} {vs:List V} {ds:List D} {A:List Addr}:BP K H p vs -> n8 K H vs ds A -> Rep K H (.ref p) (.fz ds) A
 | dic {p:Addr} {kvs:List (Key × V)} {kds:List (Key × D)} {A:List Addr} {ep:Nat}:H p = some (.dE kvs ep) -> C9 K H kvs kds A -> Rep K H (.ref p) (.dic kds) (p :: A)
 | obj {p C dx:Addr} {fs:List (Str × V)} {fds:List (Str × D)} {A:List Addr}:H p = some (.ins C dx fs) -> dH K H fs fds A -> Rep K H (.ref p) (.obj C fds) (p :: A)
 | st {p:Addr} {S:Key -> Bool} {n:Nat} {ks:List Key}:H p = some (.set S n) -> (∀ k:Key,S k = ks.any fun z=>decide (z = k)) -> Rep K H (.ref p) (.st ks) [p]
 | xc {e dx:Addr} {fs:List (Str × V)}:H dx = some (oz dx fs) -> Rep K H (.ref e) (.xc e dx fs) [dx]
 | ty {n:String}:Rep K H (.ty n) (.ty n) []
 | adr {p:Addr}:Rep K H (.ref p) (.adr p) []
inductive n8 (K:PySem.W.Frag) (H:Hp):List V -> List D -> List Addr -> Prop
 | nil:n8 K H [] [] []
 | cons {v:V} {d:D} {vs:List V} {ds:List D} {A B:List Addr}:Rep K H v d A -> n8 K H vs ds B -> n8 K H (v :: vs) (d :: ds) (A ++ B)
inductive C9 (K:PySem.W.Frag) (H:Hp):List (Key × V) -> List (Key × D) -> List Addr -> Prop
 | nil:C9 K H [] [] []
 | cons {k:Key} {v:V} {d:D} {vs:List (Key × V)} {ds:List (Key × D)} {A B:List Addr}:Rep K H v d A -> C9 K H vs ds B -> C9 K H ((k,v) :: vs) ((k,d) :: ds) (A ++ B)
inductive dH (K:PySem.W.Frag) (H:Hp):List (Str × V) -> List (Str × D) -> List Addr -> Prop
 | nil:dH K H [] [] []
 | cons {k:Str} {v:V} {d:D} {vs:List (Str × V)} {ds:List (Str × D)} {A B:List Addr}:Rep K H v d A -> dH K H vs ds B -> dH K H ((k,v) :: vs) ((k,d) :: ds) (A ++ B)
end
structure T9 (H H':Hp):Prop where
 L4:∀ b xs,H b = some (.tup xs) -> H' b = some (.tup xs)
 frzs:∀ b o u,H b = some (.frz o u) -> H' b = some (.frz o u)
 dom:∀ b,H' b = none -> H b = none
structure Tf (H H':Hp):Prop where
 L4:∀ b xs,H b = some (.tup xs) -> H' b = some (.tup xs)
 frzs:∀ b o u,H b = some (.frz o u) -> H' b = some (.frz o u)
theorem T9.tf {H H':Hp} (s:T9 H H'):Tf H H':=⟨s.L4,s.frzs⟩
theorem T9.refl (H:Hp):T9 H H:=⟨fun _ _ h=>h,fun _ _ _ h=>h,fun _ h=>h⟩
theorem T9.trans {H H1 H2:Hp} (a:T9 H H1) (b:T9 H1 H2):T9 H H2:=⟨fun c x h=>b.L4 c x (a.L4 c x h),fun c o u h=>b.frzs c o u (a.frzs c o u h),fun c h=>a.dom c (b.dom c h)⟩
theorem T9.of {H H':Hp} (s:i7 H H'):T9 H H':=⟨fun b _ h=>s b _ h,fun b _ _ h=>s b _ h,fun b h=>s.free h⟩
theorem Tf.GQ {K:PySem.W.Frag} {H H':Hp} (s:Tf H H') {a:Addr} {xs:List V} (h:BP K H a xs):BP K H' a xs:=by
 rcases h with ⟨o,h⟩ | h
 ·exact .inl ⟨o,s.frzs _ _ _ h⟩
 ·exact .inr h
section
variable {K:PySem.W.Frag} {H H':Hp}
mutual
theorem Rep.K2 (s:Tf H H'):∀ {v:V} {d:D} {A:List Addr},Rep K H v d A -> (∀ a ∈ A,H' a = H a) -> Rep K H' v d A
 | _,_,_,.non,_=>.non
 | _,_,_,.bl,_=>.bl
 | _,_,_,.int,_=>.int
 | _,_,_,.str,_=>.str
 | _,_,_,.ty,_=>.ty
 | _,_,_,.adr,_=>.adr
 | _,_,_,.tup h r,e=>.tup (s.L4 _ _ h) (r.K2 s e)
 | _,_,_,.lst h r,e=>.lst ((e _ List.mem_cons_self).trans h) (r.K2 s fun a ha=>e a (List.mem_cons_of_mem _ ha))
 | _,_,_,.frz h r,e=>.frz (s.GQ h) (r.K2 s e)
 | _,_,_,.dic h r,e=>.dic ((e _ List.mem_cons_self).trans h) (r.K2 s fun a ha=>e a (List.mem_cons_of_mem _ ha))
 | _,_,_,.obj h r,e=>.obj ((e _ List.mem_cons_self).trans h) (r.K2 s fun a ha=>e a (List.mem_cons_of_mem _ ha))
 | _,_,_,.st h r,e=>.st ((e _ List.mem_cons_self).trans h) r
 | _,_,_,.xc h,e=>.xc ((e _ List.mem_cons_self).trans h)
theorem n8.K2 (s:Tf H H'):∀ {v:List V} {d:List D} {A:List Addr},n8 K H v d A -> (∀ a ∈ A,H' a = H a) -> n8 K H' v d A
 | _,_,_,.nil,_=>.nil
 | _,_,_,.cons h r,e=>.cons (h.K2 s fun a ha=>e a (List.mem_append_left _ ha)) (r.K2 s fun a ha=>e a (List.mem_append_right _ ha))
theorem C9.K2 (s:Tf H H'):∀ {v:List (Key × V)} {d:List (Key × D)} {A:List Addr},C9 K H v d A -> (∀ a ∈ A,H' a = H a) -> C9 K H' v d A
 | _,_,_,.nil,_=>.nil
 | _,_,_,.cons h r,e=>.cons (h.K2 s fun a ha=>e a (List.mem_append_left _ ha)) (r.K2 s fun a ha=>e a (List.mem_append_right _ ha))
theorem dH.K2 (s:Tf H H'):∀ {v:List (Str × V)} {d:List (Str × D)} {A:List Addr},dH K H v d A -> (∀ a ∈ A,H' a = H a) -> dH K H' v d A
 | _,_,_,.nil,_=>.nil
 | _,_,_,.cons h r,e=>.cons (h.K2 s fun a ha=>e a (List.mem_append_left _ ha)) (r.K2 s fun a ha=>e a (List.mem_append_right _ ha))
end
theorem Rep.mono (s:T9 H H') {v:V} {d:D} {A:List Addr} (r:Rep K H v d A) (h:∀ a ∈ A,H' a = H a):Rep K H' v d A:=r.K2 s.tf h
theorem n8.mono (s:T9 H H') {v:List V} {d:List D} {A:List Addr} (r:n8 K H v d A) (h:∀ a ∈ A,H' a = H a):n8 K H' v d A:=r.K2 s.tf h
theorem C9.mono (s:T9 H H') {v:List (Key × V)} {d:List (Key × D)} {A:List Addr} (r:C9 K H v d A) (h:∀ a ∈ A,H' a = H a):C9 K H' v d A:=r.K2 s.tf h
theorem dH.mono (s:T9 H H') {v:List (Str × V)} {d:List (Str × D)} {A:List Addr} (r:dH K H v d A) (h:∀ a ∈ A,H' a = H a):dH K H' v d A:=r.K2 s.tf h
mutual
theorem Rep.X0:∀ {v:V} {d:D} {A:List Addr},Rep K H v d A -> ∀ a ∈ A,eO (H a)
 | _,_,_,.tup _ r,a,ha=>r.X0 a ha
 | _,_,_,.lst h r,a,ha=>by
  rcases List.mem_cons.mp ha with e | e
  ·rw [e,h]; trivial
  ·exact r.X0 a e
 | _,_,_,.frz _ r,a,ha=>r.X0 a ha
 | _,_,_,.dic h r,a,ha=>by
  rcases List.mem_cons.mp ha with e | e
  ·rw [e,h]; trivial
  ·exact r.X0 a e
 | _,_,_,.obj h r,a,ha=>by
  rcases List.mem_cons.mp ha with e | e
  ·rw [e,h]; trivial
  ·exact r.X0 a e
 | _,_,_,.xc h,a,ha=>by
  rw [List.mem_singleton.mp ha,h]; trivial
 | _,_,_,.st h r,a,ha=>by
  rw [List.mem_singleton.mp ha,h]; trivial
theorem n8.X0:∀ {v:List V} {d:List D} {A:List Addr},n8 K H v d A -> ∀ a ∈ A,eO (H a)
 | _,_,_,.cons h r,a,ha=>(List.mem_append.mp ha).elim (h.X0 a) (r.X0 a)
theorem C9.X0:∀ {v:List (Key × V)} {d:List (Key × D)} {A:List Addr},C9 K H v d A -> ∀ a ∈ A,eO (H a)
 | _,_,_,.cons h r,a,ha=>(List.mem_append.mp ha).elim (h.X0 a) (r.X0 a)
theorem dH.X0:∀ {v:List (Str × V)} {d:List (Str × D)} {A:List Addr},dH K H v d A -> ∀ a ∈ A,eO (H a)
 | _,_,_,.cons h r,a,ha=>(List.mem_append.mp ha).elim (h.X0 a) (r.X0 a)
end
theorem eO.some {o:Option HO} (h:eO o):∃ x,o = Option.some x:=by
 cases o with
 | none=>cases h
 | some x=>exact ⟨x,rfl⟩
theorem Rep.same (s:i7 H H') {v:V} {d:D} {A:List Addr} (r:Rep K H v d A):Rep K H' v d A:=
 r.mono (T9.of s) fun a ha=>by
  obtain ⟨o,e⟩:=eO.some (r.X0 a ha)
  rw [e]; exact s a o e
theorem n8.same (s:i7 H H') {v:List V} {d:List D} {A:List Addr} (r:n8 K H v d A):n8 K H' v d A:=
 r.mono (T9.of s) fun a ha=>by
  obtain ⟨o,e⟩:=eO.some (r.X0 a ha)
  rw [e]; exact s a o e
mutual
theorem Rep.M1:∀ {v:V} {d:D} {A:List Addr},Rep K H v d A -> D3 d = true -> A = []
 | _,_,_,.non,_=>rfl
 | _,_,_,.bl,_=>rfl
 | _,_,_,.int,_=>rfl
 | _,_,_,.str,_=>rfl
 | _,_,_,.ty,_=>rfl
 | _,_,_,.adr,_=>rfl
 | _,_,_,.tup _ r,e=>r.M1 (by simpa [D3] using e)
 | _,_,_,.lst _ _,e=>by simp [D3] at e
 | _,_,_,.frz _ r,e=>r.M1 (by simpa [D3] using e)
 | _,_,_,.dic _ _,e=>by simp [D3] at e
 | _,_,_,.obj _ _,e=>by simp [D3] at e
 | _,_,_,.st _ _,e=>by simp [D3] at e
 | _,_,_,.xc _,e=>by simp [D3] at e
theorem n8.M1:∀ {v:List V} {d:List D} {A:List Addr},n8 K H v d A -> y8 d = true -> A = []
 | _,_,_,.nil,_=>rfl
 | _,_,_,.cons h r,e=>by
  simp [y8] at e
  rw [h.M1 e.1,r.M1 e.2]; rfl
end
theorem n8.length:∀ {v:List V} {d:List D} {A:List Addr},n8 K H v d A -> v.length = d.length
 | _,_,_,.nil=>rfl
 | _,_,_,.cons _ r=>by simp [r.length]
theorem n8.get:∀ {vs:List V} {ds:List D} {A:List Addr} {i:Nat} {d:D},n8 K H vs ds A -> ds[i]? = some d -> ∃ v B,vs[i]? = some v /\ Rep K H v d B /\ B.Sublist A
 | _,_,_,_,_,.nil,e=>by simp at e
 | _,_,_,0,_,.cons (A:=A) h r,e=>by simp at e; subst e; exact ⟨_,A,rfl,h,List.sublist_append_left _ _⟩
 | _,_,_,i + 1,d,.cons h r,e=>by
  obtain ⟨v,B,e1,e2,e3⟩:=n8.get (i:=i) (d:=d) r (by simpa using e)
  exact ⟨v,B,by simpa using e1,e2,e3.trans (List.sublist_append_right _ _)⟩
theorem n8.append:∀ {vs ws:List V} {ds es:List D} {A B:List Addr},n8 K H vs ds A -> n8 K H ws es B -> n8 K H (vs ++ ws) (ds ++ es) (A ++ B)
 | _,_,_,_,_,_,.nil,q=>q
 | _,_,_,_,_,_,.cons h r,q=>by rw [List.append_assoc]; exact .cons h (r.append q)
theorem n8.split:∀ {vs:List V} {ds:List D} {A:List Addr} (n:Nat),n8 K H vs ds A -> ∃ B C,A = B ++ C /\ n8 K H (vs.take n) (ds.take n) B /\ n8 K H (vs.drop n) (ds.drop n) C
 | _,_,_,0,r=>⟨[],_,rfl,.nil,r⟩
 | _,_,_,n + 1,.nil=>⟨[],[],rfl,.nil,.nil⟩
 | _,_,_,n + 1,.cons h r=>by
  obtain ⟨B,C,e,h1,h2⟩:=r.split n
  exact ⟨_ ++ B,C,by rw [e,List.append_assoc],.cons h h1,h2⟩
theorem n8.cut {vs:List V} {ds:List D} {A:List Addr} (i j:Nat) (r:n8 K H vs ds A):∃ B,B.Sublist A /\ n8 K H ((vs.drop i).take j) ((ds.drop i).take j) B:=by
 obtain ⟨B,C,e,_,h2⟩:=r.split i
 obtain ⟨B2,C2,e2,h3,_⟩:=h2.split j
 exact ⟨B2,by rw [e,e2]; exact (List.sublist_append_left _ _).trans (List.sublist_append_right _ _),h3⟩
theorem n8.set:∀ {vs:List V} {ds:List D} {A:List Addr} {v:V} {d:D} {B:List Addr} (i:Nat),n8 K H vs ds A -> Rep K H v d B -> ∃ C,n8 K H (vs.set i v) (ds.set i d) C /\ (∀ a ∈ C,a ∈ A \/ a ∈ B) /\ (A.Nodup -> B.Nodup -> (∀ a ∈ B,a ∉ A) -> C.Nodup)
 | _,_,_,_,_,_,_,.nil,_=>⟨[],.nil,(fun _ h=>absurd h (by simp)),fun _ _ _=>List.nodup_nil⟩
 | _,_,_,_,_,B,0,.cons (A:=A1) (B:=B1) h r,q=>⟨B ++ B1,.cons q r,fun a ha=>(List.mem_append.mp ha).elim .inr fun z=>.inl (List.mem_append_right _ z),fun n1 n2 n3=>by
   refine List.nodup_append.mpr ⟨n2,(List.nodup_append.mp n1).2.1,fun a ha b hb e=>?_⟩
   subst e
   exact n3 a ha (List.mem_append_right _ hb)⟩
 | _,_,_,_,_,B,i + 1,.cons (A:=A1) (B:=B1) h r,q=>by
  obtain ⟨C,h1,h2,h3⟩:=n8.set i r q
  refine ⟨A1 ++ C,.cons h h1,fun a ha=>?_,fun n1 n2 n3=>?_⟩
  ·rcases List.mem_append.mp ha with z | z
   ·exact .inl (List.mem_append_left _ z)
   ·exact (h2 a z).elim (fun y=>.inl (List.mem_append_right _ y)) .inr
  ·have:=List.nodup_append.mp n1
   refine List.nodup_append.mpr ⟨this.1,h3 this.2.1 n2 fun a ha z=>n3 a ha (List.mem_append_right _ z),fun a ha b hb e=>?_⟩
   subst e
   rcases h2 a hb with z | z
   ·exact this.2.2 a ha a z rfl
   ·exact n3 a z (List.mem_append_left _ ha)
end
end L3
namespace L3
open PySem PySem.Spec L2
inductive Cl where | own | bor | loc | mk (H:Hp)
noncomputable abbrev Ev:=List (Option D)
structure Ent where
 H₀:Hp
 L:Nat -> List Addr
 vs:List V
 cl:List Cl
 /-- what is frozen meanwhile (a loop's list),and how it stands -/
 Z:Addr -> Prop
 Hz:Hp
def Ent.own (G:Ent) (i:Nat):Prop:=G.cl[i]? = some .own
structure Ent.Po (G:Ent):Prop where
 one:∀ i,i < G.vs.length -> G.own i -> i = 0
 lk:∀ (j:Nat) (H':Hp),G.cl[j]? = some (.mk H') -> ∀ a o,H' a = some o -> G.H₀ a = some o /\ ∀ i,i < G.vs.length -> G.own i -> a ∉ G.L i
structure E3 (K:PySem.W.Frag) (G:Ent) (ρ:Ev) (σ:St) (H:Hp) (fa:Nat -> List Addr):Prop where
 rep:∀ i d,ρ[i]? = some (some d) -> ∃ v,σ[i]? = some (some v) /\ Rep K H v d (fa i)
 emp:∀ i,(∀ d,ρ[i]? ≠ some (some d)) -> fa i = []
 len:ρ.length = σ.length
 nd:∀ i,(G.own i \/ G.cl[i]? = some .loc) -> (fa i).Nodup
 dj:∀ i j,i ≠ j -> G.own i -> ∀ a ∈ fa i,a ∉ fa j
 par:∀ i,i < G.vs.length -> G.own i -> σ[i]? = some G.vs[i]?
 old:∀ i,i < G.vs.length -> G.own i -> ∀ a ∈ fa i,a ∈ G.L i \/ G.H₀ a = none
 new:∀ i,(G.cl[i]? = some .loc \/ (G.own i /\ ¬ i < G.vs.length)) -> ∀ a ∈ fa i,G.H₀ a = none
 frm:∀ a o,G.H₀ a = some o -> (∀ i,i < G.vs.length -> G.own i -> a ∉ G.L i) -> H a = some o
 stb:T9 G.H₀ H
 zk:∀ a,G.Z a -> H a = G.Hz a
 zn:∀ a,G.Z a -> G.Hz a ≠ none
 zo:∀ i,G.own i -> ∀ a ∈ fa i,¬ G.Z a
 po:G.Po
theorem E3.kept {K:PySem.W.Frag} {G:Ent} {ρ:Ev} {σ:St} {H:Hp} {fa:Nat -> List Addr} (E:E3 K G ρ σ H fa) {j:Nat} {H':Hp} (h:G.cl[j]? = some (.mk H')):i7 H' H:=fun a o e=>let ⟨h1,h2⟩:=E.po.lk j H' h a o e; E.frm a o h1 h2
section
variable {K:PySem.W.Frag} {G:Ent} {ρ:Ev} {σ:St} {H H':Hp} {fa:Nat -> List Addr}
theorem E3.X0 (E:E3 K G ρ σ H fa) (i:Nat):∀ a ∈ fa i,eO (H a):=fun a ha=>by
 cases e:ρ[i]? with
 | none=>rw [E.emp i (fun d z=>by rw [e] at z; cases z)] at ha; cases ha
 | some o=>
  cases o with
  | none=>rw [E.emp i (fun d z=>by rw [e] at z; cases z)] at ha; cases ha
  | some d=>
   obtain ⟨v,_,r⟩:=E.rep i d e
   exact r.X0 a ha
theorem E3.there (E:E3 K G ρ σ H fa) (i:Nat) {a:Addr} (ha:a ∈ fa i):H a ≠ none:=fun z=>by
 have:=E.X0 i a ha
 rw [z] at this
 exact this
theorem E3.same (E:E3 K G ρ σ H fa) (s:i7 H H'):E3 K G ρ σ H' fa:=
 ⟨fun i d e=>let ⟨v,h1,h2⟩:=E.rep i d e; ⟨v,h1,h2.same s⟩,E.emp,E.len,E.nd,E.dj,E.par,E.old,E.new,fun a o h n=>s a o (E.frm a o h n),E.stb.trans (T9.of s),fun a z=>(by
  obtain ⟨o,e⟩:=Option.ne_none_iff_exists'.mp (E.zn a z)
  have h:=E.zk a z
  rw [e] at h ⊢
  exact s a o h),E.zn,E.zo,E.po⟩
inductive Fl where | any | stab | locl | fresh
noncomputable def A3 (G:Ent) (H:Hp) (fa:Nat -> List Addr) (B:List Addr):Fl -> Prop
 | .any=>True
 | .stab=>∀ i,G.own i -> ∀ a ∈ B,a ∉ fa i
 | .locl=>(∀ i,G.own i -> ∀ a ∈ B,a ∉ fa i) /\ (∀ a ∈ B,G.H₀ a = none) /\ B.Nodup
 | .fresh=>B.Nodup /\ ∀ a ∈ B,H a = none
noncomputable def cY:Fl -> Fl -> Bool
 | _,.any=>true
 | .any,_=>false
 | _,.stab=>true
 | .stab,_=>false
 | _,.locl=>true
 | .locl,_=>false
 | .fresh,.fresh=>true
theorem A3.aU (E:E3 K G ρ σ H fa) {B:List Addr} (h:A3 G H fa B .fresh):A3 G H fa B .stab:=fun i _ a ha z=>E.there i z (h.2 a ha)
theorem A3.gJ (E:E3 K G ρ σ H fa) {B:List Addr} (h:A3 G H fa B .fresh):A3 G H fa B .locl:=⟨A3.aU E h,fun a ha=>E.stb.dom a (h.2 a ha),h.1⟩
theorem A3.weak (E:E3 K G ρ σ H fa) {B:List Addr} {f g:Fl} (h:A3 G H fa B f) (hm:cY f g = true):A3 G H fa B g:=by
 cases f <;> cases g <;> first | trivial | exact h | (cases hm; done) | exact h.1 | exact A3.aU E h | exact A3.gJ E h
theorem A3.nil (f:Fl):A3 G H fa [] f:=by
 cases f with
 | any=>trivial
 | stab=>intro i _ a ha; cases ha
 | locl=>exact ⟨fun i _ a ha=>(by cases ha),fun a ha=>(by cases ha),List.nodup_nil⟩
 | fresh=>exact ⟨List.nodup_nil,fun a ha=>(by cases ha)⟩
theorem A3.sub {B C:List Addr} {f:Fl} (h:A3 G H fa B f) (s:C.Sublist B):A3 G H fa C f:=by
 cases f with
 | any=>trivial
 | stab=>exact fun i o a ha=>h i o a (s.mem ha)
 | locl=>exact ⟨fun i o a ha=>h.1 i o a (s.mem ha),fun a ha=>h.2.1 a (s.mem ha),h.2.2.sublist s⟩
 | fresh=>exact ⟨h.1.sublist s,fun a ha=>h.2 a (s.mem ha)⟩
end
noncomputable abbrev TU:=Ev -> (D -> Prop) -> Prop
structure PU (X:Cx) (cl:List Cl) (e:Expr) (f:Fl) (u:TU):Prop where
 of ::
 run:∃ t,PE X e t /\ ∀ (G:Ent) (ρ:Ev) (σ:St) (H:Hp) (fa:Nat -> List Addr) (Q:D -> Prop) (R:VK),G.cl = cl -> E3 X.K G ρ σ H fa -> u ρ Q ->
  (∀ v H' d B,i7 H H' -> Rep X.K H' v d B -> A3 G H fa B f -> Q d -> R v H') -> t σ H R
noncomputable abbrev TM:=Ev -> (D -> Ev -> Prop) -> Prop
structure O6 (K:PySem.W.Frag) (G:Ent) (H:Hp) (fa:Nat -> List Addr) (H':Hp) (fa':Nat -> List Addr):Prop where
 frm:∀ a o,H a = some o -> (∀ i,G.own i -> a ∉ fa i) -> H' a = some o
 stb:T9 H H'
 new:∀ i,G.own i -> ∀ a ∈ fa' i,a ∈ fa i \/ H a = none
 bor:∀ i,¬ G.own i -> fa' i = fa i
section
variable {K:PySem.W.Frag} {G:Ent} {ρ ρ':Ev} {σ:St} {H H' H2:Hp} {fa fa' fa2:Nat -> List Addr}
theorem O6.refl:O6 K G H fa H fa:=⟨fun _ _ h _=>h,T9.refl H,fun _ _ _ h=>.inl h,fun _ _=>rfl⟩
theorem O6.same (s:i7 H H'):O6 K G H fa H' fa:=⟨fun _ _ h _=>s _ _ h,T9.of s,fun _ _ _ h=>.inl h,fun _ _=>rfl⟩
theorem O6.trans (a:O6 K G H fa H' fa') (b:O6 K G H' fa' H2 fa2):O6 K G H fa H2 fa2:=
  ⟨fun x o h n=>b.frm x o (a.frm x o h n) fun i hi z=>(a.new i hi x z).elim (n i hi) (fun e=>by rw [h] at e; cases e),a.stb.trans b.stb,
   fun i hi x hx=>(b.new i hi x hx).elim (a.new i hi x) (fun e=>.inr (a.stb.dom x e)),fun i hi=>(b.bor i hi).trans (a.bor i hi)⟩
theorem O6.keep (c:O6 K G H fa H' fa') {v:V} {d:D} {B:List Addr} (r:Rep K H v d B) (n:∀ i,G.own i -> ∀ a ∈ B,a ∉ fa i):Rep K H' v d B:=
 r.mono c.stb fun a ha=>by
  obtain ⟨o,e⟩:=eO.some (r.X0 a ha)
  rw [e]; exact c.frm a o e fun i hi=>n i hi a ha
theorem O6.apart (c:O6 K G H fa H' fa') {B:List Addr} (t:∀ a ∈ B,H a ≠ none) (n:∀ i,G.own i -> ∀ a ∈ B,a ∉ fa i):∀ i,G.own i -> ∀ a ∈ B,a ∉ fa' i:=fun i hi a ha z=>
 (c.new i hi a z).elim (n i hi a ha) (t a ha)
theorem E3.step (E:E3 K G ρ σ H fa) (c:O6 K G H fa H' fa') (hl:ρ'.length = ρ.length) (hb:∀ i,¬ G.own i -> ρ'[i]? = ρ[i]?)
  (ho:∀ i d,G.own i -> ρ'[i]? = some (some d) -> ∃ v,σ[i]? = some (some v) /\ Rep K H' v d (fa' i)) (he:∀ i,G.own i -> (∀ d,ρ'[i]? ≠ some (some d)) -> fa' i = [])
  (nd:∀ i,G.own i -> (fa' i).Nodup) (dj:∀ i j,i ≠ j -> G.own i -> G.own j -> ∀ a ∈ fa' i,a ∉ fa' j):E3 K G ρ' σ H' fa' where
 rep:=fun i d e=>by
  by_cases hi:G.own i
  ·exact ho i d hi e
  ·rw [hb i hi] at e
   obtain ⟨v,e1,r⟩:=E.rep i d e
   refine ⟨v,e1,?_⟩
   rw [c.bor i hi]
   exact c.keep r fun j hj a ha z=>E.dj j i (fun q=>hi (q ▸ hj)) hj a z ha
 emp:=fun i e=>by
  by_cases hi:G.own i
  ·exact he i hi e
  ·rw [c.bor i hi]
   exact E.emp i fun d z=>e d (by rw [hb i hi]; exact z)
 len:=hl.trans E.len
 nd:=fun i h=>by
  by_cases hi:G.own i
  ·exact nd i hi
  ·rw [c.bor i hi]; exact E.nd i h
 dj:=fun i j n hi a ha=>by
  by_cases hj:G.own j
  ·exact dj i j n hi hj a ha
  ·rw [c.bor j hj]
   intro z
   rcases c.new i hi a ha with q | q
   ·exact E.dj i j n hi a q z
   ·exact E.there j z q
 par:=E.par
 old:=fun i h hi a ha=>(c.new i hi a ha).elim (E.old i h hi a) fun q=>.inr (E.stb.dom a q)
 new:=fun i h a ha=>by
  by_cases hi:G.own i
  ·exact (c.new i hi a ha).elim (E.new i h a) fun q=>E.stb.dom a q
  ·rw [c.bor i hi] at ha
   exact E.new i h a ha
 frm:=fun a o h n=>c.frm a o (E.frm a o h n) fun i hi z=>by
  by_cases hp:i < G.vs.length
  ·rcases E.old i hp hi a z with q | q
   ·exact n i hp hi q
   ·rw [h] at q; cases q
  ·have q:=E.new i (.inr ⟨hi,hp⟩) a z
   rw [h] at q; cases q
 stb:=E.stb.trans c.stb
 zk:=fun a z=>by
  obtain ⟨o,e⟩:=Option.ne_none_iff_exists'.mp (E.zn a z)
  have h:=E.zk a z
  rw [e] at h ⊢
  exact c.frm a o h fun i hi q=>E.zo i hi a q z
 zn:=E.zn
 zo:=fun i hi a ha z=>by
  rcases c.new i hi a ha with q | q
  ·exact E.zo i hi a q z
  ·have h:=E.zk a z
   rw [q] at h
   exact E.zn a z h.symm
 po:=E.po
end
structure PM (X:Cx) (cl:List Cl) (e:Expr) (u:TM):Prop where
 of ::
 run:∃ t,PE X e t /\ ∀ (G:Ent) (ρ:Ev) (σ:St) (H:Hp) (fa:Nat -> List Addr) (Q:D -> Ev -> Prop) (R:VK),G.cl = cl -> E3 X.K G ρ σ H fa -> u ρ Q ->
  (∀ v H' d B ρ' fa',E3 X.K G ρ' σ H' fa' -> O6 X.K G H fa H' fa' -> Rep X.K H' v d B -> B.Nodup -> (∀ a ∈ B,H a = none /\ ∀ i,a ∉ fa' i) -> Q d ρ' -> R v H') -> t σ H R
structure W9 where
 nx:Ev -> Prop
 rt:D -> Ev -> Prop
 bk:Ev -> Prop:=fun _=>False
 ct:Ev -> Prop:=fun _=>False
noncomputable abbrev j2:=W9 -> Ev -> Prop
noncomputable def vt (K:PySem.W.Frag) (G:Ent) (N:Ev -> Prop):St -> Hp -> Prop:=fun σ H=>∃ ρ fa,E3 K G ρ σ H fa /\ N ρ
noncomputable def Hk (K:PySem.W.Frag) (G:Ent) (N:D -> Ev -> Prop):VK:=fun v H=>∃ d ρ σ fa B,E3 K G ρ σ H fa /\ Rep K H v d B /\ B.Nodup /\ (∀ a ∈ B,G.H₀ a = none) /\ (∀ i,i < G.vs.length -> G.own i -> ∀ a ∈ B,a ∉ fa i) /\ N d ρ
noncomputable def low (K:PySem.W.Frag) (G:Ent) (T:W9):Ends:={ nx:=vt K G T.nx,rt:=Hk K G T.rt,bk:=vt K G T.bk,ct:=vt K G T.ct }
structure Gz (A B:Ends):Prop where
 nx:∀ σ H,A.nx σ H -> B.nx σ H
 rt:∀ v H,A.rt v H -> B.rt v H
 bk:∀ σ H,A.bk σ H -> B.bk σ H
 ct:∀ σ H,A.ct σ H -> B.ct σ H
theorem Gz.refl (A:Ends):Gz A A:=⟨fun _ _ h=>h,fun _ _ h=>h,fun _ _ h=>h,fun _ _ h=>h⟩
structure L5 (X:Cx) (cl:List Cl) (e:Expr) (u:Ev -> (Bool -> Prop) -> Prop):Prop where
 of ::
 run:∃ t,PT X e t /\ ∀ (G:Ent) (ρ:Ev) (σ:St) (H:Hp) (fa:Nat -> List Addr) (Q:Bool -> Prop) (R:Bool -> Hp -> Prop),G.cl = cl -> E3 X.K G ρ σ H fa -> u ρ Q ->
  (∀ b H',i7 H H' -> Q b -> R b H') -> t σ H R
structure K9 (X:Cx) (cl:List Cl) (st:Stmt) (s:j2):Prop where
 of ::
 run:∃ t,PS X st t /\ ∀ (G:Ent) (T:W9) (ρ:Ev) (σ:St) (H:Hp) (fa:Nat -> List Addr) (R:Ends),G.cl = cl -> E3 X.K G ρ σ H fa -> s T ρ -> Gz (low X.K G T) R -> t R σ H
structure gR (X:Cx) (cl:List Cl) (st:List Stmt) (s:j2):Prop where
 of ::
 run:∃ t,jR X st t /\ ∀ (G:Ent) (T:W9) (ρ:Ev) (σ:St) (H:Hp) (fa:Nat -> List Addr) (R:Ends),G.cl = cl -> E3 X.K G ρ σ H fa -> s T ρ -> Gz (low X.K G T) R -> t R σ H
end L3
namespace L3
open PySem PySem.Spec L2
section
variable {X:Cx} {cl:List Cl} {e a b c:Expr} {f:Fl} {pos:Pos}
def uC (d:D):TU:=fun _ Q=>Q d
def e8 (i:Nat):TU:=fun ρ Q=>match ρ[i]? with
 | some (some d)=>Q d
 | _=>False
noncomputable def Gb:Option Cl -> Fl
 | some .bor=>.stab
 | some .loc=>.locl
 | _=>.any
theorem E3.rl {K:PySem.W.Frag} {G:Ent} {ρ:Ev} {σ:St} {H:Hp} {fa:Nat -> List Addr} (E:E3 K G ρ σ H fa) {i:Nat} (h:¬ G.own i):∀ j,G.own j -> ∀ a ∈ fa i,a ∉ fa j:=fun j hj a ha z=>
 E.dj j i (fun e=>h (e ▸ hj)) hj a z ha
theorem E3.var {K:PySem.W.Frag} {G:Ent} {ρ:Ev} {σ:St} {H:Hp} {fa:Nat -> List Addr} (E:E3 K G ρ σ H fa) (i:Nat):A3 G H fa (fa i) (Gb G.cl[i]?):=by
 cases e:G.cl[i]? with
 | none=>trivial
 | some k=>
  cases k with
  | own=>trivial
  | mk _=>trivial
  | bor=>exact E.rl (fun z=>by unfold Ent.own at z; rw [e] at z; cases z)
  | loc=>exact ⟨E.rl (fun z=>by unfold Ent.own at z; rw [e] at z; cases z),E.new i (.inl e),E.nd i (.inr e)⟩
theorem d9 (i:Nat) {x:Str} (h:PE X (.Name x pos) (W8 i)) (hc:Gb cl[i]? = f):PU X cl (.Name x pos) f (e8 i):=.of <| by
 refine ⟨_,h,fun G ρ σ H fa Q R hG E hu k=>?_⟩
 unfold e8 at hu
 cases e:ρ[i]? with
 | none=>rw [e] at hu; cases hu
 | some o=>
  cases o with
  | none=>rw [e] at hu; cases hu
  | some d=>
   rw [e] at hu
   obtain ⟨v,e1,r⟩:=E.rep i d e
   refine ⟨v,e1,k v H d (fa i) (i7.refl H) r ?_ hu⟩
   rw [<- hc,<- hG]
   exact E.var i
theorem e7 {i:Int} {j}:PU X cl (.Constant (.int i) j pos) .fresh (uC (.int i)):=.of ⟨_,DH,fun G ρ σ H fa Q R _ E hu k=>k _ H _ _ (i7.refl H) .int (A3.nil _) hu⟩
theorem B9 {i:Bool} {j}:PU X cl (.Constant (.bool i) j pos) .fresh (uC (.bl i)):=.of ⟨_,Fw,fun G ρ σ H fa Q R _ E hu k=>k _ H _ _ (i7.refl H) .bl (A3.nil _) hu⟩
theorem fD {j}:PU X cl (.Constant .none j pos) .fresh (uC .non):=.of ⟨_,CF,fun G ρ σ H fa Q R _ E hu k=>k _ H _ _ (i7.refl H) .non (A3.nil _) hu⟩
theorem C6 {x:Str} {j}:PU X cl (.Constant (.str x) j pos) .fresh (uC (.str x)):=.of ⟨_,BL,fun G ρ σ H fa Q R _ E hu k=>k _ H _ _ (i7.refl H) .str (A3.nil _) hu⟩
theorem W4 {x:Str} {d:D} {v:V} {B:List Addr} (h:PE X (.Name x pos) (tC v)) (r:∀ H,Rep X.K H v d []):PU X cl (.Name x pos) .fresh (uC d):=.of ⟨_,h,fun G ρ σ H fa Q R _ E hu k=>k _ H _ _ (i7.refl H) (r H) (A3.nil _) hu⟩
def G1 (u:TU):TU:=fun ρ Q=>u ρ fun d=>D3 d = true /\ Q d
theorem PU.D3 {u:TU} (h:PU X cl e f u):PU X cl e .fresh (G1 u):=.of <| by
 obtain ⟨t,ht,h⟩:=h.run
 refine ⟨t,ht,fun G ρ σ H fa Q R hG E hu k=>h G ρ σ H fa _ R hG E hu fun v H' d B s r fo q=>k v H' d B s r ?_ q.2⟩
 rw [r.M1 q.1]
 exact A3.nil _
section
variable {K:PySem.W.Frag} {G:Ent} {H H':Hp} {fa:Nat -> List Addr} {B:List Addr} {f:Fl}
theorem A3.back (s:i7 H H') (h:A3 G H' fa B f):A3 G H fa B f:=by
 cases f with
 | any=>trivial
 | stab=>exact h
 | locl=>exact h
 | fresh=>exact ⟨h.1,fun a ha=>s.free (h.2 a ha)⟩
end
theorem u2 {ua ub:TU} {fa fb:Fl} (ha:PU X cl a fa ua) (hb:PU X cl b fb ub):∃ ta tb,PE X a ta /\ PE X b tb /\ ∀ (G:Ent) (ρ:Ev) (σ:St) (H:Hp) (fo:Nat -> List Addr) (Q:D -> D -> Prop) (R:V -> V -> Hp -> Prop),G.cl = cl -> E3 X.K G ρ σ H fo -> (ua ρ fun x=>ub ρ fun y=>Q x y) ->
  (∀ v w H' d e A B,i7 H H' -> Rep X.K H' v d A -> Rep X.K H' w e B -> A3 G H fo A fa -> A3 G H fo B fb -> Q d e -> R v w H') -> ta σ H fun x H1=>tb σ H1 fun y H2=>R x y H2:=by
 obtain ⟨ta,pa,ha⟩:=ha.run
 obtain ⟨tb,pb,hb⟩:=hb.run
 refine ⟨ta,tb,pa,pb,fun G ρ σ H fo Q R hG E hu k=>?_⟩
 refine ha G ρ σ H fo _ _ hG E hu fun v H1 d A s1 r1 f1 q1=>?_
 refine hb G ρ σ H1 fo _ _ hG (E.same s1) q1 fun w H2 e B s2 r2 f2 q2=>?_
 exact k v w H2 d e A B (s1.trans s2) (r1.same s2) r2 f1 (f2.back s1) q2
def X5 (X:Cx) (r:R2) (g:D -> D -> (D -> Prop) -> Prop):Prop:=∀ (H:Hp) (v w:V) (d e:D) (A B:List Addr) (Q:D -> Prop) (R:VK),Rep X.K H v d A -> Rep X.K H w e B -> g d e Q ->
 (∀ x H' y C,i7 H H' -> Rep X.K H' x y C -> C.Nodup -> (∀ a ∈ C,H a = none) -> Q y -> R x H') -> r v w H R
def p6 (g:D -> D -> (D -> Prop) -> Prop) (ua ub:TU):TU:=fun ρ Q=>ua ρ fun x=>ub ρ fun y=>g x y Q
theorem Gf {ua ub:TU} {fa fb:Fl} {r:R2} {g:D -> D -> (D -> Prop) -> Prop} (o:X5 X r g) {t:TE -> TE -> TE} (ht:t = Eg r) (ha:PU X cl a fa ua) (hb:PU X cl b fb ub) (mk:∀ {ta tb},PE X a ta -> PE X b tb -> PE X e (t ta tb)):PU X cl e .fresh (p6 g ua ub):=.of <| by
 obtain ⟨ta,tb,pa,pb,h⟩:=u2 ha hb
 subst ht
 refine ⟨_,mk pa pb,fun G ρ σ H fo Q R hG E hu k=>?_⟩
 refine h G ρ σ H fo _ _ hG E hu fun v w H' d e A B s r1 r2 _ _ q=>?_
 exact o H' v w d e A B Q R r1 r2 q fun x H2 y C s2 r3 n1 n2 q2=>k x H2 y C (s.trans s2) r3 ⟨n1,fun a ha=>s.free (n2 a ha)⟩ q2
theorem eY {ua ub:TU} {fa fb:Fl} {r:R2} {op:Operator} {g:D -> D -> (D -> Prop) -> Prop} (ho:J4 X (binaryOp op) r) (o:X5 X r g) (ha:PU X cl a fa ua) (hb:PU X cl b fb ub):PU X cl (.BinOp a op b pos) .fresh (p6 g ua ub):=
 Gf o rfl ha hb fun pa pb=>Bt ho pa pb
theorem Z8 {ua ub:TU} {fa fb:Fl} {r:R2} {op:CmpOp} {g:D -> D -> (D -> Prop) -> Prop} (ho:J4 X (compareOp op) r) (o:X5 X r g) (ha:PU X cl a fa ua) (hb:PU X cl b fb ub) (hm:behindInMarks op b = false):PU X cl (.Compare a [op] [b] pos) .fresh (p6 g ua ub):=
 Gf o rfl ha hb fun pa pb=>qO ho pa pb hm
noncomputable def gI (C:Int -> Int -> Prop) (g:Int -> Int -> D):D -> D -> (D -> Prop) -> Prop
 | .int i,.int j,Q=>C i j /\ Q (g i j)
 | _,_,_=>False
noncomputable def ug (g:Int -> Int -> D):D -> D -> (D -> Prop) -> Prop
 | .int i,.int j,Q=>Q (g i j)
 | _,_,_=>False
theorem B3 {K:PySem.W.Frag} {H:Hp} {v:V} {i:Int} {A:List Addr} (h:Rep K H v (.int i) A):v = .int i:=by cases h; rfl
theorem D0 {K:PySem.W.Frag} {H:Hp} {v:V} {i:Str} {A:List Addr} (h:Rep K H v (.str i) A):v = .str i:=by cases h; rfl
theorem N8 {K:PySem.W.Frag} {H:Hp} {v:V} {i:Bool} {A:List Addr} (h:Rep K H v (.bl i) A):v = .bl i:=by cases h; rfl
theorem eI {K:PySem.W.Frag} {H:Hp} {v:V} {A:List Addr} (h:Rep K H v .non A):v = .non:=by cases h; rfl
theorem oo {C:Int -> Int -> Prop} {g:Int -> Int -> Int}:X5 X (rI C fun i j=>.int (g i j)) (gI C fun i j=>.int (g i j)):=by
 intro H v w d e A B Q R r1 r2 q k
 cases d <;> cases e <;> first | exact q.elim | skip
 cases B3 r1; cases B3 r2
 exact ⟨_,_,rfl,rfl,q.1,k _ H _ _ (i7.refl H) .int List.nodup_nil (fun _ h=>(by cases h)) q.2⟩
theorem oS {g:Int -> Int -> Int}:X5 X (uG fun i j=>.int (g i j)) (ug fun i j=>.int (g i j)):=by
 intro H v w d e A B Q R r1 r2 q k
 cases d <;> cases e <;> first | exact q.elim | skip
 cases B3 r1; cases B3 r2
 exact ⟨_,_,rfl,rfl,k _ H _ _ (i7.refl H) .int List.nodup_nil (fun _ h=>(by cases h)) q⟩
theorem gb {g:Int -> Int -> Bool}:X5 X (uG fun i j=>.bl (g i j)) (ug fun i j=>.bl (g i j)):=by
 intro H v w d e A B Q R r1 r2 q k
 cases d <;> cases e <;> first | exact q.elim | skip
 cases B3 r1; cases B3 r2
 exact ⟨_,_,rfl,rfl,k _ H _ _ (i7.refl H) .bl List.nodup_nil (fun _ h=>(by cases h)) q⟩
section
variable {ua ub:TU} {fa fb:Fl}
theorem K8 (ha:PU X cl a fa ua) (hb:PU X cl b fb ub):PU X cl (.BinOp a .Sub b pos) .fresh (p6 (ug fun i j=>.int (i - j)) ua ub):=eY vS oS ha hb
theorem cj (ha:PU X cl a fa ua) (hb:PU X cl b fb ub):PU X cl (.BinOp a .FloorDiv b pos) .fresh (p6 (gI aO fun i j=>.int (i / j)) ua ub):=eY xF oo ha hb
theorem G9 (ha:PU X cl a fa ua) (hb:PU X cl b fb ub):PU X cl (.BinOp a .Mod b pos) .fresh (p6 (gI (fun _ j=>0 < j) fun i j=>.int (i % j)) ua ub):=eY uQ oo ha hb
theorem V2 (ha:PU X cl a fa ua) (hb:PU X cl b fb ub):PU X cl (.BinOp a .Pow b pos) .fresh (p6 (gI gU fun i j=>.int (i ^ j.toNat)) ua ub):=eY CI oo ha hb
theorem Bj (ha:PU X cl a fa ua) (hb:PU X cl b fb ub) (hm:behindInMarks .Lt b = false):PU X cl (.Compare a [.Lt] [b] pos) .fresh (p6 (ug fun i j=>.bl (decide (i < j))) ua ub):=Z8 xI gb ha hb hm
theorem Fj (ha:PU X cl a fa ua) (hb:PU X cl b fb ub) (hm:behindInMarks .Gt b = false):PU X cl (.Compare a [.Gt] [b] pos) .fresh (p6 (ug fun i j=>.bl (decide (j < i))) ua ub):=Z8 Bq gb ha hb hm
noncomputable def Hj:D -> D -> (D -> Prop) -> Prop
 | .str i,.str j,Q=>i.length + j.length <= sizeLine /\ Q (.str (i ++ j))
 | _,_,_=>False
theorem EE:X5 X (fun x y H Q=>∃ i j,x = .str i /\ y = .str j /\ i.length + j.length <= sizeLine /\ Q (.str (i ++ j)) H) Hj:=by
 intro H v w d e A B Q R r1 r2 q k
 cases d <;> cases e <;> first | exact q.elim | skip
 cases D0 r1; cases D0 r2
 exact ⟨_,_,rfl,rfl,q.1,k _ H _ _ (i7.refl H) .str List.nodup_nil (fun _ h=>(by cases h)) q.2⟩
noncomputable def Z2:D -> Bool
 | .non=>true
 | .bl _=>true
 | .int _=>true
 | .str _=>true
 | _=>false
noncomputable def toV:D -> V
 | .non=>.non
 | .bl b=>.bl b
 | .int i=>.int i
 | .str x=>.str x
 | _=>.non
theorem T5 {K:PySem.W.Frag} {H:Hp} {v:V} {d:D} {A:List Addr} (h:Rep K H v d A) (f:Z2 d = true):v = toV d /\ A = []:=by
 cases h <;> first | exact ⟨rfl,rfl⟩ | cases f
noncomputable def ng (neg b:Bool):Bool:=match neg with
 | true=>!b
 | false=>b
noncomputable def GV:D -> D -> Option Bool
 | .int a,.int b=>some (decide (a = b))
 | .str a,.str b=>some (decide (a = b))
 | .bl a,.bl b=>some (decide (a = b))
 | .non,.non=>some true
 | .non,.int _=>some false
 | .int _,.non=>some false
 | .non,.bl _=>some false
 | .bl _,.non=>some false
 | .non,.str _=>some false
 | .str _,.non=>some false
 | .int _,.str _=>some false
 | .str _,.int _=>some false
 | .bl _,.str _=>some false
 | .str _,.bl _=>some false
 | _,_=>none
theorem xl {d e:D} {b:Bool} (h:GV d e = some b):Z2 d = true /\ Z2 e = true /\ CU (toV d) (toV e) = true /\ decide (toV d = toV e) = b:=by
 cases d <;> cases e <;> first | (cases h; done) | skip
 all_goals cases h
 all_goals refine ⟨rfl,rfl,rfl,?_⟩
 all_goals first | rfl | (simp [toV]; done)
noncomputable def Ea (neg:Bool):D -> D -> (D -> Prop) -> Prop:=fun d e Q=>match GV d e with
 | some b=>Q (.bl (ng neg b))
 | none=>False
theorem vV {neg:Bool} {d e:D} {Q:D -> Prop} (h:Ea neg d e Q):∃ b,GV d e = some b /\ Q (.bl (ng neg b)):=by
 unfold Ea at h
 split at h
 ·exact ⟨_,by assumption,h⟩
 ·exact h.elim
theorem vd:X5 X HM (Ea false):=by
 intro H v w d e A B Q R r1 r2 q k
 obtain ⟨b,eb,q⟩:=vV q
 obtain ⟨f1,f2,f3,f4⟩:=xl eb
 obtain ⟨rfl,rfl⟩:=T5 r1 f1
 obtain ⟨rfl,rfl⟩:=T5 r2 f2
 refine ⟨f3,?_⟩
 rw [f4]
 exact k _ H _ _ (i7.refl H) .bl List.nodup_nil (fun _ h=>(by cases h)) q
theorem GS:X5 X Ie (Ea true):=by
 intro H v w d e A B Q R r1 r2 q k
 obtain ⟨b,eb,q⟩:=vV q
 obtain ⟨f1,f2,f3,f4⟩:=xl eb
 obtain ⟨rfl,rfl⟩:=T5 r1 f1
 obtain ⟨rfl,rfl⟩:=T5 r2 f2
 refine ⟨f3,?_⟩
 rw [f4]
 exact k _ H _ _ (i7.refl H) .bl List.nodup_nil (fun _ h=>(by cases h)) q
noncomputable def bW:D -> Bool
 | .non=>true
 | _=>false
noncomputable def HV (neg:Bool):D -> D -> (D -> Prop) -> Prop
 | d,.non,Q=>Q (.bl (ng neg (bW d)))
 | _,_,_=>False
theorem qT {K:PySem.W.Frag} {H:Hp} {v:V} {d:D} {A:List Addr} (h:Rep K H v d A):decide (v = .non) = bW d:=by
 cases h <;> first | rfl | simp [bW]
theorem Hb:X5 X (fun x y H Q=>y = .non /\ Q (.bl (decide (x = .non))) H) (HV false):=by
 intro H v w d e A B Q R r1 r2 q k
 cases e <;> first | exact q.elim | skip
 cases eI r2
 refine ⟨rfl,?_⟩
 rw [qT r1]
 refine k _ H _ _ (i7.refl H) .bl List.nodup_nil (fun _ h=>(by cases h)) ?_
 exact q
theorem CQ:X5 X (fun x y H Q=>y = .non /\ Q (.bl (!decide (x = .non))) H) (HV true):=by
 intro H v w d e A B Q R r1 r2 q k
 cases e <;> first | exact q.elim | skip
 cases eI r2
 refine ⟨rfl,?_⟩
 rw [qT r1]
 refine k _ H _ _ (i7.refl H) .bl List.nodup_nil (fun _ h=>(by cases h)) ?_
 exact q
noncomputable def tQ:D -> Option (List D)
 | .lst xs=>some xs
 | .tup xs=>some xs
 | .fz xs=>some xs
 | _=>none
theorem eN {K:PySem.W.Frag} {H:Hp} {v:V} {d:D} {A:List Addr} {xs:List D} (h:Rep K H v d A) (e:tQ d = some xs):∃ p vs B,v = .ref p /\ (S3 K H p vs \/ O8 K H p vs) /\ n8 K H vs xs B /\ B.Sublist A:=by
 cases h with
 | tup h r=>cases e; exact ⟨_,_,_,rfl,.inr (O8.of h),r,List.Sublist.refl _⟩
 | lst h r=>cases e; exact ⟨_,_,_,rfl,.inl (S3.of h),r,List.sublist_cons_self _ _⟩
 | frz h r=>cases e; exact ⟨_,_,_,rfl,.inl h.sq,r,List.Sublist.refl _⟩
 | _=>cases e
theorem mF {d:D} (h:Z2 d = true):aT (toV d) = true:=by cases d <;> first | rfl | cases h
theorem n8.flat:∀ {K:PySem.W.Frag} {H:Hp} {vs:List V} {ds:List D} {A:List Addr},n8 K H vs ds A -> ds.all Z2 = true -> vs = ds.map toV /\ vs.all aT = true
 | _,_,_,_,_,.nil,_=>⟨rfl,rfl⟩
 | _,_,_,_,_,.cons h r,f=>by
  rw [List.all_cons,Bool.and_eq_true] at f
  obtain ⟨e1,_⟩:=T5 h f.1
  obtain ⟨e2,e3⟩:=r.flat f.2
  subst e1
  refine ⟨by rw [List.map_cons,<- e2],?_⟩
  rw [List.all_cons,e3,Bool.and_true]
  exact mF f.1
noncomputable def inD (x:D) (xs:List D):Bool:=xs.any fun y=>zY (toV y) (toV x)
noncomputable def HN (neg:Bool):D -> D -> (D -> Prop) -> Prop:=fun d e Q=>Z2 d = true /\ ∃ xs,tQ e = some xs /\ xs.all Z2 = true /\ Q (.bl (ng neg (inD d xs)))
theorem GY {neg:Bool}:X5 X (FU X.K neg) (HN neg):=by
 intro H v w d e A B Q R r1 r2 q k
 obtain ⟨f1,xs,e1,f2,q⟩:=q
 obtain ⟨rfl,rfl⟩:=T5 r1 f1
 obtain ⟨p,vs,C,rfl,hq,r,_⟩:=eN r2 e1
 obtain ⟨rfl,f3⟩:=r.flat f2
 refine ⟨p,_,rfl,hq,mF f1,f3,k _ H _ _ (i7.refl H) .bl List.nodup_nil (fun _ h=>(by cases h)) ?_⟩
 have e2:Gx (toV d) (xs.map toV) = inD d xs:=by unfold Gx inD; rw [List.any_map]; rfl
 rw [e2]
 cases neg
 ·exact q
 ·exact q
theorem n8.P1 {K:PySem.W.Frag} {H:Hp} {vs:List V} {ds:List D} {A:List Addr} {i:Int} {d:D} (r:n8 K H vs ds A) (h:L2.P1 ds i = some d):∃ v B,L2.P1 vs i = some v /\ Rep K H v d B /\ B.Sublist A:=by
 unfold L2.P1 at h ⊢
 rw [r.length]
 cases e:kc ds.length i with
 | none=>rw [e] at h; cases h
 | some j=>
  rw [e] at h
  exact r.get h
noncomputable def HS:D -> D -> (D -> Prop) -> Prop
 | .str z,.int i,Q=>z.length <= sizeLine /\ ∃ c,L2.P1 z.cps.toList i = some c /\ Q (.str ⟨#[c]⟩)
 | .lst xs,.int i,Q=>∃ d,L2.P1 xs i = some d /\ Q d
 | .tup xs,.int i,Q=>∃ d,L2.P1 xs i = some d /\ Q d
 | .fz xs,.int i,Q=>∃ d,L2.P1 xs i = some d /\ Q d
 | _,_,_=>False
end
end
end L3
namespace L3
open PySem PySem.Spec L2
section
variable {X:Cx} {cl:List Cl} {e a b c:Expr} {es:List Expr} {f:Fl} {pos:Pos} {ua ub uc:TU} {fa fb fc:Fl}
noncomputable abbrev ck:=Ev -> (List D -> Prop) -> Prop
structure EJ (X:Cx) (cl:List Cl) (es:List Expr) (u:ck):Prop where
 of ::
 run:∃ t,PA X es t /\ ∀ (G:Ent) (ρ:Ev) (σ:St) (H:Hp) (fa:Nat -> List Addr) (Q:List D -> Prop) (R:List V -> Hp -> Prop),G.cl = cl -> E3 X.K G ρ σ H fa -> u ρ Q ->
  (∀ vs H' ds A,i7 H H' -> n8 X.K H' vs ds A -> A.Nodup -> (∀ a ∈ A,H a = none) -> ds.length = es.length -> Q ds -> R vs H') -> t σ H R
structure wq (X:Cx) (cl:List Cl) (es:List Expr) (u:ck):Prop where
 of ::
 run:∃ t,PA X es t /\ ∀ (G:Ent) (ρ:Ev) (σ:St) (H:Hp) (fa:Nat -> List Addr) (Q:List D -> Prop) (R:List V -> Hp -> Prop),G.cl = cl -> E3 X.K G ρ σ H fa -> u ρ Q ->
  (∀ vs H' ds A,i7 H H' -> n8 X.K H' vs ds A -> ds.length = es.length -> Q ds -> R vs H') -> t σ H R
def j4:ck:=fun _ Q=>Q []
def g9 (ua:TU) (us:ck):ck:=fun ρ Q=>ua ρ fun x=>us ρ fun xs=>Q (x :: xs)
theorem C0:EJ X cl [] j4:=.of ⟨_,R7,fun G ρ σ H fa Q R _ E hu k=>k [] H [] [] (i7.refl H) .nil List.nodup_nil (fun _ h=>(by cases h)) rfl hu⟩
theorem i3:wq X cl [] j4:=.of ⟨_,R7,fun G ρ σ H fa Q R _ E hu k=>k [] H [] [] (i7.refl H) .nil rfl hu⟩
theorem Rep.there {K:PySem.W.Frag} {H:Hp} {v:V} {d:D} {A:List Addr} (r:Rep K H v d A) {x:Addr} (hx:x ∈ A):H x ≠ none:=fun z=>by
 have:=r.X0 x hx
 rw [z] at this
 exact this
theorem i9 {us:ck} (ha:PU X cl e .fresh ua) (hr:EJ X cl es us) (hs:isStar e = false):EJ X cl (e :: es) (g9 ua us):=.of <| by
 obtain ⟨t1,p1,h1⟩:=ha.run
 obtain ⟨t2,p2,h2⟩:=hr.run
 refine ⟨_,cK p1 p2 hs,fun G ρ σ H fa Q R hG E hu k=>?_⟩
 refine h1 G ρ σ H fa _ _ hG E hu fun v H1 d A s1 r1 f1 q1=>?_
 refine h2 G ρ σ H1 fa _ _ hG (E.same s1) q1 fun vs H2 ds B s2 r2 n1 n2 n3 q2=>?_
 refine k (v :: vs) H2 (d :: ds) (A ++ B) (s1.trans s2) (.cons (r1.same s2) r2) ?_ (fun x hx=>?_) (by simp [n3]) q2
 ·refine List.nodup_append.mpr ⟨f1.1,n1,fun x hx y hy e=>?_⟩
  subst e
  exact r1.there hx (n2 x hy)
 ·rcases List.mem_append.mp hx with z | z
  ·exact f1.2 x z
  ·exact s1.free (n2 x z)
theorem e9 {us:ck} (ha:PU X cl e f ua) (hr:wq X cl es us) (hs:isStar e = false):wq X cl (e :: es) (g9 ua us):=.of <| by
 obtain ⟨t1,p1,h1⟩:=ha.run
 obtain ⟨t2,p2,h2⟩:=hr.run
 refine ⟨_,cK p1 p2 hs,fun G ρ σ H fa Q R hG E hu k=>?_⟩
 refine h1 G ρ σ H fa _ _ hG E hu fun v H1 d A s1 r1 f1 q1=>?_
 refine h2 G ρ σ H1 fa _ _ hG (E.same s1) q1 fun vs H2 ds B s2 r2 n3 q2=>?_
 exact k (v :: vs) H2 (d :: ds) (A ++ B) (s1.trans s2) (.cons (r1.same s2) r2) (by simp [n3]) q2
def gX (us:ck):TU:=fun ρ Q=>us ρ fun xs=>Q (.lst xs)
def bY (us:ck):TU:=fun ρ Q=>us ρ fun xs=>Q (.tup xs)
theorem bt {n:Nat} (h:n <= 1000):n <= sizeLine:=Nat.le_of_lt (rN h)
theorem U1 {us:ck} (h:EJ X cl es us) (hn:Nat.ble es.length 1000 = true):PU X cl (.List es pos) .fresh (gX us):=.of <| by
 obtain ⟨t,p,h⟩:=h.run
 refine ⟨_,wR p,fun G ρ σ H fa Q R hG E hu k=>?_⟩
 refine h G ρ σ H fa _ _ hG E hu fun vs H1 ds A s r n1 n2 n3 q=>⟨by rw [r.length,n3]; exact bt (Nat.le_of_ble_eq_true hn),fun x hx=>?_⟩
 refine k _ _ (.lst ds) (x :: A) (s.trans (i7.n9 hx)) (.lst i4 (r.same (i7.n9 hx))) ⟨List.nodup_cons.mpr ⟨fun z=>?_,n1⟩,fun y hy=>?_⟩ q
 ·have:=r.X0 x z
  rw [hx] at this; exact this
 ·rcases List.mem_cons.mp hy with z | z
  ·rw [z]; exact s.free hx
  ·exact n2 y z
theorem L6 {us:ck} {x1} (h:EJ X cl es us) (hn:Nat.ble es.length 1000 = true):PU X cl (.Tuple es x1 pos) .fresh (bY us):=.of <| by
 obtain ⟨t,p,h⟩:=h.run
 refine ⟨_,xG p,fun G ρ σ H fa Q R hG E hu k=>?_⟩
 refine h G ρ σ H fa _ _ hG E hu fun vs H1 ds A s r n1 n2 n3 q=>⟨by rw [r.length,n3]; exact bt (Nat.le_of_ble_eq_true hn),fun x hx=>?_⟩
 exact k _ _ (.tup ds) A (s.trans (i7.n9 hx)) (.tup i4 (r.same (i7.n9 hx))) ⟨n1,n2⟩ q
def Call3 (X:Cx) (r:List V -> Hp -> VK -> Prop) (g:List D -> (D -> Prop) -> Prop):Prop:=∀ (H:Hp) (vs:List V) (ds:List D) (A:List Addr) (Q:D -> Prop) (R:VK),n8 X.K H vs ds A -> g ds Q ->
 (∀ x H' y C,i7 H H' -> Rep X.K H' x y C -> C.Nodup -> (∀ a ∈ C,H a = none) -> Q y -> R x H') -> r vs H R
def S2 (g:List D -> (D -> Prop) -> Prop) (us:ck):TU:=fun ρ Q=>us ρ fun ds=>g ds Q
theorem HX {us:ck} {r:List V -> Hp -> VK -> Prop} {g:List D -> (D -> Prop) -> Prop} (o:Call3 X r g) (h:wq X cl es us) (mk:∀ {t},PA X es t -> PE X e (Gr r t)):PU X cl e .fresh (S2 g us):=.of <| by
 obtain ⟨t,p,h⟩:=h.run
 refine ⟨_,mk p,fun G ρ σ H fa Q R hG E hu k=>?_⟩
 refine h G ρ σ H fa _ _ hG E hu fun vs H1 ds A s r n3 q=>?_
 exact o H1 vs ds A Q R r q fun x H2 y C s2 r2 n1 n2 q2=>k x H2 y C (s.trans s2) r2 ⟨n1,fun a ha=>s.free (n2 a ha)⟩ q2
section
variable {id T:String} {r:List V -> Hp -> VK -> Prop} {g:List D -> (D -> Prop) -> Prop} {x:Str} {p:Pos} {us:ck}
theorem o8 (hc:Z6 X (.builtin id) r) (o:Call3 X r g) (hg:Gl X x) (hm:X.mg x = none) (hv:bootBuiltins x = some (.builtin id)) (ha:wq X cl (e :: es) us) (hn:x ≠ "__name__" := by decide) (hd:(x == ("__debug__" : Str)) = false:=by decide)
  (he:starEach (e :: es) X.env = (false,eval e X.env) :: starEach es X.env:=by rfl) (hpl:(backTo pos (starEach es X.env)).any (·.1) = false:=by rfl):PU X cl (.Call (.Name x p) (e :: es) [] pos) .fresh (S2 g us):=
 HX o ha fun pa=>wC hc hg hm hv pa hn hd he hpl
theorem C3 (hc:Z6 X (.type T) r) (o:Call3 X r g) (hg:Gl X x) (hm:X.mg x = none) (hv:bootBuiltins x = some (.type T)) (ha:wq X cl (e :: es) us) (hn:x ≠ "__name__" := by decide) (hd:(x == ("__debug__" : Str)) = false:=by decide)
  (he:starEach (e :: es) X.env = (false,eval e X.env) :: starEach es X.env:=by rfl) (hpl:(backTo pos (starEach es X.env)).any (·.1) = false:=by rfl):PU X cl (.Call (.Name x p) (e :: es) [] pos) .fresh (S2 g us):=
 HX o ha fun pa=>iC hc hg hm hv pa hn hd he hpl
end
theorem n8.one {K:PySem.W.Frag} {H:Hp} {vs:List V} {d:D} {A:List Addr} (r:n8 K H vs [d] A):∃ v,vs = [v] /\ Rep K H v d A:=by
 cases r with
 | cons h t=>cases t; exact ⟨_,rfl,by rw [List.append_nil]; exact h⟩
theorem n8.two {K:PySem.W.Frag} {H:Hp} {vs:List V} {d e:D} {A:List Addr} (r:n8 K H vs [d,e] A):∃ v w B C,vs = [v,w] /\ Rep K H v d B /\ Rep K H w e C /\ A = B ++ C:=by
 cases r with
 | cons h t=>
  cases t with
  | cons h2 t2=>cases t2; exact ⟨_,_,_,_,rfl,h,h2,by rw [List.append_nil]⟩
theorem K1 {K:PySem.W.Frag} {H:Hp} {v:V} {xs:List D} {A:List Addr} (h:Rep K H v (.lst xs) A):∃ p vs B,v = .ref p /\ H p = some (.lst vs) /\ n8 K H vs xs B /\ A = p :: B:=by
 cases h with
 | lst h r=>exact ⟨_,_,_,rfl,h,r,rfl⟩
theorem fT {K:PySem.W.Frag} {H:Hp} {v:V} {xs:List D} {A:List Addr} (h:Rep K H v (.fz xs) A):∃ p vs,v = .ref p /\ BP K H p vs /\ n8 K H vs xs A:=by
 cases h with
 | frz h r=>exact ⟨_,_,rfl,h,r⟩
theorem K4 {K:PySem.W.Frag} {H:Hp} {v:V} {xs:List D} {A:List Addr} (h:Rep K H v (.tup xs) A):∃ p vs,v = .ref p /\ H p = some (.tup vs) /\ n8 K H vs xs A:=by
 cases h with
 | tup h r=>exact ⟨_,_,rfl,h,r⟩
noncomputable def X6:List D -> (D -> Prop) -> Prop
 | [.lst xs],Q=>Q (.int xs.length)
 | [.tup xs],Q=>Q (.int xs.length)
 | [.fz xs],Q=>Q (.int xs.length)
 | [.str z],Q=>z.length <= sizeLine /\ Q (.int z.length)
 | _,_=>False
theorem O2:Call3 X (fun xs H Q=>∃ x n,xs = [x] /\ DP X.K x H n /\ Q (.int n) H) X6:=by
 intro H vs ds A Q R r q k
 have fin:∀ {n:Nat},Q (.int n) -> R (.int n) H:=fun q=>k _ H _ _ (i7.refl H) .int List.nodup_nil (fun _ h=>(by cases h)) q
 have sq:∀ {d:D} {xs:List D},ds = [d] -> tQ d = some xs -> Q (.int xs.length) -> ∃ x n,vs = [x] /\ DP X.K x H n /\ R (.int n) H:=fun {d xs} e1 e2 qq=>by
  subst e1
  obtain ⟨v,rfl,rr⟩:=r.one
  obtain ⟨p,ws,B,rfl,hq,r2,_⟩:=eN rr e2
  refine ⟨_,ws.length,rfl,?_,fin (by rw [r2.length]; exact qq)⟩
  rcases hq with hq | hq
  ·exact .inl ⟨_,hq,rfl⟩
  ·exact .inr ⟨_,hq,rfl⟩
 unfold X6 at q
 split at q
 ·exact sq rfl rfl q
 ·exact sq rfl rfl q
 ·exact sq rfl rfl q
 ·obtain ⟨v,rfl,rr⟩:=r.one
  cases D0 rr
  exact ⟨_,_,rfl,⟨q.1,rfl⟩,fin q.2⟩
 ·exact q.elim
noncomputable def qP:List D -> (D -> Prop) -> Prop:=fun ds Q=>∃ d xs,ds = [d] /\ tQ d = some xs /\ y8 xs = true /\ Q (.lst xs)
theorem oY:Call3 X (fun xs H Q=>∃ p ys,xs = [.ref p] /\ (S3 X.K H p ys \/ O8 X.K H p ys) /\ ∀ l,H l = none -> Q (.ref l) (upd H l (.lst ys))) qP:=by
 intro H vs ds A Q R r q k
 obtain ⟨d,xs,rfl,e,im,q⟩:=q
 obtain ⟨v,rfl,rr⟩:=r.one
 obtain ⟨p,ws,B,rfl,hq,r2,_⟩:=eN rr e
 have eB:=r2.M1 im
 subst eB
 refine ⟨p,ws,rfl,hq,fun l hl=>k _ _ (.lst xs) [l] (i7.n9 hl) (.lst i4 (r2.same (i7.n9 hl))) (by simp) (fun a ha=>?_) q⟩
 have:a = l:=by simpa using ha
 rw [this]; exact hl
noncomputable def S0:List D -> (D -> Prop) -> Prop:=fun ds Q=>∃ d xs,ds = [d] /\ tQ d = some xs /\ y8 xs = true /\ Q (.tup xs)
theorem O5:Call3 X (fun xs H Q=>∃ p ys,xs = [.ref p] /\ ((S3 X.K H p ys /\ ∀ l,H l = none -> Q (.ref l) (upd H l (.tup ys))) \/ (O8 X.K H p ys /\ Q (.ref p) H))) S0:=by
 intro H vs ds A Q R r q k
 obtain ⟨d,xs,rfl,e,im,q⟩:=q
 obtain ⟨v,rfl,rr⟩:=r.one
 cases d with
 | lst ys=>
  cases e
  obtain ⟨p,ws,B,rfl,hq,r2,_⟩:=K1 rr
  have eB:=r2.M1 im
  subst eB
  exact ⟨p,ws,rfl,.inl ⟨S3.of hq,fun l hl=>k _ _ (.tup xs) [] (i7.n9 hl) (.tup i4 (r2.same (i7.n9 hl))) List.nodup_nil (fun a ha=>(by cases ha)) q⟩⟩
 | fz ys=>
  cases e
  obtain ⟨p,ws,rfl,hq,r2⟩:=fT rr
  have eB:=r2.M1 im
  subst eB
  exact ⟨p,ws,rfl,.inl ⟨hq.sq,fun l hl=>k _ _ (.tup xs) [] (i7.n9 hl) (.tup i4 (r2.same (i7.n9 hl))) List.nodup_nil (fun a ha=>(by cases ha)) q⟩⟩
 | tup ys=>
  cases e
  obtain ⟨p,ws,rfl,hq,r2⟩:=K4 rr
  have eB:=r2.M1 im
  subst eB
  exact ⟨_,_,rfl,.inr ⟨O8.of hq,k _ H (.tup xs) [] (i7.refl H) rr List.nodup_nil (fun a ha=>(by cases ha)) q⟩⟩
 | _=>cases e
noncomputable def Er:List D -> (D -> Prop) -> Prop
 | [.int i],Q=>Q (.int i)
 | [.bl k],Q=>Q (.int (if k then 1 else 0))
 | _,_=>False
theorem Bg:Call3 X (fun xs H Q=>(∃ i,xs = [.int i] /\ Q (.int i) H) \/ ∃ k,xs = [.bl k] /\ Q (.int (if k then 1 else 0)) H) Er:=by
 intro H vs ds A Q R r q k
 unfold Er at q
 split at q
 ·obtain ⟨v,rfl,rr⟩:=r.one
  cases B3 rr
  exact .inl ⟨_,rfl,k _ H _ _ (i7.refl H) .int List.nodup_nil (fun _ h=>(by cases h)) q⟩
 ·obtain ⟨v,rfl,rr⟩:=r.one
  cases N8 rr
  exact .inr ⟨_,rfl,k _ H _ _ (i7.refl H) .int List.nodup_nil (fun _ h=>(by cases h)) q⟩
 ·exact q.elim
end
end L3
namespace L3
open PySem PySem.Spec L2
structure Br (b:Bool) (P Q:Prop):Prop where
 t:b = true -> P
 f:b = false -> Q
theorem Br.yes {b:Bool} {P Q:Prop} (h:b = true) (p:P):Br b P Q:=⟨fun _=>p,fun e=>by rw [h] at e; cases e⟩
theorem Br.no {b:Bool} {P Q:Prop} (h:b = false) (p:Q):Br b P Q:=⟨fun e=>(by rw [h] at e; cases e),fun _=>p⟩
noncomputable abbrev cE:=Ev -> (Bool -> Prop) -> Prop
section
variable {X:Cx} {cl:List Cl} {e a b c:Expr} {es:List Expr} {f:Fl} {pos:Pos} {ua ub uc:TU} {fa fb fc:Fl}
def uT (u:TU):cE:=fun ρ Q=>u ρ fun d=>match d with
 | .bl k=>Q k
 | _=>False
theorem V3 {r:R2} {op:CmpOp} {g:D -> D -> (D -> Prop) -> Prop} (ho:J4 X (compareOp op) r) (o:X5 X r g) (ha:PU X cl a fa ua) (hb:PU X cl b fb ub) (hm:behindInMarks op b = false):L5 X cl (.Compare a [op] [b] pos) (uT (p6 g ua ub)):=.of <| by
 obtain ⟨ta,tb,pa,pb,h⟩:=u2 ha hb
 refine ⟨_,qx ho pa pb hm,fun G ρ σ H fo Q R hG E hu k=>?_⟩
 refine h G ρ σ H fo (fun d e=>g d e fun d=>match d with | .bl k=>Q k | _=>False) _ hG E hu fun v w H' d e A B s r1 r2 _ _ q=>?_
 refine o H' v w d e A B _ _ r1 r2 q fun x H2 y C s2 r3 n1 n2 q2=>?_
 cases y <;> first | exact (show False from q2).elim | skip
 cases N8 r3
 exact ⟨_,rfl,k _ H2 (s.trans s2) q2⟩
theorem kT (ha:PU X cl a fa ua) (hb:PU X cl b fb ub) (hm:behindInMarks .Lt b = false):L5 X cl (.Compare a [.Lt] [b] pos) (uT (p6 (ug fun i j=>.bl (decide (i < j))) ua ub)):=V3 xI gb ha hb hm
theorem mX (ha:PU X cl a fa ua) (hb:PU X cl b fb ub) (hm:behindInMarks .Gt b = false):L5 X cl (.Compare a [.Gt] [b] pos) (uT (p6 (ug fun i j=>.bl (decide (j < i))) ua ub)):=V3 Bq gb ha hb hm
theorem FF (ha:PU X cl a fa ua) (hb:PU X cl b fb ub) (hm:behindInMarks .GtE b = false):L5 X cl (.Compare a [.GtE] [b] pos) (uT (p6 (ug fun i j=>.bl (decide (j <= i))) ua ub)):=V3 Ga gb ha hb hm
def Z0 (g g':D -> D -> (D -> Prop) -> Prop) (ua ub uc:TU):TU:=fun ρ Q=>ua ρ fun x=>ub ρ fun y=>g x y fun z=>match z with
 | .bl k=>Br k (uc ρ fun w=>g' y w Q) (Q (.bl false))
 | _=>False
theorem Ia {r r':R2} {g g':D -> D -> (D -> Prop) -> Prop} (o:X5 X r g) (o':X5 X r' g') (ha:PU X cl a fa ua) (hb:PU X cl b fb ub) (hc:PU X cl c fc uc):∃ ta tb tc,PE X a ta /\ PE X b tb /\ PE X c tc /\ ∀ (G:Ent) (ρ:Ev) (σ:St) (H:Hp) (fo:Nat -> List Addr) (Q:D -> Prop) (R:VK),G.cl = cl -> E3 X.K G ρ σ H fo -> Z0 g g' ua ub uc ρ Q ->
  (∀ v H' d B,i7 H H' -> Rep X.K H' v d B -> A3 G H fo B .fresh -> Q d -> R v H') -> oU r r' ta tb tc σ H R:=by
 obtain ⟨ta,tb,pa,pb,h⟩:=u2 ha hb
 obtain ⟨tc,pc,hc⟩:=hc.run
 refine ⟨ta,tb,tc,pa,pb,pc,fun G ρ σ H fo Q R hG E hu k=>?_⟩
 refine h G ρ σ H fo _ _ hG E hu fun v w H' d e A B s r1 r2 _ _ q=>?_
 refine o H' v w d e A B _ _ r1 r2 q fun x H2 y C s2 r3 n1 n2 q2=>?_
 cases y <;> first | exact (show False from q2).elim | skip
 rename_i kk
 cases N8 r3
 refine ⟨_,rfl,?_⟩
 have q2:Br kk (uc ρ fun w=>g' e w Q) (Q (.bl false)):=q2
 cases kk with
 | false=>
  rw [if_neg Bool.false_ne_true]
  exact k _ H2 _ [] (s.trans s2) .bl (A3.nil _) (q2.f rfl)
 | true=>
  rw [if_pos rfl]
  refine hc G ρ σ H2 fo _ _ hG (E.same (s.trans s2)) (q2.t rfl) fun w' H3 d' B' s3 r4 _ q3=>?_
  exact o' H3 w w' e d' B B' _ _ (r2.same (s2.trans s3)) r4 q3 fun x H4 y C s4 r5 n1 n2 q4=>k x H4 y C (((s.trans s2).trans s3).trans s4) r5 ⟨n1,fun a ha=>((s.trans s2).trans s3).free (n2 a ha)⟩ q4
theorem mI {r r':R2} {op op':CmpOp} {g g':D -> D -> (D -> Prop) -> Prop} (ho:J4 X (compareOp op) r) (ho':J4 X (compareOp op') r') (o:X5 X r g) (o':X5 X r' g') (ha:PU X cl a fa ua) (hb:PU X cl b fb ub) (hc:PU X cl c fc uc) (hm:lastMarks [op,op'] [b,c] = false):PU X cl (.Compare a [op,op'] [b,c] pos) .fresh (Z0 g g' ua ub uc):=.of <| by
 obtain ⟨ta,tb,tc,pa,pb,pc,h⟩:=Ia o o' ha hb hc
 exact ⟨_,vR ho ho' pa pb pc hm,h⟩
theorem fP {r r':R2} {op op':CmpOp} {g g':D -> D -> (D -> Prop) -> Prop} (ho:J4 X (compareOp op) r) (ho':J4 X (compareOp op') r') (o:X5 X r g) (o':X5 X r' g') (ha:PU X cl a fa ua) (hb:PU X cl b fb ub) (hc:PU X cl c fc uc) (hm:lastMarks [op,op'] [b,c] = false):L5 X cl (.Compare a [op,op'] [b,c] pos) (uT (Z0 g g' ua ub uc)):=.of <| by
 obtain ⟨ta,tb,tc,pa,pb,pc,h⟩:=Ia o o' ha hb hc
 refine ⟨_,wc ho ho' pa pb pc hm,fun G ρ σ H fo Q R hG E hu k=>h G ρ σ H fo _ _ hG E hu fun v H' d B s r _ q=>?_⟩
 cases d <;> first | exact (show False from q).elim | skip
 cases N8 r
 exact ⟨_,rfl,k _ H' s q⟩
def N4 (u:TU):cE:=fun ρ Q=>u ρ fun d=>match d with
 | .non=>Q false
 | .bl k=>Q k
 | .int i=>Q (i != 0)
 | .str y=>y.length <= sizeLine /\ Q ((y.length:Int) != 0)
 | .lst xs=>Q (!xs.isEmpty)
 | .tup xs=>Q (!xs.isEmpty)
 | .fz xs=>Q (!xs.isEmpty)
 | .dic kvs=>Q (!kvs.isEmpty)
 | _=>False
theorem C9.empty {K:PySem.W.Frag} {H:Hp} {kvs:List (Key × V)} {kds:List (Key × D)} {A:List Addr} (r:C9 K H kvs kds A):kvs.isEmpty = kds.isEmpty:=by cases r <;> rfl
theorem n8.empty {K:PySem.W.Frag} {H:Hp} {kvs:List V} {kds:List D} {A:List Addr} (r:n8 K H kvs kds A):kvs.isEmpty = kds.isEmpty:=by cases r <;> rfl
theorem p5 (h:PU X cl e f ua) (he:∀ whole,isTrue e X.env whole = (do let v <- whole; standAt e.pos; holding [v] (truthy v))):L5 X cl e (N4 ua):=.of <| by
 obtain ⟨t,p,h⟩:=h.run
 refine ⟨_,vC p he,fun G ρ σ H fo Q R hG E hu k=>h G ρ σ H fo _ _ hG E hu fun v H' d B s r _ q=>?_⟩
 cases d with
 | non=>cases eI r; exact ⟨_,rfl,k _ H' s q⟩
 | bl i=>cases N8 r; exact ⟨_,rfl,k _ H' s q⟩
 | int i=>cases B3 r; exact ⟨_,rfl,k _ H' s q⟩
 | str i=>cases D0 r; exact ⟨_,⟨q.1,rfl⟩,k _ H' s q.2⟩
 | lst xs=>
  obtain ⟨p,vs,B,rfl,hq,r2,_⟩:=K1 r
  exact ⟨_,.inl ⟨vs,S3.of hq,rfl⟩,by rw [r2.empty]; exact k _ H' s q⟩
 | tup xs=>
  obtain ⟨p,vs,rfl,hq,r2⟩:=K4 r
  exact ⟨_,.inr (.inl ⟨vs,O8.of hq,rfl⟩),by rw [r2.empty]; exact k _ H' s q⟩
 | fz xs=>
  obtain ⟨p,vs,rfl,hq,r2⟩:=fT r
  exact ⟨_,.inl ⟨vs,hq.sq,rfl⟩,by rw [r2.empty]; exact k _ H' s q⟩
 | dic kvs=>
  cases r with
  | dic hq r2=>exact ⟨_,.inr (.inr ⟨_,.inr ⟨_,hq⟩,rfl⟩),by rw [r2.empty]; exact k _ H' s q⟩
 | _=>exact (show False from q).elim
structure cw (X:Cx) (cl:List Cl) (e:Expr) (u:cE):Prop where
 of ::
 run:∃ t,PW X e t /\ ∀ (G:Ent) (ρ:Ev) (σ:St) (H:Hp) (fa:Nat -> List Addr) (Q:Bool -> Prop) (R:Bool -> Hp -> Prop),G.cl = cl -> E3 X.K G ρ σ H fa -> u ρ Q ->
  (∀ b H',i7 H H' -> Q b -> R b H') -> t σ H R
theorem cw.pt {u:cE} (h:cw X cl e u):L5 X cl e u:=.of <| let ⟨t,p,h⟩:=h.run; ⟨t,PW.pt p,h⟩
def K5 (c:cE):cE:=fun ρ Q=>c ρ fun k=>Q (!k)
def yP (c d:cE):cE:=fun ρ Q=>c ρ fun k=>Br k (d ρ Q) (Q false)
def jm (c d:cE):cE:=fun ρ Q=>c ρ fun k=>Br k (Q true) (d ρ Q)
variable {tc td:cE} {rest:List Expr}
theorem x6 (h:L5 X cl a tc):L5 X cl (.UnaryOp .Not a pos) (K5 tc):=.of <| by
 obtain ⟨t,p,h⟩:=h.run
 exact ⟨_,Dr p,fun G ρ σ H fo Q R hG E hu k=>h G ρ σ H fo _ _ hG E hu fun b H' s q=>k _ H' s q⟩
theorem jy (h:L5 X cl a tc):cw X cl (.BoolOp .And [a] pos) tc:=.of <| let ⟨t,p,h⟩:=h.run; ⟨t,Ae p,h⟩
theorem G4 (h:L5 X cl a tc):cw X cl (.BoolOp .Or [a] pos) tc:=.of <| let ⟨t,p,h⟩:=h.run; ⟨t,Cr p,h⟩
theorem pV (h:L5 X cl a tc) (h2:cw X cl (.BoolOp .And (b :: rest) pos) td):cw X cl (.BoolOp .And (a :: b :: rest) pos) (yP tc td):=.of <| by
 obtain ⟨t,p,h⟩:=h.run
 obtain ⟨t2,p2,h2⟩:=h2.run
 refine ⟨_,BS p p2,fun G ρ σ H fo Q R hG E hu k=>h G ρ σ H fo _ _ hG E hu fun b H' s q=>?_⟩
 cases b with
 | true=>
  rw [if_pos rfl]
  exact h2 G ρ σ H' fo Q R hG (E.same s) (q.t rfl) fun b H2 s2 q2=>k b H2 (s.trans s2) q2
 | false=>rw [if_neg Bool.false_ne_true]; exact k _ H' s (q.f rfl)
theorem N1 (h:L5 X cl a tc) (h2:cw X cl (.BoolOp .Or (b :: rest) pos) td):cw X cl (.BoolOp .Or (a :: b :: rest) pos) (jm tc td):=.of <| by
 obtain ⟨t,p,h⟩:=h.run
 obtain ⟨t2,p2,h2⟩:=h2.run
 refine ⟨_,El p p2,fun G ρ σ H fo Q R hG E hu k=>h G ρ σ H fo _ _ hG E hu fun b H' s q=>?_⟩
 cases b with
 | true=>rw [if_pos rfl]; exact k _ H' s (q.t rfl)
 | false=>
  rw [if_neg Bool.false_ne_true]
  exact h2 G ρ σ H' fo Q R hG (E.same s) (q.f rfl) fun b H2 s2 q2=>k b H2 (s.trans s2) q2
def fR (ua ub:TU):TU:=fun ρ Q=>ua ρ fun x=>match x with
 | .bl k=>Br k (ub ρ Q) (Q (.bl false))
 | _=>False
def HR (ua ub:TU):TU:=fun ρ Q=>ua ρ fun x=>match x with
 | .bl k=>Br k (Q (.bl true)) (ub ρ Q)
 | _=>False
def Fq (ua:TU):TU:=fun ρ Q=>ua ρ fun x=>match x with
 | .bl k=>Q (.bl (!k))
 | _=>False
theorem U8 {op} (h:PU X cl a f ua):PU X cl (.BoolOp op [a] pos) f ua:=.of <| let ⟨t,p,h⟩:=h.run; ⟨t,DL p,h⟩
theorem R8 (h:PU X cl a fa ua) (h2:PU X cl (.BoolOp .And (b :: rest) pos) fb ub):PU X cl (.BoolOp .And (a :: b :: rest) pos) fb (fR ua ub):=.of <| by
 obtain ⟨t,p,h⟩:=h.run
 obtain ⟨t2,p2,h2⟩:=h2.run
 refine ⟨_,BA p p2,fun G ρ σ H fo Q R hG E hu k=>h G ρ σ H fo _ _ hG E hu fun v H' d B s r _ q=>?_⟩
 cases d <;> first | exact (show False from q).elim | skip
 rename_i b
 cases N8 r
 refine ⟨_,rfl,?_⟩
 have q:Br b (ub ρ Q) (Q (.bl false)):=q
 cases b with
 | true=>
  rw [if_pos rfl]
  exact h2 G ρ σ H' fo Q R hG (E.same s) (q.t rfl) fun v H2 d B s2 r2 f2 q2=>k v H2 d B (s.trans s2) r2 (f2.back s) q2
 | false=>rw [if_neg Bool.false_ne_true]; exact k _ H' _ [] s .bl (A3.nil _) (q.f rfl)
theorem ER (h:PU X cl a fa ua) (h2:PU X cl (.BoolOp .Or (b :: rest) pos) fb ub):PU X cl (.BoolOp .Or (a :: b :: rest) pos) fb (HR ua ub):=.of <| by
 obtain ⟨t,p,h⟩:=h.run
 obtain ⟨t2,p2,h2⟩:=h2.run
 refine ⟨_,Fu p p2,fun G ρ σ H fo Q R hG E hu k=>h G ρ σ H fo _ _ hG E hu fun v H' d B s r _ q=>?_⟩
 cases d <;> first | exact (show False from q).elim | skip
 rename_i b
 cases N8 r
 refine ⟨_,rfl,?_⟩
 have q:Br b (Q (.bl true)) (ub ρ Q):=q
 cases b with
 | true=>rw [if_pos rfl]; exact k _ H' _ [] s .bl (A3.nil _) (q.t rfl)
 | false=>
  rw [if_neg Bool.false_ne_true]
  exact h2 G ρ σ H' fo Q R hG (E.same s) (q.f rfl) fun v H2 d B s2 r2 f2 q2=>k v H2 d B (s.trans s2) r2 (f2.back s) q2
theorem BQ (h:PU X cl a fa ua):PU X cl (.UnaryOp .Not a pos) .fresh (Fq ua):=.of <| by
 obtain ⟨t,p,h⟩:=h.run
 refine ⟨_,Bu p,fun G ρ σ H fo Q R hG E hu k=>h G ρ σ H fo _ _ hG E hu fun v H' d B s r _ q=>?_⟩
 cases d <;> first | exact (show False from q).elim | skip
 cases N8 r
 exact ⟨_,rfl,k _ H' _ [] s .bl (A3.nil _) q⟩
end
end L3
namespace L3
open PySem PySem.Spec L2
structure PN (X:Cx) (cl:List Cl) (e:Expr) (u:TM):Prop where
 of ::
 run:∃ t,PE X e t /\ ∀ (G:Ent) (ρ:Ev) (σ:St) (H:Hp) (fa:Nat -> List Addr) (Q:D -> Ev -> Prop) (R:VK),G.cl = cl -> E3 X.K G ρ σ H fa -> u ρ Q ->
  (∀ v H' d B ρ' fa',E3 X.K G ρ' σ H' fa' -> O6 X.K G H fa H' fa' -> Rep X.K H' v d B -> (∀ i,G.own i -> ∀ a ∈ B,a ∉ fa' i) -> Q d ρ' -> R v H') -> t σ H R
section
variable {X:Cx} {cl:List Cl} {e a b c:Expr} {es:List Expr} {f:Fl} {pos:Pos} {ua ub uc:TU} {fa fb fc:Fl} {ma mb:TM}
def mP (u:TU):TM:=fun ρ Q=>u ρ fun d=>Q d ρ
theorem PU.m (h:PU X cl e .fresh ua):PM X cl e (mP ua):=.of <| by
 obtain ⟨t,p,h⟩:=h.run
 exact ⟨t,p,fun G ρ σ H fo Q R hG E hu k=>h G ρ σ H fo _ _ hG E hu fun v H' d B s r f q=>k v H' d B ρ fo (E.same s) (O6.same s) r f.1 (fun x hx=>⟨f.2 x hx,fun i z=>E.there i z (f.2 x hx)⟩) q⟩
theorem PU.n (h:PU X cl e f ua) (hf:cY f .stab = true):PN X cl e (mP ua):=.of <| by
 obtain ⟨t,p,h⟩:=h.run
 exact ⟨t,p,fun G ρ σ H fo Q R hG E hu k=>h G ρ σ H fo _ _ hG E hu fun v H' d B s r f q=>k v H' d B ρ fo (E.same s) (O6.same s) r (f.weak E hf) q⟩
theorem PM.n (h:PM X cl e ma):PN X cl e ma:=.of <| by
 obtain ⟨t,p,h⟩:=h.run
 exact ⟨t,p,fun G ρ σ H fo Q R hG E hu k=>h G ρ σ H fo _ _ hG E hu fun v H' d B ρ' fa' E' c r n1 n2 q=>k v H' d B ρ' fa' E' c r (fun i _ a ha=>(n2 a ha).2 i) q⟩
def wO (u:TM):TM:=fun ρ Q=>u ρ fun d ρ'=>D3 d = true /\ Q d ρ'
theorem PN.D3 (h:PN X cl e ma):PM X cl e (wO ma):=.of <| by
 obtain ⟨t,p,h⟩:=h.run
 refine ⟨t,p,fun G ρ σ H fo Q R hG E hu k=>h G ρ σ H fo _ _ hG E hu fun v H' d B ρ' fa' E' c r n q=>?_⟩
 have e:=r.M1 q.1
 subst e
 exact k v H' d [] ρ' fa' E' c r List.nodup_nil (fun a ha=>(by cases ha)) q.2
theorem m2 (ha:PN X cl a ma) (hb:PN X cl b mb):∃ ta tb,PE X a ta /\ PE X b tb /\ ∀ (G:Ent) (ρ:Ev) (σ:St) (H:Hp) (fo:Nat -> List Addr) (Q:D -> D -> Ev -> Prop) (R:V -> V -> Hp -> Prop),G.cl = cl -> E3 X.K G ρ σ H fo -> (ma ρ fun x ρ1=>mb ρ1 fun y ρ2=>Q x y ρ2) ->
  (∀ v w H' d e A B ρ' fa',E3 X.K G ρ' σ H' fa' -> O6 X.K G H fo H' fa' -> Rep X.K H' v d A -> Rep X.K H' w e B -> (∀ i,G.own i -> ∀ a ∈ A,a ∉ fa' i) -> (∀ i,G.own i -> ∀ a ∈ B,a ∉ fa' i) -> Q d e ρ' -> R v w H') -> ta σ H fun x H1=>tb σ H1 fun y H2=>R x y H2:=by
 obtain ⟨ta,pa,ha⟩:=ha.run
 obtain ⟨tb,pb,hb⟩:=hb.run
 refine ⟨ta,tb,pa,pb,fun G ρ σ H fo Q R hG E hu k=>?_⟩
 refine ha G ρ σ H fo _ _ hG E hu fun v H1 d A ρ1 fa1 E1 c1 r1 n1 q1=>?_
 refine hb G ρ1 σ H1 fa1 _ _ hG E1 q1 fun w H2 e B ρ2 fa2 E2 c2 r2 n2 q2=>?_
 exact k v w H2 d e A B ρ2 fa2 E2 (c1.trans c2) (c2.keep r1 n1) r2 (c2.apart (fun x hx=>r1.there hx) n1) n2 q2
def aW (g:D -> D -> (D -> Prop) -> Prop) (ma mb:TM):TM:=fun ρ Q=>ma ρ fun x ρ1=>mb ρ1 fun y ρ2=>g x y fun d=>Q d ρ2
theorem Gn {r:R2} {g:D -> D -> (D -> Prop) -> Prop} (o:X5 X r g) (ha:PN X cl a ma) (hb:PN X cl b mb) (mk:∀ {ta tb},PE X a ta -> PE X b tb -> PE X e (Eg r ta tb)):PM X cl e (aW g ma mb):=.of <| by
 obtain ⟨ta,tb,pa,pb,h⟩:=m2 ha hb
 refine ⟨_,mk pa pb,fun G ρ σ H fo Q R hG E hu k=>?_⟩
 refine h G ρ σ H fo _ _ hG E hu fun v w H' d e A B ρ' fa' E' c r1 r2 _ _ q=>?_
 exact o H' v w d e A B _ R r1 r2 q fun x H2 y C s2 r3 n1 n2 q2=>k x H2 y C ρ' fa' (E'.same s2) (c.trans (O6.same s2)) r3 n1 (fun a ha=>⟨c.stb.dom a (n2 a ha),fun i z=>E'.there i z (n2 a ha)⟩) q2
theorem qM {r:R2} {op:Operator} {g:D -> D -> (D -> Prop) -> Prop} (ho:J4 X (binaryOp op) r) (o:X5 X r g) (ha:PN X cl a ma) (hb:PN X cl b mb):PM X cl (.BinOp a op b pos) (aW g ma mb):=Gn o ha hb fun pa pb=>Bt ho pa pb
theorem Cu {r:R2} {op:CmpOp} {g:D -> D -> (D -> Prop) -> Prop} (ho:J4 X (compareOp op) r) (o:X5 X r g) (ha:PN X cl a ma) (hb:PN X cl b mb) (hm:behindInMarks op b = false):PM X cl (.Compare a [op] [b] pos) (aW g ma mb):=Gn o ha hb fun pa pb=>qO ho pa pb hm
theorem BO (ha:PN X cl a ma) (hb:PN X cl b mb):PM X cl (.BinOp a .Sub b pos) (aW (ug fun i j=>.int (i - j)) ma mb):=qM vS oS ha hb
theorem DV (ha:PN X cl a ma) (hb:PN X cl b mb):PM X cl (.BinOp a .Mod b pos) (aW (gI (fun _ j=>0 < j) fun i j=>.int (i % j)) ma mb):=qM uQ oo ha hb
theorem Cd {v w:V} {H:Hp} {d e:D} {A B:List Addr} {Q:D -> Prop} {R:VK} (r1:Rep X.K H v d A) (r2:Rep X.K H w e B) (q:HS d e Q) (k:∀ x z C,Rep X.K H x z C -> C.Sublist A -> Q z -> R x H):GF X.K v w H R:=by
 have go:∀ {xs:List D} {i:Int} {z:D},tQ d = some xs -> e = .int i -> L2.P1 xs i = some z -> Q z -> GF X.K v w H R:=fun {xs i z} e1 e2 e3 qz=>by
  subst e2
  cases B3 r2
  obtain ⟨p,vs,C,rfl,hq,r,sb⟩:=eN r1 e1
  obtain ⟨x,B',h1,h2,h3⟩:=r.P1 e3
  rcases hq with hq | hq
  ·exact .inl ⟨p,vs,i,x,rfl,rfl,hq,h1,k x z B' h2 (h3.trans sb) qz⟩
  ·exact .inr (.inl ⟨p,vs,i,x,rfl,rfl,hq,h1,k x z B' h2 (h3.trans sb) qz⟩)
 cases d <;> cases e <;> first | exact (show False from q).elim | skip
 ·obtain ⟨q0,c,q1,q2⟩:=q
  cases D0 r1; cases B3 r2
  exact .inr (.inr ⟨_,_,c,rfl,rfl,q0,q1,k _ _ [] .str (List.nil_sublist _) q2⟩)
 ·obtain ⟨z,q1,q2⟩:=q
  exact go rfl rfl q1 q2
 ·obtain ⟨z,q1,q2⟩:=q
  exact go rfl rfl q1 q2
 ·obtain ⟨z,q1,q2⟩:=q
  exact go rfl rfl q1 q2
theorem x8 {i:Nat} {ρ:Ev} {Q:D -> Prop} (h:e8 i ρ Q):∃ d,ρ[i]? = some (some d) /\ Q d:=by
 unfold e8 at h
 split at h
 ·exact ⟨_,by assumption,h⟩
 ·exact h.elim
noncomputable abbrev qC:=Ev -> (Bool -> Ev -> Prop) -> Prop
structure Fi (X:Cx) (cl:List Cl) (e:Expr) (u:qC):Prop where
 of ::
 run:∃ t,PT X e t /\ ∀ (G:Ent) (ρ:Ev) (σ:St) (H:Hp) (fa:Nat -> List Addr) (Q:Bool -> Ev -> Prop) (R:Bool -> Hp -> Prop),G.cl = cl -> E3 X.K G ρ σ H fa -> u ρ Q ->
  (∀ b H' ρ' fa',E3 X.K G ρ' σ H' fa' -> O6 X.K G H fa H' fa' -> Q b ρ' -> R b H') -> t σ H R
def tP (u:cE):qC:=fun ρ Q=>u ρ fun b=>Q b ρ
variable {tc td:cE} {mc md:qC} {rest:List Expr}
theorem L5.m (h:L5 X cl e tc):Fi X cl e (tP tc):=.of <| by
 obtain ⟨t,p,h⟩:=h.run
 exact ⟨t,p,fun G ρ σ H fo Q R hG E hu k=>h G ρ σ H fo _ _ hG E hu fun b H' s q=>k b H' ρ fo (E.same s) (O6.same s) q⟩
def mT (u:TM):qC:=fun ρ Q=>u ρ fun d ρ'=>match d with
 | .bl k=>Q k ρ'
 | _=>False
theorem CH {r:R2} {op:CmpOp} {g:D -> D -> (D -> Prop) -> Prop} (ho:J4 X (compareOp op) r) (o:X5 X r g) (ha:PN X cl a ma) (hb:PN X cl b mb) (hm:behindInMarks op b = false):Fi X cl (.Compare a [op] [b] pos) (mT (aW g ma mb)):=.of <| by
 obtain ⟨ta,tb,pa,pb,h⟩:=m2 ha hb
 refine ⟨_,qx ho pa pb hm,fun G ρ σ H fo Q R hG E hu k=>?_⟩
 refine h G ρ σ H fo (fun d e ρ'=>g d e fun d=>match d with | .bl k=>Q k ρ' | _=>False) _ hG E hu fun v w H' d e A B ρ' fa' E' c r1 r2 _ _ q=>?_
 refine o H' v w d e A B _ _ r1 r2 q fun x H2 y C s2 r3 n1 n2 q2=>?_
 cases y <;> first | exact (show False from q2).elim | skip
 cases N8 r3
 exact ⟨_,rfl,k _ H2 ρ' fa' (E'.same s2) (c.trans (O6.same s2)) q2⟩
inductive rT (K:PySem.W.Frag) (H:Hp) (N:Addr -> Prop):List V -> List D -> List (List Addr) -> Prop
 | nil:rT K H N [] [] []
 | cons {v:V} {d:D} {B:List Addr} {vs:List V} {ds:List D} {Bs:List (List Addr)}:Rep K H v d B -> (∀ a ∈ B,¬ N a) -> rT K H N vs ds Bs -> rT K H N (v :: vs) (d :: ds) (B :: Bs)
noncomputable def EF (G:Ent) (fa:Nat -> List Addr):Addr -> Prop:=fun a=>∃ i,G.own i /\ a ∈ fa i
noncomputable abbrev lr:=Ev -> (List D -> Ev -> Prop) -> Prop
structure Ej (X:Cx) (cl:List Cl) (es:List Expr) (u:lr):Prop where
 of ::
 run:∃ t,PA X es t /\ ∀ (G:Ent) (ρ:Ev) (σ:St) (H:Hp) (fa:Nat -> List Addr) (Q:List D -> Ev -> Prop) (R:List V -> Hp -> Prop),G.cl = cl -> E3 X.K G ρ σ H fa -> u ρ Q ->
  (∀ vs H' ds Bs ρ' fa',E3 X.K G ρ' σ H' fa' -> O6 X.K G H fa H' fa' -> rT X.K H' (EF G fa') vs ds Bs -> ds.length = es.length -> Q ds ρ' -> R vs H') -> t σ H R
def A5:lr:=fun ρ Q=>Q [] ρ
def p4 (ma:TM) (ms:lr):lr:=fun ρ Q=>ma ρ fun x ρ1=>ms ρ1 fun xs ρ2=>Q (x :: xs) ρ2
theorem o7:Ej X cl [] A5:=.of ⟨_,R7,fun G ρ σ H fa Q R _ E hu k=>k [] H [] [] ρ fa E O6.refl .nil rfl hu⟩
theorem o9 {ms:lr} (ha:PN X cl e ma) (hr:Ej X cl es ms) (hs:isStar e = false):Ej X cl (e :: es) (p4 ma ms):=.of <| by
 obtain ⟨t1,p1,h1⟩:=ha.run
 obtain ⟨t2,p2,h2⟩:=hr.run
 refine ⟨_,cK p1 p2 hs,fun G ρ σ H fa Q R hG E hu k=>?_⟩
 refine h1 G ρ σ H fa _ _ hG E hu fun v H1 d A ρ1 fa1 E1 c1 r1 n1 q1=>?_
 refine h2 G ρ1 σ H1 fa1 _ _ hG E1 q1 fun vs H2 ds Bs ρ2 fa2 E2 c2 r2 n3 q2=>?_
 exact k (v :: vs) H2 (d :: ds) (A :: Bs) ρ2 fa2 E2 (c1.trans c2) (.cons (c2.keep r1 n1) (fun a ha ⟨i,hi,z⟩=>c2.apart (fun x hx=>r1.there hx) n1 i hi a ha z) r2) (by simp [n3]) q2
structure Ed (X:Cx) (cl:List Cl) (es:List Expr) (u:lr):Prop where
 of ::
 run:∃ t,PA X es t /\ ∀ (G:Ent) (ρ:Ev) (σ:St) (H:Hp) (fa:Nat -> List Addr) (Q:List D -> Ev -> Prop) (R:List V -> Hp -> Prop),G.cl = cl -> E3 X.K G ρ σ H fa -> u ρ Q ->
  (∀ vs H' ds B ρ' fa',E3 X.K G ρ' σ H' fa' -> O6 X.K G H fa H' fa' -> n8 X.K H' vs ds B -> B.Nodup -> (∀ a ∈ B,H a = none /\ ∀ i,a ∉ fa' i) -> ds.length = es.length -> Q ds ρ' -> R vs H') -> t σ H R
theorem bb:Ed X cl [] A5:=.of ⟨_,R7,fun G ρ σ H fa Q R _ E hu k=>k [] H [] [] ρ fa E O6.refl .nil List.nodup_nil (fun a ha=>(by cases ha)) rfl hu⟩
theorem B7 {ms:lr} (ha:PM X cl e ma) (hr:Ed X cl es ms) (hs:isStar e = false):Ed X cl (e :: es) (p4 ma ms):=.of <| by
 obtain ⟨t1,p1,h1⟩:=ha.run
 obtain ⟨t2,p2,h2⟩:=hr.run
 refine ⟨_,cK p1 p2 hs,fun G ρ σ H fa Q R hG E hu k=>?_⟩
 refine h1 G ρ σ H fa _ _ hG E hu fun v H1 d A ρ1 fa1 E1 c1 r1 n1 n2 q1=>?_
 refine h2 G ρ1 σ H1 fa1 _ _ hG E1 q1 fun vs H2 ds B ρ2 fa2 E2 c2 r2 m1 m2 n3 q2=>?_
 refine k (v :: vs) H2 (d :: ds) (A ++ B) ρ2 fa2 E2 (c1.trans c2) (.cons (c2.keep r1 fun i _ a ha=>(n2 a ha).2 i) r2) ?_ (fun x hx=>?_) (by simp [n3]) q2
 ·refine List.nodup_append.mpr ⟨n1,m1,fun x hx y hy e=>?_⟩
  subst e
  exact r1.there hx (m2 x hy).1
 ·rcases List.mem_append.mp hx with z | z
  ·refine ⟨(n2 x z).1,fun i y=>?_⟩
   by_cases hi:G.own i
   ·rcases c2.new i hi x y with w | w
    ·exact (n2 x z).2 i w
    ·exact r1.there z w
   ·rw [c2.bor i hi] at y
    exact (n2 x z).2 i y
  ·exact ⟨c1.stb.dom x (m2 x z).1,(m2 x z).2⟩
def yT (ms:lr):TM:=fun ρ Q=>ms ρ fun xs ρ'=>Q (.lst xs) ρ'
def zX (ms:lr):TM:=fun ρ Q=>ms ρ fun xs ρ'=>Q (.tup xs) ρ'
theorem oA {ms:lr} (h:Ed X cl es ms) (hn:Nat.ble es.length 1000 = true):PM X cl (.List es pos) (yT ms):=.of <| by
 obtain ⟨t,p,h⟩:=h.run
 refine ⟨_,wR p,fun G ρ σ H fa Q R hG E hu k=>?_⟩
 refine h G ρ σ H fa _ _ hG E hu fun vs H1 ds A ρ' fa' E' c r n1 n2 n3 q=>⟨by rw [r.length,n3]; exact bt (Nat.le_of_ble_eq_true hn),fun x hx=>?_⟩
 refine k _ _ (.lst ds) (x :: A) ρ' fa' (E'.same (i7.n9 hx)) (c.trans (O6.same (i7.n9 hx))) (.lst i4 (r.same (i7.n9 hx))) (List.nodup_cons.mpr ⟨fun z=>?_,n1⟩) (fun y hy=>?_) q
 ·have:=r.X0 x z
  rw [hx] at this; exact this
 ·rcases List.mem_cons.mp hy with z | z
  ·rw [z]; exact ⟨c.stb.dom x hx,fun i z=>E'.there i z hx⟩
  ·exact n2 y z
theorem oM {ms:lr} {x1} (h:Ed X cl es ms) (hn:Nat.ble es.length 1000 = true):PM X cl (.Tuple es x1 pos) (zX ms):=.of <| by
 obtain ⟨t,p,h⟩:=h.run
 refine ⟨_,xG p,fun G ρ σ H fa Q R hG E hu k=>?_⟩
 refine h G ρ σ H fa _ _ hG E hu fun vs H1 ds A ρ' fa' E' c r n1 n2 n3 q=>⟨by rw [r.length,n3]; exact bt (Nat.le_of_ble_eq_true hn),fun x hx=>?_⟩
 exact k _ _ (.tup ds) A ρ' fa' (E'.same (i7.n9 hx)) (c.trans (O6.same (i7.n9 hx))) (.tup i4 (r.same (i7.n9 hx))) n1 n2 q
def GU (g:List D -> (D -> Prop) -> Prop) (ms:lr):TM:=fun ρ Q=>ms ρ fun ds ρ'=>g ds fun d=>Q d ρ'
theorem rT.EA {K:PySem.W.Frag} {H:Hp} {N:Addr -> Prop}:∀ {vs:List V} {ds:List D} {Bs:List (List Addr)},rT K H N vs ds Bs -> ∃ A,n8 K H vs ds A
 | _,_,_,.nil=>⟨_,.nil⟩
 | _,_,_,.cons h _ r=>let ⟨A,q⟩:=r.EA; ⟨_,.cons h q⟩
theorem Ik {ms:lr} {r:List V -> Hp -> VK -> Prop} {g:List D -> (D -> Prop) -> Prop} (o:Call3 X r g) (h:Ej X cl es ms) (mk:∀ {t},PA X es t -> PE X e (Gr r t)):PM X cl e (GU g ms):=.of <| by
 obtain ⟨t,p,h⟩:=h.run
 refine ⟨_,mk p,fun G ρ σ H fa Q R hG E hu k=>?_⟩
 refine h G ρ σ H fa _ _ hG E hu fun vs H1 ds Bs ρ' fa' E' c r n3 q=>?_
 obtain ⟨A,r⟩:=r.EA
 exact o H1 vs ds A _ R r q fun x H2 y C s2 r2 n1 n2 q2=>k x H2 y C ρ' fa' (E'.same s2) (c.trans (O6.same s2)) r2 n1 (fun a ha=>⟨c.stb.dom a (n2 a ha),fun i z=>E'.there i z (n2 a ha)⟩) q2
section
variable {id T:String} {r:List V -> Hp -> VK -> Prop} {g:List D -> (D -> Prop) -> Prop} {x:Str} {p:Pos} {ms:lr}
theorem sX (hc:Z6 X (.type T) r) (o:Call3 X r g) (hg:Gl X x) (hm:X.mg x = none) (hv:bootBuiltins x = some (.type T)) (ha:Ej X cl (e :: es) ms) (hn:x ≠ "__name__" := by decide) (hd:(x == ("__debug__" : Str)) = false:=by decide)
  (he:starEach (e :: es) X.env = (false,eval e X.env) :: starEach es X.env:=by rfl) (hpl:(backTo pos (starEach es X.env)).any (·.1) = false:=by rfl):PM X cl (.Call (.Name x p) (e :: es) [] pos) (GU g ms):=
 Ik o ha fun pa=>iC hc hg hm hv pa hn hd he hpl
end
end
end L3
namespace L3
open PySem PySem.Spec L2 PyProof.Rows
noncomputable abbrev Cp:=List D -> (D -> Prop) -> Prop
noncomputable abbrev Cm:=List D -> (D -> D -> Prop) -> Prop
def D2 (K:PySem.W.Frag) (c:Cp):Sp:=fun vs H Q _=>∃ ds A Qd,n8 K H vs ds A /\ c ds Qd /\ ∀ r v H' B,Qd r -> i7 H H' -> Rep K H' v r B -> B.Nodup -> (∀ a ∈ B,H a = none) -> Q v H'
def bI (K:PySem.W.Frag) (c:Cm):Sp:=fun vs H Q _=>∃ w vs' d ds A Bs Qd,vs = w :: vs' /\ Rep K H w d A /\ A.Nodup /\ rT K H (fun a=>a ∈ A) vs' ds Bs /\ c (d :: ds) Qd /\ ∀ r l v H' A' B,Qd r l -> Rep K H' w l A' -> A'.Nodup -> (∀ a ∈ A',a ∈ A \/ H a = none) ->
 (∀ a o,H a = some o -> a ∉ A -> H' a = some o) -> T9 H H' -> Rep K H' v r B -> B.Nodup -> (∀ a ∈ B,H a = none /\ a ∉ A') -> Q v H'
structure D7 (P:Program) (w:World) (K:PySem.W.Frag) (mg:Str -> Option Value) (base:Heap) (x:Str) (k:Nat) (ps:List Str) (sp:Sp) (f:Addr) (fd:FuncData):Prop where
 ok:y4 P w K mg base Q9 k f fd ps sp
 mgf:mg x = some (.ref f)
 kp:PySem.W.keepIn K (.ref f) = true
 bd:Binds K fd ps []
section
variable {X:Cx} {cl:List Cl} {e a b:Expr} {es:List Expr} {f:Fl} {pos:Pos} {ua:TU} {ma mb:TM} {us:ck} {ms:lr} {k:Nat} {fn:Addr} {fd:FuncData} {ps:List Str} {x:Str} {p:Pos}
def u3 (c:Cp) (us:ck):TU:=fun ρ Q=>us ρ fun ds=>c ds Q
theorem j9 {c:Cp} (C:D7 X.prog X.w X.K X.mg X.base x k ps (D2 X.K c) fn fd) (hr:E6 k X.A) (hg:Gl X x) (ha:wq X cl (e :: es) us) (hst:isStar e = false) (hdb:(x == ("__debug__" : Str)) = false:=by decide)
  (hpl:(backTo pos (starEach es X.env)).any (·.1) = false:=by rfl):PU X cl (.Call (.Name x p) (e :: es) [] pos) .fresh (u3 c us):=.of <| by
 obtain ⟨t,pt,h⟩:=ha.run
 refine ⟨_,dX C.ok hr hg C.mgf C.kp C.bd .nil vg pt hdb (L9 hst) hpl,fun G ρ σ H fa Q R hG E hu kk=>?_⟩
 refine h G ρ σ H fa _ _ hG E hu fun vs H1 ds A s r n3 q=>?_
 rw [List.append_nil]
 exact ⟨ds,A,Q,r,q,fun r v H2 B qd s2 rp n1 n2=>kk v H2 r B (s.trans s2) rp ⟨n1,fun a ha=>s.free (n2 a ha)⟩ qd⟩
def u4 (j:Nat) (c:Cm) (ms:lr):TM:=fun ρ Q=>e8 j ρ fun _=>ms ρ fun ds ρ'=>e8 j ρ' fun d=>c (d :: ds) fun r l=>Q r (ρ'.set j (some l))
theorem rT.imp {K:PySem.W.Frag} {H:Hp} {N N':Addr -> Prop} (h:∀ a,N' a -> N a):∀ {vs:List V} {ds:List D} {Bs:List (List Addr)},rT K H N vs ds Bs -> rT K H N' vs ds Bs
 | _,_,_,.nil=>.nil
 | _,_,_,.cons r n t=>.cons r (fun a ha z=>n a ha (h a z)) (t.imp h)
theorem j7 {c:Cm} (j:Nat) {y:Str} {vp:Pos} (hv:PE X (.Name y vp) (W8 j)) (hj:cl[j]? = some .own) (C:D7 X.prog X.w X.K X.mg X.base x k ps (bI X.K c) fn fd) (hr:E6 k X.A) (hg:Gl X x) (ha:Ej X cl es ms) (hdb:(x == ("__debug__" : Str)) = false:=by decide)
  (hpl:(backTo pos (starEach es X.env)).any (·.1) = false:=by rfl):PM X cl (.Call (.Name x p) (.Name y vp :: es) [] pos) (u4 j c ms):=.of <| by
 obtain ⟨t,pt,h⟩:=ha.run
 refine ⟨_,dX C.ok hr hg C.mgf C.kp C.bd .nil vg (cK hv pt rfl) hdb (L9 rfl) hpl,fun G ρ σ H fa Q R hG E hu kk=>?_⟩
 obtain ⟨d0,e0,hu⟩:=x8 hu
 obtain ⟨v,hvj,_⟩:=E.rep j d0 e0
 refine ⟨v,hvj,h G ρ σ H fa _ _ hG E hu fun vs H1 ds Bs ρ' fa' E' c' r n3 q=>?_⟩
 obtain ⟨d,e1,q⟩:=x8 q
 obtain ⟨v',hv',rp⟩:=E'.rep j d e1
 have ev:v' = v:=by rw [hvj] at hv'; cases hv'; rfl
 subst ev
 have own:G.own j:=by unfold Ent.own; rw [hG]; exact hj
 rw [List.append_nil]
 refine ⟨v',vs,d,ds,fa' j,Bs,_,rfl,rp,E'.nd j (.inl own),r.imp fun a ha=>⟨j,own,ha⟩,q,fun r l v H2 A' B qd r2 n1 n2 n3 n4 r3 n5 n6=>?_⟩
 have ch:O6 X.K G H1 fa' H2 (fun i=>if i = j then A' else fa' i):=by
  refine ⟨fun a o h n=>n3 a o h (n j own),n4,fun i hi a ha=>?_,fun i hi=>?_⟩
  ·by_cases e:i = j
   ·subst e; rw [if_pos rfl] at ha; exact n2 a ha
   ·rw [if_neg e] at ha; exact .inl ha
  ·exact if_neg fun e:i = j=>hi (by rw [e]; exact own)
 have lj:j < ρ'.length:=(List.getElem?_eq_some_iff.mp e1).1
 have oth:∀ i,i ≠ j -> (ρ'.set j (some l))[i]? = ρ'[i]?:=fun i n=>List.getElem?_set_ne (Ne.symm n)
 refine kk v H2 r B (ρ'.set j (some l)) _ (E'.step ch (by simp) (fun i hi=>oth i fun e=>hi (by rw [e]; exact own)) (fun i d' hi e=>?_) (fun i hi e=>?_) (fun i hi=>?_) fun i i' n hi hi' a ha z=>?_) (c'.trans ch) r3 n5 (fun a ha=>⟨c'.stb.dom a (n6 a ha).1,fun i z=>?_⟩) qd
 ·by_cases q:i = j
  ·subst q
   rw [List.getElem?_set_self lj] at e
   cases e
   exact ⟨v',hv',by rw [if_pos rfl]; exact r2⟩
  ·rw [oth i q] at e
   obtain ⟨w,e2,r4⟩:=E'.rep i d' e
   refine ⟨w,e2,?_⟩
   rw [if_neg q]
   refine r4.mono n4 fun a ha=>?_
   obtain ⟨o,eo⟩:=eO.some (r4.X0 a ha)
   rw [eo]
   exact n3 a o eo fun z=>E'.dj i j q hi a ha z
 ·by_cases q:i = j
  ·subst q
   exact absurd (List.getElem?_set_self lj) (e l)
  ·rw [if_neg q]
   exact E'.emp i fun d z=>e d (by rw [oth i q]; exact z)
 ·by_cases q:i = j
  ·rw [if_pos q]; exact n1
  ·rw [if_neg q]; exact E'.nd i (.inl hi)
 ·by_cases q:i = j
  ·rw [if_pos q] at ha
   have q':i' ≠ j:=fun e=>n (q.trans e.symm)
   rw [if_neg q'] at z
   rcases n2 a ha with y | y
   ·exact E'.dj j i' (Ne.symm q') own a y z
   ·exact E'.there i' z y
  ·rw [if_neg q] at ha
   by_cases q':i' = j
   ·rw [if_pos q'] at z
    rcases n2 a z with y | y
    ·exact E'.dj i j q hi a ha y
    ·exact E'.there i ha y
   ·rw [if_neg q'] at z
    exact E'.dj i i' n hi a ha z
 ·by_cases q:i = j
  ·rw [if_pos q] at z; exact (n6 a ha).2 z
  ·rw [if_neg q] at z; exact E'.there i z (n6 a ha).1
def yu (c:Cm) (ma:TM) (ms:lr):TM:=fun ρ Q=>ma ρ fun d ρ1=>ms ρ1 fun ds ρ'=>c (d :: ds) fun r _=>Q r ρ'
theorem n8.HW {K:PySem.W.Frag} {H:Hp} {N:Addr -> Prop}:∀ {vs:List V} {ds:List D} {B:List Addr},n8 K H vs ds B -> (∀ a ∈ B,¬ N a) -> ∃ Bs,rT K H N vs ds Bs
 | _,_,_,.nil,_=>⟨_,.nil⟩
 | _,_,_,.cons h r,n=>let ⟨Bs,q⟩:=r.HW fun a ha=>n a (List.mem_append_right _ ha); ⟨_,.cons h (fun a ha=>n a (List.mem_append_left _ ha)) q⟩
theorem E3.away {K:PySem.W.Frag} {G:Ent} {ρ:Ev} {σ:L2.St} {H H':Hp} {fa:Nat -> List Addr} {A:List Addr} (E:E3 K G ρ σ H fa) (s:T9 H H') (k:∀ a o,H a = some o -> a ∉ A -> H' a = some o) (n:∀ i,∀ a ∈ A,a ∉ fa i) (h0:∀ a ∈ A,G.H₀ a = none) (z:∀ a ∈ A,¬ G.Z a):E3 K G ρ σ H' fa where
 rep:=fun i d e=>by
  obtain ⟨v,e1,r⟩:=E.rep i d e
  refine ⟨v,e1,r.mono s fun a ha=>?_⟩
  obtain ⟨o,eo⟩:=eO.some (r.X0 a ha)
  rw [eo]; exact k a o eo fun q=>n i a q ha
 emp:=E.emp
 len:=E.len
 nd:=E.nd
 dj:=E.dj
 par:=E.par
 old:=E.old
 new:=E.new
 frm:=fun a o h q=>k a o (E.frm a o h q) fun y=>by rw [h0 a y] at h; cases h
 stb:=E.stb.trans s
 zk:=fun a y=>by
  obtain ⟨o,e⟩:=Option.ne_none_iff_exists'.mp (E.zn a y)
  have h:=E.zk a y
  rw [e] at h ⊢
  exact k a o h fun q=>z a q y
 zn:=E.zn
 zo:=E.zo
 po:=E.po
theorem uN {c:Cm} (C:D7 X.prog X.w X.K X.mg X.base x k ps (bI X.K c) fn fd) (hr:E6 k X.A) (hg:Gl X x) (h0:PM X cl e ma) (ha:Ed X cl es ms) (hst:isStar e = false) (hdb:(x == ("__debug__" : Str)) = false:=by decide)
  (hpl:(backTo pos (starEach es X.env)).any (·.1) = false:=by rfl):PM X cl (.Call (.Name x p) (e :: es) [] pos) (yu c ma ms):=.of <| by
 obtain ⟨t0,p0,h0⟩:=h0.run
 obtain ⟨t,pt,h⟩:=ha.run
 refine ⟨_,dX C.ok hr hg C.mgf C.kp C.bd .nil vg (cK p0 pt hst) hdb (L9 hst) hpl,fun G ρ σ H fa Q R hG E hu kk=>?_⟩
 refine h0 G ρ σ H fa _ _ hG E hu fun w H0 d A ρ0 fa0 E0 c0 r0 m1 m2 q0=>?_
 refine h G ρ0 σ H0 fa0 _ _ hG E0 q0 fun vs H1 ds B1 ρ' fa' E' c' r k1 k2 n3 q=>?_
 show bI X.K c ((w :: vs) ++ []) H1 R L2.E0
 rw [List.append_nil]
 have apartA:∀ i,∀ a ∈ A,a ∉ fa' i:=fun i a ha z=>by
  by_cases hi:G.own i
  ·rcases c'.new i hi a z with y | y
   ·exact (m2 a ha).2 i y
   ·exact r0.there ha y
  ·rw [c'.bor i hi] at z
   exact (m2 a ha).2 i z
 obtain ⟨Bs,hBs⟩:=r.HW (N:=fun a=>a ∈ A) fun a ha z=>r0.there z (k2 a ha).1
 refine ⟨w,vs,d,ds,A,Bs,_,rfl,c'.keep r0 fun i _ a ha=>(m2 a ha).2 i,m1,hBs,q,fun r l v H2 A' B qd r2 n1 n2 n3 n4 r3 n5 n6=>?_⟩
 have cc:=c0.trans c'
 have ch:O6 X.K G H fa H2 fa':=⟨fun a o h n=>n3 a o (cc.frm a o h n) fun z=>(by rw [(m2 a z).1] at h; cases h),cc.stb.trans n4,cc.new,cc.bor⟩
 refine kk v H2 r B ρ' fa' (E'.away n4 n3 apartA (fun a ha=>E.stb.dom a (m2 a ha).1) fun a ha z=>?_) ch r3 n5 (fun a ha=>⟨cc.stb.dom a (n6 a ha).1,fun i z=>E'.there i z (n6 a ha).1⟩) qd
 have h:=E.zk a z
 rw [(m2 a ha).1] at h
 exact E.zn a z h.symm
end
noncomputable def i5 (n:Nat) (ds:List D):Ev:=ds.map some ++ List.replicate (n - ds.length) none
theorem n8.each {K:PySem.W.Frag} {H:Hp}:∀ {vs:List V} {ds:List D} {A:List Addr},n8 K H vs ds A -> ∃ fa:Nat -> List Addr,(∀ i d,ds[i]? = some d -> ∃ v,vs[i]? = some v /\ Rep K H v d (fa i)) /\ ∀ i,ds.length <= i -> fa i = []
 | _,_,_,.nil=>⟨fun _=>[],fun i d e=>(by simp at e),fun _ _=>rfl⟩
 | _,_,_,.cons (A:=A) h r=>by
  obtain ⟨fa,h1,h2⟩:=r.each
  refine ⟨fun i=>match i with | 0=>A | i + 1=>fa i,fun i d e=>?_,fun i hi=>?_⟩
  ·cases i with
   | zero=>simp at e; subst e; exact ⟨_,rfl,h⟩
   | succ i=>
    obtain ⟨v,e1,e2⟩:=h1 i d (by simpa using e)
    exact ⟨v,by simpa using e1,e2⟩
  ·cases i with
   | zero=>simp at hi
   | succ i=>exact h2 i (by simpa using hi)
theorem rT.each {K:PySem.W.Frag} {H:Hp} {N:Addr -> Prop}:∀ {vs:List V} {ds:List D} {Bs:List (List Addr)},rT K H N vs ds Bs -> ∃ fa:Nat -> List Addr,(∀ i d,ds[i]? = some d -> ∃ v,vs[i]? = some v /\ Rep K H v d (fa i)) /\ (∀ i,ds.length <= i -> fa i = []) /\ (∀ i,∀ a ∈ fa i,¬ N a) /\ ds.length = vs.length
 | _,_,_,.nil=>⟨fun _=>[],fun i d e=>(by simp at e),fun _ _=>rfl,fun _ _ h=>(by cases h),rfl⟩
 | _,_,_,.cons (B:=B) h n r=>by
  obtain ⟨fa,h1,h2,h3,h4⟩:=r.each
  refine ⟨fun i=>match i with | 0=>B | i + 1=>fa i,fun i d e=>?_,fun i hi=>?_,fun i=>?_,by simp [h4]⟩
  ·cases i with
   | zero=>simp at e; subst e; exact ⟨_,rfl,h⟩
   | succ i=>
    obtain ⟨v,e1,e2⟩:=h1 i d (by simpa using e)
    exact ⟨v,by simpa using e1,e2⟩
  ·cases i with
   | zero=>simp at hi
   | succ i=>exact h2 i (by simpa using hi)
  ·cases i with
   | zero=>exact n
   | succ i=>exact h3 i
theorem aZ {n:Nat} {ds:List D} {i:Nat} {d:D} (h:(i5 n ds)[i]? = some (some d)):ds[i]? = some d:=by
 unfold i5 at h
 by_cases hi:i < ds.length
 ·rw [List.getElem?_append_left (by simpa using hi),List.getElem?_map] at h
  cases e:ds[i]? with
  | none=>rw [e] at h; cases h
  | some x=>rw [e] at h; cases h; rfl
 ·rw [List.getElem?_append_right (by simpa using hi),List.getElem?_replicate] at h
  split at h <;> cases h
theorem F0 {N:List Str} {vs:List V} {i:Nat} {v:V} (h:vs[i]? = some v):(L2.start N vs)[i]? = some (some v):=by
 unfold L2.start
 have hi:=(List.getElem?_eq_some_iff.mp h).1
 rw [List.getElem?_append_left (by simpa using hi),List.getElem?_map,h]
 rfl
theorem bh {N:List Str} {ds:List D} {vs:List V} (h:ds.length = vs.length):(i5 N.length ds).length = (L2.start N vs).length:=by
 unfold i5 L2.start
 simp [h]
theorem aD {n:Nat} {ds:List D} {i:Nat} {d:D} (h:ds[i]? = some d):(i5 n ds)[i]? = some (some d):=by
 unfold i5
 have hi:=(List.getElem?_eq_some_iff.mp h).1
 rw [List.getElem?_append_left (by simpa using hi),List.getElem?_map,h]
 rfl
section
variable {P:Program} {w:World} {K:PySem.W.Frag} {mg:Str -> Option Value} {base:Heap}
noncomputable def BZ:List Cl -> Bool
 | []=>true
 | .mk _ :: _=>false
 | _ :: r=>BZ r
theorem nJ:∀ {cl:List Cl} {j:Nat} {H':Hp},BZ cl = true -> cl[j]? = some (.mk H') -> False
 | [],j,_,_,e=>by cases j <;> cases e
 | c :: r,0,H',h,e=>by
  cases e
  cases h
 | c :: r,j + 1,H',h,e=>by
  rw [List.getElem?_cons_succ] at e
  cases c <;> first | cases h | exact nJ (cl:=r) h e
noncomputable def noOwn:List Cl -> Nat -> Bool
 | cl,0=>BZ cl
 | .bor :: r,n + 1=>noOwn r n
 | _,_=>false
theorem ay:∀ {cl:List Cl} {n i:Nat},noOwn cl n = true -> i < n -> cl[i]? = some .bor
 | _,0,i,_,h=>by omega
 | .bor :: r,n + 1,0,h,_=>rfl
 | .bor :: r,n + 1,i + 1,h,hi=>by
  rw [List.getElem?_cons_succ]
  exact ay (cl:=r) (n:=n) (i:=i) h (by omega)
 | [],n + 1,i,h,_=>by cases h
 | .own :: r,n + 1,i,h,_=>by cases h
 | .loc :: r,n + 1,i,h,_=>by cases h
 | .mk _ :: r,n + 1,i,h,_=>by cases h
theorem bA:∀ {cl:List Cl} {n j:Nat} {H':Hp},noOwn cl n = true -> cl[j]? = some (.mk H') -> False
 | cl,0,j,_,h,e=>by
  rw [noOwn] at h
  exact nJ h e
 | .bor :: r,n + 1,0,_,h,e=>by cases e
 | .bor :: r,n + 1,j + 1,_,h,e=>bA (cl:=r) (n:=n) (show noOwn r n = true from h) (by rw [List.getElem?_cons_succ] at e; exact e)
 | [],n + 1,j,_,h,_=>by cases h
 | .own :: r,n + 1,j,_,h,_=>by cases h
 | .loc :: r,n + 1,j,_,h,_=>by cases h
 | .mk _ :: r,n + 1,j,_,h,_=>by cases h
theorem gE {x qual:Str} {st:Stmt} {f:Addr} {fd:FuncData} {N ps:List Str} {k:Nat} {c:Cp} {s:j2} {cl:List Cl} (F:X1 K x qual st f fd) (S:o4 N ps (g6 st)) (hcl:noOwn cl ps.length = true)
  (hl:∀ ds Q,c ds Q -> ds.length = ps.length)
  (hb:∀ (cdv:Value) (A:Around) (outer:List Env) (s0:Shared) (H:Hp) (E:XK),E6 k (A.deeper (envOfC qual (g6 st) s0.heap.objs.size f cdv)) -> gR (bR Q9 P w K mg base N qual (g6 st) f cdv A outer s0 H E).DO cl (j8 st) s)
  (hc:∀ ds Q,c ds Q -> s { nx:=fun _=>Q .non,rt:=fun d _=>Q d } (i5 N.length ds)):y4 P w K mg base Q9 (k + 1) f fd ps (D2 K c):=by
 refine F.ok S (fun vs H Q E h=>?_) (fun cdv A outer s0 H vs Q E hr h=>?_)
 ·obtain ⟨ds,A,Qd,r,q,_⟩:=h
  rw [r.length]; exact hl ds Qd q
 ·obtain ⟨ds,B,Qd,r,q,kk⟩:=h
  have hlen:=hl ds Qd q
  obtain ⟨t,pt,h⟩:=(hb cdv A outer s0 H E hr).run
  obtain ⟨fa,h1,h2⟩:=r.each
  let G:Ent:=⟨H,fun _=>[],vs,cl,fun _=>False,H⟩
  have vl:vs.length = ps.length:=r.length.trans hlen
  have bor:∀ i,i < vs.length -> cl[i]? = some .bor:=fun i hi=>ay hcl (by omega)
  have nown:∀ i,i < vs.length -> ¬ G.own i:=fun i hi z=>by
   have z':cl[i]? = some .own:=z
   rw [bor i hi] at z'; cases z'
  have far:∀ i,G.own i -> fa i = []:=fun i hi=>h2 i (by
   have q1:¬ i < vs.length:=fun q=>nown i q hi
   have q2:=r.length
   omega)
  have E0:E3 K G (i5 N.length ds) (L2.start N vs) H fa:=by
   refine ⟨fun i d e=>?_,fun i e=>h2 i ?_,bh r.length.symm,fun i hi=>?_,fun i j _ hi a ha=>?_,fun i hi ho=>absurd ho (nown i hi),fun i hi ho=>absurd ho (nown i hi),fun i hi a ha=>?_,fun a o h _=>h,T9.refl H,fun a z=>z.elim,fun a z=>z.elim,fun i _ a _ z=>z,⟨fun i hi ho=>absurd ho (nown i hi),fun j H' e=>(bA hcl e).elim⟩⟩
   ·obtain ⟨v,e1,r1⟩:=h1 i d (aZ e)
    exact ⟨v,F0 e1,r1⟩
   ·by_cases hi:i < ds.length
    ·exact absurd (aD (List.getElem?_eq_getElem hi)) (e _)
    ·omega
   ·rw [h2 i (by
     by_cases q:i < ds.length
     ·have q2:=r.length
      rcases hi with hi | hi
      ·exact absurd hi (nown i (by omega))
      ·have z':cl[i]? = some .loc:=hi
       rw [bor i (by omega)] at z'; cases z'
     ·omega)]; exact List.nodup_nil
   ·rw [far i hi] at ha; cases ha
   ·rcases hi with hi | hi
    ·have:¬ i < vs.length:=fun q=>by
      have z':cl[i]? = some .loc:=hi
      rw [bor i q] at z'; cases z'
     rw [h2 i (by have:=r.length; omega)] at ha; cases ha
    ·rw [far i hi.1] at ha; cases ha
  refine ⟨t,pt,h G { nx:=fun _=>Qd .non,rt:=fun d _=>Qd d } _ _ H fa _ rfl E0 (hc ds Qd q) ⟨fun σ' H' hq=>?_,fun v H' hq=>?_,fun σ' H' hq=>?_,fun σ' H' hq=>?_⟩⟩
  ·obtain ⟨ρ',fa',E',qd⟩:=hq
   exact kk .non .non H' [] qd (fun a o h=>E'.frm a o h fun i hi ho=>absurd ho (nown i hi)) .non List.nodup_nil fun a ha=>(by cases ha)
  ·obtain ⟨d,ρ',σ',fa',B',E',r',n1,n2,_,qd⟩:=hq
   exact kk d v H' B' qd (fun a o h=>E'.frm a o h fun i hi ho=>absurd ho (nown i hi)) r' n1 n2
  ·obtain ⟨ρ',fa',E',qd⟩:=hq
   exact qd
  ·obtain ⟨ρ',fa',E',qd⟩:=hq
   exact qd
theorem EB {x qual:Str} {st:Stmt} {f:Addr} {fd:FuncData} {N ps:List Str} {k:Nat} {c:Cm} {s:j2} {cl:List Cl} (F:X1 K x qual st f fd) (S:o4 N ps (g6 st)) (hcl:noOwn cl (ps.length - 1) = true)
  (hl:∀ ds Q,c ds Q -> ds.length = ps.length)
  (hb:∀ (cdv:Value) (A:Around) (outer:List Env) (s0:Shared) (H:Hp) (E:XK),E6 k (A.deeper (envOfC qual (g6 st) s0.heap.objs.size f cdv)) -> gR (bR Q9 P w K mg base N qual (g6 st) f cdv A outer s0 H E).DO (.own :: cl) (j8 st) s)
  (hc:∀ ds Q,c ds Q -> s { nx:=fun ρ=>e8 0 ρ fun l=>Q .non l,rt:=fun d ρ=>e8 0 ρ fun l=>Q d l } (i5 N.length ds)):y4 P w K mg base Q9 (k + 1) f fd ps (bI K c):=by
 refine F.ok S (fun vs H Q E h=>?_) (fun cdv A outer s0 H vs Q E hr h=>?_)
 ·obtain ⟨w,vs',d,ds,A,Bs,Qd,rfl,r,n,ap,q,_⟩:=h
  obtain ⟨fa,h1,h2,h3,h4⟩:=ap.each
  have:=hl _ Qd q
  simp at this ⊢
  omega
 ·obtain ⟨w,vs',d,ds,A0,Bs,Qd,rfl,r,n,ap,q,kk⟩:=h
  obtain ⟨fa,h1,h2,h3,h4⟩:=ap.each
  have hlen:=hl _ Qd q
  have hlen':ds.length = ps.length - 1:=by simp at hlen; omega
  obtain ⟨t,pt,h⟩:=(hb cdv A outer s0 H E hr).run
  let fb:Nat -> List Addr:=fun i=>match i with | 0=>A0 | i + 1=>fa i
  let G:Ent:=⟨H,fun i=>if i = 0 then A0 else [],w :: vs',.own :: cl,fun _=>False,H⟩
  have bor:∀ i,i < vs'.length -> cl[i]? = some .bor:=fun i hi=>ay hcl (by omega)
  have nown:∀ i,i < vs'.length -> ¬ G.own (i + 1):=fun i hi z=>by
   have z':cl[i]? = some .own:=z
   rw [bor i hi] at z'; cases z'
  have own0:G.own 0:=rfl
  have far:∀ i,G.own (i + 1) -> fa i = []:=fun i hi=>h2 i (by
   have q1:¬ i < vs'.length:=fun q=>nown i q hi
   omega)
  have E0:E3 K G (i5 N.length (d :: ds)) (L2.start N (w :: vs')) H fb:=by
   refine ⟨fun i d' e=>?_,fun i e=>?_,bh (by simp [h4]),fun i hi=>?_,fun i j nij hi a ha=>?_,fun i hi ho=>?_,fun i hi ho a ha=>?_,fun i hi a ha=>?_,fun a o h _=>h,T9.refl H,fun a z=>z.elim,fun a z=>z.elim,fun i _ a _ z=>z,⟨fun i hi ho=>?_,fun j H' e=>?_⟩⟩
   ·have e':=aZ e
    cases i with
    | zero=>simp at e'; subst e'; exact ⟨w,F0 (vs:=w :: vs') (i:=0) rfl,r⟩
    | succ i=>
     obtain ⟨v,e1,r1⟩:=h1 i d' (by simpa using e')
     exact ⟨v,F0 (by simpa using e1),r1⟩
   ·cases i with
    | zero=>exact absurd (aD (ds:=d :: ds) (i:=0) rfl) (e _)
    | succ i=>
     refine h2 i ?_
     by_cases hi:i < ds.length
     ·exact absurd (aD (ds:=d :: ds) (i:=i + 1) (by rw [List.getElem?_cons_succ]; exact List.getElem?_eq_getElem hi)) (e _)
     ·omega
   ·cases i with
    | zero=>exact n
    | succ i=>
     show (fa i).Nodup
     rw [h2 i (by
      by_cases q:i < ds.length
      ·rcases hi with hi | hi
       ·exact absurd hi (nown i (by omega))
       ·have z':cl[i]? = some .loc:=hi
        rw [bor i (by omega)] at z'; cases z'
      ·omega)]; exact List.nodup_nil
   ·cases i with
    | zero=>
     cases j with
     | zero=>exact absurd rfl nij
     | succ j=>exact fun z=>h3 j a z ha
    | succ i=>
     have ha':a ∈ fa i:=ha
     rw [far i hi] at ha'; cases ha'
   ·cases i with
    | zero=>exact F0 (vs:=w :: vs') (i:=0) rfl
    | succ i=>exact absurd ho (nown i (by simpa [G] using hi))
   ·cases i with
    | zero=>exact .inl ha
    | succ i=>exact absurd ho (nown i (by simpa [G] using hi))
   ·cases i with
    | zero=>
     rcases hi with hi | hi
     ·have z:some Cl.own = some .loc:=hi
      cases z
     ·exact absurd (Nat.zero_lt_succ _) hi.2
    | succ i=>
     have ha':a ∈ fa i:=ha
     rcases hi with hi | hi
     ·have:¬ i < vs'.length:=fun q=>by
       have z':cl[i]? = some .loc:=hi
       rw [bor i q] at z'; cases z'
      rw [h2 i (by omega)] at ha'; cases ha'
     ·rw [far i hi.1] at ha'; cases ha'
   ·cases i with
    | zero=>rfl
    | succ i=>exact absurd ho (nown i (by simpa [G] using hi))
   ·cases j with
    | zero=>exact absurd (show some Cl.own = some (.mk H') from e) (by intro z; cases z)
    | succ j=>exact (bA hcl (show cl[j]? = some (.mk H') from e)).elim
  have fin:∀ {ρ':Ev} {σ':L2.St} {H':Hp} {fa':Nat -> List Addr} {v:V} {r':D} {l:D} {B:List Addr},E3 K G ρ' σ' H' fa' -> ρ'[0]? = some (some l) -> Qd r' l -> Rep K H' v r' B -> B.Nodup -> (∀ a ∈ B,H a = none) -> (∀ a ∈ B,a ∉ fa' 0) -> Q v H':=fun {ρ' σ' H' fa' v r' l B} E' e qd rr n1 n2 n3=>by
   obtain ⟨v',e1,r1⟩:=E'.rep 0 l e
   have e2:=E'.par 0 (Nat.zero_lt_succ _) own0
   rw [e1] at e2
   have e3:v' = w:=by
    have e4:some (some v') = some (some w):=e2
    cases e4; rfl
   subst e3
   refine kk r' l v H' (fa' 0) B qd r1 (E'.nd 0 (.inl own0)) (fun a ha=>?_) (fun a o h hn=>E'.frm a o h fun i hi ho z=>?_) E'.stb rr n1 fun a ha=>⟨n2 a ha,n3 a ha⟩
   ·exact E'.old 0 (Nat.zero_lt_succ _) own0 a ha
   ·cases i with
    | zero=>exact hn z
    | succ i=>exact absurd ho (nown i (by simpa [G] using hi))
  refine ⟨t,pt,h G { nx:=fun ρ=>e8 0 ρ fun l=>Qd .non l,rt:=fun d ρ=>e8 0 ρ fun l=>Qd d l } _ _ H fb _ rfl E0 (hc _ Qd q) ⟨fun σ' H' hq=>?_,fun v H' hq=>?_,fun σ' H' hq=>?_,fun σ' H' hq=>?_⟩⟩
  ·obtain ⟨ρ',fa',E',qd⟩:=hq
   obtain ⟨l,e,qd⟩:=x8 qd
   exact fin E' e qd .non List.nodup_nil (fun a ha=>(by cases ha)) fun a ha=>(by cases ha)
  ·obtain ⟨d,ρ',σ',fa',B',E',r',n1,n2,n3,qd⟩:=hq
   obtain ⟨l,e,qd⟩:=x8 qd
   exact fin E' e qd r' n1 n2 (n3 0 (Nat.zero_lt_succ _) own0)
  ·obtain ⟨ρ',fa',E',qd⟩:=hq
   exact qd
  ·obtain ⟨ρ',fa',E',qd⟩:=hq
   exact qd
end
end L3
namespace L3
open PySem PySem.Spec L2
section
variable {K:PySem.W.Frag} {G:Ent} {ρ:Ev} {σ:St} {H:Hp} {fa:Nat -> List Addr}
def gY (G:Ent) (fa:Nat -> List Addr) (B:List Addr) (i:Nat):Prop:=
 (∀ j,j ≠ i -> G.own j -> ∀ a ∈ B,a ∉ fa j) /\
 match G.cl[i]? with
 | some .own=>i ≠ 0 /\ B.Nodup /\ (∀ a ∈ B,G.H₀ a = none /\ ¬ G.Z a /\ ∀ j,j ≠ i -> a ∉ fa j)
 | some .loc=>B.Nodup /\ ∀ a ∈ B,G.H₀ a = none
 | _=>True
theorem E3.set {v:V} {d:D} {B:List Addr} {i:Nat} (E:E3 K G ρ σ H fa) (hi:i < ρ.length) (r:Rep K H v d B) (h:gY G fa B i):E3 K G (ρ.set i (some d)) (σ.set i (some v)) H (fun j=>if j = i then B else fa j):=by
 have hs:i < σ.length:=by rw [<- E.len]; exact hi
 have hown:G.own i -> i ≠ 0 /\ B.Nodup /\ (∀ a ∈ B,G.H₀ a = none /\ ¬ G.Z a /\ ∀ j,j ≠ i -> a ∉ fa j):=fun o=>by
  have q:=h.2
  unfold Ent.own at o
  rw [o] at q
  exact q
 have hloc:G.cl[i]? = some .loc -> B.Nodup /\ ∀ a ∈ B,G.H₀ a = none:=fun o=>by
  have q:=h.2
  rw [o] at q
  exact q
 refine ⟨fun j d' e=>?_,fun j e=>?_,by simp [E.len],fun j hj=>?_,fun j l n hj a ha=>?_,fun j hj ho=>?_,fun j hj ho a ha=>?_,fun j hj a ha=>?_,E.frm,E.stb,E.zk,E.zn,fun j hj a ha=>?_,E.po⟩
 ·by_cases q:j = i
  ·subst q
   rw [List.getElem?_set_self hi] at e
   cases e
   exact ⟨v,List.getElem?_set_self hs,by rw [if_pos rfl]; exact r⟩
  ·rw [List.getElem?_set_ne (Ne.symm q)] at e
   obtain ⟨w,e1,r1⟩:=E.rep j d' e
   exact ⟨w,by rw [List.getElem?_set_ne (Ne.symm q)]; exact e1,by rw [if_neg q]; exact r1⟩
 ·by_cases q:j = i
  ·subst q
   exact absurd (List.getElem?_set_self hi) (e d)
  ·rw [if_neg q]
   exact E.emp j fun d z=>e d (by rw [List.getElem?_set_ne (Ne.symm q)]; exact z)
 ·by_cases q:j = i
  ·subst q
   rw [if_pos rfl]
   rcases hj with hj | hj
   ·exact (hown hj).2.1
   ·exact (hloc hj).1
  ·rw [if_neg q]; exact E.nd j hj
 ·by_cases q:j = i
  ·subst q
   rw [if_pos rfl] at ha
   rw [if_neg (Ne.symm n)]
   exact ((hown hj).2.2 a ha).2.2 l (Ne.symm n)
  ·rw [if_neg q] at ha
   by_cases q2:l = i
   ·subst q2
    rw [if_pos rfl]
    exact fun z=>h.1 j q hj a z ha
   ·rw [if_neg q2]
    exact E.dj j l n hj a ha
 ·have q:j ≠ i:=fun e=>(hown (e ▸ ho)).1 (e ▸ E.po.one j hj ho)
  rw [List.getElem?_set_ne (Ne.symm q)]
  exact E.par j hj ho
 ·have q:j ≠ i:=fun e=>(hown (e ▸ ho)).1 (e ▸ E.po.one j hj ho)
  rw [if_neg q] at ha
  exact E.old j hj ho a ha
 ·by_cases q:j = i
  ·subst q
   rw [if_pos rfl] at ha
   rcases hj with hj | hj
   ·exact (hloc hj).2 a ha
   ·exact ((hown hj.1).2.2 a ha).1
  ·rw [if_neg q] at ha; exact E.new j hj a ha
 ·by_cases q:j = i
  ·subst q
   rw [if_pos rfl] at ha
   exact ((hown hj).2.2 a ha).2.1
  ·rw [if_neg q] at ha; exact E.zo j hj a ha
noncomputable def zu (c:Option Cl) (f:Fl) (i:Nat):Bool:=match c,f with
 | some .own,.fresh=>decide (i ≠ 0)
 | some .own,_=>false
 | some .loc,.fresh=>true
 | some .loc,.locl=>true
 | some .loc,_=>false
 | _,.any=>false
 | _,_=>true
theorem E3.my (E:E3 K G ρ σ H fa) {a:Addr} (h:H a = none):¬ G.Z a:=fun z=>by
 have q:=E.zk a z
 rw [h] at q
 exact E.zn a z q.symm
theorem gY.of (E:E3 K G ρ σ H fa) {B:List Addr} {f:Fl} {i:Nat} (h:A3 G H fa B f) (hc:zu G.cl[i]? f i = true):gY G fa B i:=by
 have st:f ≠ .any -> A3 G H fa B .stab:=fun n=>h.weak E (by cases f <;> first | rfl | exact absurd rfl n)
 have na:f ≠ .any:=fun e=>by
  subst e
  generalize G.cl[i]? = c at hc
  cases c with
  | none=>cases hc
  | some c=>cases c <;> cases hc
 refine ⟨fun j _ hj a ha=>st na j hj a ha,?_⟩
 cases e:G.cl[i]? with
 | none=>trivial
 | some c=>
  rw [e] at hc
  cases c with
  | own=>
   cases f with
   | fresh=>exact ⟨of_decide_eq_true hc,h.1,fun a ha=>⟨E.stb.dom a (h.2 a ha),E.my (h.2 a ha),fun j _ z=>E.there j z (h.2 a ha)⟩⟩
   | _=>cases hc
  | loc=>
   have q:=h.weak E (g:=.locl) (by cases f <;> first | rfl | cases hc)
   exact ⟨q.2.2,q.2.1⟩
  | bor=>trivial
  | mk _=>trivial
theorem gY.new (E:E3 K G ρ σ H fa) {H0:Hp} {fa0:Nat -> List Addr} {ρ0:Ev} {σ0:St} (E0:E3 K G ρ0 σ0 H0 fa0) {B:List Addr} {i:Nat} (n1:B.Nodup) (n2:∀ a ∈ B,H0 a = none /\ ∀ j,a ∉ fa j) (hc:G.cl[i]? ≠ some .own \/ i ≠ 0):gY G fa B i:=by
 refine ⟨fun j _ hj a ha=>(n2 a ha).2 j,?_⟩
 cases e:G.cl[i]? with
 | none=>trivial
 | some c=>
  cases c with
  | own=>exact ⟨hc.resolve_left (fun z=>z e),n1,fun a ha=>⟨E0.stb.dom a (n2 a ha).1,E0.my (n2 a ha).1,fun j _=>(n2 a ha).2 j⟩⟩
  | loc=>exact ⟨n1,fun a ha=>E0.stb.dom a (n2 a ha).1⟩
  | bor=>trivial
  | mk _=>trivial
end
section
variable {X:Cx} {cl:List Cl} {e a b:Expr} {es:List Expr} {f:Fl} {pos pos':Pos} {ua ub:TU} {ma mb:TM} {x:Str} {i:Nat} {st:Stmt} {sts:List Stmt} {s s2:j2}
def x9:j2:=fun T ρ=>T.nx ρ
def i8 (s u:j2):j2:=fun T ρ=>s { nx:=u T,rt:=T.rt,bk:=T.bk,ct:=T.ct } ρ
theorem A2:gR X cl [] x9:=.of ⟨_,qH,fun G T ρ σ H fa R hG E h le=>le.nx σ H ⟨ρ,fa,E,h⟩⟩
theorem w6 (h1:K9 X cl st s) (h2:gR X cl sts s2):gR X cl (st :: sts) (i8 s s2):=.of <| by
 obtain ⟨t1,p1,h1⟩:=h1.run
 obtain ⟨t2,p2,h2⟩:=h2.run
 refine ⟨_,fY p1 p2,fun G T ρ σ H fa R hG E h le=>?_⟩
 refine h1 G _ ρ σ H fa _ hG E h ⟨fun σ' H' q=>?_,le.rt,le.bk,le.ct⟩
 obtain ⟨ρ',fa',E',q⟩:=q
 exact h2 G T ρ' σ' H' fa' R hG E' q le
theorem dm (h1:K9 X cl st s):gR X cl [st] s:=.of <| let ⟨t1,p1,h1⟩:=h1.run; ⟨_,zi p1,h1⟩
def D4 (i:Nat) (u:TU):j2:=fun T ρ=>u ρ fun d=>Nat.blt i ρ.length = true /\ T.nx (ρ.set i (some d))
theorem B8 (hN:X.N.Nodup) (hi:X.N[i]? = some x) (hx:Loc X.env.scope x) (he:PU X cl e f ua) (hc:zu cl[i]? f i = true) (hs:swapsWith e (some (.Name x pos')) pos.line X.env = pure false:=by rfl) (hf:X.fn x = true \/ X.env.scope.names.lookup x = some .local:=by first | exact .inl rfl | exact .inr rfl | assumption) :
  K9 X cl (.Assign [.Name x pos'] e pos) (D4 i ua):=.of <| by
 obtain ⟨t,p,h⟩:=he.run
 refine ⟨_,xH hN hi hx p hs hf,fun G T ρ σ H fa R hG E hu le=>?_⟩
 refine h G ρ σ H fa _ _ hG E hu fun v H' d B s r fo q=>?_
 exact le.nx _ _ ⟨_,_,(E.same s).set (Nat.le_of_ble_eq_true q.1) r (gY.of E fo (by rw [hG]; exact hc)),q.2⟩
def G5 (i:Nat) (u:TM):j2:=fun T ρ=>u ρ fun d ρ'=>Nat.blt i ρ'.length = true /\ T.nx (ρ'.set i (some d))
noncomputable def eG (c:Option Cl) (i:Nat):Bool:=match c with
 | some .own=>decide (i ≠ 0)
 | _=>true
theorem fO {c:Option Cl} {i:Nat} (h:eG c i = true):c ≠ some .own \/ i ≠ 0:=by
 unfold eG at h
 split at h
 ·exact .inr (of_decide_eq_true h)
 ·rename_i q
  exact .inl fun e=>q e
theorem D5 (hN:X.N.Nodup) (hi:X.N[i]? = some x) (hx:Loc X.env.scope x) (he:PM X cl e ma) (hc:eG cl[i]? i = true) (hs:swapsWith e (some (.Name x pos')) pos.line X.env = pure false:=by rfl) (hf:X.fn x = true \/ X.env.scope.names.lookup x = some .local:=by first | exact .inl rfl | exact .inr rfl | assumption) :
  K9 X cl (.Assign [.Name x pos'] e pos) (G5 i ma):=.of <| by
 obtain ⟨t,p,h⟩:=he.run
 refine ⟨_,xH hN hi hx p hs hf,fun G T ρ σ H fa R hG E hu le=>?_⟩
 refine h G ρ σ H fa _ _ hG E hu fun v H' d B ρ' fa' E' c r n1 n2 q=>?_
 exact le.nx _ _ ⟨_,_,E'.set (Nat.le_of_ble_eq_true q.1) r (gY.new E' E n1 n2 (by rw [hG]; exact fO hc)),q.2⟩
def X3 (c:qC) (s u:j2):j2:=fun T ρ=>c ρ fun k ρ'=>Br k (s T ρ') (u T ρ')
theorem D8 {c:Expr} {A B:List Stmt} {mc:qC} (hc:Fi X cl c mc) (ha:gR X cl A s) (hb:gR X cl B s2):K9 X cl (.If c A B pos) (X3 mc s s2):=.of <| by
 obtain ⟨t,p,hc⟩:=hc.run
 obtain ⟨t1,p1,h1⟩:=ha.run
 obtain ⟨t2,p2,h2⟩:=hb.run
 refine ⟨_,Gp p p1 p2,fun G T ρ σ H fa R hG E hu le=>hc G ρ σ H fa _ _ hG E hu fun b H' ρ' fa' E' c q=>?_⟩
 cases b with
 | true=>rw [if_pos rfl]; exact h1 G T ρ' σ H' fa' R hG E' (q.t rfl) le
 | false=>rw [if_neg Bool.false_ne_true]; exact h2 G T ρ' σ H' fa' R hG E' (q.f rfl) le
def A6 (u:TU):j2:=fun T ρ=>u ρ fun d=>T.rt d ρ
theorem p8 (he:PU X cl e f ua) (hf:cY f .locl = true):K9 X cl (.Return (some e) pos) (A6 ua):=.of <| by
 obtain ⟨t,p,h⟩:=he.run
 refine ⟨_,qb p,fun G T ρ σ H fa R hG E hu le=>h G ρ σ H fa _ _ hG E hu fun v H' d B s r fo q=>?_⟩
 have fl:=fo.weak E hf
 exact le.rt v H' ⟨d,ρ,σ,fa,B,E.same s,r,fl.2.2,fl.2.1,fun i _ hi a ha=>fl.1 i hi a ha,q⟩
def eV (u:TM):j2:=fun T ρ=>u ρ fun d ρ'=>T.rt d ρ'
theorem cy (he:PM X cl e ma):K9 X cl (.Return (some e) pos) (eV ma):=.of <| by
 obtain ⟨t,p,h⟩:=he.run
 refine ⟨_,qb p,fun G T ρ σ H fa R hG E hu le=>h G ρ σ H fa _ _ hG E hu fun v H' d B ρ' fa' E' c r n1 n2 q=>?_⟩
 exact le.rt v H' ⟨d,ρ',σ,fa',B,E',r,n1,fun a ha=>E.stb.dom a (n2 a ha).1,fun i _ hi a ha=>(n2 a ha).2 i,q⟩
theorem kl (i:Nat) {vp:Pos} (h:PE X (.Name x vp) (W8 i)) (hi:i ≠ 0) (hc:cl[i]? = some .own):K9 X cl (.Return (some (.Name x vp)) pos) (A6 (e8 i)):=.of <| by
 refine ⟨_,qb h,fun G T ρ σ H fa R hG E hu le=>?_⟩
 obtain ⟨d,e,q⟩:=x8 hu
 obtain ⟨v,e1,r⟩:=E.rep i d e
 have o:G.own i:=by unfold Ent.own; rw [hG]; exact hc
 refine ⟨v,e1,le.rt v H ⟨d,ρ,σ,fa,fa i,E,r,E.nd i (.inl o),E.new i (.inr ⟨o,fun z=>hi (E.po.one i z o)⟩),fun j hj ho a ha z=>?_,q⟩⟩
 exact E.dj i j (fun e=>hi (e ▸ E.po.one j hj ho)) o a ha z
def dq (u:TM):j2:=fun T ρ=>u ρ fun _ ρ'=>T.nx ρ'
theorem bf (he:PN X cl e ma) (hs:swapsWith e none pos.line X.env = pure false:=by rfl):K9 X cl (.Expr e pos) (dq ma):=.of <| by
 obtain ⟨t,p,h⟩:=he.run
 refine ⟨_,zx p hs,fun G T ρ σ H fa R hG E hu le=>h G ρ σ H fa _ _ hG E hu fun v H' d B ρ' fa' E' c r n q=>?_⟩
 exact le.nx _ _ ⟨ρ',fa',E',q⟩
end
end L3
namespace L3
open PySem PySem.Spec L2
section
variable {K:PySem.W.Frag} {G:Ent} {ρ:Ev} {σ:St} {H H1 H2:Hp} {fa fa1:Nat -> List Addr}
theorem E3.put {i:Nat} {v:V} {d:D} {p:Addr} {A:List Addr} (E:E3 K G ρ σ H1 fa1) (o:G.own i) (hi:i < ρ.length) (hv:σ[i]? = some (some v)) (hp:p ∈ fa1 i) (k:∀ a,a ≠ p -> H2 a = H1 a) (hp2:H2 p ≠ none)
  (r:Rep K H2 v d A) (n1:A.Nodup) (n2:∀ a ∈ A,a ∈ fa1 i \/ (G.H₀ a = none /\ ¬ G.Z a /\ ∀ j,a ∉ fa1 j)):E3 K G (ρ.set i (some d)) σ H2 (fun j=>if j = i then A else fa1 j):=by
 have mu:=E.X0 i p hp
 have stb:T9 H1 H2:=⟨fun b xs h=>by
   by_cases e:b = p
   ·subst e; rw [h] at mu; exact mu.elim
   ·rw [k b e]; exact h,fun b u w h=>by
   by_cases e:b = p
   ·subst e; rw [h] at mu; exact mu.elim
   ·rw [k b e]; exact h,fun b h=>by
   by_cases e:b = p
   ·subst e; exact absurd h hp2
   ·rw [k b e] at h; exact h⟩
 have np:∀ j,j ≠ i -> p ∉ fa1 j:=fun j n z=>E.dj i j (Ne.symm n) o p hp z
 have hs:i < σ.length:=by rw [<- E.len]; exact hi
 refine ⟨fun j d' e=>?_,fun j e=>?_,by simp [E.len],fun j hj=>?_,fun j l n hj a ha=>?_,E.par,fun j hj ho a ha=>?_,fun j hj a ha=>?_,fun a u h n=>?_,E.stb.trans stb,fun a z=>?_,E.zn,fun j hj a ha=>?_,E.po⟩
 ·by_cases q:j = i
  ·subst q
   rw [List.getElem?_set_self hi] at e
   cases e
   exact ⟨v,hv,by rw [if_pos rfl]; exact r⟩
  ·rw [List.getElem?_set_ne (Ne.symm q)] at e
   obtain ⟨w,e1,r1⟩:=E.rep j d' e
   refine ⟨w,e1,?_⟩
   rw [if_neg q]
   exact r1.mono stb fun a ha=>k a fun e=>np j q (e ▸ ha)
 ·by_cases q:j = i
  ·subst q
   exact absurd (List.getElem?_set_self hi) (e d)
  ·rw [if_neg q]
   exact E.emp j fun d z=>e d (by rw [List.getElem?_set_ne (Ne.symm q)]; exact z)
 ·by_cases q:j = i
  ·rw [if_pos q]; exact n1
  ·rw [if_neg q]; exact E.nd j hj
 ·by_cases q:j = i
  ·subst q
   rw [if_pos rfl] at ha
   rw [if_neg (Ne.symm n)]
   rcases n2 a ha with y | y
   ·exact E.dj j l n o a y
   ·exact y.2.2 l
  ·rw [if_neg q] at ha
   by_cases q2:l = i
   ·subst q2
    rw [if_pos rfl]
    intro z
    rcases n2 a z with y | y
    ·exact E.dj j l q hj a ha y
    ·exact y.2.2 j ha
   ·rw [if_neg q2]
    exact E.dj j l n hj a ha
 ·by_cases q:j = i
  ·subst q
   rw [if_pos rfl] at ha
   rcases n2 a ha with y | y
   ·exact E.old j hj ho a y
   ·exact .inr y.1
  ·rw [if_neg q] at ha; exact E.old j hj ho a ha
 ·by_cases q:j = i
  ·subst q
   rw [if_pos rfl] at ha
   rcases n2 a ha with y | y
   ·exact E.new j hj a y
   ·exact y.1
  ·rw [if_neg q] at ha; exact E.new j hj a ha
 ·have hne:a ≠ p:=fun e=>by
   subst e
   by_cases hq:i < G.vs.length
   ·rcases E.old i hq o a hp with y | y
    ·exact n i hq o y
    ·rw [h] at y; cases y
   ·have y:=E.new i (.inr ⟨o,hq⟩) a hp
    rw [h] at y; cases y
  rw [k a hne]
  exact E.frm a u h n
 ·rw [k a (fun e=>E.zo i o p hp (e ▸ z))]
  exact E.zk a z
 ·by_cases q:j = i
  ·subst q
   rw [if_pos rfl] at ha
   rcases n2 a ha with y | y
   ·exact E.zo j hj a y
   ·exact y.2.1
  ·rw [if_neg q] at ha; exact E.zo j hj a ha
theorem O6.put {i:Nat} {p:Addr} {A:List Addr} (c:O6 K G H fa H1 fa1) (E:E3 K G ρ σ H1 fa1) (o:G.own i) (hp:p ∈ fa1 i) (k:∀ a,a ≠ p -> H2 a = H1 a) (hp2:H2 p ≠ none) (n2:∀ a ∈ A,a ∈ fa1 i \/ H a = none):O6 K G H fa H2 (fun j=>if j = i then A else fa1 j):=by
 have mu:=E.X0 i p hp
 refine ⟨fun a u h n=>?_,c.stb.trans ⟨fun b xs h=>?_,fun b u w h=>?_,fun b h=>?_⟩,fun j hj a ha=>?_,fun j hj=>?_⟩
 ·have hne:a ≠ p:=fun e=>by
   subst e
   rcases c.new i o a hp with y | y
   ·exact n i o y
   ·rw [h] at y; cases y
  rw [k a hne]
  exact c.frm a u h n
 ·by_cases e:b = p
  ·subst e; rw [h] at mu; exact mu.elim
  ·rw [k b e]; exact h
 ·by_cases e:b = p
  ·subst e; rw [h] at mu; exact mu.elim
  ·rw [k b e]; exact h
 ·by_cases e:b = p
  ·subst e; exact absurd h hp2
  ·rw [k b e] at h; exact h
 ·by_cases q:j = i
  ·subst q
   rw [if_pos rfl] at ha
   rcases n2 a ha with y | y
   ·exact c.new j hj a y
   ·exact .inr y
  ·rw [if_neg q] at ha; exact c.new j hj a ha
 ·exact (if_neg fun e:j = i=>hj (by rw [e]; exact o)).trans (c.bor j hj)
theorem eL {H:Hp} {p:Addr} {o:HO}:∀ a,a ≠ p -> upd H p o a = H a:=fun a n=>i6 n
end
section
variable {X:Cx} {cl:List Cl} {e a b:Expr} {es:List Expr} {f:Fl} {pos pos':Pos} {ua ub:TU} {ma mb:TM} {x:Str} {i:Nat} {st:Stmt} {sts:List Stmt} {s s2:j2}
noncomputable def EG:D -> Bool
 | .lst _=>true
 | _=>false
noncomputable def CG (i:Nat) (d:D) (ρ:Ev) (Q:Ev -> Prop):D -> Prop
 | .lst xs=>xs.length < sizeLine /\ Q (ρ.set i (some (.lst (xs ++ [d]))))
 | _=>False
def lV (i:Nat) (ma:TM):TM:=fun ρ Q=>e8 i ρ fun l=>EG l = true /\ ma ρ fun d ρ'=>e8 i ρ' (CG i d ρ' (Q .non))
theorem L7 {r:V -> List V -> Hp -> VK -> Prop} {apos vp:Pos} (i:Nat) (hv:PE X (.Name x vp) (W8 i)) (hi:cl[i]? = some .own) (he:PM X cl e ma) (hst:isStar e = false)
  (mk:∀ {t},PA X [e] t -> PE X (.Call (.Attribute (.Name x vp) "append" apos) [e] [] pos) (HF X.K "list" O7 (W8 i) t)):PM X cl (.Call (.Attribute (.Name x vp) "append" apos) [e] [] pos) (lV i ma):=.of <| by
 obtain ⟨t,p,h⟩:=he.run
 refine ⟨_,mk (cK p R7 hst),fun G ρ σ H fa Q R hG E hu k=>?_⟩
 obtain ⟨l0,e0,il,hu⟩:=x8 hu
 have own:G.own i:=by unfold Ent.own; rw [hG]; exact hi
 obtain ⟨v,hvi,r0⟩:=E.rep i l0 e0
 cases l0 <;> first | cases il | skip
 obtain ⟨p,vs,B,rfl,hp,_,_⟩:=K1 r0
 refine ⟨_,hvi,.inl ⟨rfl,vs,S3.of hp⟩,h G ρ σ H fa _ _ hG E hu fun w H1 d B1 ρ1 fa1 E1 c1 r1 n1 n2 q=>?_⟩
 obtain ⟨l1,e1,q⟩:=x8 q
 obtain ⟨v',hv',r2⟩:=E1.rep i l1 e1
 have ev:v' = .ref p:=by rw [hvi] at hv'; cases hv'; rfl
 subst ev
 cases l1 <;> first | exact (show False from q).elim | skip
 rename_i xs
 obtain ⟨p',vs',B',ep,hp',rs,eA⟩:=K1 r2
 cases ep
 have q:xs.length < sizeLine /\ Q .non (ρ1.set i (some (.lst (xs ++ [d])))):=q
 have nd:=E1.nd i (.inl own)
 have pin:p ∈ fa1 i:=by rw [eA]; exact List.mem_cons_self
 rw [eA] at nd
 obtain ⟨np,ndB⟩:=List.nodup_cons.mp nd
 have hpB1:p ∉ B1:=fun z=>(n2 p z).2 i pin
 have st:T9 H1 (upd H1 p (.lst (vs' ++ [w]))):=⟨fun b ys h=>by
   by_cases e:b = p
   ·subst e; rw [hp'] at h; cases h
   ·rw [i6 e]; exact h,fun b u w' h=>by
   by_cases e:b = p
   ·subst e; rw [hp'] at h; cases h
   ·rw [i6 e]; exact h,fun b h=>by
   by_cases e:b = p
   ·subst e; rw [i4] at h; cases h
   ·rw [i6 e] at h; exact h⟩
 have rn:Rep X.K (upd H1 p (.lst (vs' ++ [w]))) (.ref p) (.lst (xs ++ [d])) (p :: (B' ++ (B1 ++ []))):=
  .lst i4 ((rs.mono st fun a ha=>i6 fun e=>np (e ▸ ha)).append (.cons (r1.mono st fun a ha=>i6 fun e=>hpB1 (e ▸ ha)) .nil))
 rw [List.append_nil] at rn
 have n3:∀ a ∈ p :: (B' ++ B1),a ∈ fa1 i \/ a ∈ B1:=fun a ha=>by
  rcases List.mem_cons.mp ha with z | z
  ·exact .inl (z ▸ pin)
  ·rcases List.mem_append.mp z with y | y
   ·exact .inl (by rw [eA]; exact List.mem_cons_of_mem _ y)
   ·exact .inr y
 have nod:(p :: (B' ++ B1)).Nodup:=List.nodup_cons.mpr ⟨fun z=>(List.mem_append.mp z).elim np hpB1,List.nodup_append.mpr ⟨ndB,n1,fun a ha b hb e=>(n2 b hb).2 i (by rw [eA,<- e]; exact List.mem_cons_of_mem _ ha)⟩⟩
 have li:i < ρ1.length:=(List.getElem?_eq_some_iff.mp e1).1
 refine ⟨p,vs',w,rfl,rfl,hp',by rw [rs.length]; exact q.1,?_⟩
 refine k .non _ .non [] _ _ (E1.put own li hv' pin eL (by rw [i4]; exact fun z=>nomatch z) rn nod fun a ha=>(n3 a ha).imp id fun y=>⟨E.stb.dom a (n2 a y).1,E.my (n2 a y).1,(n2 a y).2⟩) (c1.put E1 own pin eL (by rw [i4]; exact fun z=>nomatch z) fun a ha=>(n3 a ha).imp id fun y=>(n2 a y).1) .non List.nodup_nil (fun a ha=>(by cases ha)) q.2
noncomputable def Gg (i:Nat) (k:Int) (d:D) (ρ:Ev) (Q:Ev -> Prop):D -> Prop
 | .lst xs=>∃ j,kc xs.length k = some j /\ Q (ρ.set i (some (.lst (xs.set j d))))
 | _=>False
def rO (i:Nat) (me mk:TM):j2:=fun T ρ=>me ρ fun d ρ1=>e8 i ρ1 fun _=>mk ρ1 fun k ρ2=>match k with
 | .int k=>e8 i ρ2 (Gg i k d ρ2 T.nx)
 | _=>False
theorem kW {vp tp:Pos} {ik:Expr} {mk:TM} (i:Nat) (hv:PE X (.Name x vp) (W8 i)) (hi:cl[i]? = some .own) (he:PM X cl e ma) (hk:PN X cl ik mk)
  (mkS:∀ {te ti},PE X e te -> PE X ik ti -> PS X (.Assign [.Subscript (.Name x vp) ik tp] e pos) (sk te (X7 (W8 i) ti AK))):K9 X cl (.Assign [.Subscript (.Name x vp) ik tp] e pos) (rO i ma mk):=.of <| by
 obtain ⟨t,p,h⟩:=he.run
 obtain ⟨t2,p2,h2⟩:=hk.run
 refine ⟨_,mkS p p2,fun G T ρ σ H fa R hG E hu le=>?_⟩
 have own:G.own i:=by unfold Ent.own; rw [hG]; exact hi
 refine h G ρ σ H fa _ _ hG E hu fun w H1 d B1 ρ1 fa1 E1 c1 r1 n1 n2 q=>?_
 obtain ⟨l0,e0,q⟩:=x8 q
 obtain ⟨v,hvi,r0⟩:=E1.rep i l0 e0
 refine ⟨_,hvi,h2 G ρ1 σ H1 fa1 _ _ hG E1 q fun wk H2 dk Bk ρ2 fa2 E2 c2 rk nk q=>?_⟩
 cases dk <;> first | exact (show False from q).elim | skip
 rename_i kk
 cases B3 rk
 obtain ⟨l1,e1,q⟩:=x8 q
 obtain ⟨v',hv',r2⟩:=E2.rep i l1 e1
 have ev:v' = v:=by rw [hvi] at hv'; cases hv'; rfl
 subst ev
 cases l1 <;> first | exact (show False from q).elim | skip
 rename_i xs
 obtain ⟨p,vs,B,rfl,hp,rs,eA⟩:=K1 r2
 obtain ⟨j,hj,q⟩:∃ j,kc xs.length kk = some j /\ T.nx (ρ2.set i (some (.lst (xs.set j d)))):=q
 have r1':=c2.keep r1 fun i _ a ha=>(n2 a ha).2 i
 have apB:∀ a ∈ B1,∀ l,a ∉ fa2 l:=fun a ha l z=>by
  by_cases ho:G.own l
  ·rcases c2.new l ho a z with y | y
   ·exact (n2 a ha).2 l y
   ·exact r1.there ha y
  ·rw [c2.bor l ho] at z; exact (n2 a ha).2 l z
 have nd:=E2.nd i (.inl own)
 have pin:p ∈ fa2 i:=by rw [eA]; exact List.mem_cons_self
 rw [eA] at nd
 obtain ⟨np,ndB⟩:=List.nodup_cons.mp nd
 have hpB1:p ∉ B1:=fun z=>apB p z i pin
 have st:∀ ws,T9 H2 (upd H2 p (.lst ws)):=fun ws=>⟨fun b ys h=>by
   by_cases e:b = p
   ·subst e; rw [hp] at h; cases h
   ·rw [i6 e]; exact h,fun b u w' h=>by
   by_cases e:b = p
   ·subst e; rw [hp] at h; cases h
   ·rw [i6 e]; exact h,fun b h=>by
   by_cases e:b = p
   ·subst e; rw [i4] at h; cases h
   ·rw [i6 e] at h; exact h⟩
 obtain ⟨C,rC,mC,nC⟩:=n8.set j rs r1'
 have hpC:p ∉ C:=fun z=>(mC p z).elim np hpB1
 have rn:Rep X.K (upd H2 p (.lst (vs.set j w))) (.ref p) (.lst (xs.set j d)) (p :: C):=.lst i4 (rC.mono (st _) fun a ha=>i6 fun e=>hpC (e ▸ ha))
 have n3:∀ a ∈ p :: C,a ∈ fa2 i \/ a ∈ B1:=fun a ha=>by
  rcases List.mem_cons.mp ha with z | z
  ·exact .inl (z ▸ pin)
  ·exact (mC a z).imp (fun y=>by rw [eA]; exact List.mem_cons_of_mem _ y) id
 have nod:(p :: C).Nodup:=List.nodup_cons.mpr ⟨hpC,nC ndB n1 fun a ha z=>apB a ha i (by rw [eA]; exact List.mem_cons_of_mem _ z)⟩
 have li:i < ρ2.length:=(List.getElem?_eq_some_iff.mp e1).1
 refine ⟨p,vs,kk,j,rfl,rfl,hp,by rw [rs.length]; exact hj,?_⟩
 exact le.nx _ _ ⟨_,_,E2.put own li hv' pin eL (by rw [i4]; exact fun z=>nomatch z) rn nod fun a ha=>(n3 a ha).imp id fun y=>⟨E.stb.dom a (n2 a y).1,E.my (n2 a y).1,apB a y⟩,q⟩
end
end L3
namespace L3
open PySem PySem.Spec L2
def eU (K:PySem.W.Frag) (J:It) (xs:List D) (C:List Addr) (H:Hp):Prop:=∀ H',Tf H H' -> (∀ a ∈ C,H' a = H a) -> ∀ i,(xs.length = i -> J.stop i H') /\
 ∀ d,xs[i]? = some d -> J.go i H' /\ ∀ x H2,J.yld i H' x H2 -> i7 H' H2 /\ ∃ B,Rep K H2 x d B /\ B.Sublist C
noncomputable abbrev uF:=Ev -> (List D -> Prop) -> Prop
noncomputable abbrev Df:=Ev -> (List D -> Ev -> Prop) -> Prop
structure eP (X:Cx) (cl:List Cl) (tg iter:Expr) (f:Fl) (u:uF):Prop where
 of ::
 run:∃ wi,PI X tg iter wi /\ ∀ (G:Ent) (ρ:Ev) (σ:St) (H:Hp) (fa:Nat -> List Addr) (Q:List D -> Prop) (R:It -> Hp -> Prop),G.cl = cl -> E3 X.K G ρ σ H fa -> u ρ Q ->
  (∀ J H1 xs C,i7 H H1 -> eU X.K J xs C H1 -> (∀ a ∈ C,H1 a ≠ none) -> A3 G H fa C f -> Q xs -> R J H1) -> wi σ H R
structure EH (X:Cx) (cl:List Cl) (tg iter:Expr) (u:Df):Prop where
 of ::
 run:∃ wi,PI X tg iter wi /\ ∀ (G:Ent) (ρ:Ev) (σ:St) (H:Hp) (fa:Nat -> List Addr) (Q:List D -> Ev -> Prop) (R:It -> Hp -> Prop),G.cl = cl -> E3 X.K G ρ σ H fa -> u ρ Q ->
  (∀ J H1 xs C ρ1 fa1,E3 X.K G ρ1 σ H1 fa1 -> O6 X.K G H fa H1 fa1 -> eU X.K J xs C H1 -> (∀ a ∈ C,H1 a ≠ none) -> (∀ i,G.own i -> ∀ a ∈ C,a ∉ fa1 i) -> Q xs ρ1 -> R J H1) -> wi σ H R
section
variable {X:Cx} {cl:List Cl} {tg e a b:Expr} {es:List Expr} {f:Fl} {pos pos':Pos} {ua ub:TU} {ma mb:TM} {x:Str} {i:Nat}
def iP (u:uF):Df:=fun ρ Q=>u ρ fun xs=>Q xs ρ
theorem eP.m {u:uF} (h:eP X cl tg e f u) (hf:cY f .stab = true):EH X cl tg e (iP u):=.of <| by
 obtain ⟨t,p,h⟩:=h.run
 exact ⟨t,p,fun G ρ σ H fa Q R hG E hu k=>h G ρ σ H fa _ _ hG E hu fun J H1 xs C s it tr fo q=>k J H1 xs C ρ fa (E.same s) (O6.same s) it tr (fo.weak E hf) q⟩
theorem aB {K:PySem.W.Frag} {H H':Hp} {vs:List V} {xs:List D} {C:List Addr} (r:n8 K H vs xs C) (tf:Tf H H') (k:∀ a ∈ C,H' a = H a) {i:Nat} {d:D} (e:xs[i]? = some d):∃ v B,vs[i]? = some v /\ Rep K H' v d B /\ B.Sublist C:=(r.K2 tf k).get e
theorem Il {K:PySem.W.Frag} {H:Hp} {p:Addr} {vs:List V} {xs:List D} {C:List Addr} (h:H p = some (.lst vs)) (r:n8 K H vs xs C):eU K (Gs K p) xs (p :: C) H:=fun H' tf k i=>by
 have hp:H' p = some (.lst vs):=(k p List.mem_cons_self).trans h
 have kC:∀ a ∈ C,H' a = H a:=fun a ha=>k a (List.mem_cons_of_mem _ ha)
 refine ⟨fun hl=>⟨vs,S3.of hp,by rw [r.length]; exact Nat.le_of_eq hl⟩,fun d e=>?_⟩
 obtain ⟨v,B,e1,r1,s1⟩:=aB r tf kC e
 refine ⟨⟨vs,v,S3.of hp,e1⟩,fun y H2 hy=>?_⟩
 obtain ⟨e2,hy⟩:=hy
 subst e2
 have e3:=hy vs (S3.of hp)
 rw [e1] at e3
 cases e3
 exact ⟨i7.refl _,B,r1,s1.trans (List.sublist_cons_self _ _)⟩
theorem Iq {K:PySem.W.Frag} {H:Hp} {p:Addr} {vs:List V} {xs:List D} {C:List Addr} (h:BP K H p vs) (r:n8 K H vs xs C):eU K (Gs K p) xs C H:=fun H' tf k i=>by
 have hp:S3 K H' p vs:=(tf.GQ h).sq
 refine ⟨fun hl=>⟨vs,hp,by rw [r.length]; exact Nat.le_of_eq hl⟩,fun d e=>?_⟩
 obtain ⟨v,B,e1,r1,s1⟩:=aB r tf k e
 refine ⟨⟨vs,v,hp,e1⟩,fun y H2 hy=>?_⟩
 obtain ⟨e2,hy⟩:=hy
 subst e2
 have e3:=hy vs hp
 rw [e1] at e3
 cases e3
 exact ⟨i7.refl _,B,r1,s1⟩
theorem Gq {K:PySem.W.Frag} {H:Hp} {p:Addr} {vs:List V} {xs:List D} {C:List Addr} (h:H p = some (.tup vs)) (r:n8 K H vs xs C):eU K (Hn K p) xs C H:=fun H' tf k i=>by
 have hp:O8 K H' p vs:=O8.of (tf.L4 _ _ h)
 refine ⟨fun hl=>⟨vs,hp,by rw [r.length]; exact Nat.le_of_eq hl⟩,fun d e=>?_⟩
 obtain ⟨v,B,e1,r1,s1⟩:=aB r tf k e
 refine ⟨⟨vs,v,hp,e1⟩,fun y H2 hy=>?_⟩
 obtain ⟨e2,hy⟩:=hy
 subst e2
 have e3:=hy vs hp
 rw [e1] at e3
 cases e3
 exact ⟨i7.refl _,B,r1,s1⟩
theorem n8.there {K:PySem.W.Frag} {H:Hp} {v:List V} {d:List D} {A:List Addr} (r:n8 K H v d A):∀ x ∈ A,H x ≠ none:=fun x hx z=>by
 have:=r.X0 x hx
 rw [z] at this
 exact this
noncomputable def ke (lo:Int) (n:Nat):List D:=(List.range n).map fun (k:Nat)=>D.int (lo + (k:Int))
theorem itR {K:PySem.W.Frag} {H:Hp} (lo:Int) (n:Nat):eU K (Ez lo n) (ke lo n) [] H:=fun H' tf k i=>by
 refine ⟨fun hl=>by unfold ke at hl; rw [List.length_map,List.length_range] at hl; exact Nat.le_of_eq hl,fun d e=>?_⟩
 unfold ke at e
 rw [List.getElem?_map] at e
 by_cases hi:i < n
 ·rw [List.getElem?_range hi] at e
  cases e
  refine ⟨hi,fun y H2 hy=>?_⟩
  obtain ⟨e2,rfl⟩:=hy
  subst e2
  exact ⟨i7.refl _,[],.int,List.nil_sublist _⟩
 ·rw [List.getElem?_eq_none (by rw [List.length_range]; omega)] at e
  cases e
def Fd (u:TM):Df:=fun ρ Q=>u ρ fun d ρ'=>match d with
 | .int j=>(-(2 ^ 62) <= j /\ j < 2 ^ 62) /\ Q (ke 0 j.toNat) ρ'
 | _=>False
theorem sS {p:Pos} (hg:Gl X "range") (hm:X.mg "range" = none) (h:PN X cl e ma) (hst:isStar e = false)
  (mk:∀ {t},PA X [e] t -> PI X tg (.Call (.Name "range" p) [e] [] pos) (xQ t)):EH X cl tg (.Call (.Name "range" p) [e] [] pos) (Fd ma):=.of <| by
 obtain ⟨t,pt,h⟩:=h.run
 refine ⟨_,mk (cK pt R7 hst),fun G ρ σ H fa Q R hG E hu k=>h G ρ σ H fa _ _ hG E hu fun v H' d B ρ' fa' E' c r n q=>?_⟩
 cases d <;> first | exact (show False from q).elim | skip
 rename_i j
 cases B3 r
 have q:(-(2 ^ 62) <= j /\ j < 2 ^ 62) /\ Q (ke 0 j.toNat) ρ':=q
 exact ⟨j,rfl,q.1.1,q.1.2,k _ H' _ [] ρ' fa' E' c (itR 0 _) (fun a ha=>(by cases ha)) (fun _ _ a ha=>(by cases ha)) q.2⟩
def au (u:TU):uF:=fun ρ Q=>u ρ fun d=>match d with
 | .int j=>(-(2 ^ 62) <= j /\ j < 2 ^ 62) /\ Q (ke 0 j.toNat)
 | _=>False
theorem G6 {p:Pos} (hg:Gl X "range") (hm:X.mg "range" = none) (h:PU X cl e f ua) (hst:isStar e = false)
  (mk:∀ {t},PA X [e] t -> PI X tg (.Call (.Name "range" p) [e] [] pos) (xQ t)):eP X cl tg (.Call (.Name "range" p) [e] [] pos) .fresh (au ua):=.of <| by
 obtain ⟨t,pt,h⟩:=h.run
 refine ⟨_,mk (cK pt R7 hst),fun G ρ σ H fa Q R hG E hu k=>h G ρ σ H fa _ _ hG E hu fun v H' d B s r fo q=>?_⟩
 cases d <;> first | exact (show False from q).elim | skip
 rename_i j
 cases B3 r
 have q:(-(2 ^ 62) <= j /\ j < 2 ^ 62) /\ Q (ke 0 j.toNat):=q
 exact ⟨j,rfl,q.1.1,q.1.2,k _ H' _ [] s (itR 0 _) (fun a ha=>(by cases ha)) (A3.nil _) q.2⟩
noncomputable def dU:Nat -> List D -> List D
 | _,[]=>[]
 | k,x :: xs=>.tup [.int k,x] :: dU (k + 1) xs
theorem bH:∀ {xs:List D} {k i:Nat} {d:D},(dU k xs)[i]? = some d -> ∃ x,xs[i]? = some x /\ d = .tup [.int ((k + i:Nat):Int),x]
 | [],_,_,_,e=>by simp [dU] at e
 | x :: xs,k,0,d,e=>by simp [dU] at e; exact ⟨x,rfl,e.symm⟩
 | x :: xs,k,i + 1,d,e=>by
  rw [dU,List.getElem?_cons_succ] at e
  obtain ⟨y,e1,e2⟩:=bH e
  exact ⟨y,by simpa using e1,by rw [e2]; congr 3; omega⟩
theorem Q1:∀ {xs:List D} {k:Nat},(dU k xs).length = xs.length
 | [],_=>rfl
 | x :: xs,k=>by simp [dU,Q1]
noncomputable def cN:List D -> List D -> List D
 | x :: xs,y :: ys=>.tup [x,y] :: cN xs ys
 | _,_=>[]
theorem fQ:∀ {xs ys:List D} {i:Nat} {d:D},(cN xs ys)[i]? = some d -> ∃ x y,xs[i]? = some x /\ ys[i]? = some y /\ d = .tup [x,y]
 | [],ys,_,_,e=>by simp [cN] at e
 | x :: xs,[],_,_,e=>by simp [cN] at e
 | x :: xs,y :: ys,0,d,e=>by simp [cN] at e; exact ⟨x,y,rfl,rfl,e.symm⟩
 | x :: xs,y :: ys,i + 1,d,e=>by
  rw [cN,List.getElem?_cons_succ] at e
  obtain ⟨x',y',e1,e2,e3⟩:=fQ e
  exact ⟨x',y',by simpa using e1,by simpa using e2,e3⟩
theorem lK:∀ {xs ys:List D},(cN xs ys).length = min xs.length ys.length
 | [],ys=>by simp [cN]
 | x :: xs,[]=>by simp [cN]
 | x :: xs,y :: ys=>by simp [cN,lK]
def Iv (K:PySem.W.Frag) (b:Bool) (H:Hp) (p:Addr) (xs:List D) (C:List Addr):Prop:=∃ vs B,n8 K H vs xs B /\ B.Sublist C /\ ∀ H',Tf H H' -> (∀ a ∈ C,H' a = H a) -> uE b K H' p vs
noncomputable def kindB (b:Bool) (d:D):Option (List D):=match b,d with
 | false,.lst ys=>some ys
 | false,.fz ys=>some ys
 | true,.tup ys=>some ys
 | _,_=>none
theorem uL {K:PySem.W.Frag} {H:Hp} {v:V} {d:D} {A:List Addr} {xs:List D} (r:Rep K H v d A) (b:Bool) (e:kindB b d = some xs):∃ p,v = .ref p /\ Iv K b H p xs A:=by
 cases b with
 | false=>
  cases d <;> first | cases e | skip
  ·obtain ⟨p,vs,C,rfl,hp,rs,rfl⟩:=K1 r
   exact ⟨p,rfl,vs,C,rs,List.sublist_cons_self _ _,fun H' tf k=>S3.of ((k p List.mem_cons_self).trans hp)⟩
  ·obtain ⟨p,vs,rfl,hp,rs⟩:=fT r
   exact ⟨p,rfl,vs,A,rs,List.Sublist.refl _,fun H' tf k=>(tf.GQ hp).sq⟩
 | true=>
  cases d <;> first | cases e | skip
  obtain ⟨p,vs,rfl,hp,rs⟩:=K4 r
  exact ⟨p,rfl,vs,A,rs,List.Sublist.refl _,fun H' tf k=>O8.of (tf.L4 _ _ hp)⟩
def Fe (b1 b2:Bool) (ua ub:TU):uF:=fun ρ Q=>ua ρ fun x=>ub ρ fun y=>∃ xs ys,kindB b1 x = some xs /\ kindB b2 y = some ys /\ y8 xs = true /\ y8 ys = true /\ Q (cN xs ys)
theorem EU {p:Pos} {fa fb:Fl} (b1 b2:Bool) (ha:PU X cl a fa ua) (hb:PU X cl b fb ub) (g:Fl) (hg:cY .stab g = true) (hfa:cY fa g = true) (hfb:cY fb g = true) (h1:isStar a = false) (h2:isStar b = false)
  (mk:∀ {t},PA X [a,b] t -> PI X tg (.Call (.Name "zip" p) [a,b] [] pos) (EK X.K b1 b2 t)):eP X cl tg (.Call (.Name "zip" p) [a,b] [] pos) g (Fe b1 b2 ua ub):=.of <| by
 obtain ⟨ta,pa,ha⟩:=ha.run
 obtain ⟨tb,pb,hb⟩:=hb.run
 refine ⟨_,mk (cK pa (cK pb R7 h2) h1),fun G ρ σ H fo Q R hG E hu k=>ha G ρ σ H fo _ _ hG E hu fun v H1 d A s1 r1 f1 q1=>hb G ρ σ H1 fo _ _ hG (E.same s1) q1 fun w H2 e B s2 r2 f2 q2=>?_⟩
 obtain ⟨xs,ys,e1,e2,i1,i2,q⟩:=q2
 obtain ⟨p1,rfl,vs,B1,rs1,sb1,st1⟩:=uL (r1.same s2) b1 e1
 obtain ⟨p2,rfl,ws,B2,rs2,sb2,st2⟩:=uL r2 b2 e2
 have eB1:=rs1.M1 i1
 have eB2:=rs2.M1 i2
 subst eB1
 subst eB2
 refine ⟨p1,p2,rfl,⟨vs,st1 H2 ⟨fun _ _ h=>h,fun _ _ _ h=>h⟩ fun _ _=>rfl⟩,⟨ws,st2 H2 ⟨fun _ _ h=>h,fun _ _ _ h=>h⟩ fun _ _=>rfl⟩,?_⟩
 refine k _ H2 (cN xs ys) (A ++ B) (s1.trans s2) (fun H' tf kk i=>?_) (fun x hx=>?_) ?_ q
 ·have q1:=st1 H' tf fun a ha=>kk a (List.mem_append_left _ ha)
  have q2:=st2 H' tf fun a ha=>kk a (List.mem_append_right _ ha)
  refine ⟨fun hl=>⟨vs,ws,q1,q2,by rw [rs1.length,rs2.length,<- lK]; exact hl.symm⟩,fun d e=>?_⟩
  obtain ⟨x,y,ex,ey,ed⟩:=fQ e
  obtain ⟨v1,C1,g1,r3,s3⟩:=aB rs1 tf (fun a ha=>(by cases ha)) ex
  obtain ⟨v2,C2,g2,r4,s4⟩:=aB rs2 tf (fun a ha=>(by cases ha)) ey
  refine ⟨⟨vs,ws,v1,v2,q1,q2,g1,g2⟩,fun z H3 hz=>?_⟩
  obtain ⟨p',z1,z2,rfl,hn,rfl,hz1,hz2⟩:=hz
  have e3:=hz1 vs q1
  have e4:=hz2 ws q2
  rw [g1] at e3
  rw [g2] at e4
  cases e3
  cases e4
  have c1:C1 = []:=List.sublist_nil.mp s3
  have c2:C2 = []:=List.sublist_nil.mp s4
  subst c1
  subst c2
  refine ⟨i7.n9 hn,[],?_,List.nil_sublist _⟩
  rw [ed]
  have rr:n8 X.K (upd H' p' (.tup [v1,v2])) [v1,v2] [x,y] ([] ++ ([] ++ [])):=.cons (r3.same (i7.n9 hn)) (.cons (r4.same (i7.n9 hn)) .nil)
  exact .tup i4 rr
 ·rcases List.mem_append.mp hx with z | z
  ·exact (r1.same s2).there z
  ·exact r2.there z
 ·have w1:=f1.weak E hfa
  have w2:=(f2.back s1).weak E hfb
  cases g <;> first | trivial | (cases hg; done) | exact fun i hi a ha=>(List.mem_append.mp ha).elim (w1 i hi a) (w2 i hi a)
end
end L3
namespace L2
open PySem PySem.Spec PyProof.Rows
theorem ip {X:Cx} {N:List Str} {scope:Scope} {cap:List (Option Nat)} {fp:List Addr} {pins:List (Addr × Obj)} {σ:St} {H:Hp} {s:Shared} {elt target iter:Expr} {ifs:List Expr} {pos:Pos} {g:List (Str × Addr) -> List Addr -> Shared -> Hp -> TG} {tc:List (Str × Addr) -> List Addr -> Shared -> Hp -> TT} {te:List (Str × Addr) -> List Addr -> Shared -> Hp -> TE} {J:It} {it:Addr} {tn:Nat -> Heap -> Prop}
  {E:Value -> Shared -> Prop} {RR:Value -> Addr -> Result -> Shared -> Prop} {Q:VK} (hcalm:X.calm = true) (cf:N5 X N scope cap) (hk:scope.kind = .function)
  (hg:∀ cl fp s H,PG (O1 X N scope cl fp s H) target (g cl fp s H)) (hc:∀ cl fp s H,zL (O1 X N scope cl fp s H) ifs (tc cl fp s H)) (he:∀ cl fp s H,PE (O1 X N scope cl fp s H) elt (te cl fp s H))
  (I:Inv X pins σ H s) (T:Turn X.prog X.w X.K target J fp it tn) (st:tn 0 s.heap) (hf:∀ b ∈ fp,S1 X pins H b) (q:∀ cl fp s H',Gv J (g cl fp s H') (tc cl fp s H') (te cl fp s H') (N7 cap σ) Q H)
  (hRR:∀ d C H' s' m,Inv X pins σ H' s' -> s'.heap.Ns C m -> S1 X pins H' C -> Q (.ref d) H' -> RR (.ref d) C (.ok .next) s') :
  wpAny (model X.prog X.w) X.A (newList []) (fun acc s3=>wpAny (model X.prog X.w) X.A (newFunctionEnv scope X.env.globals (D6 X.env scope.names []) [] X.env.qual none .none (some X.env)) (fun cenv s4=>
   codeAny (model X.prog X.w) X.A (.compStart (.ListComp elt [⟨target,iter,ifs,0⟩] scope pos) 0 (.ref it) acc { cenv with scope:=relabel scope X.env }) (RR acc cenv.locals) s4) E s3) E s:=by
 refine wpAny_newObj_type (wpAny_newFunctionEnv cf.nocell (by intro y hy; simp at hy) (fun h1 hns hsb=>?_) hk)
 have I3:Inv X pins σ (upd H s.heap.objs.size (.lst [])) { s with heap:=s.heap.push { cls:=.type "list",data:=.seq ([]:List Value).toArray } }:=I.Dp (its:=[]) (t':=s.toks) .nil (Nat.zero_le _)
 have hfr:H s.heap.objs.size = none:=I.fresh
 obtain ⟨W,⟨m0,w0⟩,turn⟩:=q (D6 X.env scope.names []) fp { s with heap:=s.heap.push { cls:=.type "list",data:=.seq ([]:List Value).toArray } } (upd H s.heap.objs.size (.lst [])) s.heap.objs.size hfr
 have hlt:∀ b ∈ fp,b < s.heap.objs.size:=fun b hb=>by
  obtain ⟨o,e,_⟩:=T.obj 0 _ st b hb
  exact Heap.lt_size e
 have hf3:∀ b ∈ fp,S1 X pins (upd H s.heap.objs.size (.lst [])) b:=fun b hb=>⟨by rw [i6 (Nat.ne_of_lt (hlt b hb))]; exact (hf b hb).1,(hf b hb).2⟩
 have hlt3:∀ b ∈ fp,b < (s.heap.push { cls:=.type "list",data:=.seq ([]:List Value).toArray }).objs.size:=fun b hb=>by
  rw [Heap.size_push]
  exact Nat.lt_succ_of_lt (hlt b hb)
 dsimp only at hns hsb ⊢
 generalize hS3:({ s with heap:=s.heap.push { cls:=.type "list",data:=.seq ([]:List Value).toArray } }:Shared) = s3 at I3 turn
 have hheap:s3.heap = s.heap.push { cls:=.type "list",data:=.seq ([]:List Value).toArray }:=by rw [<- hS3]
 have htok:s3.toks = s.toks:=by rw [<- hS3]
 rw [<- hheap] at hns hsb hlt3
 have keep3:∀ b o,s3.heap.get? b = some o -> h1.get? b = some o:=fun b o e=>hsb.extBut b o (Nat.ne_of_lt (Heap.lt_size e)) (Heap.get?_push_of_some _ e)
 have keep:∀ b o,s.heap.get? b = some o -> h1.get? b = some o:=fun b o e=>keep3 b o (by rw [hheap]; exact Heap.get?_push_of_some _ e)
 have Ic:=mD (tk:=s.toks) I3 cf hk hf3 hlt3 hns keep3
 have st1:tn 0 h1:=T.keep 0 _ _ st fun b _ o e=>keep b o e
 have fr0:∀ b ∈ fp,(upd H s.heap.objs.size (.lst [])) b = none:=fun b hb=>(hf3 b hb).1
 have stat:∀ {H':Hp},(∀ b ∈ fp,H' b = none) -> ∀ b ∈ fp,S1 (O1 X N scope (D6 X.env scope.names []) fp s3 (upd H s.heap.objs.size (.lst []))) [] H' b:=fun hn b hb=>
  ⟨hn b hb,Nat.ne_of_lt (hlt3 b hb),Ic.ok.exfs b hb,.inl hb,fun x c h=>(hf b hb).2.2.2.2.1 x c (X8 h),fun p hp=>absurd (show p ∈ ([]:List (Addr × Obj)) from hp) (by simp)⟩
 have hos:s3.os = s.os:=by rw [<- hS3]
 have hge:s3.gens = s.gens:=by rw [<- hS3]
 have loop:codeAny (model X.prog X.w) X.A (.compLoop (.ListComp elt [⟨target,iter,ifs,0⟩] scope pos) 0 (.ref it) (.ref s.heap.objs.size) (compEnvC scope (D6 X.env scope.names []) s3.heap.objs.size X.env))
   (RR (.ref s.heap.objs.size) s3.heap.objs.size) { s3 with heap:=h1,toks:=s.toks }:=by
  refine ku (fun n s'=>∃ i H',Inv (O1 X N scope (D6 X.env scope.names []) fp s3 (upd H s.heap.objs.size (.lst []))) [] (N7 cap σ) H' s' /\ tn i s'.heap /\ (∀ b ∈ fp,H' b = none) /\ W i n H') ?_ m0 ⟨0,_,Ic,st1,fr0,w0⟩
  rintro n s4 ⟨i,H4,I4,st4,fr4,w4⟩
  rcases turn i n H4 w4 with ⟨stop,qn⟩ | ⟨go,step⟩
  ·refine B6 (T.done (O1 X N scope (D6 X.env scope.names []) fp s3 (upd H s.heap.objs.size (.lst []))) rfl rfl rfl hcalm i [] s4 _ H4 (fun _ _=>False) I4 (stat fr4) st4 stop) fun r s5 ⟨hr,I5⟩=>?_
   subst hr
   obtain ⟨m,hn5,_⟩:=I5.loc
   refine hRR _ _ H4 s5 m ?_ hn5 (I3.js (Nat.le_refl _) I5.free) qn
   exact I3.iE I5.os I5.base I5.hok I5.bare fun b hb=>⟨(hf b hb).2.2.2.1,(hf b hb).2.1,(hf b hb).2.2.2.2.1,(hf b hb).2.2.2.2.2⟩
  ·refine B6 (T.item (O1 X N scope (D6 X.env scope.names []) fp s3 (upd H s.heap.objs.size (.lst []))) rfl rfl rfl hcalm i [] s4 _ H4 (fun _ _=>False) I4 (stat fr4) st4 go) fun r s5 ⟨u,hr,h5⟩=>?_
   subst hr
   refine B6 h5 fun _ s6 ⟨x,H6,I6,r6,y6,st6,fr6⟩=>?_
   have I6':=I6.pinned (stat fr6) (T.obj _ _ st6)
   refine B6 (hg _ _ _ _ _ s6 _ H6 x u _ I6' r6 (step x H6 y6)) fun _ s7 ⟨σ7,H7,I7,q7⟩=>?_
   refine B6 (hc _ _ _ _ _ s7 σ7 H7 _ I7 q7) fun ok s8 ⟨H8,I8,q8⟩=>?_
   have again:∀ {σ9:St} {H9:Hp} {s9:Shared},Inv (O1 X N scope (D6 X.env scope.names []) fp s3 (upd H s.heap.objs.size (.lst []))) ([] ++ cR fp s6.heap) σ9 H9 s9 -> (∃ m',m' < n /\ W (i + 1) m' H9) ->
     ∃ m,m < n /\ ∃ i H',Inv (O1 X N scope (D6 X.env scope.names []) fp s3 (upd H s.heap.objs.size (.lst []))) [] (N7 cap σ) H' s9 /\ tn i s9.heap /\ (∀ b ∈ fp,H' b = none) /\ W i m H':=fun {σ9 H9 s9} I9 ⟨m',hm,w9⟩=>by
    refine ⟨m',hm,i + 1,H9,iD I3 cf hf3 I9.ae,T.keep _ _ _ st6 fun b hb o e=>(I9.pin (b,o) (List.mem_append_right _ (List.mem_append_right _ (M0 hb e)))).1,fun b hb=>?_,w9⟩
    obtain ⟨o,e,d⟩:=T.obj _ _ st6 b hb
    exact (I9.pin (b,o) (List.mem_append_right _ (List.mem_append_right _ (M0 hb e)))).2.1
   cases ok with
   | false=>exact again I8 q8
   | true=>
    show wpAny _ _ (eval elt _) _ _ s8
    refine B6 (he _ _ _ _ _ s8 σ7 H8 _ I8 q8) fun y s9 ⟨v,H9,I9,r9,acc,hacc,hlen,m',hm,w9⟩=>?_
    refine B6 (J3 _ s9 σ7 H9 (.ref s.heap.objs.size) [v] (.ref s.heap.objs.size) [y] (fun _ H'=>H' = upd H9 s.heap.objs.size (.lst (acc ++ [v]))) I9 rfl (.cons r9 .nil) ⟨_,acc,v,rfl,rfl,hacc,hlen,rfl⟩) fun _ s10 ⟨_,H10,I10,_,e10⟩=>?_
    subst e10
    exact again I10 ⟨m',hm,w9⟩
 have e4:({ s with heap:=h1,toks:=s.toks + ([]:List (Str × Value)).length }:Shared) = { s3 with heap:=h1,toks:=s.toks }:=by rw [<- hS3]; rfl
 rw [<- hheap,e4]
 exact codeAny_compStart_list loop (T.self _ 0 _ _ _ st1 loop)
def Fm (cap:List (Option Nat)) (wi:TI) (g:List (Str × Addr) -> List Addr -> Shared -> Hp -> TG) (tc:List (Str × Addr) -> List Addr -> Shared -> Hp -> TT) (te:List (Str × Addr) -> List Addr -> Shared -> Hp -> TE):TE:=fun σ H Q=>wi σ H fun J H1=>∀ cl fp s H',Gv J (g cl fp s H') (tc cl fp s H') (te cl fp s H') (N7 cap σ) Q H1
theorem wU {X:Cx} {XN N:List Str} {XS scope:Scope} {cap:List (Option Nat)} {elt target iter:Expr} {ifs:List Expr} {pos:Pos} {wi:TI} {g:List (Str × Addr) -> List Addr -> Shared -> Hp -> TG} {tc:List (Str × Addr) -> List Addr -> Shared -> Hp -> TT} {te:List (Str × Addr) -> List Addr -> Shared -> Hp -> TE}
  (hcap:aS XN N XS scope cap = true) (hN:X.N = XN) (hS:X.env.scope = XS) (hk:scope.kind = .function) (hcalm:X.calm = true) (hi:PI X target iter wi)
  (hg:∀ cl fp s H,PG (O1 X N scope cl fp s H) target (g cl fp s H)) (hc:∀ cl fp s H,zL (O1 X N scope cl fp s H) ifs (tc cl fp s H)) (he:∀ cl fp s H,PE (O1 X N scope cl fp s H) elt (te cl fp s H))
  (hs:∀ x,foldedSetIterable iter X.env x = pure x:=by intro _; rfl):PE X (.ListComp elt [⟨target,iter,ifs,0⟩] scope pos) (Fm cap wi g tc te):=by
 refine .of ?_
 intro pins s σ H Q I h
 have cf:=ah hN hS hcap
 rw [eval_ListComp]
 refine wpAny_comprehension_free (use:=none) rfl hs (bq (I.Y2 cf)) hk cf.loc (B6 (hi pins s σ H _ I h) fun v s1 h1=>B6 h1 fun itv s2 h2=>?_)
 obtain ⟨it,fp,tn,J,H2,rfl,I2,T,st2,f2,q⟩:=h2
 exact ip (RR:=fun acc C=>compPost (model X.prog X.w) X.A X.xe none (EP X pins σ Q) acc C) hcalm cf hk hg hc he I2 T st2 f2 q fun d C H' s' m I' hn hC q'=>⟨m,hn,fun h' sb=>⟨.ref d,H',I'.vF hC sb,rfl,q'⟩⟩
theorem iN {X:Cx} {i:Nat} {y:Str} {XN N:List Str} {XS scope:Scope} {cap:List (Option Nat)} {elt target iter:Expr} {ifs:List Expr} {pos spos py:Pos} {wi:TI} {g:List (Str × Addr) -> List Addr -> Shared -> Hp -> TG} {tc:List (Str × Addr) -> List Addr -> Shared -> Hp -> TT} {te:List (Str × Addr) -> List Addr -> Shared -> Hp -> TE}
  (hXN:X.N.Nodup) (hiN:X.N[i]? = some y) (hy:X.env.scope.names.lookup y = some .local)
  (hcap:aS XN N XS scope cap = true) (hN:X.N = XN) (hS:X.env.scope = XS) (hk:scope.kind = .function) (hcalm:X.calm = true) (hi:PI X target iter wi)
  (hg:∀ cl fp s H,PG (O1 X N scope cl fp s H) target (g cl fp s H)) (hc:∀ cl fp s H,zL (O1 X N scope cl fp s H) ifs (tc cl fp s H)) (he:∀ cl fp s H,PE (O1 X N scope cl fp s H) elt (te cl fp s H))
  (hsw:swapsWith (.ListComp elt [⟨target,iter,ifs,0⟩] scope pos) (some (.Name y py)) spos.line X.env = pure true:=by rfl)
  (hs:∀ x,foldedSetIterable iter X.env x = pure x:=by intro _; rfl):PS X (.Assign [.Name y py] (.ListComp elt [⟨target,iter,ifs,0⟩] scope pos) spos) (sk (Fm cap wi g tc te) (mQ i)):=by
 refine .of ?_
 intro pins s σ H D I h
 have cf:=ah hN hS hcap
 rw [exec_Assign_Name_used _ _ _ _ hsw]
 refine wpAny_bind (wpAny_standAt (wpAny_bind ?_))
 show wpAny _ X.A (do let _ <- comprehension (.ListComp elt [⟨target,iter,ifs,0⟩] scope pos) scope X.env _ (newList []) false (eval iter X.env) (some (assign (.Name y py) X.env))) _ _ s
 refine wpAny_bind (wpAny_mono (wpAny_comprehension_free (use:=some (assign (.Name y py) X.env)) (Q:=fun _ s'=>SP X pins D .next s') rfl hs (bq (I.Y2 cf)) hk cf.loc (B6 (hi pins s σ H _ I h) fun v s1 h1=>B6 h1 fun itv s2 h2=>?_))
  (fun _ s' hq=>wpAny_pure (wpAny_pure hq)) fun _ _ e=>e)
 obtain ⟨it,fp,tn,J,H2,rfl,I2,T,st2,f2,q⟩:=h2
 refine ip (RR:=fun acc C=>compPost (model X.prog X.w) X.A X.xe (some (assign (.Name y py) X.env)) (fun _ s'=>SP X pins D .next s') acc C) hcalm cf hk hg hc he I2 T st2 f2 q fun d C H' s' m I' hn hC q'=>?_
 show wpAny _ _ (assign (.Name y py) X.env (.ref d)) _ _ s'
 refine wpAny_assign_Name (T7 (v:=.ref d) I' hXN hiN (.inl hy) rfl (fun s2 I2 ⟨a,sb,ha⟩=>⟨m,hn.sameBut sb ?_,fun h' sb'=>⟨_,H',I2.vF hC sb',q'⟩⟩) (.inr hy))
 rcases ha with z | z
 ·rw [z]; exact hC.2.1
 ·exact fun e=>hC.2.2.2.2.1 y a z e.symm
end L2
namespace L3
open PySem PySem.Spec L2
noncomputable abbrev dA:=D -> Ev -> (Ev -> Prop) -> Prop
noncomputable abbrev pJ:=List D -> Ev -> (Ev -> Prop) -> Prop
structure yL (X:Cx) (cl:List Cl) (tg:Expr) (g:dA):Prop where
 of ::
 run:∃ t,PG X tg t /\ ∀ (G:Ent) (ρ:Ev) (σ:St) (H:Hp) (fa:Nat -> List Addr) (v:V) (d:D) (B:List Addr) (Q:Ev -> Prop) (R:St -> Hp -> Prop),G.cl = cl -> E3 X.K G ρ σ H fa -> Rep X.K H v d B -> (∀ i,G.own i -> ∀ a ∈ B,a ∉ fa i) -> g d ρ Q ->
  (∀ σ' ρ' fa',E3 X.K G ρ' σ' H fa' -> (∀ i,G.own i -> fa' i = fa i /\ σ'[i]? = σ[i]?) -> (∀ i,G.own i -> ρ'[i]? = ρ[i]?) -> Q ρ' -> R σ' H) -> t v σ H R
structure zE (X:Cx) (cl:List Cl) (tgs:List Expr) (g:pJ):Prop where
 of ::
 run:∃ t,yJ X tgs t /\ ∀ (G:Ent) (ρ:Ev) (σ:St) (H:Hp) (fa:Nat -> List Addr) (vs:List V) (ds:List D) (B:List Addr) (Q:Ev -> Prop) (R:St -> Hp -> Prop),G.cl = cl -> E3 X.K G ρ σ H fa -> n8 X.K H vs ds B -> (∀ i,G.own i -> ∀ a ∈ B,a ∉ fa i) -> g ds ρ Q ->
  (∀ σ' ρ' fa',E3 X.K G ρ' σ' H fa' -> (∀ i,G.own i -> fa' i = fa i /\ σ'[i]? = σ[i]?) -> (∀ i,G.own i -> ρ'[i]? = ρ[i]?) -> Q ρ' -> R σ' H) -> t vs σ H R
section
variable {X:Cx} {cl:List Cl} {tg e a b:Expr} {es:List Expr} {f:Fl} {pos pos':Pos} {ua ub:TU} {ma mb:TM} {x:Str} {i:Nat}
def g1 (i:Nat):dA:=fun d ρ Q=>Nat.blt i ρ.length = true /\ Q (ρ.set i (some d))
theorem o5 (h:PG X (.Name x pos) (mQ i)) (hc:cl[i]? = some .bor):yL X cl (.Name x pos) (g1 i):=.of <| by
 refine ⟨_,h,fun G ρ σ H fa v d B Q R hG E r n q k=>?_⟩
 have hb:G.cl[i]? = some .bor:=by rw [hG]; exact hc
 have no:¬ G.own i:=fun z=>by unfold Ent.own at z; rw [hb] at z; cases z
 refine k _ _ _ (E.set (Nat.le_of_ble_eq_true q.1) r ⟨fun j _ hj a ha=>n j hj a ha,by rw [hb]; trivial⟩) (fun j hj=>?_) (fun j hj=>?_) q.2
 ·exact ⟨if_neg fun e:j = i=>no (by rw [<- e]; exact hj),List.getElem?_set_ne fun e=>no (by rw [e]; exact hj)⟩
 ·exact List.getElem?_set_ne fun e=>no (by rw [e]; exact hj)
def X2:pJ:=fun ds ρ Q=>match ds with
 | []=>Q ρ
 | _=>False
def u6 (g:dA) (gs:pJ):pJ:=fun ds ρ Q=>match ds with
 | d :: ds=>g d ρ fun ρ'=>gs ds ρ' Q
 | _=>False
theorem aV:zE X cl [] X2:=.of <| by
 refine ⟨_,zc,fun G ρ σ H fa vs ds B Q R hG E r n q k=>?_⟩
 cases ds with
 | cons _ _=>exact (show False from q).elim
 | nil=>
  cases r
  exact ⟨rfl,k σ ρ fa E (fun _ _=>⟨rfl,rfl⟩) (fun _ _=>rfl) q⟩
theorem A4 {g:dA} {gs:pJ} (h1:yL X cl e g) (h2:zE X cl es gs) (hs:(assignEach (e :: es) X.env).map (·.2) = assign e X.env :: (assignEach es X.env).map (·.2):=by rfl):zE X cl (e :: es) (u6 g gs):=.of <| by
 obtain ⟨t1,p1,h1⟩:=h1.run
 obtain ⟨t2,p2,h2⟩:=h2.run
 refine ⟨_,uR p1 p2 hs,fun G ρ σ H fa vs ds B Q R hG E r n q k=>?_⟩
 cases ds with
 | nil=>exact (show False from q).elim
 | cons d ds=>
  cases r with
  | cons r1 r2=>
   refine ⟨_,_,rfl,h1 G ρ σ H fa _ d _ _ _ hG E r1 (fun i hi a ha=>n i hi a (List.mem_append_left _ ha)) q fun σ' ρ' fa' E' k1 k1' q'=>?_⟩
   exact h2 G ρ' σ' H fa' _ ds _ Q R hG E' r2 (fun i hi a ha=>by rw [(k1 i hi).1]; exact n i hi a (List.mem_append_right _ ha)) q' fun σ2 ρ2 fa2 E2 k2 k2' q2=>k σ2 ρ2 fa2 E2 (fun i hi=>⟨(k2 i hi).1.trans (k1 i hi).1,(k2 i hi).2.trans (k1 i hi).2⟩) (fun i hi=>(k2' i hi).trans (k1' i hi)) q2
def gT (gs:pJ):dA:=fun d ρ Q=>match d with
 | .tup ds=>gs ds ρ Q
 | _=>False
theorem yJ.len {X:Cx} {tgs:List Expr} {t:Aj} (h:yJ X tgs t):True:=trivial
theorem fB {gs:pJ} {k n:Nat} (h:zE X cl es gs) (hn:∀ ds ρ Q,gs ds ρ Q -> ds.length = n) (mk:∀ {t},yJ X es t -> PG X (.Tuple es k pos) (Ep X.K n t)):yL X cl (.Tuple es k pos) (gT gs):=.of <| by
 obtain ⟨t,p,h⟩:=h.run
 refine ⟨_,mk p,fun G ρ σ H fa v d B Q R hG E r nn q kk=>?_⟩
 cases d <;> first | exact (show False from q).elim | skip
 rename_i ds
 have q:gs ds ρ Q:=q
 obtain ⟨a,vs,rfl,ha,rs⟩:=K4 r
 exact ⟨a,vs,rfl,O8.of ha,by rw [rs.length]; exact hn ds ρ Q q,h G ρ σ H fa vs ds B Q R hG E rs nn q kk⟩
structure DG (g:dA) (body:j2) (xs:List D) (T:W9) (ρ:Ev):Prop where
 of ::
 ex:∃ W:Nat -> Ev -> Prop,W 0 ρ /\ (∀ i d ρ,xs[i]? = some d -> W i ρ -> g d ρ fun ρ1=>body { nx:=W (i + 1),rt:=T.rt,bk:=T.nx,ct:=W (i + 1) } ρ1) /\ ∀ ρ,W xs.length ρ -> T.nx ρ
def bV (ui:Df) (g:dA) (body:j2):j2:=fun T ρ=>ui ρ fun xs ρ1=>DG g body xs T ρ1
noncomputable def frozen (G:Ent) (H:Hp) (C:List Addr):Ent:={ G with Z:=fun a=>G.Z a \/ a ∈ C \/ (H a ≠ none /\ ¬ eO (H a)),Hz:=H }
theorem E3.freeze {K:PySem.W.Frag} {G:Ent} {ρ:Ev} {σ:St} {H:Hp} {fa:Nat -> List Addr} {C:List Addr} (E:E3 K G ρ σ H fa) (h1:∀ a ∈ C,H a ≠ none) (h2:∀ i,G.own i -> ∀ a ∈ C,a ∉ fa i):E3 K (frozen G H C) ρ σ H fa:=
 ⟨E.rep,E.emp,E.len,E.nd,E.dj,E.par,E.old,E.new,E.frm,E.stb,fun a _=>rfl,fun a z=>by
  rcases z with z | z | z
  ·show H a ≠ none
   rw [E.zk a z]; exact E.zn a z
  ·exact h1 a z
  ·exact z.1,fun i hi a ha z=>by
  rcases z with z | z | z
  ·exact E.zo i hi a ha z
  ·exact h2 i hi a z ha
  ·exact z.2 (E.X0 i a ha),⟨E.po.one,E.po.lk⟩⟩
theorem E3.Cg {K:PySem.W.Frag} {G:Ent} {ρ0 ρ:Ev} {σ0 σ:St} {H0 H:Hp} {fa0 fa:Nat -> List Addr} {C:List Addr} (E0:E3 K G ρ0 σ0 H0 fa0) (E:E3 K (frozen G H0 C) ρ σ H fa):E3 K G ρ σ H fa:=
 ⟨E.rep,E.emp,E.len,E.nd,E.dj,E.par,E.old,E.new,E.frm,E.stb,fun a z=>(E.zk a (.inl z)).trans (E0.zk a z),E0.zn,fun i hi a ha z=>E.zo i hi a ha (.inl z),⟨E.po.one,E.po.lk⟩⟩
theorem S5 {iter:Expr} {body:List Stmt} {ui:Df} {g:dA} {sb:j2} (hi:EH X cl tg iter ui) (hg:yL X cl tg g) (hb:gR X cl body sb)
  (mk:∀ {wi g tb},PI X tg iter wi -> PG X tg g -> jR X body tb -> PS X (.For tg iter body [] pos) (Ex wi g tb)):K9 X cl (.For tg iter body [] pos) (bV ui g sb):=.of <| by
 obtain ⟨wi,pi,hi⟩:=hi.run
 obtain ⟨tg',pg,hg⟩:=hg.run
 obtain ⟨tb,pb,hb⟩:=hb.run
 refine ⟨_,mk pi pg pb,fun G T ρ σ H fa R hG E hu le=>hi G ρ σ H fa _ _ hG E hu fun J H1 xs C ρ1 fa1 E1 c1 it tr ap q=>?_⟩
 have F1:=E1.freeze tr ap
 obtain ⟨W,w0,step,done⟩:=q.ex
 refine ⟨fun i m σ' H'=>m = xs.length - i /\ i <= xs.length /\ ∃ ρ' fa',E3 X.K (frozen G H1 C) ρ' σ' H' fa' /\ W i ρ',⟨xs.length,by simp,Nat.zero_le _,ρ1,fa1,F1,w0⟩,?_⟩
 rintro i m σ' H' ⟨rfl,hle,ρ',fa',E',q'⟩
 have tf:Tf H1 H':=⟨fun b ys h=>by
   rw [E'.zk b (.inr (.inr ⟨(by rw [h]; intro z; cases z),(by rw [h]; exact fun z=>z)⟩))]; exact h,fun b o u h=>by
   rw [E'.zk b (.inr (.inr ⟨(by rw [h]; intro z; cases z),(by rw [h]; exact fun z=>z)⟩))]; exact h⟩
 have kC:∀ a ∈ C,H' a = H1 a:=fun a ha=>E'.zk a (.inr (.inl ha))
 by_cases hlt:i < xs.length
 ·right
  have ex:xs[i]? = some xs[i]:=List.getElem?_eq_getElem hlt
  obtain ⟨go,yl⟩:=(it H' tf kC i).2 _ ex
  refine ⟨go,vt X.K (frozen G H1 C) (W (i + 1)),fun σ2 H2 hn=>?_,fun y H2 hy=>?_⟩
  ·obtain ⟨ρ2,fa2,E2,q2⟩:=hn
   exact ⟨xs.length - (i + 1),by omega,rfl,hlt,ρ2,fa2,E2,q2⟩
  ·obtain ⟨s2,B,rB,sB⟩:=yl y H2 hy
   refine hg (frozen G H1 C) ρ' σ' H2 fa' y _ B _ _ hG (E'.same s2) rB (fun j hj a ha z=>E'.zo j hj a z (.inr (.inl (sB.mem ha)))) (step i _ ρ' ex q') fun σ3 ρ3 fa3 E3' _ _ q3=>?_
   refine hb (frozen G H1 C) _ ρ3 σ3 H2 fa3 _ hG E3' q3 ⟨fun _ _ h=>h,fun v H3 h=>?_,fun σ4 H4 h=>?_,fun _ _ h=>h⟩
   ·obtain ⟨d,ρ5,σ5,fa5,B5,E5,r5,n5,m5,l5,q5⟩:=h
    exact le.rt v H3 ⟨d,ρ5,σ5,fa5,B5,E1.Cg E5,r5,n5,m5,l5,q5⟩
   ·obtain ⟨ρ5,fa5,E5,q5⟩:=h
    exact le.nx σ4 H4 ⟨ρ5,fa5,E1.Cg E5,q5⟩
 ·have ei:i = xs.length:=by omega
  subst ei
  left
  exact ⟨(it H' tf kC _).1 rfl,le.nx _ _ ⟨ρ',fa',E1.Cg E',done ρ' q'⟩⟩
def we (mc:qC) (body:j2):j2:=fun T ρ=>∃ W:Nat -> Ev -> Prop,(∃ m,W m ρ) /\ ∀ m ρ,W m ρ -> mc ρ fun b ρ'=>Br b (body { nx:=fun ρ2=>∃ m',m' < m /\ W m' ρ2,rt:=T.rt,bk:=T.nx,ct:=fun ρ2=>∃ m',m' < m /\ W m' ρ2 } ρ') (T.nx ρ')
theorem za {c:Expr} {body:List Stmt} {mc:qC} {sb:j2} (hp:PassesOwn (model X.prog X.w) X.A X.env X.xe) (hc:Fi X cl c mc) (hb:gR X cl body sb):K9 X cl (.While c body [] pos) (we mc sb):=.of <| by
 obtain ⟨tc,pc,hc⟩:=hc.run
 obtain ⟨tb,pb,hb⟩:=hb.run
 refine ⟨_,wy hp pc pb,fun G T ρ σ H fa R hG E hu le=>?_⟩
 obtain ⟨W,⟨m0,w0⟩,step⟩:=hu
 refine ⟨fun m σ' H'=>∃ ρ' fa',E3 X.K G ρ' σ' H' fa' /\ W m ρ',⟨m0,ρ,fa,E,w0⟩,?_⟩
 rintro m σ1 H1 ⟨ρ1,fa1,E1,w1⟩
 refine hc G ρ1 σ1 H1 fa1 _ _ hG E1 (step m ρ1 w1) fun b H2 ρ2 fa2 E2 c2 q=>?_
 cases b with
 | true=>
  rw [if_pos rfl]
  refine ⟨vt X.K G (fun ρ2=>∃ m',m' < m /\ W m' ρ2),fun σ3 H3 h=>?_,hb G _ ρ2 σ1 H2 fa2 _ hG E2 (q.t rfl) ⟨fun _ _ h=>h,le.rt,le.nx,fun _ _ h=>h⟩⟩
  obtain ⟨ρ3,fa3,E3',m',hm,w3⟩:=h
  exact ⟨m',hm,ρ3,fa3,E3',w3⟩
 | false=>rw [if_neg Bool.false_ne_true]; exact le.nx _ _ ⟨ρ2,fa2,E2,q.f rfl⟩
noncomputable def Z3 (cap:List (Option Nat)) (ρ:Ev):Ev:=cap.map fun o=>match o with
 | some j=>(ρ[j]?).join
 | none=>none
noncomputable def M5 (cap:List (Option Nat)):List Cl:=cap.map fun _=>.bor
theorem gw {cap:List (Option Nat)} {σ:St} {p j:Nat} {v:V} (h:cap[p]? = some (some j)) (e:σ[j]? = some (some v)):(N7 cap σ)[p]? = some (some v):=by
 unfold N7
 rw [List.getElem?_map,h]
 show some ((σ[j]?).join) = _
 rw [e]; rfl
theorem mh {cap:List (Option Nat)} {ρ:Ev} {p:Nat} {d:D} (h:(Z3 cap ρ)[p]? = some (some d)):∃ j,cap[p]? = some (some j) /\ ρ[j]? = some (some d):=by
 unfold Z3 at h
 rw [List.getElem?_map] at h
 cases e:cap[p]? with
 | none=>rw [e] at h; cases h
 | some o=>
  rw [e] at h
  cases o with
  | none=>cases h
  | some j=>
   have h:some ((ρ[j]?).join) = some (some d):=h
   cases e2:ρ[j]? with
   | none=>rw [e2] at h; cases h
   | some o=>rw [e2] at h; cases h; exact ⟨j,rfl,e2⟩
noncomputable def bF (cap:List (Option Nat)) (ρ:Ev) (fa:Nat -> List Addr) (p:Nat):List Addr:=match (Z3 cap ρ)[p]? with
 | some (some _)=>match cap[p]? with
  | some (some j)=>fa j
  | _=>[]
 | _=>[]
noncomputable def fE (cap:List (Option Nat)):Ent:=⟨fun _=>none,fun _=>[],[],M5 cap,fun _=>False,fun _=>none⟩
theorem K0 {cap:List (Option Nat)} {i:Nat} (h:(fE cap).own i):False:=by
 have h:(M5 cap)[i]? = some .own:=h
 unfold M5 at h
 rw [List.getElem?_map] at h
 cases e:cap[i]? with
 | none=>rw [e] at h; cases h
 | some o=>rw [e] at h; cases h
theorem mL {cap:List (Option Nat)} {i:Nat} (h:(fE cap).cl[i]? = some .loc):False:=by
 have h:(M5 cap)[i]? = some .loc:=h
 unfold M5 at h
 rw [List.getElem?_map] at h
 cases e:cap[i]? with
 | none=>rw [e] at h; cases h
 | some o=>rw [e] at h; cases h
theorem zO {cap:List (Option Nat)} {i:Nat} {H':Hp} (h:(fE cap).cl[i]? = some (.mk H')):False:=by
 have h:(M5 cap)[i]? = some (.mk H'):=h
 unfold M5 at h
 rw [List.getElem?_map] at h
 cases e:cap[i]? with
 | none=>rw [e] at h; cases h
 | some o=>rw [e] at h; cases h
theorem E3.comp {K:PySem.W.Frag} {G:Ent} {ρ:Ev} {σ:St} {H:Hp} {fa:Nat -> List Addr} (cap:List (Option Nat)) (E:E3 K G ρ σ H fa):E3 K (fE cap) (Z3 cap ρ) (N7 cap σ) H (bF cap ρ fa):=by
 refine ⟨fun i d e=>?_,fun i e=>?_,by unfold Z3 N7; simp,fun i h=>h.elim (fun z=>(K0 z).elim) fun z=>(mL z).elim,fun i j _ h=>(K0 h).elim,fun i _ h=>(K0 h).elim,fun i _ h=>(K0 h).elim,fun i h=>h.elim (fun z=>(mL z).elim) fun z=>(K0 z.1).elim,
  fun a o h=>(nomatch h),⟨fun b xs h=>(nomatch h),fun b o u h=>(nomatch h),fun _ _=>rfl⟩,fun a z=>z.elim,fun a z=>z.elim,fun i h=>(K0 h).elim,⟨fun i _ h=>(K0 h).elim,fun j H' h=>(zO h).elim⟩⟩
 ·obtain ⟨j,e1,e2⟩:=mh e
  obtain ⟨v,e3,r⟩:=E.rep j d e2
  refine ⟨v,gw e1 e3,?_⟩
  unfold bF
  rw [e,e1]
  exact r
 ·unfold bF
  split
  ·rename_i d h
   exact absurd h (e d)
  ·rfl
noncomputable def kd (g:dA) (tc:cE) (te:TU) (ρ0:Ev):List D -> List D -> (List D -> Prop) -> Prop
 | [],acc,Q=>Q acc
 | x :: xs,acc,Q=>g x ρ0 fun ρ1=>tc ρ1 fun b=>Br b (te ρ1 fun d=>kd g tc te ρ0 xs (acc ++ [d]) Q) (kd g tc te ρ0 xs acc Q)
def uB (cap:List (Option Nat)) (ui:uF) (g:dA) (tc:cE) (te:TU):TU:=fun ρ Q=>ui ρ fun xs=>xs.length < sizeLine /\ kd g tc te (Z3 cap ρ) xs [] fun ds=>Q (.lst ds)
structure uH (X:Cx) (cl:List Cl) (es:List Expr) (u:cE):Prop where
 of ::
 run:∃ t,zL X es t /\ ∀ (G:Ent) (ρ:Ev) (σ:St) (H:Hp) (fa:Nat -> List Addr) (Q:Bool -> Prop) (R:Bool -> Hp -> Prop),G.cl = cl -> E3 X.K G ρ σ H fa -> u ρ Q ->
  (∀ b H',i7 H H' -> Q b -> R b H') -> t σ H R
def bT:cE:=fun _ Q=>Q true
theorem R5:uH X cl [] bT:=.of ⟨_,rb,fun G ρ σ H fa Q R _ E hu k=>k true H (i7.refl H) hu⟩
theorem Ci {tc:cE} (h:L5 X cl e tc):uH X cl [e] tc:=.of <| let ⟨t,p,h⟩:=h.run; ⟨t,AA p,h⟩
theorem HU {K:PySem.W.Frag} {cap:List (Option Nat)} {g3:dA} {tc3:cE} {te3:TU} {J:It} {g:TG} {tc:TT} {te:TE} {xs:List D} {C:List Addr} {ρ:Ev} {σ:St} {G:Ent} {H1:Hp} {fa:Nat -> List Addr} {Q:List D -> Prop} {R:VK}
  (hg:∀ (G:Ent) (ρ:Ev) (σ:St) (H:Hp) (fa:Nat -> List Addr) (v:V) (d:D) (B:List Addr) (Q:Ev -> Prop) (R:St -> Hp -> Prop),G.cl = M5 cap -> E3 K G ρ σ H fa -> Rep K H v d B -> (∀ i,G.own i -> ∀ a ∈ B,a ∉ fa i) -> g3 d ρ Q ->
   (∀ σ' ρ' fa',E3 K G ρ' σ' H fa' -> (∀ i,G.own i -> fa' i = fa i /\ σ'[i]? = σ[i]?) -> (∀ i,G.own i -> ρ'[i]? = ρ[i]?) -> Q ρ' -> R σ' H) -> g v σ H R)
  (hc:∀ (G:Ent) (ρ:Ev) (σ:St) (H:Hp) (fa:Nat -> List Addr) (Q:Bool -> Prop) (R:Bool -> Hp -> Prop),G.cl = M5 cap -> E3 K G ρ σ H fa -> tc3 ρ Q -> (∀ b H',i7 H H' -> Q b -> R b H') -> tc σ H R)
  (he:∀ (G:Ent) (ρ:Ev) (σ:St) (H:Hp) (fa:Nat -> List Addr) (Q:D -> Prop) (R:VK),G.cl = M5 cap -> E3 K G ρ σ H fa -> te3 ρ Q -> (∀ v H' d B,i7 H H' -> Rep K H' v d B -> A3 G H fa B .fresh -> Q d -> R v H') -> te σ H R)
  (E:E3 K G ρ σ H1 fa) (it:eU K J xs C H1) (tr:∀ a ∈ C,H1 a ≠ none) (hn:xs.length < sizeLine) (q:kd g3 tc3 te3 (Z3 cap ρ) xs [] Q)
  (k:∀ d H' ds B,i7 H1 H' -> Rep K H' (.ref d) (.lst ds) B -> B.Nodup -> (∀ a ∈ B,H1 a = none) -> Q ds -> R (.ref d) H'):Gv J g tc te (N7 cap σ) R H1:=by
 intro d hd
 refine ⟨fun i m H=>m = xs.length - i /\ i <= xs.length /\ i7 H1 H /\ ∃ acc ds B,H d = some (.lst acc) /\ acc.length <= i /\ n8 K H acc ds B /\ B.Nodup /\ d ∉ B /\ (∀ a ∈ B,H1 a = none) /\ kd g3 tc3 te3 (Z3 cap ρ) (xs.drop i) ds Q,
  ⟨xs.length,by simp,Nat.zero_le _,i7.n9 hd,[],[],[],i4,Nat.le_refl _,.nil,List.nodup_nil,(by simp),(fun a ha=>by cases ha),q⟩,?_⟩
 rintro i m H ⟨rfl,hle,s1,acc,ds,B,hacc,hal,rs,nB,dB,hB,q⟩
 have tf:Tf H1 H:=⟨fun b ys h=>s1 _ _ h,fun b o u h=>s1 _ _ h⟩
 have kC:∀ a ∈ C,H a = H1 a:=fun a ha=>by
  obtain ⟨o,eo⟩:=Option.ne_none_iff_exists'.mp (tr a ha)
  rw [eo]; exact s1 a o eo
 by_cases hlt:i < xs.length
 ·right
  obtain ⟨go,yl⟩:=(it H tf kC i).2 _ (List.getElem?_eq_getElem hlt)
  rw [List.drop_eq_getElem_cons hlt] at q
  refine ⟨go,fun y H2 hy=>?_⟩
  obtain ⟨s2,By,rB,sB⟩:=yl y H2 hy
  have E2:=(E.same (s1.trans s2)).comp cap
  refine hg (fE cap) _ _ H2 _ y _ By _ _ rfl E2 rB (fun j hj=>(K0 hj).elim) q fun σ3 ρ3 fa3 E3' _ _ q3=>?_
  refine hc (fE cap) ρ3 σ3 H2 fa3 _ _ rfl E3' q3 fun b H3 s3 q4=>?_
  have hacc3:H3 d = some (.lst acc):=s3 _ _ (s2 _ _ hacc)
  cases b with
  | false=>
   rw [if_neg Bool.false_ne_true]
   exact ⟨xs.length - (i + 1),by omega,rfl,hlt,(s1.trans s2).trans s3,acc,ds,B,hacc3,by omega,(rs.same s2).same s3,nB,dB,hB,q4.f rfl⟩
  | true=>
   rw [if_pos rfl]
   refine he (fE cap) ρ3 σ3 H3 fa3 _ _ rfl (E3'.same s3) (q4.t rfl) fun v H4 dv Bv s4 rv fo q5=>?_
   have hacc4:H4 d = some (.lst acc):=s4 _ _ hacc3
   have s14:i7 H1 H4:=((s1.trans s2).trans s3).trans s4
   have hdBv:d ∉ Bv:=fun z=>by rw [fo.2 d z] at hacc3; cases hacc3
   have st:T9 H4 (upd H4 d (.lst (acc ++ [v]))):=⟨fun b ys h=>by
     by_cases e:b = d
     ·subst e; rw [hacc4] at h; cases h
     ·rw [i6 e]; exact h,fun b u w' h=>by
     by_cases e:b = d
     ·subst e; rw [hacc4] at h; cases h
     ·rw [i6 e]; exact h,fun b h=>by
     by_cases e:b = d
     ·subst e; rw [i4] at h; cases h
     ·rw [i6 e] at h; exact h⟩
   have rs4:=((rs.same s2).same s3).same s4
   refine ⟨acc,hacc4,by omega,xs.length - (i + 1),by omega,rfl,hlt,fun b o e=>?_,acc ++ [v],ds ++ [dv],B ++ (Bv ++ []),i4,by rw [List.length_append,List.length_singleton]; omega,?_,?_,?_,fun a ha=>?_,q5⟩
   ·rw [i6 (u5 e hd)]
    exact s14 _ _ e
   ·exact (rs4.mono st fun a ha=>i6 fun e=>dB (e ▸ ha)).append (.cons (rv.mono st fun a ha=>i6 fun e=>hdBv (e ▸ ha)) .nil)
   ·rw [List.append_nil]
    refine List.nodup_append.mpr ⟨nB,fo.1,fun a ha b hb e=>?_⟩
    subst e
    exact ((rs.same s2).same s3).there a ha (fo.2 a hb)
   ·rw [List.append_nil]
    exact fun z=>(List.mem_append.mp z).elim dB hdBv
   ·rw [List.append_nil] at ha
    rcases List.mem_append.mp ha with z | z
    ·exact hB a z
    ·exact ((s1.trans s2).trans s3).free (fo.2 a z)
 ·have ei:i = xs.length:=by omega
  subst ei
  left
  rw [List.drop_length] at q
  refine ⟨(it H tf kC _).1 rfl,k d H ds (d :: B) s1 (.lst hacc rs) (List.nodup_cons.mpr ⟨dB,nB⟩) (fun a ha=>?_) q⟩
  rcases List.mem_cons.mp ha with z | z
  ·rw [z]; exact hd
  ·exact hB a z
section
variable {XN N:List Str} {XS scope:Scope} {cap:List (Option Nat)} {elt target iter:Expr} {ifs:List Expr} {ui:uF} {g3:dA} {tc3:cE} {te3:TU}
theorem ff (hcap:aS XN N XS scope cap = true) (hN:X.N = XN) (hS:X.env.scope = XS) (hk:scope.kind = .function) (hcalm:X.calm = true) (hi:eP X cl target iter f ui)
  (hg:∀ c fp s H,yL (O1 X N scope c fp s H) (M5 cap) target g3) (hc:∀ c fp s H,uH (O1 X N scope c fp s H) (M5 cap) ifs tc3) (he:∀ c fp s H,PU (O1 X N scope c fp s H) (M5 cap) elt .fresh te3)
  (hs:∀ x,foldedSetIterable iter X.env x = pure x:=by intro _; rfl):PU X cl (.ListComp elt [⟨target,iter,ifs,0⟩] scope pos) .fresh (uB cap ui g3 tc3 te3):=.of <| by
 obtain ⟨wi,pi,hi⟩:=hi.run
 refine ⟨_,wU (g:=fun c fp s H=>Classical.choose (hg c fp s H).run) (tc:=fun c fp s H=>Classical.choose (hc c fp s H).run) (te:=fun c fp s H=>Classical.choose (he c fp s H).run) hcap hN hS hk hcalm pi
  (fun c fp s H=>(Classical.choose_spec (hg c fp s H).run).1) (fun c fp s H=>(Classical.choose_spec (hc c fp s H).run).1) (fun c fp s H=>(Classical.choose_spec (he c fp s H).run).1) hs,fun G ρ σ H fa Q R hG E hu k=>?_⟩
 refine hi G ρ σ H fa _ _ hG E hu fun J H1 xs C s it tr fo q=>fun c fp s' H'=>?_
 refine HU (K:=X.K) (Classical.choose_spec (hg c fp s' H').run).2 (Classical.choose_spec (hc c fp s' H').run).2 (Classical.choose_spec (he c fp s' H').run).2 (E.same s) it tr q.1 q.2 fun d H2 ds B s2 r n1 n2 q2=>?_
 exact k _ H2 _ B (s.trans s2) r ⟨n1,fun a ha=>s.free (n2 a ha)⟩ q2
theorem kE {i:Nat} {y:Str} {spos py:Pos} (hXN:X.N.Nodup) (hiN:X.N[i]? = some y) (hy:X.env.scope.names.lookup y = some .local) (hci:zu cl[i]? .fresh i = true)
  (hcap:aS XN N XS scope cap = true) (hN:X.N = XN) (hS:X.env.scope = XS) (hk:scope.kind = .function) (hcalm:X.calm = true) (hi:eP X cl target iter f ui)
  (hg:∀ c fp s H,yL (O1 X N scope c fp s H) (M5 cap) target g3) (hc:∀ c fp s H,uH (O1 X N scope c fp s H) (M5 cap) ifs tc3) (he:∀ c fp s H,PU (O1 X N scope c fp s H) (M5 cap) elt .fresh te3)
  (hsw:swapsWith (.ListComp elt [⟨target,iter,ifs,0⟩] scope pos) (some (.Name y py)) spos.line X.env = pure true:=by rfl)
  (hs:∀ x,foldedSetIterable iter X.env x = pure x:=by intro _; rfl):K9 X cl (.Assign [.Name y py] (.ListComp elt [⟨target,iter,ifs,0⟩] scope pos) spos) (D4 i (uB cap ui g3 tc3 te3)):=.of <| by
 obtain ⟨wi,pi,hi⟩:=hi.run
 refine ⟨_,iN (g:=fun c fp s H=>Classical.choose (hg c fp s H).run) (tc:=fun c fp s H=>Classical.choose (hc c fp s H).run) (te:=fun c fp s H=>Classical.choose (he c fp s H).run) hXN hiN hy hcap hN hS hk hcalm pi
  (fun c fp s H=>(Classical.choose_spec (hg c fp s H).run).1) (fun c fp s H=>(Classical.choose_spec (hc c fp s H).run).1) (fun c fp s H=>(Classical.choose_spec (he c fp s H).run).1) hsw hs,fun G T ρ σ H fa R hG E hu le=>?_⟩
 refine hi G ρ σ H fa _ _ hG E hu fun J H1 xs C s it tr fo q=>fun c fp s' H'=>?_
 refine HU (K:=X.K) (Classical.choose_spec (hg c fp s' H').run).2 (Classical.choose_spec (hc c fp s' H').run).2 (Classical.choose_spec (he c fp s' H').run).2 (E.same s) it tr q.1 q.2 fun d H2 ds B s2 r n1 n2 q2=>?_
 exact le.nx _ _ ⟨_,_,(E.same (s.trans s2)).set (Nat.le_of_ble_eq_true q2.1) r (gY.of (f:=.fresh) E ⟨n1,fun a ha=>s.free (n2 a ha)⟩ (by rw [hG]; exact hci)),q2.2⟩
end
end
end L3
namespace L2
open PySem PySem.Spec PyProof.Rows
section
variable {X:Cx}
theorem eR:∀ {bs:List Str} {us:List Value},Vals (bs.map V.str) us -> StrsAre us bs
 | [],_,r=>by cases r; exact .nil
 | b :: bs,_,r=>by
  cases r with
  | cons h t=>obtain ⟨u,rfl⟩:=h; exact .cons b u (eR t)
noncomputable def rJoin (K:PySem.W.Frag):V -> List V -> Hp -> VK -> Prop:=fun x vs H Q=>∃ z p ys,x = .str z /\ vs = [.ref p] /\ S3 K H p (ys.map V.str) /\ (ys.map (·.length)).sum + ys.length * z.length <= 16777216 /\ Q (.str (Txt.join z ys)) H
theorem zM:Ig X "str.join" (rJoin X.K):=by
 intro pins s σ H x xs v us Q I rx rs h
 obtain ⟨z,p,ys,rfl,rfl,hq,hn,q⟩:=h
 obtain ⟨t,rfl⟩:=rx
 obtain ⟨u,rfl,rp⟩:=vals1 rs
 cases rp
 obtain ⟨its,rv,pl,hz⟩:=I.list hq
 exact join_list pl.isList (by simpa using eR rv) hn fun t' k=>⟨.str _,H,I.tok _,⟨_,rfl⟩,q⟩
theorem Al:J4 X (binaryOp .Mult) (fun x y H Q=>∃ z n,x = .str z /\ y = .int n /\ MulOk z n /\ Q (.str (Txt.mul z n)) H):=by
 intro pins s σ H x y v u Q I rx ry h
 obtain ⟨z,n,rfl,rfl,hm,q⟩:=h
 obtain ⟨t,rfl⟩:=rx
 obtain ⟨t',rfl⟩:=ry
 exact SB.mul hm fun t' k=>⟨.str _,H,I.tok _,⟨_,rfl⟩,q⟩
end
end L2
namespace L3
open PySem PySem.Spec L2
section
variable {X:Cx} {cl:List Cl} {e a b:Expr} {es:List Expr} {f:Fl} {pos:Pos} {ua ub:TU} {ma mb:TM} {fa fb:Fl}
theorem n8.strs {K:PySem.W.Frag} {H:Hp}:∀ {bs:List Str} {vs:List V} {A:List Addr},n8 K H vs (bs.map D.str) A -> vs = bs.map V.str
 | [],_,_,r=>by cases r; rfl
 | b :: bs,_,_,r=>by
  cases r with
  | cons h t=>rw [D0 h,t.strs]; rfl
theorem rH {K:PySem.W.Frag} {H:Hp} {v:V} {d:D} {A:List Addr} {xs:List D} (r:Rep K H v d A) (e:kindB false d = some xs):∃ p vs B,v = .ref p /\ S3 K H p vs /\ n8 K H vs xs B /\ B.Sublist A:=by
 cases d <;> first | cases e | skip
 ·obtain ⟨p,vs,C,rfl,hp,rs,rfl⟩:=K1 r
  exact ⟨p,vs,C,rfl,S3.of hp,rs,List.sublist_cons_self _ _⟩
 ·obtain ⟨p,vs,rfl,hp,rs⟩:=fT r
  exact ⟨p,vs,A,rfl,hp.sq,rs,List.Sublist.refl _⟩
noncomputable def tyName:D -> Option String
 | .non=>some "NoneType"
 | .bl _=>some "bool"
 | .int _=>some "int"
 | .str _=>some "str"
 | .lst _=>some "list"
 | .tup _=>some "tuple"
 | .dic _=>some "dict"
 | _=>none
noncomputable def FZ (a T:String):Bool:=a == T || (a == "bool" && T == "int")
noncomputable def pw:List String:=["int", "bool", "str", "list", "tuple", "dict"]
noncomputable def dI:List D -> (D -> Prop) -> Prop:=fun ds Q=>∃ d a T,ds = [d,.ty T] /\ tyName d = some a /\ pw.contains T = true /\ Q (.bl (FZ a T))
theorem ze (K:PySem.W.Frag) {a T:String} (ha:["NoneType", "bool", "int", "str", "list", "tuple", "dict"].contains a = true) (hT:pw.contains T = true):PySem.W.kitOne K (.type a) (.type T) = some (FZ a T):=by
 have h1:a = "NoneType" \/ a = "bool" \/ a = "int" \/ a = "str" \/ a = "list" \/ a = "tuple" \/ a = "dict" := by simpa using ha
 have h2:T = "int" \/ T = "bool" \/ T = "str" \/ T = "list" \/ T = "tuple" \/ T = "dict" := by simpa [pw] using hT
 rcases h1 with rfl | rfl | rfl | rfl | rfl | rfl | rfl <;> rcases h2 with rfl | rfl | rfl | rfl | rfl | rfl <;> first | rfl | decide +kernel
theorem EY {K:PySem.W.Frag} {H:Hp} {v:V} {d:D} {A:List Addr} {n:String} (r:Rep K H v d A) (e:tyName d = some n):aY K H v (.type n) /\ ["NoneType", "bool", "int", "str", "list", "tuple", "dict"].contains n = true:=by
 cases r <;> first | (cases e; done) | skip
 ·cases e; exact ⟨.non,rfl⟩
 ·cases e; exact ⟨.bl _,rfl⟩
 ·cases e; exact ⟨.int _,rfl⟩
 ·cases e; exact ⟨.str _,rfl⟩
 ·cases e; rename_i h _; exact ⟨.tup h,rfl⟩
 ·cases e; rename_i h _; exact ⟨.lst h,rfl⟩
 ·cases e; rename_i h _; exact ⟨.dK (.inr ⟨_,h⟩),rfl⟩
theorem aq:Call3 X (fun xs H Q=>∃ x c t cv b,xs = [x,c] /\ FW c = some cv /\ aY X.K H x t /\ PySem.W.kitOne X.K t cv = some b /\ Q (.bl b) H) dI:=by
 intro H vs ds A Q R r q k
 obtain ⟨d,n,T,rfl,e,hT,q⟩:=q
 obtain ⟨v,w,B,C,rfl,r1,r2,_⟩:=r.two
 cases r2
 obtain ⟨t1,t2⟩:=EY r1 e
 exact ⟨_,_,_,_,_,rfl,rfl,t1,ze X.K t2 hT,k _ H _ _ (i7.refl H) .bl List.nodup_nil (fun _ h=>(by cases h)) q⟩
theorem Y7 {x:Str} {T:String} (h:PE X (.Name x pos) (tC (.ty T))):PU X cl (.Name x pos) .fresh (uC (.ty T)):=.of ⟨_,h,fun G ρ σ H fa Q R _ E hu k=>k _ H _ _ (i7.refl H) .ty (A3.nil _) hu⟩
noncomputable def AO:D -> D -> (D -> Prop) -> Prop:=fun d e Q=>∃ (z:Str) (xs:List D) (ys:List Str),d = .str z /\ kindB false e = some xs /\ xs = ys.map D.str /\ (ys.map (·.length)).sum + ys.length * z.length <= 16777216 /\ Q (.str (Txt.join z ys))
theorem Ad {H:Hp} {v w:V} {d e:D} {A B:List Addr} {Q:D -> Prop} {R:VK} (r1:Rep X.K H v d A) (r2:Rep X.K H w e B) (q:AO d e Q) (k:∀ y,Q (.str y) -> R (.str y) H):rJoin X.K v [w] H R:=by
 obtain ⟨z,xs,ys,rfl,e1,rfl,hn,q⟩:=q
 cases D0 r1
 obtain ⟨p,ws,B,rfl,hq,rr,_⟩:=rH r2 e1
 cases rr.strs
 exact ⟨z,p,ys,rfl,rfl,hq,hn,k _ q⟩
def wx (ua ub:TU):TU:=fun ρ Q=>ua ρ fun x=>isStrD x = true /\ ub ρ fun y=>AO x y Q
where isStrD:D -> Bool
 | .str _=>true
 | _=>false
theorem sx {d:D} (h:wx.isStrD d = true):∃ z,d = .str z:=by
 cases d <;> first | exact ⟨_,rfl⟩ | cases h
theorem zZ {apos:Pos} (ha:PU X cl a fa ua) (hb:PU X cl b fb ub) (hst:isStar b = false) (mk:∀ {to t},PE X a to -> PA X [b] t -> PE X (.Call (.Attribute a "join" apos) [b] [] pos) (HF X.K "str" (rJoin X.K) to t)):PU X cl (.Call (.Attribute a "join" apos) [b] [] pos) .fresh (wx ua ub):=.of <| by
 obtain ⟨ta,pa,ha⟩:=ha.run
 obtain ⟨tb,pb,hb⟩:=hb.run
 refine ⟨_,mk pa (cK pb R7 hst),fun G ρ σ H fo Q R hG E hu k=>ha G ρ σ H fo _ _ hG E hu fun v H1 d A s1 r1 f1 q1=>?_⟩
 obtain ⟨hz,q1⟩:=q1
 obtain ⟨z,rfl⟩:=sx hz
 cases D0 r1
 refine ⟨rfl,hb G ρ σ H1 fo _ _ hG (E.same s1) q1 fun w H2 e B s2 r2 f2 q2=>?_⟩
 exact Ad (r1.same s2) r2 q2 fun y qy=>k _ H2 _ _ (s1.trans s2) .str (A3.nil _) qy
noncomputable def ET:D -> D -> (D -> Prop) -> Prop
 | .str z,.int n,Q=>MulOk z n /\ Q (.str (Txt.mul z n))
 | _,_,_=>False
theorem BW:X5 X (fun x y H Q=>∃ z n,x = .str z /\ y = .int n /\ MulOk z n /\ Q (.str (Txt.mul z n)) H) ET:=by
 intro H v w d e A B Q R r1 r2 q k
 cases d <;> cases e <;> first | exact q.elim | skip
 cases D0 r1; cases B3 r2
 exact ⟨_,_,rfl,rfl,q.1,k _ H _ _ (i7.refl H) .str List.nodup_nil (fun _ h=>(by cases h)) q.2⟩
noncomputable def GR:D -> D -> (D -> Prop) -> Prop
 | .lst xs,.lst ys,Q=>y8 xs = true /\ y8 ys = true /\ xs.length + ys.length <= sizeLine /\ Q (.lst (xs ++ ys))
 | _,_,_=>False
theorem FL:X5 X Dt GR:=by
 intro H v w d e A B Q R r1 r2 q k
 cases d <;> cases e <;> first | exact q.elim | skip
 obtain ⟨p1,vs,B1,rfl,h1,rs1,_⟩:=K1 r1
 obtain ⟨p2,ws,B2,rfl,h2,rs2,_⟩:=K1 r2
 obtain ⟨i1,i2,hn,q⟩:=q
 have e1:=rs1.M1 i1
 have e2:=rs2.M1 i2
 subst e1
 subst e2
 refine ⟨p1,p2,vs,ws,rfl,rfl,h1,h2,by rw [rs1.length,rs2.length]; exact hn,fun l hl=>k _ _ _ [l] (i7.n9 hl) (.lst i4 ((rs1.same (i7.n9 hl)).append (rs2.same (i7.n9 hl)))) (by simp) (fun a ha=>?_) q⟩
 have:a = l:=by simpa using ha
 rw [this]; exact hl
noncomputable def cutD (xs:List D) (lo hi:Option Int):List D:=(xs.drop (HT.D1 xs.length 0 lo)).take (HT.D1 xs.length xs.length hi - HT.D1 xs.length 0 lo)
noncomputable abbrev BM:=Ev -> (Option Int -> Prop) -> Prop
structure Eb (X:Cx) (cl:List Cl) (e:Option Expr) (u:BM):Prop where
 of ::
 run:∃ t,PO X e t /\ ∀ (G:Ent) (ρ:Ev) (σ:St) (H:Hp) (fa:Nat -> List Addr) (Q:Option Int -> Prop) (R:Option Int -> Hp -> Prop),G.cl = cl -> E3 X.K G ρ σ H fa -> u ρ Q -> (∀ o H',i7 H H' -> Q o -> R o H') -> t σ H R
def lS:BM:=fun _ Q=>Q none
def mY (u:TU):BM:=fun ρ Q=>u ρ fun d=>match d with
 | .int i=>Q (some i)
 | _=>False
theorem eh:Eb X cl none lS:=.of ⟨_,Af,fun G ρ σ H fa Q R _ E hu k=>k none H (i7.refl H) hu⟩
theorem dZ (h:PU X cl e f ua):Eb X cl (some e) (mY ua):=.of <| by
 obtain ⟨t,p,h⟩:=h.run
 refine ⟨_,zS p,fun G ρ σ H fa Q R hG E hu k=>h G ρ σ H fa _ _ hG E hu fun v H' d B s r _ q=>?_⟩
 cases d <;> first | exact (show False from q).elim | skip
 cases B3 r
 exact ⟨_,rfl,k _ H' s q⟩
end
end L3
namespace L3
open PySem PySem.Spec L2
noncomputable def J7:List (Option Nat) -> Nat -> List Cl
 | [],_=>[]
 | _ :: r,0=>.own :: M5 r
 | _ :: r,p + 1=>.bor :: J7 r p
theorem jP {r:List (Option Nat)} {q:Nat} {c:Cl} (h:(M5 r)[q]? = some c):c = .bor:=by
 unfold M5 at h
 rw [List.getElem?_map] at h
 cases e:r[q]? with
 | none=>rw [e] at h; cases h
 | some o=>rw [e] at h; cases h; rfl
theorem Z4:∀ {cap:List (Option Nat)} {p q:Nat},(J7 cap p)[q]? = some .own -> q = p
 | [],_,_,h=>by simp [J7] at h
 | _ :: r,0,0,_=>rfl
 | _ :: r,0,q + 1,h=>by
  rw [J7,List.getElem?_cons_succ] at h
  exact nomatch jP h
 | _ :: r,p + 1,0,h=>by rw [J7] at h; cases h
 | _ :: r,p + 1,q + 1,h=>by
  rw [J7,List.getElem?_cons_succ] at h
  rw [Z4 h]
theorem mz:∀ {cap:List (Option Nat)} {p q:Nat},(J7 cap p)[q]? = some .loc -> False
 | [],_,_,h=>by simp [J7] at h
 | _ :: r,0,0,h=>by rw [J7] at h; cases h
 | _ :: r,0,q + 1,h=>by
  rw [J7,List.getElem?_cons_succ] at h
  exact nomatch jP h
 | _ :: r,p + 1,0,h=>by rw [J7] at h; cases h
 | _ :: r,p + 1,q + 1,h=>by
  rw [J7,List.getElem?_cons_succ] at h
  exact mz h
theorem qG:∀ {cap:List (Option Nat)} {p q:Nat} {H':Hp},(J7 cap p)[q]? = some (.mk H') -> False
 | [],_,_,_,h=>by simp [J7] at h
 | _ :: r,0,0,_,h=>by rw [J7] at h; cases h
 | _ :: r,0,q + 1,_,h=>by
  rw [J7,List.getElem?_cons_succ] at h
  exact nomatch jP h
 | _ :: r,p + 1,0,_,h=>by rw [J7] at h; cases h
 | _ :: r,p + 1,q + 1,_,h=>by
  rw [J7,List.getElem?_cons_succ] at h
  exact qG h
noncomputable def hR (cap:List (Option Nat)) (p:Nat):Ent:=⟨fun _=>none,fun _=>[],[],J7 cap p,fun _=>False,fun _=>none⟩
theorem E3.Gh {K:PySem.W.Frag} {G:Ent} {ρ:Ev} {σ:St} {H:Hp} {fa:Nat -> List Addr} {cap:List (Option Nat)} {p j:Nat} (E:E3 K G ρ σ H fa) (own:G.own j) (hp:cap[p]? = some (some j)) (hq:∀ q,cap[q]? = some (some j) -> q = p):E3 K (hR cap p) (Z3 cap ρ) (N7 cap σ) H (bF cap ρ fa):=by
 have fj:∀ a ∈ bF cap ρ fa p,a ∈ fa j:=fun a ha=>by
  unfold bF at ha
  split at ha
  ·rw [hp] at ha; exact ha
  ·cases ha
 refine ⟨fun i d e=>?_,fun i e=>?_,by unfold Z3 N7; simp,fun i h=>?_,fun i l n h a ha=>?_,fun i h=>absurd h (Nat.not_lt_zero _),fun i h=>absurd h (Nat.not_lt_zero _),fun i h a _=>rfl,
  fun a o h=>(nomatch h),⟨fun b xs h=>(nomatch h),fun b o u h=>(nomatch h),fun _ _=>rfl⟩,fun a z=>z.elim,fun a z=>z.elim,fun i h a _ z=>z,⟨fun i h=>absurd h (Nat.not_lt_zero _),fun j H' h=>(qG h).elim⟩⟩
 ·obtain ⟨j',e1,e2⟩:=mh e
  obtain ⟨v,e3,r⟩:=E.rep j' d e2
  refine ⟨v,gw e1 e3,?_⟩
  unfold bF
  rw [e,e1]
  exact r
 ·unfold bF
  split
  ·rename_i d h
   exact absurd h (e d)
  ·rfl
 ·rcases h with h | h
  ·have e:=Z4 h
   subst e
   unfold bF
   split
   ·rw [hp]; exact E.nd j (.inl own)
   ·exact List.nodup_nil
  ·exact (mz h).elim
 ·have e:=Z4 h
  subst e
  have ha':=fj a ha
  intro z
  unfold bF at z
  split at z
  ·split at z
   ·rename_i j' hj'
    by_cases ej:j' = j
    ·subst ej
     exact n (hq l hj').symm
    ·exact E.dj j j' (Ne.symm ej) own a ha' z
   ·cases z
  ·cases z
structure EZ (p j:Nat) (cap:List (Option Nat)) (g:dA) (tc:qC) (te:TM) (xs:List D) (ρ:Ev) (Q:List D -> Ev -> Prop):Prop where
 of ::
 ex:∃ W:Nat -> List D -> Ev -> Prop,W 0 [] ρ /\ (∀ i x acc ρ,xs[i]? = some x -> W i acc ρ -> g x (Z3 cap ρ) fun ρ1=>tc ρ1 fun b ρ2=>Br b (te ρ2 fun d ρ3=>e8 p ρ3 fun l=>W (i + 1) (acc ++ [d]) (ρ.set j (some l))) (e8 p ρ2 fun l=>W (i + 1) acc (ρ.set j (some l)))) /\ ∀ acc ρ,W xs.length acc ρ -> Q acc ρ
def GC (p j:Nat) (cap:List (Option Nat)) (ui:Df) (g:dA) (tc:qC) (te:TM):TM:=fun ρ Q=>ui ρ fun xs ρ1=>xs.length < sizeLine /\ e8 j ρ1 fun _=>EZ p j cap g tc te xs ρ1 fun ds ρ2=>Q (.lst ds) ρ2
theorem yy {K:PySem.W.Frag} {G:Ent} {ρ ρi:Ev} {σ σi:St} {H H2 H4:Hp} {fa fi:Nat -> List Addr} {cap:List (Option Nat)} {p j:Nat} {l:D} (E:E3 K G ρ σ H fa) (own:G.own j) (hp:cap[p]? = some (some j)) (hj:∃ d,ρ[j]? = some (some d)) (s:i7 H H2)
  (Ei:E3 K (hR cap p) ρi σi H4 fi) (cf:∀ a o,H2 a = some o -> a ∉ fa j -> H4 a = some o) (cs:T9 H2 H4) (cn:∀ a ∈ fi p,a ∈ fa j \/ H2 a = none) (hop:(hR cap p).own p) (hσ:σi[p]? = (N7 cap σ)[p]?) (el:ρi[p]? = some (some l)) :
  E3 K G (ρ.set j (some l)) σ H4 (fun q=>if q = j then fi p else fa q) /\ O6 K G H fa H4 (fun q=>if q = j then fi p else fa q):=by
 obtain ⟨d0,e0⟩:=hj
 obtain ⟨v,hv,_⟩:=E.rep j d0 e0
 have lj:j < ρ.length:=(List.getElem?_eq_some_iff.mp e0).1
 have new:∀ a ∈ fi p,a ∈ fa j \/ H a = none:=fun a ha=>(cn a ha).imp id fun y=>s.free y
 have keep:∀ a o,H a = some o -> a ∉ fa j -> H4 a = some o:=fun a o h n=>cf a o (s a o h) n
 have stb:T9 H H4:=(T9.of s).trans cs
 have ch:O6 K G H fa H4 (fun q=>if q = j then fi p else fa q):=by
  refine ⟨fun a o h n=>keep a o h (n j own),stb,fun i hi a ha=>?_,fun i hi=>if_neg fun e:i = j=>hi (by rw [e]; exact own)⟩
  by_cases q:i = j
  ·subst q; rw [if_pos rfl] at ha; exact new a ha
  ·rw [if_neg q] at ha; exact .inl ha
 refine ⟨E.step ch (by simp) (fun i hi=>List.getElem?_set_ne fun e=>hi (by rw [<- e]; exact own)) (fun i d' hi e=>?_) (fun i hi e=>?_) (fun i hi=>?_) fun i i' n hi hi' a ha z=>?_,ch⟩
 ·by_cases q:i = j
  ·subst q
   rw [List.getElem?_set_self lj] at e
   cases e
   obtain ⟨v',e1,r1⟩:=Ei.rep p l el
   rw [hσ,gw hp hv] at e1
   cases e1
   exact ⟨v,hv,by rw [if_pos rfl]; exact r1⟩
  ·rw [List.getElem?_set_ne (Ne.symm q)] at e
   obtain ⟨w,e2,r4⟩:=E.rep i d' e
   refine ⟨w,e2,?_⟩
   rw [if_neg q]
   refine r4.mono stb fun a ha=>?_
   obtain ⟨o,eo⟩:=eO.some (r4.X0 a ha)
   rw [eo]
   exact keep a o eo fun z=>E.dj i j q hi a ha z
 ·by_cases q:i = j
  ·subst q
   exact absurd (List.getElem?_set_self lj) (e l)
  ·rw [if_neg q]
   exact E.emp i fun d z=>e d (by rw [List.getElem?_set_ne (Ne.symm q)]; exact z)
 ·by_cases q:i = j
  ·rw [if_pos q]; exact Ei.nd p (.inl hop)
  ·rw [if_neg q]; exact E.nd i (.inl hi)
 ·by_cases q:i = j
  ·rw [if_pos q] at ha
   have q':i' ≠ j:=fun e=>n (q.trans e.symm)
   rw [if_neg q'] at z
   rcases new a ha with y | y
   ·exact E.dj j i' (Ne.symm q') own a y z
   ·exact E.there i' z y
  ·rw [if_neg q] at ha
   by_cases q':i' = j
   ·rw [if_pos q'] at z
    rcases new a z with y | y
    ·exact E.dj i j q hi a ha y
    ·exact E.there i ha y
   ·rw [if_neg q'] at z
    exact E.dj i i' n hi a ha z
theorem HK {K:PySem.W.Frag} {cap:List (Option Nat)} {p j:Nat} {g3:dA} {tc3:qC} {te3:TM} {J:It} {g:TG} {tc:TT} {te:TE} {xs:List D} {C:List Addr} {ρ:Ev} {σ:St} {G:Ent} {H1:Hp} {fa:Nat -> List Addr} {Q:List D -> Ev -> Prop} {R:VK}
  (own:G.own j) (hp:cap[p]? = some (some j)) (hq:∀ q,cap[q]? = some (some j) -> q = p) (hop:(hR cap p).own p) (hj0:∃ d,ρ[j]? = some (some d))
  (hg:∀ (G:Ent) (ρ:Ev) (σ:St) (H:Hp) (fa:Nat -> List Addr) (v:V) (d:D) (B:List Addr) (Q:Ev -> Prop) (R:St -> Hp -> Prop),G.cl = J7 cap p -> E3 K G ρ σ H fa -> Rep K H v d B -> (∀ i,G.own i -> ∀ a ∈ B,a ∉ fa i) -> g3 d ρ Q ->
   (∀ σ' ρ' fa',E3 K G ρ' σ' H fa' -> (∀ i,G.own i -> fa' i = fa i /\ σ'[i]? = σ[i]?) -> (∀ i,G.own i -> ρ'[i]? = ρ[i]?) -> Q ρ' -> R σ' H) -> g v σ H R)
  (hc:∀ (G:Ent) (ρ:Ev) (σ:St) (H:Hp) (fa:Nat -> List Addr) (Q:Bool -> Ev -> Prop) (R:Bool -> Hp -> Prop),G.cl = J7 cap p -> E3 K G ρ σ H fa -> tc3 ρ Q -> (∀ b H' ρ' fa',E3 K G ρ' σ H' fa' -> O6 K G H fa H' fa' -> Q b ρ' -> R b H') -> tc σ H R)
  (he:∀ (G:Ent) (ρ:Ev) (σ:St) (H:Hp) (fa:Nat -> List Addr) (Q:D -> Ev -> Prop) (R:VK),G.cl = J7 cap p -> E3 K G ρ σ H fa -> te3 ρ Q -> (∀ v H' d B ρ' fa',E3 K G ρ' σ H' fa' -> O6 K G H fa H' fa' -> Rep K H' v d B -> B.Nodup -> (∀ a ∈ B,H a = none /\ ∀ i,a ∉ fa' i) -> Q d ρ' -> R v H') -> te σ H R)
  (E:E3 K G ρ σ H1 fa) (it:eU K J xs C H1) (tr:∀ a ∈ C,H1 a ≠ none) (ap:∀ i,G.own i -> ∀ a ∈ C,a ∉ fa i) (hn:xs.length < sizeLine) (q:EZ p j cap g3 tc3 te3 xs ρ Q)
  (k:∀ d H' ds B ρ' fa',E3 K G ρ' σ H' fa' -> O6 K G H1 fa H' fa' -> Rep K H' (.ref d) (.lst ds) B -> B.Nodup -> (∀ a ∈ B,H1 a = none /\ ∀ i,a ∉ fa' i) -> Q ds ρ' -> R (.ref d) H'):Gv J g tc te (N7 cap σ) R H1:=by
 intro d hd
 obtain ⟨W,w0,step,done⟩:=q.ex
 have E1:E3 K G ρ σ (upd H1 d (.lst [])) fa:=E.same (i7.n9 hd)
 refine ⟨fun i m H=>m = xs.length - i /\ i <= xs.length /\ ∃ ρ' fa' acc ds B,E3 K G ρ' σ H fa' /\ O6 K G H1 fa H fa' /\ (∃ d,ρ'[j]? = some (some d)) /\ H d = some (.lst acc) /\ (∀ q,d ∉ fa' q) /\ acc.length <= i /\ n8 K H acc ds B /\ B.Nodup /\ d ∉ B /\ (∀ a ∈ B,H1 a = none /\ ∀ q,a ∉ fa' q) /\ W i ds ρ',
  ⟨xs.length,by simp,Nat.zero_le _,ρ,fa,[],[],[],E1,O6.same (i7.n9 hd),hj0,i4,fun q z=>E.there q z hd,Nat.le_refl _,.nil,List.nodup_nil,(by simp),(fun a ha=>by cases ha),w0⟩,?_⟩
 rintro i m H ⟨rfl,hle,ρ',fa',acc,ds,B,E',c',hj',hacc,hdf,hal,rs,nB,dB,hB,q⟩
 have tf:Tf H1 H:=c'.stb.tf
 have kC:∀ a ∈ C,H a = H1 a:=fun a ha=>by
  obtain ⟨o,eo⟩:=Option.ne_none_iff_exists'.mp (tr a ha)
  rw [eo]; exact c'.frm a o eo fun i hi=>ap i hi a ha
 by_cases hlt:i < xs.length
 ·right
  obtain ⟨go,yl⟩:=(it H tf kC i).2 _ (List.getElem?_eq_getElem hlt)
  refine ⟨go,fun y H2 hy=>?_⟩
  obtain ⟨s2,By,rB,sB⟩:=yl y H2 hy
  have E2:=(E'.same s2).Gh (cap:=cap) (p:=p) own hp hq
  have capsub:∀ a ∈ bF cap ρ' fa' p,a ∈ fa' j:=fun a ha=>by
   unfold bF at ha
   split at ha
   ·rw [hp] at ha; exact ha
   ·cases ha
  refine hg (hR cap p) _ _ H2 _ y _ By _ _ rfl E2 rB (fun l hl a ha z=>?_) (step i _ ds ρ' (List.getElem?_eq_getElem hlt) q) fun σ3 ρ3 fa3 E3' k3 k3' q3=>?_
  ·have e:=Z4 hl
   subst e
   exact c'.apart tr ap j own a (sB.mem ha) (capsub a z)
  refine hc (hR cap p) ρ3 σ3 H2 fa3 _ _ rfl E3' q3 fun b H3 ρ4 fa4 E4 c4 q4=>?_
  have oni:∀ i,(hR cap p).own i -> i = p:=fun i h=>Z4 h
  obtain ⟨d0,e0⟩:=hj'
  have capj:bF cap ρ' fa' p = fa' j:=by
   have:(Z3 cap ρ')[p]? = some (some d0):=by
    unfold Z3
    rw [List.getElem?_map,hp]
    show some ((ρ'[j]?).join) = _
    rw [e0]; rfl
   unfold bF
   rw [this,hp]
  have f3:fa3 p = fa' j:=(k3 p hop).1.trans capj
  have σ3p:σ3[p]? = (N7 cap σ)[p]?:=(k3 p hop).2
  have turn:∀ {H4:Hp} {fi:Nat -> List Addr} {ρi:Ev} {l:D},E3 K (hR cap p) ρi σ3 H4 fi -> O6 K (hR cap p) H2 fa3 H4 fi -> ρi[p]? = some (some l) ->
    E3 K G (ρ'.set j (some l)) σ H4 (fun q=>if q = j then fi p else fa' q) /\ O6 K G H fa' H4 (fun q=>if q = j then fi p else fa' q):=fun {H4 fi ρi l} Ei ci el=>
   yy E' own hp ⟨d0,e0⟩ s2 Ei (fun a o h n=>ci.frm a o h fun i hi=>by rw [oni i hi,f3]; exact n) ci.stb (fun a ha=>by rw [<- f3]; exact ci.new p hop a ha) hop σ3p el
  have lj:j < ρ'.length:=(List.getElem?_eq_some_iff.mp e0).1
  have djf:∀ {fi:Nat -> List Addr} {H4:Hp} {X':Addr},O6 K G H fa' H4 (fun q=>if q = j then fi p else fa' q) -> H X' ≠ none -> (∀ q,X' ∉ fa' q) -> ∀ q,X' ∉ (if q = j then fi p else fa' q):=fun {fi H4 X'} cc ht hnf q z=>by
   by_cases hqj:q = j
   ·rcases cc.new j own X' (by rw [if_pos rfl]; rw [if_pos hqj] at z; exact z) with y | y
    ·exact hnf j y
    ·exact ht y
   ·rw [if_neg hqj] at z; exact hnf q z
  cases b with
  | false=>
   rw [if_neg Bool.false_ne_true]
   obtain ⟨l,el,q5⟩:=x8 (q4.f rfl)
   obtain ⟨Eo,co⟩:=turn E4 c4 el
   have hacc4:H3 d = some (.lst acc):=co.frm d _ hacc fun i _=>hdf i
   refine ⟨xs.length - (i + 1),by omega,rfl,hlt,_,_,acc,ds,B,Eo,c'.trans co,⟨l,List.getElem?_set_self lj⟩,hacc4,djf co (by rw [hacc]; intro z; cases z) hdf,by omega,?_,nB,dB,fun a ha=>⟨(hB a ha).1,djf co (rs.there a ha) (hB a ha).2⟩,q5⟩
   exact rs.mono co.stb fun a ha=>by
    obtain ⟨o,eo⟩:=eO.some (rs.X0 a ha)
    rw [eo]; exact co.frm a o eo fun i _=>(hB a ha).2 i
  | true=>
   rw [if_pos rfl]
   refine he (hR cap p) ρ4 σ3 H3 fa4 _ _ rfl E4 (q4.t rfl) fun v H4 dv Bv ρ5 fa5 E5 c5 rv nv mv q5=>?_
   obtain ⟨l,el,q5⟩:=x8 q5
   have c45:=c4.trans c5
   obtain ⟨Eo,co⟩:=turn E5 c45 el
   have hacc4:H4 d = some (.lst acc):=co.frm d _ hacc fun i _=>hdf i
   have hd4:=djf co (by rw [hacc]; intro z; cases z) hdf
   have rs4:n8 K H4 acc ds B:=rs.mono co.stb fun a ha=>by
    obtain ⟨o,eo⟩:=eO.some (rs.X0 a ha)
    rw [eo]; exact co.frm a o eo fun i _=>(hB a ha).2 i
   have hB4:∀ a ∈ B,H1 a = none /\ ∀ q,a ∉ (if q = j then fa5 p else fa' q):=fun a ha=>⟨(hB a ha).1,djf co (rs.there a ha) (hB a ha).2⟩
   have H3H:∀ a,H3 a = none -> H a = none:=fun a h=>s2.free (c4.stb.dom a h)
   have hBv:∀ a ∈ Bv,H a = none:=fun a ha=>H3H a (mv a ha).1
   have fBv:∀ a ∈ Bv,∀ q,a ∉ (if q = j then fa5 p else fa' q):=fun a ha q z=>by
    by_cases hqj:q = j
    ·rw [if_pos hqj] at z; exact (mv a ha).2 p z
    ·rw [if_neg hqj] at z; exact E'.there q z (hBv a ha)
   have hdBv:d ∉ Bv:=fun z=>by rw [hBv d z] at hacc; cases hacc
   have st:T9 H4 (upd H4 d (.lst (acc ++ [v]))):=⟨fun b ys h=>by
     by_cases e:b = d
     ·subst e; rw [hacc4] at h; cases h
     ·rw [i6 e]; exact h,fun b u w' h=>by
     by_cases e:b = d
     ·subst e; rw [hacc4] at h; cases h
     ·rw [i6 e]; exact h,fun b h=>by
     by_cases e:b = d
     ·subst e; rw [i4] at h; cases h
     ·rw [i6 e] at h; exact h⟩
   have Ef:E3 K G (ρ'.set j (some l)) σ (upd H4 d (.lst (acc ++ [v]))) (fun q=>if q = j then fa5 p else fa' q):=Eo.away (A:=[d]) st (fun a o h n=>by rw [i6 (by simpa using n)]; exact h)
    (fun q a ha=>by
     have:a = d:=by simpa using ha
     rw [this]; exact hd4 q)
    (fun a ha=>by
     have:a = d:=by simpa using ha
     rw [this]; exact E.stb.dom d hd)
    fun a ha=>by
     have:a = d:=by simpa using ha
     rw [this]; exact E.my hd
   have cfin:O6 K G H1 fa (upd H4 d (.lst (acc ++ [v]))) (fun q=>if q = j then fa5 p else fa' q):=by
    have ct:=c'.trans co
    exact ⟨fun a o h n=>by rw [i6 (u5 h hd)]; exact ct.frm a o h n,ct.stb.trans st,ct.new,ct.bor⟩
   refine ⟨acc,hacc4,by omega,xs.length - (i + 1),by omega,rfl,hlt,_,_,acc ++ [v],ds ++ [dv],B ++ (Bv ++ []),Ef,cfin,⟨l,List.getElem?_set_self lj⟩,i4,hd4,by rw [List.length_append,List.length_singleton]; omega,?_,?_,?_,fun a ha=>?_,q5⟩
   ·exact (rs4.mono st fun a ha=>i6 fun e=>dB (e ▸ ha)).append (.cons (rv.mono st fun a ha=>i6 fun e=>hdBv (e ▸ ha)) .nil)
   ·rw [List.append_nil]
    refine List.nodup_append.mpr ⟨nB,nv,fun a ha b hb e=>?_⟩
    subst e
    exact rs.there a ha (hBv a hb)
   ·rw [List.append_nil]
    exact fun z=>(List.mem_append.mp z).elim dB hdBv
   ·rw [List.append_nil] at ha
    rcases List.mem_append.mp ha with z | z
    ·exact hB4 a z
    ·exact ⟨c'.stb.dom a (hBv a z),fBv a z⟩
 ·have ei:i = xs.length:=by omega
  subst ei
  left
  refine ⟨(it H tf kC _).1 rfl,k d H ds (d :: B) ρ' fa' E' c' (.lst hacc rs) (List.nodup_cons.mpr ⟨dB,nB⟩) (fun a ha=>?_) (done ds ρ' q)⟩
  rcases List.mem_cons.mp ha with z | z
  ·rw [z]; exact ⟨hd,hdf⟩
  ·exact hB a z
structure Co (X:Cx) (cl:List Cl) (es:List Expr) (u:qC):Prop where
 of ::
 run:∃ t,zL X es t /\ ∀ (G:Ent) (ρ:Ev) (σ:St) (H:Hp) (fa:Nat -> List Addr) (Q:Bool -> Ev -> Prop) (R:Bool -> Hp -> Prop),G.cl = cl -> E3 X.K G ρ σ H fa -> u ρ Q ->
  (∀ b H' ρ' fa',E3 X.K G ρ' σ H' fa' -> O6 X.K G H fa H' fa' -> Q b ρ' -> R b H') -> t σ H R
section
variable {X:Cx} {cl:List Cl} {e:Expr} {pos:Pos} {XN N:List Str} {XS scope:Scope} {cap:List (Option Nat)} {elt target iter:Expr} {ifs:List Expr} {ui:Df} {g3:dA} {tc3:qC} {te3:TM}
def Cn:qC:=fun ρ Q=>Q true ρ
theorem qt:Co X cl [] Cn:=.of ⟨_,rb,fun G ρ σ H fa Q R _ E hu k=>k true H ρ fa E O6.refl hu⟩
noncomputable def jx (cap:List (Option Nat)) (p j:Nat):Bool:=(cap[p]? == some (some j)) && (List.range cap.length).all fun q=>cap[q]? != some (some j) || q == p
theorem ir {cap:List (Option Nat)} {p j:Nat} (h:jx cap p j = true):cap[p]? = some (some j) /\ ∀ q,cap[q]? = some (some j) -> q = p:=by
 unfold jx at h
 rw [Bool.and_eq_true] at h
 refine ⟨by simpa using h.1,fun q e=>?_⟩
 have hq:q < cap.length:=(List.getElem?_eq_some_iff.mp e).1
 have:=(List.all_eq_true.mp h.2) q (List.mem_range.mpr hq)
 rw [e] at this
 simpa using this
theorem EN (p j:Nat) (hj:cl[j]? = some .own) (h1:jx cap p j = true) (h2:(J7 cap p)[p]? = some .own) (hcap:aS XN N XS scope cap = true) (hN:X.N = XN) (hS:X.env.scope = XS) (hk:scope.kind = .function) (hcalm:X.calm = true) (hi:EH X cl target iter ui)
  (hg:∀ c fp s H,yL (O1 X N scope c fp s H) (J7 cap p) target g3) (hc:∀ c fp s H,Co (O1 X N scope c fp s H) (J7 cap p) ifs tc3) (he:∀ c fp s H,PM (O1 X N scope c fp s H) (J7 cap p) elt te3)
  (hs:∀ x,foldedSetIterable iter X.env x = pure x:=by intro _; rfl):PM X cl (.ListComp elt [⟨target,iter,ifs,0⟩] scope pos) (GC p j cap ui g3 tc3 te3):=.of <| by
 obtain ⟨wi,pi,hi⟩:=hi.run
 obtain ⟨hp,hq⟩:=ir h1
 refine ⟨_,wU (g:=fun c fp s H=>Classical.choose (hg c fp s H).run) (tc:=fun c fp s H=>Classical.choose (hc c fp s H).run) (te:=fun c fp s H=>Classical.choose (he c fp s H).run) hcap hN hS hk hcalm pi
  (fun c fp s H=>(Classical.choose_spec (hg c fp s H).run).1) (fun c fp s H=>(Classical.choose_spec (hc c fp s H).run).1) (fun c fp s H=>(Classical.choose_spec (he c fp s H).run).1) hs,fun G ρ σ H fa Q R hG E hu k=>?_⟩
 have own:G.own j:=by unfold Ent.own; rw [hG]; exact hj
 refine hi G ρ σ H fa _ _ hG E hu fun J H1 xs C ρ1 fa1 E1 c1 it tr ap q=>fun c fp s' H'=>?_
 obtain ⟨d0,e0,q2⟩:=x8 q.2
 exact HK (K:=X.K) own hp hq h2 ⟨d0,e0⟩ (Classical.choose_spec (hg c fp s' H').run).2 (Classical.choose_spec (hc c fp s' H').run).2 (Classical.choose_spec (he c fp s' H').run).2 E1 it tr ap q.1 q2
  fun d H2 ds B ρ2 fa2 E2 c2 r n1 n2 q3=>k _ H2 _ B ρ2 fa2 E2 (c1.trans c2) r n1 (fun a ha=>⟨c1.stb.dom a (n2 a ha).1,(n2 a ha).2⟩) q3
theorem vT {i:Nat} {y:Str} {spos py:Pos} (p j:Nat) (hXN:X.N.Nodup) (hiN:X.N[i]? = some y) (hy:X.env.scope.names.lookup y = some .local) (hci:eG cl[i]? i = true) (hj:cl[j]? = some .own) (h1:jx cap p j = true) (h2:(J7 cap p)[p]? = some .own)
  (hcap:aS XN N XS scope cap = true) (hN:X.N = XN) (hS:X.env.scope = XS) (hk:scope.kind = .function) (hcalm:X.calm = true) (hi:EH X cl target iter ui)
  (hg:∀ c fp s H,yL (O1 X N scope c fp s H) (J7 cap p) target g3) (hc:∀ c fp s H,Co (O1 X N scope c fp s H) (J7 cap p) ifs tc3) (he:∀ c fp s H,PM (O1 X N scope c fp s H) (J7 cap p) elt te3)
  (hsw:swapsWith (.ListComp elt [⟨target,iter,ifs,0⟩] scope pos) (some (.Name y py)) spos.line X.env = pure true:=by rfl)
  (hs:∀ x,foldedSetIterable iter X.env x = pure x:=by intro _; rfl):K9 X cl (.Assign [.Name y py] (.ListComp elt [⟨target,iter,ifs,0⟩] scope pos) spos) (G5 i (GC p j cap ui g3 tc3 te3)):=.of <| by
 obtain ⟨wi,pi,hi⟩:=hi.run
 obtain ⟨hp,hq⟩:=ir h1
 refine ⟨_,iN (g:=fun c fp s H=>Classical.choose (hg c fp s H).run) (tc:=fun c fp s H=>Classical.choose (hc c fp s H).run) (te:=fun c fp s H=>Classical.choose (he c fp s H).run) hXN hiN hy hcap hN hS hk hcalm pi
  (fun c fp s H=>(Classical.choose_spec (hg c fp s H).run).1) (fun c fp s H=>(Classical.choose_spec (hc c fp s H).run).1) (fun c fp s H=>(Classical.choose_spec (he c fp s H).run).1) hsw hs,fun G T ρ σ H fa R hG E hu le=>?_⟩
 have own:G.own j:=by unfold Ent.own; rw [hG]; exact hj
 refine hi G ρ σ H fa _ _ hG E hu fun J H1 xs C ρ1 fa1 E1 c1 it tr ap q=>fun c fp s' H'=>?_
 obtain ⟨d0,e0,q2⟩:=x8 q.2
 refine HK (K:=X.K) own hp hq h2 ⟨d0,e0⟩ (Classical.choose_spec (hg c fp s' H').run).2 (Classical.choose_spec (hc c fp s' H').run).2 (Classical.choose_spec (he c fp s' H').run).2 E1 it tr ap q.1 q2
  fun d H2 ds B ρ2 fa2 E2 c2 r n1 n2 q3=>?_
 exact le.nx _ _ ⟨_,_,E2.set (Nat.le_of_ble_eq_true q3.1) r (gY.new E2 E n1 (fun a ha=>⟨c1.stb.dom a (n2 a ha).1,(n2 a ha).2⟩) (by rw [hG]; exact fO hci)),q3.2⟩
end
end L3
namespace L2
open PySem PySem.Spec PyProof.Rows
section
variable {κ:Type} [DecidableEq κ]
noncomputable def bg (kvs:List (κ × V)) (k:κ):Option V:=(kvs.find? fun kv=>decide (kv.1 = k)).map (·.2)
noncomputable def putK (kvs:List (κ × V)) (k:κ) (v:V):List (κ × V):=
 if (kvs.any fun kv=>decide (kv.1 = k)) = true then kvs.map (fun kv=>if kv.1 = k then (kv.1,v) else kv) else kvs ++ [(k,v)]
theorem cg {p:κ × V} {r:List (κ × V)} {k:κ} (e:p.1 = k):bg (p :: r) k = some p.2:=by simp [bg,List.find?_cons,e]
theorem aa {p:κ × V} {r:List (κ × V)} {k:κ} (e:¬ p.1 = k):bg (p :: r) k = bg r k:=by simp [bg,List.find?_cons,e]
theorem mi (k:κ):∀ kvs:List (κ × V),(kvs.any fun kv=>decide (kv.1 = k)) = (bg kvs k).isSome
 | []=>rfl
 | p :: r=>by
  rw [List.any_cons]
  by_cases e:p.1 = k
  ·simp only [cg e,decide_eq_true e,Bool.true_or,Option.isSome_some]
  ·rw [aa e,decide_eq_false e,Bool.false_or]; exact mi k r
theorem Q7 (kvs:List (κ × V)) (k:κ) (v:V):(putK kvs k v).length <= kvs.length + 1:=by
 unfold putK
 split
 ·rw [List.length_map]; omega
 ·rw [List.length_append,List.length_cons,List.length_nil]; omega
theorem ag.S6 {o:Option V} {u:Option Value} (r:ag o u):o.isSome = u.isSome:=by
 cases o with
 | none=>cases u with
  | none=>rfl
  | some _=>exact (show False from r).elim
 | some _=>cases u with
  | none=>exact (show False from r).elim
  | some _=>rfl
theorem ag.getD {o:Option V} {u:Option Value} {d:V} {d':Value} (r:ag o u) (rd:RelV d d'):RelV (o.getD d) (u.getD d'):=by
 cases o with
 | none=>cases u with
  | none=>exact rd
  | some _=>exact (show False from r).elim
 | some _=>cases u with
  | none=>exact (show False from r).elim
  | some _=>exact r
theorem KV.val {kvs:List (κ × V)} {vs:List (κ × Value)} (r:KV kvs vs) (k:κ):ag (bg kvs k) (valueAt vs k):=by
 unfold KV at r
 induction r with
 | nil=>exact True.intro
 | @cons p q ps qs h t ih=>
  obtain ⟨h1,h2⟩:=h
  by_cases e:p.1 = k
  ·have e':q.1 = k:=h1.symm.trans e
   have b:valueAt (q :: qs) k = some q.2:=by simp [valueAt,List.find?_cons,e']
   rw [cg e,b]; exact h2
  ·have e':¬ q.1 = k:=fun z=>e (h1.trans z)
   have b:valueAt (q :: qs) k = valueAt qs k:=by simp [valueAt,List.find?_cons,e']
   rw [aa e,b]; exact ih
theorem KV.any {kvs:List (κ × V)} {vs:List (κ × Value)} (r:KV kvs vs) (k:κ):(kvs.any fun kv=>decide (kv.1 = k)) = vs.any fun kv=>decide (kv.1 = k):=by
 unfold KV at r
 induction r with
 | nil=>rfl
 | cons h t ih=>rw [List.any_cons,List.any_cons,ih,h.1]
theorem KV.uw {kvs:List (κ × V)} {vs:List (κ × Value)} (r:KV kvs vs) (k:κ) {y:V} {u:Value} (ry:RelV y u) :
  KV (kvs.map fun kv=>if kv.1 = k then (kv.1,y) else kv) (vs.map fun kv=>if kv.1 = k then (kv.1,u) else kv):=by
 unfold KV at r ⊢
 induction r with
 | nil=>exact .nil
 | @cons p q ps qs h t ih=>
  rw [List.map_cons,List.map_cons]
  refine .cons ?_ ih
  obtain ⟨h1,h2⟩:=h
  by_cases e:p.1 = k
  ·rw [if_pos e,if_pos (h1.symm.trans e)]; exact ⟨h1,ry⟩
  ·rw [if_neg e,if_neg (fun z=>e (h1.trans z))]; exact ⟨h1,h2⟩
theorem KV.put {kvs:List (κ × V)} {vs:List (κ × Value)} (r:KV kvs vs) (k:κ) {y:V} {u:Value} (ry:RelV y u):KV (putK kvs k y) (stored vs k u):=by
 unfold putK stored
 rw [r.any k]
 by_cases e:(vs.any fun kv=>decide (kv.1 = k)) = true
 ·rw [if_pos e,if_pos e]; exact r.uw k ry
 ·rw [if_neg e,if_neg e]; exact Paired.snoc r ⟨rfl,ry⟩
theorem KV.length {kvs:List (κ × V)} {vs:List (κ × Value)} (r:KV kvs vs):kvs.length = vs.length:=Paired.length r
end
theorem ft {P:Program} {w:World} {k:Key} {u:Value} (r:RelV (kV k) u):(w5 P w).is k u = true:=by
 cases k with
 | inl i=>obtain ⟨t,e⟩:=(show ∃ t,u = Value.int i t from r); subst e; exact lL P w i t
 | inr x=>obtain ⟨t,e⟩:=(show ∃ t,u = Value.str x t from r); subst e; exact lA P w x t
theorem iO {P:Program} {w:World}:∀ {ks:List Key} {us:List Value},Vals (ks.map kV) us -> ItemsAre (w5 P w) ks us
 | [],_,r=>by rw [List.map_nil] at r; cases r; exact .nil
 | k :: ks,_,r=>by
  rw [List.map_cons] at r
  cases r with
  | cons h t=>exact .cons (ft h) (iO t)
noncomputable abbrev KT (H:Hp):List (List Key × V) -> List (List Key × Addr × Value) -> Prop:=Paired fun p q=>p.1 = q.1 /\ H q.2.1 = some (.tup (p.1.map kV)) /\ RelV p.2 q.2.2
theorem KT.val {H:Hp} {kvs:List (List Key × V)} {xs:List (List Key × Addr × Value)} (r:KT H kvs xs) (k:List Key):ag (bg kvs k) ((atKey xs k).map (·.2)):=by
 induction r with
 | nil=>exact True.intro
 | @cons p q ps qs h t ih=>
  obtain ⟨h1,_,h2⟩:=h
  by_cases e:p.1 = k
  ·have e':q.1 = k:=h1.symm.trans e
   have b:atKey (q :: qs) k = some q.2:=by simp [atKey,List.find?_cons,e']
   rw [cg e,b]; exact h2
  ·have e':¬ q.1 = k:=fun z=>e (h1.trans z)
   have b:atKey (q :: qs) k = atKey qs k:=by simp [atKey,List.find?_cons,e']
   rw [aa e,b]; exact ih
theorem KT.uw {H:Hp} {kvs:List (List Key × V)} {xs:List (List Key × Addr × Value)} (r:KT H kvs xs) (k:List Key) {y:V} {u:Value} (ry:RelV y u) :
  KT H (kvs.map fun kv=>if kv.1 = k then (kv.1,y) else kv) (xs.map (putAt k u)):=by
 induction r with
 | nil=>exact .nil
 | @cons p q ps qs h t ih=>
  rw [List.map_cons,List.map_cons]
  refine .cons ?_ ih
  obtain ⟨h1,h2,h3⟩:=h
  unfold putAt
  by_cases e:p.1 = k
  ·rw [if_pos e,if_pos (h1.symm.trans e)]; exact ⟨h1,h2,ry⟩
  ·rw [if_neg e,if_neg (fun z=>e (h1.trans z))]; exact ⟨h1,h2,h3⟩
theorem KT.put {H:Hp} {kvs:List (List Key × V)} {xs:List (List Key × Addr × Value)} (r:KT H kvs xs) (k:List Key) {b:Addr} {y:V} {u:Value} (hb:H b = some (.tup (k.map kV))) (ry:RelV y u) :
  KT H (putK kvs k y) (storedH xs k b u):=by
 have e:(kvs.any fun kv=>decide (kv.1 = k)) = (atKey xs k).isSome:=by
  rw [mi,(r.val k).S6,Option.isSome_map]
 unfold putK storedH
 rw [e]
 by_cases q:(atKey xs k).isSome = true
 ·rw [if_pos q,if_pos q]; exact r.uw k ry
 ·rw [if_neg q,if_neg q]; exact Paired.snoc r ⟨rfl,hb,ry⟩
theorem KT.keeps {H H':Hp} {kvs:List (List Key × V)} {xs:List (List Key × Addr × Value)} (r:KT H kvs xs) (ht:∀ b ys,H b = some (.tup ys) -> H' b = some (.tup ys)):KT H' kvs xs:=
 Paired.Di r fun _ _ z=>⟨z.1,ht _ _ z.2.1,z.2.2⟩
section
variable {P:Program} {w:World} {H:Hp} {h:Heap} {a:Addr}
theorem Fy {u:HO} (ok:P2 P w H h) (e:Rd H a u):w8 P w H h a u:=e.ok ok
def Dk (H:Hp) (a:Addr) (kvs:List (Key × V)):Prop:=Rd H a (.dK kvs) \/ ∃ ep,H a = some (.dE kvs ep)
theorem Dk.of {H:Hp} {a:Addr} {kvs:List (Key × V)} (r:Dd H a kvs):Dk H a kvs:=r.elim (fun h=>.inl (.inl h)) .inr
theorem Dk.ok {P:Program} {w:World} {H:Hp} {h:Heap} {a:Addr} {kvs:List (Key × V)} (r:Dk H a kvs) (x:P2 P w H h):w8 P w H h a (.dK kvs):=r.elim (fun h=>h.ok x) fun h=>(show Dd H a kvs from .inr h).ok x
theorem bS {kvs:List (Key × V)} (ok:P2 P w H h) (e:Dk H a kvs):kvs.length <= sizeLine /\ (a == sysModules) = false /\ ∃ vs,KV kvs vs /\ h.DictOf (w5 P w) a vs:=
 show w8 P w H h a (.dK kvs) from e.ok ok
theorem Be {kvs:List (Key × V)} (ok:P2 P w H h) (e:H a = some (.dK kvs)):kvs.length <= sizeLine /\ (a == sysModules) = false /\ ∃ vs,KV kvs vs /\ h.DictOf (w5 P w) a vs:=bS ok (.inl (.inl e))
theorem cU {ks:List Key} (ok:P2 P w H h) (e:H a = some (.tup (ks.map kV))):(tupleKind (w5 P w)).is h ks a:=by
 obtain ⟨_,its,r,o,h1,h2,n,h3⟩:=(show w8 P w H h a (.tup (ks.map kV)) from ok a _ e)
 exact ⟨o,its.toArray,n,h1,h2,h3,by simpa using iO r⟩
theorem fm {kvs:List (List Key × V)} (ok:P2 P w H h) (e:Rd H a (.dT kvs)):kvs.length <= sizeLine /\ (a == sysModules) = false /\
  ∃ xs,KT H kvs xs /\ h.DictOfH (tupleKind (w5 P w)) a xs:=by
 obtain ⟨z,y,xs,r,o,es,ep,h1,h2,h3,h4,h5⟩:=(show w8 P w H h a (.dT kvs) from Fy ok e)
 refine ⟨z,y,xs,r,o,es,ep,h1,h2,h3,h4,fun x hx=>?_,h5⟩
 have all:∀ {l:List (List Key × V)} {m:List (List Key × Addr × Value)},KT H l m -> ∀ x ∈ m,(tupleKind (w5 P w)).is h x.1 x.2.1:=by
  intro l m q
  induction q with
  | nil=>intro x hx; exact nomatch hx
  | @cons p q ps qs hq t ih=>
   intro x hx
   rcases List.mem_cons.mp hx with e | hx
   ·subst e
    exact cU ok (by rw [<- hq.1]; exact hq.2.1)
   ·exact ih x hx
 exact all r x hx
theorem FG {kvs:List (List Key × V)} (ok:P2 P w H h) (e:H a = some (.dT kvs)):kvs.length <= sizeLine /\ (a == sysModules) = false /\
  ∃ xs,KT H kvs xs /\ h.DictOfH (tupleKind (w5 P w)) a xs:=fm ok (.inl e)
end
def Y3 (H:Hp) (a:Addr) (y:V) (r:Option V):Prop:=
 (∃ kvs k,Dk H a kvs /\ y = kV k /\ r = bg kvs k) \/ ∃ kvs k b,Rd H a (.dT kvs) /\ y = .ref b /\ H b = some (.tup (k.map kV)) /\ r = bg kvs k
def pe (H:Hp) (a:Addr) (y v:V) (H':Hp):Prop:=
 (∃ kvs k,Dd H a kvs /\ y = kV k /\ kvs.length < sizeLine /\ H' = upd H a (.dK (putK kvs k v))) \/
 ∃ kvs k b,H a = some (.dT kvs) /\ y = .ref b /\ H b = some (.tup (k.map kV)) /\ kvs.length < sizeLine /\ H' = upd H a (.dT (putK kvs k v))
theorem Y3.k {H:Hp} {a:Addr} {kvs:List (Key × V)} {k:Key} (e:Dd H a kvs):Y3 H a (kV k) (bg kvs k):=.inl ⟨kvs,k,.of e,rfl,rfl⟩
theorem Y3.t {H:Hp} {a b:Addr} {kvs:List (List Key × V)} {k:List Key} (e:H a = some (.dT kvs)) (eb:H b = some (.tup (k.map kV))):Y3 H a (.ref b) (bg kvs k):=.inr ⟨kvs,k,b,.inl e,rfl,eb,rfl⟩
theorem pe.k {H:Hp} {a:Addr} {kvs:List (Key × V)} {k:Key} {v:V} (e:Dd H a kvs) (hl:kvs.length < sizeLine):pe H a (kV k) v (upd H a (.dK (putK kvs k v))):=.inl ⟨kvs,k,e,rfl,hl,rfl⟩
theorem pe.t {H:Hp} {a b:Addr} {kvs:List (List Key × V)} {k:List Key} {v:V} (e:H a = some (.dT kvs)) (eb:H b = some (.tup (k.map kV))) (hl:kvs.length < sizeLine) :
  pe H a (.ref b) v (upd H a (.dT (putK kvs k v))):=.inr ⟨kvs,k,b,e,rfl,eb,hl,rfl⟩
section
variable {X:Cx} {pins:List (Addr × Obj)} {σ:St} {H:Hp} {s:Shared} {a:Addr} {y v:V} {u r:Value} {o:Option V} {A:Around} {E:Value -> Shared -> Prop}
theorem Inv.big (I:Inv X pins σ H s):sysModules < s.heap.objs.size:=by
 have h:mainGlobals < s.heap.objs.size:=(I.mod.glob.keeps I.bk).lt
 exact Nat.lt_trans (by decide) h
theorem tK {Q:Value -> Shared -> Prop} (hu:A.units + 1 < cLine) (I:Inv X pins σ H s) (g:Y3 H a y (some v)) (ry:RelV y u) (h:∀ w' s',Inv X pins σ H s' -> RelV v w' -> Q w' s') :
  wpAny (model X.prog X.w) A (getItem (.ref a) u) Q E s:=by
 rcases g with ⟨kvs,k,e,ey,l⟩ | ⟨kvs,k,b,e,ey,eb,l⟩
 ·subst ey
  obtain ⟨z,hd,vs,rel,dd⟩:=bS I.hok e
  obtain ⟨w',hw,rw'⟩:=ag.some_of (v:=v) (o:=valueAt vs k) (by rw [l]; exact rel.val k)
  exact wpAny_getItem_of (ft ry) dd.mapOf hw (h w' _ (I.tok _) rw')
 ·subst ey
  cases (show u = Value.ref b from ry)
  obtain ⟨z,hd,xs,rel,dd⟩:=fm I.hok e
  obtain ⟨w',hw,rw'⟩:=ag.some_of (v:=v) (o:=(atKey xs k).map (·.2)) (by rw [l]; exact rel.val k)
  obtain ⟨p,hp,hp2⟩:=Option.map_eq_some_iff.mp hw
  refine wpAny_getItem_heap (tupleKind_room_in1 hu) (cU I.hok eb) dd hp ?_
  rw [hp2]
  exact h w' _ (I.tok _) rw'
theorem HG {Q:Value -> Shared -> Prop} (hu:A.units + 1 < cLine) (I:Inv X pins σ H s) (g:Y3 H a y o) (ry:RelV y u) (h:∀ s',Inv X pins σ H s' -> Q (.bool o.isSome) s') :
  wpAny (model X.prog X.w) A (compareOp .In u (.ref a)) Q E s:=by
 rcases g with ⟨kvs,k,e,ey,l⟩ | ⟨kvs,k,b,e,ey,eb,l⟩
 ·subst ey
  obtain ⟨z,hd,vs,rel,dd⟩:=bS I.hok e
  refine wpAny_in_of (ft ry) hd dd.mapOf ?_
  rw [<- (rel.val k).S6,<- l]
  exact h _ (I.tok _)
 ·subst ey
  cases (show u = Value.ref b from ry)
  obtain ⟨z,hd,xs,rel,dd⟩:=fm I.hok e
  refine wpAny_in_heap (tupleKind_room_in1 hu) (cU I.hok eb) hd dd ?_
  have q:=(rel.val k).S6
  rw [Option.isSome_map] at q
  rw [<- q,<- l]
  exact h _ (I.tok _)
theorem zH {Q:Value -> Shared -> Prop} (hu:A.units + 1 < cLine) (I:Inv X pins σ H s) (g:Y3 H a y o) (ry:RelV y u) (h:∀ s',Inv X pins σ H s' -> Q (.bool (!o.isSome)) s') :
  wpAny (model X.prog X.w) A (compareOp .NotIn u (.ref a)) Q E s:=by
 rcases g with ⟨kvs,k,e,ey,l⟩ | ⟨kvs,k,b,e,ey,eb,l⟩
 ·subst ey
  obtain ⟨z,hd,vs,rel,dd⟩:=bS I.hok e
  refine wpAny_notIn_of (ft ry) hd dd.mapOf ?_
  rw [<- (rel.val k).S6,<- l]
  exact h _ (I.tok _)
 ·subst ey
  cases (show u = Value.ref b from ry)
  obtain ⟨z,hd,xs,rel,dd⟩:=fm I.hok e
  refine wpAny_notIn_heap (tupleKind_room_in1 hu) (cU I.hok eb) hd dd ?_
  have q:=(rel.val k).S6
  rw [Option.isSome_map] at q
  rw [<- q,<- l]
  exact h _ (I.tok _)
theorem jq {h':Heap} {t':Nat} {ob:HO} (I:Inv X pins σ H s) (mu:eO (H a)) (hs:Heap.SameBut a s.heap h') (he:∃ q,h'.get? a = some q) (new:w8 X.prog X.w (upd H a ob) h' a ob) :
  Inv X pins σ (upd H a ob) { s with heap:=h',toks:=t' }:=
 I.write (x:=a) (e:=a) mu (.inl rfl) (fun b q hb z=>(hs.2 b hb).trans z) he new
theorem xb {P:Program} {w:World} {H':Hp} {h':Heap} {kvs:List (Key × V)} {vs:List (Key × Value)} (z:kvs.length <= sizeLine) (hd:(a == sysModules) = false) (rel:KV kvs vs) (dd:h'.DictOf (w5 P w) a vs) :
  w8 P w H' h' a (.dK kvs):=⟨z,hd,vs,rel,dd⟩
theorem Inv.Ba {kvs:List (Key × V)} (I:Inv X pins σ H s) (e:H a = some (.dK kvs)):∃ ep,Inv X pins σ (upd H a (.dE kvs ep)) s:=by
 obtain ⟨z,hd,vs,rel,dd⟩:=Be I.hok e
 obtain ⟨ep,da⟩:=dd.dictAt
 exact ⟨ep,I.write (x:=a) (e:=a) (h':=s.heap) (t':=s.toks) (o:=.dE kvs ep) (by rw [e]; exact True.intro) (.inl rfl) (fun b q hb z=>z) (let ⟨q,_,_,hq,_⟩:=dd; ⟨q,hq⟩) ⟨z,hd,vs,rel,da⟩⟩
theorem sA {H':Hp} {Q:Unit -> Shared -> Prop} (hu:A.units + 1 < cLine) (I:Inv X pins σ H s) (g:pe H a y v H') (ry:RelV y u) (rv:RelV v r) (h:∀ s',Inv X pins σ H' s' -> Q () s') :
  wpAny (model X.prog X.w) A (setItem (.ref a) u r) Q E s:=by
 rcases g with ⟨kvs,k,e,ey,l,eH⟩ | ⟨kvs,k,b,e,ey,eb,l,eH⟩
 ·subst ey eH
  obtain ⟨z,hd,vs,rel,dd⟩:=bS I.hok (.of e)
  have hz:vs.length <= sizeLine:=by rw [<- rel.length]; exact z
  have hl:(putK kvs k v).length <= sizeLine:=by have:=Q7 kvs k v; omega
  refine wpAny_setItem_pairs (hsz:=hz) (ft ry) dd fun h' dd' hs=>h _ ?_
  have he:∃ q,h'.get? a = some q:=let ⟨q,_,_,hq,_⟩:=dd'; ⟨q,hq⟩
  exact jq I e.HJ hs he (xb hl hd (rel.put k rv) dd')
 ·subst ey eH
  cases (show u = Value.ref b from ry)
  obtain ⟨z,hd,xs,rel,dd⟩:=FG I.hok e
  have hz:xs.length <= sizeLine:=by rw [<- Paired.length rel]; exact z
  have hl:(putK kvs k v).length <= sizeLine:=by have:=Q7 kvs k v; omega
  refine wpAny_setItem_heap (hsz:=hz) (tupleKind_room_in1 hu) (cU I.hok eb) dd fun h' dd' hs=>h _ ?_
  obtain ⟨q,es,ep,hq,h2,h3,h4,_,h5⟩:=dd'
  refine jq I (by rw [e]; exact True.intro) hs ⟨q,hq⟩ ⟨hl,hd,_,(rel.put k eb rv).keeps fun c ys ec=>?_,q,es,ep,hq,h2,h3,h4,h5⟩
  rw [i6 (FJ ec e (fun z=>nomatch z))]
  exact ec
end
section
variable {X:Cx} {pins:List (Addr × Obj)} {σ:St} {H:Hp} {s:Shared} {a:Addr} {kvs:List (Key × V)} {k:Key} {u:Value} {A:Around} {E:Value -> Shared -> Prop}
end
theorem mq {X:Cx} {pins:List (Addr × Obj)} {σ:St} {H:Hp} {s:Shared} {a:Addr} {y:V} {o:Option V} (I:Inv X pins σ H s) (g:Y3 H a y o):s.TypeIs (.ref a) "dict" := by
 rcases g with ⟨kvs,k,e,_,_⟩ | ⟨kvs,k,b,e,_,_,_⟩
 ·obtain ⟨_,_,vs,_,dd⟩:=bS I.hok e
  exact dd.typeIs
 ·obtain ⟨_,_,xs,_,dd⟩:=fm I.hok e
  exact dd.typeIs
def EW (td ty tv:TE):TS:=fun D σ H=>tv σ H fun v H1=>td σ H1 fun x H2=>ty σ H2 fun y H3=>∃ a H4,x = .ref a /\ pe H3 a y v H4 /\ D.nx σ H4
section
variable {X:Cx} {o i e value:Expr} {pos pos' tpos:Pos} {td ty tv:TE}
theorem zr (hu:X.A.units + 1 < cLine) (ho:PE X o td) (hi:PE X i ty) (hv:PE X value tv) (hs:swapsWith value (some (.Subscript o i pos')) pos.line X.env = pure false) :
  PS X (.Assign [.Subscript o i pos'] value pos) (EW td ty tv):=by
 refine .of ?_
 intro pins s σ H D I h
 refine wpAny_Assign_Subscript (B6 (hv pins s σ H _ I h) fun r s1 ⟨v,H1,I1,rv,q1⟩=>B6 (ho pins s1 σ H1 _ I1 q1) fun u s2 ⟨x,H2,I2,rx,q2⟩=>B6 (hi pins s2 σ H2 _ I2 q2) fun iv s3 ⟨y,H3,I3,ry,a,H4,ex,g,q3⟩=>?_) hs
 subst ex
 obtain rfl:u = Value.ref a:=rx
 exact sA hu I3 g ry rv fun s4 I4=>⟨σ,H4,I4,q3⟩
end
theorem nq {P:Program} {w:World} {H:Hp} (h:Heap) (hb:sysModules < h.objs.size):w8 P w H (h.push { cls:=.type "dict",data:=.dict #[] }) h.objs.size (.dK []):=
 ⟨Nat.zero_le _,beq_eq_false_iff_ne.mpr (Ne.symm (Nat.ne_of_lt hb)),[],.nil,Heap.DictOf.new h⟩
def DN:TE:=fun _ H Q=>∀ p,H p = none -> Q (.ref p) (upd H p (.dK []))
section
variable {X:Cx} {pos:Pos}
theorem wN:PE X (.Dict [] [] pos) DN:=.of <|  fun pins s σ H Q I h=>
 wpAny_Dict_empty ⟨.ref s.heap.objs.size,_,I.laid (a:=s.heap.objs.size) (o:=.dK []) (t':=s.toks) (fun _ _ q=>Heap.get?_push_of_some _ q) (Nat.le_refl _) (nq s.heap I.big),rfl,h _ (I.hok.fresh (Nat.le_refl _))⟩
end
structure M2 (X:Cx) (o:Expr) (m:Str) (apos:Pos) (e f:Expr) (cpos:Pos):Prop where
 base:attributeBase o m X.env (eval o X.env) = eval o X.env
 few:((backTo cpos (starEach [e,f] X.env)).all (fun x=>!x.1) && (backToKw cpos (keywordEach [] X.env)).all (fun x=>x.1.isSome)
  && decide (([e,f]:List Expr).length + ([]:List Keyword).length + (if ([]:List Keyword).isEmpty then 0 else 1) < 30)) = true
 line:(apos.endLine == cpos.line) = true
 trees:backTo cpos (starEach [e,f] X.env) = [(false,eval e X.env),(false,eval f X.env)]
def HZ (H:Hp) (a:Addr):Prop:=(∃ kvs,Dk H a kvs) \/ ∃ kvs,Rd H a (.dT kvs)
theorem Dl {X:Cx} {pins:List (Addr × Obj)} {σ:St} {H:Hp} {s:Shared} {a:Addr} (I:Inv X pins σ H s) (d:HZ H a) :
  s.TypeIs (.ref a) "dict" /\ (∀ b,Value.ref a = .ref b -> ∃ ob,s.heap.get? b = some ob /\ ob.dict = none) /\ (a == sysModules) = false:=by
 rcases d with ⟨kvs,e⟩ | ⟨kvs,e⟩
 ·obtain ⟨_,hd,vs,_,dd⟩:=bS I.hok e
  refine ⟨dd.typeIs,fun b q=>?_,hd⟩
  cases q
  obtain ⟨ob,_,_,h1,h2,_⟩:=dd
  exact ⟨ob,h1,h2.2.1⟩
 ·obtain ⟨_,hd,xs,_,dd⟩:=fm I.hok e
  refine ⟨dd.typeIs,fun b q=>?_,hd⟩
  cases q
  obtain ⟨ob,_,_,h1,h2,_⟩:=dd
  exact ⟨ob,h1,h2.2.1⟩
section
variable {X:Cx} {pins:List (Addr × Obj)} {σ:St} {H:Hp} {s:Shared} {a:Addr} {y d:V} {u r:Value} {o:Option V} {A:Around} {E:Value -> Shared -> Prop}
theorem BU {Q:Value -> Shared -> Prop} (hu:A.units + 1 < cLine) (I:Inv X pins σ H s) (g:Y3 H a y o) (ry:RelV y u) (rd:RelV d r) (h:∀ w' s',Inv X pins σ H s' -> RelV (o.getD d) w' -> Q w' s') :
  wpAny (model X.prog X.w) A (call (.builtin "dict.get") [.ref a,u,r]) Q E s:=by
 rcases g with ⟨kvs,k,e,ey,l⟩ | ⟨kvs,k,b,e,ey,eb,l⟩
 ·subst ey
  obtain ⟨z,hd,vs,rel,dd⟩:=bS I.hok e
  refine call_meetsIn PySem.F.slot_dict_get dd.typeIs PySem.F.entry_dict_get (PySem.F.args_dict_get_3 _ _ _) (meets_dict_get_default (w5 X.prog X.w) a (ft ry) hd r) ⟨_,dd.mapOf,h _ _ (I.tok _) ?_⟩
  rw [l]
  exact (rel.val k).getD rd
 ·subst ey
  cases (show u = Value.ref b from ry)
  obtain ⟨z,hd,xs,rel,dd⟩:=fm I.hok e
  refine call_meetsIn PySem.F.slot_dict_get dd.typeIs PySem.F.entry_dict_get (PySem.F.args_dict_get_3 _ _ _) (meetsH_dict_get_default (tupleKind (w5 X.prog X.w)) a b hd r) ⟨tupleKind_room_in1 hu,k,xs,cU I.hok eb,dd,h _ _ (I.tok _) ?_⟩
  rw [l]
  exact (rel.val k).getD rd
end
section
variable {X:Cx} {o e f:Expr} {apos cpos:Pos} {td ty tx:TE}
end
section
variable {X:Cx} {pins:List (Addr × Obj)} {σ:St} {H:Hp} {s:Shared} {a:Addr} {kvs:List (Key × V)} {A:Around} {E:Value -> Shared -> Prop}
end
section
variable {X:Cx} {pins:List (Addr × Obj)} {σ:St} {H:Hp} {s:Shared} {a:Addr} {y:V} {u:Value} {A:Around} {E:Value -> Shared -> Prop}
end
end L2
namespace L2
open PySem PySem.Spec PyProof.Rows
section
variable {X:Cx}
end
section
variable {κ:Type} [DecidableEq κ]
end
end L2
namespace L2
open PySem PySem.Spec PyProof.Rows
theorem mw {prog:Program} {w:World} {A:Around} {E:Value -> Shared -> Prop} {s:Shared} {Q:Int -> Shared -> Prop} (h:Q 0xFCA86420 { s with toks:=s.toks + 1 }):wpAny (model prog w) A (pyHash .none) Q E s:=by
 have hT:s.TypeIs .none "NoneType" := rfl
 unfold pyHash
 have hv:[Value.none].any Value.onHeap = false:=rfl
 refine wpAny_bind ?_
 rw [cRoomFor,if_neg (by rw [hv]; exact Bool.false_ne_true)]; refine wpAny_pure ?_
 refine wpAny_bind (wpAny_specialOf hT F.slot_NoneType_hash.lookup ?_)
 show wpAny _ _ (if (some (Value.builtin "NoneType.__hash__") == some Value.none) = true then _ else _) Q E s
 rw [if_neg (by rw [beq_builtin_none]; exact Bool.false_ne_true)]
 refine wpAny_bind (wpAny_specialOf hT F.slot_NoneType_hash.lookup ?_)
 show wpAny _ _ (callSpecialIfBoundUnlessNone? .none "__hash__" _ >>= _) Q E s
 refine wpAny_bind (wpAny_callSpecialIfBoundUnlessNone?_slot hT F.slot_NoneType_hash
  (wpAny_call_entry F.slot_NoneType_hash hT F.entry_NoneType_hash
   (show wpAny _ _ (do ret (<- mkInt 0xFCA86420)) _ _ s from wpAny_ret_mkInt ?_) (F.args_NoneType_hash_1 _)))
 show wpAny _ _ (if (decide (-(2:Int) ^ 63 <= 0xFCA86420) && decide ((0xFCA86420:Int) < 2 ^ 63)) = true then _ else _) Q E _
 rw [if_pos (by decide)]
 exact wpAny_pure h
noncomputable abbrev zf:=Option Key
noncomputable def fN:zf -> Value -> Bool
 | some k,v=>dw k v
 | none,v=>v == .none
noncomputable def FT (w:World):zf -> Int
 | some k=>En w k
 | none=>0xFCA86420
theorem C4 {v:Value} (h:fN none v = true):v = .none:=eq_of_beq h
noncomputable def nY (prog:Program) (w:World):PySem.KeyKind prog w zf where
 is:=fN
 hash:=FT w
 inj:=fun v a b ha hb=>by
  cases a with
  | none=>
   cases b with
   | none=>rfl
   | some k=>
    have e:=C4 ha
    subst e
    rcases r8 hb with ⟨i,t,rfl,e⟩ | ⟨x,t,rfl,e⟩ <;> cases e
  | some k=>
   cases b with
   | none=>
    have e:=C4 hb
    subst e
    rcases r8 ha with ⟨i,t,rfl,e⟩ | ⟨x,t,rfl,e⟩ <;> cases e
   | some k'=>rw [(w5 prog w).inj v k k' ha hb]
 byValue:=fun k v h=>by
  cases k with
  | none=>rw [C4 h]; rfl
  | some k=>exact (w5 prog w).byValue k v h
 pyHash:=fun {A E s k v Q} hv h=>by
  cases k with
  | none=>rw [C4 hv]; exact mw h
  | some k=>exact (w5 prog w).pyHash hv h
 eqBool:=fun {A E s a b u v Q} hu hv h=>by
  cases a with
  | none=>
   have e:=C4 hu
   subst e
   cases b with
   | none=>
    have e:=C4 hv
    subst e
    exact SeqAt.EqAt.same _ _ _ _ _ (by simpa using h)
   | some k=>
    have h':Q false s:=by simpa using h
    rcases r8 hv with ⟨i,t,rfl,rfl⟩ | ⟨x,t,rfl,rfl⟩
    ·exact SeqAt.EqAt.none_int i t _ _ _ _ h'
    ·exact SeqAt.EqAt.none_str x t _ _ _ _ h'
  | some k=>
   cases b with
   | none=>
    have e:=C4 hv
    subst e
    have h':Q false s:=by simpa using h
    rcases r8 hu with ⟨i,t,rfl,rfl⟩ | ⟨x,t,rfl,rfl⟩
    ·exact SeqAt.EqAt.int_none i t _ _ _ _ h'
    ·exact SeqAt.EqAt.str_none x t _ _ _ _ h'
   | some k'=>
    refine (w5 prog w).eqBool hu hv ?_
    have e:decide ((some k:zf) = some k') = decide (k = k'):=by
     by_cases e:k = k'
     ·subst e; simp
     ·rw [decide_eq_false e,decide_eq_false fun q=>e (Option.some.inj q)]
    rwa [e] at h
 «strs»:=fun k x t v h=>by
  cases k with
  | none=>cases C4 h
  | some k=>exact (w5 prog w).strs k x t v h
theorem DI {P:Program} {w:World} {h:Heap} {a:Addr} {f:Key -> Option Value} (m:h.MapOf (w5 P w) a f):h.MapOf (nY P w) a (fun k=>k.bind f):=by
 obtain ⟨o,es,ep,h1,h2,h3,h4,h5⟩:=m
 refine ⟨o,es,ep,h1,h2,h3,fun e he=>?_,fun k=>?_⟩
 ·obtain ⟨k,e1,e2⟩:=h4 e he
  exact ⟨some k,e1,e2⟩
 ·cases k with
  | some k=>exact h5 k
  | none=>
   show findBy fN es none = none
   have no:∀ e ∈ es,fN none e.key = false:=fun e he=>by
    cases q:fN none e.key with
    | false=>rfl
    | true=>
     obtain ⟨k,e1,_⟩:=h4 e he
     rw [C4 q] at e1
     rcases r8 (show dw k Value.none = true from e1) with ⟨i,t,_,e⟩ | ⟨x,t,_,e⟩ <;> cases e
   unfold findBy
   simp
   exact no
def yo (H:Hp) (a:Addr) (y:V) (r:Option V):Prop:=Y3 H a y r \/ (y = .non /\ (∃ kvs,Dd H a kvs) /\ r = none)
def Ah (td ty tx:TE):TE:=fun σ H Q=>td σ H fun x H1=>∃ a,x = .ref a /\ HZ H1 a /\ ty σ H1 fun y H2=>tx σ H2 fun z H3=>∃ o,yo H3 a y o /\ Q (o.getD z) H3
theorem tS {X:Cx} {o e f:Expr} {apos cpos:Pos} {td ty tx:TE} (hu:X.A.units + 1 < cLine) (ho:PE X o td) (he:PE X e ty) (hf:PE X f tx) (m:M2 X o "get" apos e f cpos):PE X (.Call (.Attribute o "get" apos) [e,f] [] cpos) (Ah td ty tx):=by
 refine .of ?_
 intro pins s σ H Q I h
 refine wpAny_Call_method m.base m.few m.line PySem.F.plainAttrs_dict PySem.F.slot_dict_get PySem.F.type_dict_get (B6 (ho pins s σ H _ I h) fun u s1 ⟨x,H1,I1,rx,a,ex,d,q1⟩=>?_)
 subst ex
 obtain rfl:u = Value.ref a:=rx
 obtain ⟨t1,t2,_⟩:=Dl I1 d
 refine ⟨t1,t2,?_⟩
 rw [m.trees]
 refine Calls.callWith_builtin rfl (Calls.evalArgs_plain (Calls.spliced_cons (B6 (he pins s1 σ H1 _ I1 q1) fun iv s2 ⟨y,H2,I2,ry,q2⟩=>
  Calls.spliced_cons (B6 (hf pins s2 σ H2 _ I2 q2) fun fv s3 ⟨z,H3,I3,rz,ov,g,q3⟩=>Calls.spliced_nil ?_))))
 rcases g with g | ⟨rfl,⟨kvs,hk⟩,rfl⟩
 ·exact BU hu I3 g ry rz fun w' s4 I4 rw'=>⟨_,H3,I4,rw',q3⟩
 ·cases ry
  obtain ⟨zz,hd,vs,rel,dd⟩:=bS I3.hok (.of hk)
  refine call_meetsIn PySem.F.slot_dict_get dd.typeIs PySem.F.entry_dict_get (PySem.F.args_dict_get_3 _ _ _) (meets_dict_get_default (nY X.prog X.w) (k:=none) a (by rfl) hd fv) ⟨_,DI dd.mapOf,⟨_,H3,I3.tok _,rz,q3⟩⟩
end L2
namespace L2
open PySem PySem.Spec PyProof.Rows
noncomputable def HB (Q:VK):VK:=fun v H'=>∃ p kvs,v = .ref p /\ H' p = some (.dK kvs) /\ ∀ ep,Q v (upd H' p (.dE kvs ep))
noncomputable def Ends.HB (D:Ends):Ends:={ D with nx:=fun σ' H'=>∃ p kvs,H' p = some (.dK kvs) /\ ∀ ep,D.nx σ' (upd H' p (.dE kvs ep)) }
section
variable {X:Cx}
theorem De {e:Expr} {t:TE} (h:PE X e t):PE X e (fun σ H Q=>t σ H (HB Q)):=by
 refine .of ?_
 intro pins s σ H Q I q
 exact B6 (h pins s σ H _ I q) fun v s1 ⟨x,H1,I1,r1,p,kvs,e1,e2,q1⟩=>let ⟨ep,I2⟩:=I1.Ba e2; ⟨x,_,I2,r1,q1 ep⟩
theorem xW {st:Stmt} {t:TS} (h:PS X st t):PS X st (fun D σ H=>t D.HB σ H):=by
 refine .of ?_
 intro pins s σ H D I q
 refine B6 (h pins s σ H _ I q) fun f s1 h1=>?_
 cases f with
 | next=>
  obtain ⟨σ',H',I',p,kvs,e,q'⟩:=h1
  obtain ⟨ep,I2⟩:=I'.Ba e
  exact ⟨_,_,I2,q' ep⟩
 | brk=>exact h1
 | cont=>exact h1
 | ret v=>exact h1
end
end L2
namespace L3
open PySem PySem.Spec L2
noncomputable def cG:D -> Option Key
 | .int i=>some (.inl i)
 | .str x=>some (.inr x)
 | _=>none
noncomputable def C5 (kvs:List (Key × D)) (k:Key):Option D:=(kvs.find? fun kv=>decide (kv.1 = k)).map (·.2)
noncomputable def putD (kvs:List (Key × D)) (k:Key) (v:D):List (Key × D):=
 if (kvs.any fun kv=>decide (kv.1 = k)) = true then kvs.map (fun kv=>if kv.1 = k then (kv.1,v) else kv) else kvs ++ [(k,v)]
section
variable {K:PySem.W.Frag} {H:Hp}
theorem C9.val:∀ {kvs:List (Key × V)} {kds:List (Key × D)} {A:List Addr} (k:Key),C9 K H kvs kds A -> (∀ d,C5 kds k = some d -> ∃ v B,bg kvs k = some v /\ Rep K H v d B /\ B.Sublist A) /\ (C5 kds k = none -> bg kvs k = none)
 | _,_,_,k,.nil=>⟨fun d e=>by simp [C5] at e,fun _=>rfl⟩
 | _,_,_,k,.cons (k:=k0) (A:=A) (B:=B) h r=>by
  obtain ⟨ih1,ih2⟩:=r.val k
  by_cases e:k0 = k
  ·subst e
   refine ⟨fun d e=>?_,fun e=>?_⟩
   ·simp [C5,List.find?_cons] at e
    subst e
    exact ⟨_,_,cg rfl,h,List.sublist_append_left _ _⟩
   ·simp [C5,List.find?_cons] at e
  ·have e1:∀ (x:D) (ds:List (Key × D)),C5 ((k0,x) :: ds) k = C5 ds k:=fun x ds=>by simp [C5,List.find?_cons,e]
   refine ⟨fun d e2=>?_,fun e2=>?_⟩
   ·rw [e1] at e2
    obtain ⟨v,B,a1,a2,a3⟩:=ih1 d e2
    exact ⟨v,B,by rw [aa (p:=(k0,_)) e]; exact a1,a2,a3.trans (List.sublist_append_right _ _)⟩
   ·rw [e1] at e2
    rw [aa (p:=(k0,_)) e]; exact ih2 e2
theorem C9.any:∀ {kvs:List (Key × V)} {kds:List (Key × D)} {A:List Addr} (k:Key),C9 K H kvs kds A -> (kvs.any fun kv=>decide (kv.1 = k)) = kds.any fun kv=>decide (kv.1 = k)
 | _,_,_,k,.nil=>rfl
 | _,_,_,k,.cons h r=>by rw [List.any_cons,List.any_cons,r.any k]
theorem C9.length:∀ {kvs:List (Key × V)} {kds:List (Key × D)} {A:List Addr},C9 K H kvs kds A -> kvs.length = kds.length
 | _,_,_,.nil=>rfl
 | _,_,_,.cons h r=>by simp [r.length]
theorem C9.uw {v:V} {d:D} (k:Key) (rv:Rep K H v d []):∀ {kvs:List (Key × V)} {kds:List (Key × D)} {A:List Addr},C9 K H kvs kds A -> ∃ C,C9 K H (kvs.map fun kv=>if kv.1 = k then (kv.1,v) else kv) (kds.map fun kv=>if kv.1 = k then (kv.1,d) else kv) C /\ C.Sublist A
 | _,_,_,.nil=>⟨[],.nil,List.Sublist.refl _⟩
 | _,_,_,.cons (k:=k0) (A:=A) (B:=B) h r=>by
  obtain ⟨C,r2,s2⟩:=C9.uw k rv r
  rw [List.map_cons,List.map_cons]
  by_cases e:k0 = k
  ·rw [if_pos e,if_pos e]
   exact ⟨[] ++ C,.cons rv r2,s2.trans (List.sublist_append_right _ _)⟩
  ·rw [if_neg e,if_neg e]
   exact ⟨A ++ C,.cons h r2,s2.append_left A⟩
theorem C9.snoc:∀ {kvs:List (Key × V)} {kds:List (Key × D)} {A B:List Addr} {k:Key} {v:V} {d:D},C9 K H kvs kds A -> Rep K H v d B -> C9 K H (kvs ++ [(k,v)]) (kds ++ [(k,d)]) (A ++ B)
 | _,_,_,B,k,_,_,.nil,rv=>by
  have q:=C9.cons (k:=k) rv C9.nil
  rw [List.append_nil] at q
  exact q
 | _,_,_,_,_,_,_,.cons h r,rv=>by rw [List.append_assoc]; exact .cons h (r.snoc rv)
theorem C9.put {kvs:List (Key × V)} {kds:List (Key × D)} {A:List Addr} {v:V} {d:D} (k:Key) (r:C9 K H kvs kds A) (rv:Rep K H v d []):∃ C,C9 K H (putK kvs k v) (putD kds k d) C /\ C.Sublist A:=by
 unfold putK putD
 rw [r.any k]
 by_cases e:(kds.any fun kv=>decide (kv.1 = k)) = true
 ·rw [if_pos e,if_pos e]
  exact r.uw k rv
 ·rw [if_neg e,if_neg e]
  have q:=r.snoc (k:=k) rv
  rw [List.append_nil] at q
  exact ⟨A,q,List.Sublist.refl _⟩
theorem bU {v:V} {kds:List (Key × D)} {A:List Addr} (h:Rep K H v (.dic kds) A):∃ p kvs B,v = .ref p /\ Dd H p kvs /\ C9 K H kvs kds B /\ A = p :: B:=by
 cases h with
 | dic h r=>exact ⟨_,_,_,rfl,.inr ⟨_,h⟩,r,rfl⟩
theorem T9.EI {p:Addr} {o:HO} (m:eO (H p)):T9 H (upd H p o):=⟨fun b ys h=>by
  by_cases e:b = p
  ·subst e; rw [h] at m; exact m.elim
  ·rw [i6 e]; exact h,fun b u w' h=>by
  by_cases e:b = p
  ·subst e; rw [h] at m; exact m.elim
  ·rw [i6 e]; exact h,fun b h=>by
  by_cases e:b = p
  ·subst e; rw [i4] at h; cases h
  ·rw [i6 e] at h; exact h⟩
theorem AB {H1:Hp} {d ep:Nat} {acc:List (Key × V)} {ds:List (Key × D)} (s1:i7 H1 H) (hd:H1 d = none) (ha:H d = some (.dK acc)) (r:C9 K H acc ds []):i7 H1 (upd H d (.dE acc ep)) /\ Rep K (upd H d (.dE acc ep)) (.ref d) (.dic ds) [d]:=by
 refine ⟨fun b o e=>?_,.dic i4 (r.mono (T9.EI (by rw [ha]; exact True.intro)) fun a h=>by cases h)⟩
 rw [i6 (u5 e hd)]
 exact s1 _ _ e
theorem bP {v:V} {d:D} {A:List Addr} {k:Key} (h:Rep K H v d A) (e:cG d = some k):v = kV k:=by
 cases h <;> first | cases e | skip
 ·rfl
 ·rfl
end
section
variable {X:Cx} {cl:List Cl} {e a b c:Expr} {f:Fl} {pos:Pos} {ua ub uc:TU} {ma mb mc:TM} {fa fb fc:Fl} {x:Str} {i:Nat}
theorem yW:PU X cl (.Dict [] [] pos) .fresh (uC (.dic [])):=.of <| by
 refine ⟨_,De wN,fun G ρ σ H fo Q R _ E hu k=>fun p hp=>⟨p,[],rfl,i4,fun ep=>?_⟩⟩
 rw [qw]
 refine k _ _ _ [p] (i7.n9 hp) (.dic i4 .nil) ⟨by simp,fun a ha=>?_⟩ hu
 have:a = p:=by simpa using ha
 rw [this]; exact hp
noncomputable def Bh:D -> D -> (D -> Prop) -> Prop:=fun d y Q=>match d with
 | .dic kvs=>∃ k v,cG y = some k /\ C5 kvs k = some v /\ Q v
 | _=>False
theorem zw {H:Hp} {v w:V} {d e:D} {A B:List Addr} {Q:D -> Prop} (r1:Rep X.K H v d A) (r2:Rep X.K H w e B) (q:Bh d e Q):∃ a u z C,v = .ref a /\ Y3 H a w (some u) /\ Rep X.K H u z C /\ C.Sublist A /\ Q z:=by
 cases d <;> first | exact (show False from q).elim | skip
 rename_i kds
 obtain ⟨k,z,hk,hz,q⟩:∃ k v,cG e = some k /\ C5 kds k = some v /\ Q v:=q
 obtain ⟨p,kvs,B',rfl,hp,rs,rfl⟩:=bU r1
 cases bP r2 hk
 obtain ⟨u,C,e1,r3,s3⟩:=(rs.val k).1 z hz
 refine ⟨p,u,z,C,rfl,?_,r3,s3.trans (List.sublist_cons_self _ _),q⟩
 rw [<- e1]
 exact Y3.k hp
noncomputable def wg:D -> D -> D -> (D -> Prop) -> Prop:=fun d y z Q=>match d with
 | .dic kvs=>match y with
  | .non=>D3 z = true /\ Q z
  | y=>∃ k,cG y = some k /\ D3 ((C5 kvs k).getD z) = true /\ Q ((C5 kvs k).getD z)
 | _=>False
noncomputable def FX:D -> Bool
 | .dic _=>true
 | _=>false
def wQ (ua ub uc:TU):TU:=fun ρ Q=>ua ρ fun x=>FX x = true /\ ub ρ fun y=>uc ρ fun z=>wg x y z Q
theorem wJ {H:Hp} {v w u:V} {d e z:D} {A B C:List Addr} {Q:D -> Prop} (r1:Rep X.K H v d A) (r2:Rep X.K H w e B) (r3:Rep X.K H u z C) (q:wg d e z Q):∃ a o y,v = .ref a /\ yo H a w o /\ Rep X.K H (o.getD u) y [] /\ Q y:=by
 cases d <;> first | exact (show False from q).elim | skip
 rename_i kds
 obtain ⟨p,kvs,B',rfl,hp,rs,rfl⟩:=bU r1
 have go:∀ k,cG e = some k -> D3 ((C5 kds k).getD z) = true -> Q ((C5 kds k).getD z) -> ∃ a o y,V.ref p = .ref a /\ yo H a w o /\ Rep X.K H (o.getD u) y [] /\ Q y:=fun k hk im q=>by
  cases bP r2 hk
  refine ⟨p,bg kvs k,_,rfl,.inl (Y3.k hp),?_,q⟩
  cases ev:C5 kds k with
  | none=>
   rw [(rs.val k).2 ev]
   rw [ev] at im
   have e0:=r3.M1 im
   subst e0
   exact r3
  | some y=>
   obtain ⟨v',C',e1,r4,_⟩:=(rs.val k).1 y ev
   rw [e1]
   rw [ev] at im
   have e0:=r4.M1 im
   subst e0
   exact r4
 cases e with
 | non=>
  have q:D3 z = true /\ Q z:=q
  cases eI r2
  have e0:=r3.M1 q.1
  subst e0
  exact ⟨p,none,z,rfl,.inr ⟨rfl,⟨kvs,hp⟩,rfl⟩,r3,q.2⟩
 | int i=>obtain ⟨k,hk,im,q⟩:=q; exact go k hk im q
 | str i=>obtain ⟨k,hk,im,q⟩:=q; exact go k hk im q
 | _=>obtain ⟨k,hk,im,q⟩:=q; cases hk
theorem wo {apos:Pos} (hu:X.A.units + 1 < cLine) (ha:PU X cl a fa ua) (hb:PU X cl b fb ub) (hc:PU X cl c fc uc) (m:M2 X a "get" apos b c pos):PU X cl (.Call (.Attribute a "get" apos) [b,c] [] pos) .fresh (wQ ua ub uc):=.of <| by
 obtain ⟨ta,pa,ha⟩:=ha.run
 obtain ⟨tb,pb,hb⟩:=hb.run
 obtain ⟨tc,pc,hc⟩:=hc.run
 refine ⟨_,tS hu pa pb pc m,fun G ρ σ H fo Q R hG E hu' k=>ha G ρ σ H fo _ _ hG E hu' fun v H1 d A s1 r1 f1 q1=>?_⟩
 obtain ⟨hd,q1⟩:=q1
 cases d <;> first | cases hd | skip
 have r1':=r1
 obtain ⟨p,kvs,B',rfl,hp,rs,rfl⟩:=bU r1
 refine ⟨p,rfl,.inl ⟨kvs,.of hp⟩,hb G ρ σ H1 fo _ _ hG (E.same s1) q1 fun w H2 e B s2 r2 f2 q2=>hc G ρ σ H2 fo _ _ hG (E.same (s1.trans s2)) q2 fun u H3 z C s3 r3 f3 q3=>?_⟩
 obtain ⟨p',o,y,ep,g,r4,q4⟩:=wJ ((r1'.same s2).same s3) (r2.same s3) r3 q3
 cases ep
 exact ⟨o,g,k _ H3 y [] ((s1.trans s2).trans s3) r4 (A3.nil _) q4⟩
noncomputable def DA (i:Nat) (y d:D) (ρ:Ev) (Q:Ev -> Prop):D -> Prop
 | .dic kvs=>∃ k,cG y = some k /\ kvs.length < sizeLine /\ Q (ρ.set i (some (.dic (putD kvs k d))))
 | _=>False
def vy (i:Nat) (mv mk:TM):j2:=fun T ρ=>mv ρ fun d ρ1=>D3 d = true /\ e8 i ρ1 fun _=>mk ρ1 fun y ρ2=>e8 i ρ2 (DA i y d ρ2 T.nx)
theorem BD {vp tp:Pos} {ik:Expr} {mk:TM} (hu:X.A.units + 1 < cLine) (i:Nat) (hv:PE X (.Name x vp) (W8 i)) (hi:cl[i]? = some .own) (he:PN X cl e ma) (hk:PN X cl ik mk) (hs:swapsWith e (some (.Subscript (.Name x vp) ik tp)) pos.line X.env = pure false:=by rfl) :
  K9 X cl (.Assign [.Subscript (.Name x vp) ik tp] e pos) (vy i ma mk):=.of <| by
 obtain ⟨t,p,h⟩:=he.run
 obtain ⟨t2,p2,h2⟩:=hk.run
 refine ⟨_,xW (zr hu hv p2 p hs),fun G T ρ σ H fa R hG E hu' le=>?_⟩
 have own:G.own i:=by unfold Ent.own; rw [hG]; exact hi
 refine h G ρ σ H fa _ _ hG E hu' fun w H1 d B1 ρ1 fa1 E1 c1 r1 n1 q=>?_
 obtain ⟨im,q⟩:=q
 have eB:=r1.M1 im
 subst eB
 obtain ⟨l0,e0,q⟩:=x8 q
 obtain ⟨v,hvi,r0⟩:=E1.rep i l0 e0
 refine ⟨_,hvi,h2 G ρ1 σ H1 fa1 _ _ hG E1 q fun wk H2 dk Bk ρ2 fa2 E2 c2 rk nk q=>?_⟩
 obtain ⟨l1,e1,q⟩:=x8 q
 obtain ⟨v',hv',r2⟩:=E2.rep i l1 e1
 have ev:v' = v:=by rw [hvi] at hv'; cases hv'; rfl
 subst ev
 cases l1 <;> first | exact (show False from q).elim | skip
 rename_i kds
 obtain ⟨k,hk,hn,q⟩:∃ k,cG dk = some k /\ kds.length < sizeLine /\ T.nx (ρ2.set i (some (.dic (putD kds k d)))):=q
 obtain ⟨p,kvs,B,rfl,hp,rs,eA⟩:=bU r2
 cases bP rk hk
 have r1':Rep X.K H2 w d []:=c2.keep r1 fun i _ a ha=>(by cases ha)
 have nd:=E2.nd i (.inl own)
 have pin:p ∈ fa2 i:=by rw [eA]; exact List.mem_cons_self
 rw [eA] at nd
 obtain ⟨np,ndB⟩:=List.nodup_cons.mp nd
 obtain ⟨C,rC,sC⟩:=rs.put k r1'
 have hpC:p ∉ C:=fun z=>np (sC.mem z)
 have rn:∀ ep,Rep X.K (upd H2 p (.dE (putK kvs k w) ep)) (.ref p) (.dic (putD kds k d)) (p :: C):=fun ep=>.dic i4 (rC.mono (T9.EI hp.HJ) fun a ha=>i6 fun e=>hpC (e ▸ ha))
 have n3:∀ a ∈ p :: C,a ∈ fa2 i:=fun a ha=>by
  rcases List.mem_cons.mp ha with z | z
  ·exact z ▸ pin
  ·rw [eA]; exact List.mem_cons_of_mem _ (sC.mem z)
 have li:i < ρ2.length:=(List.getElem?_eq_some_iff.mp e1).1
 refine ⟨p,_,rfl,pe.k hp (by rw [rs.length]; exact hn),p,_,i4,fun ep=>?_⟩
 rw [qw]
 exact le.nx _ _ ⟨_,_,E2.put own li hv' pin eL (by rw [i4]; exact fun z=>nomatch z) (rn ep) (List.nodup_cons.mpr ⟨hpC,ndB.sublist sC⟩) fun a ha=>.inl (n3 a ha),q⟩
end
end L3
namespace L3
open PySem PySem.Spec L2
section
variable {X:Cx} {cl:List Cl}
theorem P9 {b:List Stmt} {s1:Stmt} {t1:j2} (e:b = [s1]) (h1:K9 X cl s1 t1):gR X cl b t1:=by
 rw [e]
 exact (dm h1)
theorem Eh {b:List Stmt} {s1 s2:Stmt} {t1 t2:j2} (e:b = [s1,s2]) (h1:K9 X cl s1 t1) (h2:K9 X cl s2 t2):gR X cl b (i8 t1 t2):=by
 rw [e]
 exact (w6 h1 (dm h2))
theorem AX {b:List Stmt} {s1 s2 s3:Stmt} {t1 t2 t3:j2} (e:b = [s1,s2,s3]) (h1:K9 X cl s1 t1) (h2:K9 X cl s2 t2) (h3:K9 X cl s3 t3):gR X cl b (i8 t1 (i8 t2 t3)):=by
 rw [e]
 exact (w6 h1 (w6 h2 (dm h3)))
theorem vX {b:List Stmt} {s1 s2 s3 s4:Stmt} {t1 t2 t3 t4:j2} (e:b = [s1,s2,s3,s4]) (h1:K9 X cl s1 t1) (h2:K9 X cl s2 t2) (h3:K9 X cl s3 t3) (h4:K9 X cl s4 t4):gR X cl b (i8 t1 (i8 t2 (i8 t3 t4))):=by
 rw [e]
 exact (w6 h1 (w6 h2 (w6 h3 (dm h4))))
theorem Hq {b:List Stmt} {s1 s2 s3 s4 s5:Stmt} {t1 t2 t3 t4 t5:j2} (e:b = [s1,s2,s3,s4,s5]) (h1:K9 X cl s1 t1) (h2:K9 X cl s2 t2) (h3:K9 X cl s3 t3) (h4:K9 X cl s4 t4) (h5:K9 X cl s5 t5):gR X cl b (i8 t1 (i8 t2 (i8 t3 (i8 t4 t5)))):=by
 rw [e]
 exact (w6 h1 (w6 h2 (w6 h3 (w6 h4 (dm h5)))))
theorem Im {b:List Stmt} {s1 s2 s3 s4 s5 s6:Stmt} {t1 t2 t3 t4 t5 t6:j2} (e:b = [s1,s2,s3,s4,s5,s6]) (h1:K9 X cl s1 t1) (h2:K9 X cl s2 t2) (h3:K9 X cl s3 t3) (h4:K9 X cl s4 t4) (h5:K9 X cl s5 t5) (h6:K9 X cl s6 t6):gR X cl b (i8 t1 (i8 t2 (i8 t3 (i8 t4 (i8 t5 t6))))):=by
 rw [e]
 exact (w6 h1 (w6 h2 (w6 h3 (w6 h4 (w6 h5 (dm h6))))))
theorem Hv {b:List Stmt} {s1 s2 s3 s4 s5 s6 s7:Stmt} {t1 t2 t3 t4 t5 t6 t7:j2} (e:b = [s1,s2,s3,s4,s5,s6,s7]) (h1:K9 X cl s1 t1) (h2:K9 X cl s2 t2) (h3:K9 X cl s3 t3) (h4:K9 X cl s4 t4) (h5:K9 X cl s5 t5) (h6:K9 X cl s6 t6) (h7:K9 X cl s7 t7):gR X cl b (i8 t1 (i8 t2 (i8 t3 (i8 t4 (i8 t5 (i8 t6 t7)))))):=by
 rw [e]
 exact (w6 h1 (w6 h2 (w6 h3 (w6 h4 (w6 h5 (w6 h6 (dm h7)))))))
theorem HC {b:List Stmt} {s1 s2 s3 s4 s5 s6 s7 s8 s9 s10:Stmt} {t1 t2 t3 t4 t5 t6 t7 t8 t9 t10:j2} (e:b = [s1,s2,s3,s4,s5,s6,s7,s8,s9,s10]) (h1:K9 X cl s1 t1) (h2:K9 X cl s2 t2) (h3:K9 X cl s3 t3) (h4:K9 X cl s4 t4) (h5:K9 X cl s5 t5) (h6:K9 X cl s6 t6) (h7:K9 X cl s7 t7) (h8:K9 X cl s8 t8) (h9:K9 X cl s9 t9) (h10:K9 X cl s10 t10):gR X cl b (i8 t1 (i8 t2 (i8 t3 (i8 t4 (i8 t5 (i8 t6 (i8 t7 (i8 t8 (i8 t9 t10))))))))):=by
 rw [e]
 exact (w6 h1 (w6 h2 (w6 h3 (w6 h4 (w6 h5 (w6 h6 (w6 h7 (w6 h8 (w6 h9 (dm h10))))))))))
end
section
variable {X:Cx} {cl:List Cl} {a:Expr} {f:Fl} {pos:Pos} {ua:TU}
noncomputable def pM:D -> (D -> Prop) -> Prop
 | .int i,Q=>Q (.int (-i))
 | _,_=>False
def Dz (g:D -> (D -> Prop) -> Prop) (ua:TU):TU:=fun ρ Q=>ua ρ fun d=>g d Q
theorem cO (ha:PU X cl a f ua):PU X cl (.UnaryOp .USub a pos) .fresh (Dz pM ua):=.of <| by
 obtain ⟨t,p,h⟩:=ha.run
 refine ⟨_,FO Ck p,fun G ρ σ H fo Q R hG E hu k=>h G ρ σ H fo _ _ hG E hu fun v H' d B s r _ q=>?_⟩
 cases d <;> first | exact (show False from q).elim | skip
 cases B3 r
 exact ⟨_,rfl,k _ H' _ [] s .int (A3.nil _) q⟩
end
noncomputable abbrev X7:=ug fun i j=>D.int (i - j)
noncomputable abbrev wD:=gI aO fun i j=>D.int (i / j)
noncomputable abbrev aN:=gI (fun _ j=>0 < j) fun i j=>D.int (i % j)
noncomputable abbrev kD:=gI gU fun i j=>D.int (i ^ j.toNat)
noncomputable abbrev AY:=ug fun i j=>D.bl (decide (i < j))
noncomputable abbrev DY:=ug fun i j=>D.bl (decide (j < i))
noncomputable abbrev Iy:=ug fun i j=>D.bl (decide (j <= i))
theorem lW {i j:Nat} {ds:List D} {ρ:Ev} {Q:Ev -> Prop} (h:u6 (g1 i) (u6 (g1 j) X2) ds ρ Q):ds.length = 2:=by
 match ds,h with
 | [_,_],_=>rfl
 | [_],h=>exact h.2.elim
 | _ :: _ :: _ :: _,h=>exact h.2.2.elim
end L3
namespace L3
open PySem PySem.Spec L2
section
variable {X:Cx} {cl:List Cl} {e a b tg:Expr} {es:List Expr} {f:Fl} {pos pos':Pos} {ua ub:TU} {ma mb:TM} {fa fb:Fl} {x:Str} {i:Nat}
def xB (g:dA) (u:TU):j2:=fun T ρ=>u ρ fun d=>g d ρ T.nx
theorem qD {g:dA} (he:PU X cl e f ua) (hf:cY f .stab = true) (hg:yL X cl tg g) (mk:∀ {te g},PE X e te -> PG X tg g -> PS X (.Assign [tg] e pos) (sk te g)):K9 X cl (.Assign [tg] e pos) (xB g ua):=.of <| by
 obtain ⟨t,p,h⟩:=he.run
 obtain ⟨t2,p2,h2⟩:=hg.run
 refine ⟨_,mk p p2,fun G T ρ σ H fa R hG E hu le=>h G ρ σ H fa _ _ hG E hu fun v H' d B s r fo q=>?_⟩
 exact h2 G ρ σ H' fa v d B _ _ hG (E.same s) r (fo.weak E hf) q fun σ' ρ' fa' E' _ _ q'=>le.nx _ _ ⟨ρ',fa',E',q'⟩
noncomputable def FH:D -> D -> (D -> Prop) -> Prop
 | .tup xs,.tup ys,Q=>y8 xs = true /\ y8 ys = true /\ xs.length + ys.length <= sizeLine /\ Q (.tup (xs ++ ys))
 | _,_,_=>False
theorem DM:X5 X vK FH:=by
 intro H v w d e A B Q R r1 r2 q k
 cases d <;> cases e <;> first | exact q.elim | skip
 obtain ⟨p1,vs,rfl,h1,rs1⟩:=K4 r1
 obtain ⟨p2,ws,rfl,h2,rs2⟩:=K4 r2
 obtain ⟨i1,i2,hn,q⟩:=q
 have e1:=rs1.M1 i1
 have e2:=rs2.M1 i2
 subst e1
 subst e2
 exact ⟨p1,p2,vs,ws,rfl,rfl,h1,h2,by rw [rs1.length,rs2.length]; exact hn,fun r H' s hr=>k _ _ _ [] s (.tup hr ((rs1.same s).append (rs2.same s))) List.nodup_nil (fun a ha=>(by cases ha)) q⟩
theorem n8.nums {K:PySem.W.Frag} {H:Hp}:∀ {bs:List Int} {vs:List V} {A:List Addr},n8 K H vs (bs.map D.int) A -> vs = bs.map V.int
 | [],_,_,r=>by cases r; rfl
 | b :: bs,_,_,r=>by
  cases r with
  | cons h t=>rw [B3 h,t.nums]; rfl
end
end L3
namespace L2
open PySem PySem.Spec PyProof.Rows
theorem gL {prog:Program} {w:World} {A:Around} {R:Result -> Shared -> Prop} {s:Shared} {kx vx target iter:Expr} {ifs:List Expr} {scope:Scope} {pos:Pos} {it:Value} {D:Addr} {env:Env} (I:Nat -> Shared -> Prop)
  (turn:∀ n s,I n s -> wpAny (model prog w) A (pyNext it) (fun r s1=>match r with
   | none=>R (.ok .next) s1
   | some v=>wpAny (model prog w) A (letOwnedTupleGo target it v) (fun _ s2=>wpAny (model prog w) A (assign target env v) (fun _ s3=>
     wpAny (model prog w) A (forIn ifs true fun c r=>if r = true then do let ok <- isTrue c env (eval c env); pure (ForInStep.yield ok) else pure (ForInStep.yield r)) (fun ok s4=>
      if ok = true then wpAny (model prog w) A (eval kx env) (fun kv s5=>wpAny (model prog w) A (eval vx env) (fun vv s5'=>
       wpAny (model prog w) A (dictSet D kv vv) (fun _ s6=>∃ m,m < n /\ I m s6) (fun _ _=>False) s5') (fun _ _=>False) s5) (fun _ _=>False) s4
      else ∃ m,m < n /\ I m s4) (fun _ _=>False) s3) (fun _ _=>False) s2) (fun _ _=>False) s1) (fun _ _=>False) s)
  (n:Nat) (h:I n s) :
  codeAny (model prog w) A (.compLoop (.DictComp kx vx [⟨target,iter,ifs,0⟩] scope pos) 0 it (.ref D) env) R s:=by
 refine codeAny_loop rfl I (fun n s hI=>?_) n h
 show wpAny _ A ((compTurn (.DictComp kx vx [⟨target,iter,ifs,0⟩] scope pos) 0 it (.ref D) env).onRaise (fun x=>do noteFrame x env; theTreesLotGoes x)) _ _ s
 refine wpAny_noted ?_
 rw [compTurn_dict]
 refine wpAny_bind (wpAny_standAt (wpAny_bind (wpAny_mono (turn n s hI) (fun r s1 h1=>?_) fun _ _ h'=>h'.elim)))
 cases r with
 | none=>exact wpAny_pure h1
 | some v=>
  refine wpAny_bind (wpAny_mono h1 (fun _ s2 h2=>?_) fun _ _ h'=>h'.elim)
  refine wpAny_bind (wpAny_mono h2 (fun _ s3 h3=>wpAny_bind (wpAny_mono h3 (fun ok s4 h4=>?_) fun _ _ h'=>h'.elim)) fun _ _ h'=>h'.elim)
  cases ok with
  | false=>exact wpAny_pure ⟨rfl,h4⟩
  | true=>
   exact wpAny_bind (wpAny_bind (wpAny_mono h4 (fun kv s5 h5=>wpAny_bind (wpAny_holding (wpAny_mono h5 (fun vv s6 h6=>wpAny_bind (wpAny_standAt (wpAny_holding (wpAny_mono h6 (fun _ s7 h7=>wpAny_pure ⟨rfl,h7⟩) fun _ _ h'=>h'.elim)))) fun _ _ h'=>h'.elim))) fun _ _ h'=>h'.elim))
theorem uz {X:Cx} {pins:List (Addr × Obj)} {σ:St} {H:Hp} {s:Shared} {a:Addr} {v:V} {u r:Value} {A:Around} {E:Value -> Shared -> Prop} {kvs:List (Key × V)} {k:Key} {Q:Unit -> Shared -> Prop} (I:Inv X pins σ H s) (e:H a = some (.dK kvs)) (l:kvs.length < sizeLine) (ry:RelV (kV k) u) (rv:RelV v r)
  (h:∀ s',Inv X pins σ (upd H a (.dK (putK kvs k v))) s' -> Q () s'):wpAny (model X.prog X.w) A (dictSet a u r) Q E s:=by
 obtain ⟨z,hd,vs,rel,dd⟩:=Be I.hok e
 have hz:vs.length <= sizeLine:=by rw [<- rel.length]; exact z
 have hl:(putK kvs k v).length <= sizeLine:=by have:=Q7 kvs k v; omega
 refine wpAny_dictSet_pairs (hsz:=hz) (ft ry) dd fun h' dd' hs=>h _ ?_
 have he:∃ q,h'.get? a = some q:=let ⟨q,_,_,hq,_⟩:=dd'; ⟨q,hq⟩
 exact jq I (by rw [e]; exact True.intro) hs he (xb hl hd (rel.put k rv) dd')
def GL (J:It) (g:TG) (tc:TT) (tk te:TE) (σ0:St) (Q:VK) (H1:Hp):Prop:=∀ d,H1 d = none ->
 ∃ W:Nat -> Nat -> Hp -> Prop,(∃ m,W 0 m (upd H1 d (.dK []))) /\ ∀ i m H,W i m H ->
  (J.stop i H /\ Q (.ref d) H) \/
  (J.go i H /\ ∀ x H',J.yld i H x H' -> g x σ0 H' fun σ2 H2=>tc σ2 H2 fun b H3=>
   if b = true then tk σ2 H3 fun kv H4=>te σ2 H4 fun v H5=>∃ acc k,kv = kV k /\ H5 d = some (.dK acc) /\ acc.length < sizeLine /\ ∃ m',m' < m /\ W (i + 1) m' (upd H5 d (.dK (putK acc k v)))
   else ∃ m',m' < m /\ W (i + 1) m' H3)
theorem su {X:Cx} {N:List Str} {scope:Scope} {cap:List (Option Nat)} {fp:List Addr} {pins:List (Addr × Obj)} {σ:St} {H:Hp} {s:Shared} {kx vx target iter:Expr} {ifs:List Expr} {pos:Pos} {g:List (Str × Addr) -> List Addr -> Shared -> Hp -> TG} {tc:List (Str × Addr) -> List Addr -> Shared -> Hp -> TT} {tk te:List (Str × Addr) -> List Addr -> Shared -> Hp -> TE} {J:It} {it:Addr} {tn:Nat -> Heap -> Prop}
  {E:Value -> Shared -> Prop} {RR:Value -> Addr -> Result -> Shared -> Prop} {Q:VK} (hcalm:X.calm = true) (cf:N5 X N scope cap) (hk:scope.kind = .function)
  (hg:∀ cl fp s H,PG (O1 X N scope cl fp s H) target (g cl fp s H)) (hc:∀ cl fp s H,zL (O1 X N scope cl fp s H) ifs (tc cl fp s H)) (hx:∀ cl fp s H,PE (O1 X N scope cl fp s H) kx (tk cl fp s H)) (he:∀ cl fp s H,PE (O1 X N scope cl fp s H) vx (te cl fp s H))
  (I:Inv X pins σ H s) (T:Turn X.prog X.w X.K target J fp it tn) (st:tn 0 s.heap) (hf:∀ b ∈ fp,S1 X pins H b) (q:∀ cl fp s H',GL J (g cl fp s H') (tc cl fp s H') (tk cl fp s H') (te cl fp s H') (N7 cap σ) Q H)
  (hRR:∀ d C H' s' m,Inv X pins σ H' s' -> s'.heap.Ns C m -> S1 X pins H' C -> Q (.ref d) H' -> RR (.ref d) C (.ok .next) s') :
  wpAny (model X.prog X.w) X.A newDict (fun acc s3=>wpAny (model X.prog X.w) X.A (newFunctionEnv scope X.env.globals (D6 X.env scope.names []) [] X.env.qual none .none (some X.env)) (fun cenv s4=>
   codeAny (model X.prog X.w) X.A (.compStart (.DictComp kx vx [⟨target,iter,ifs,0⟩] scope pos) 0 (.ref it) acc { cenv with scope:=relabel scope X.env }) (RR acc cenv.locals) s4) E s3) E s:=by
 refine wpAny_newObj_type (wpAny_newFunctionEnv cf.nocell (by intro y hy; simp at hy) (fun h1 hns hsb=>?_) hk)
 have I3:Inv X pins σ (upd H s.heap.objs.size (.dK [])) { s with heap:=s.heap.push { cls:=.type "dict",data:=.dict #[] } }:=I.laid (a:=s.heap.objs.size) (o:=.dK []) (t':=s.toks) (fun _ _ q=>Heap.get?_push_of_some _ q) (Nat.le_refl _) (nq s.heap I.big)
 have hfr:H s.heap.objs.size = none:=I.fresh
 obtain ⟨W,⟨m0,w0⟩,turn⟩:=q (D6 X.env scope.names []) fp { s with heap:=s.heap.push { cls:=.type "dict",data:=.dict #[] } } (upd H s.heap.objs.size (.dK [])) s.heap.objs.size hfr
 have hlt:∀ b ∈ fp,b < s.heap.objs.size:=fun b hb=>by
  obtain ⟨o,e,_⟩:=T.obj 0 _ st b hb
  exact Heap.lt_size e
 have hf3:∀ b ∈ fp,S1 X pins (upd H s.heap.objs.size (.dK [])) b:=fun b hb=>⟨by rw [i6 (Nat.ne_of_lt (hlt b hb))]; exact (hf b hb).1,(hf b hb).2⟩
 have hlt3:∀ b ∈ fp,b < (s.heap.push { cls:=.type "dict",data:=.dict #[] }).objs.size:=fun b hb=>by
  rw [Heap.size_push]
  exact Nat.lt_succ_of_lt (hlt b hb)
 dsimp only at hns hsb ⊢
 generalize hS3:({ s with heap:=s.heap.push { cls:=.type "dict",data:=.dict #[] } }:Shared) = s3 at I3 turn
 have hheap:s3.heap = s.heap.push { cls:=.type "dict",data:=.dict #[] }:=by rw [<- hS3]
 have htok:s3.toks = s.toks:=by rw [<- hS3]
 rw [<- hheap] at hns hsb hlt3
 have keep3:∀ b o,s3.heap.get? b = some o -> h1.get? b = some o:=fun b o e=>hsb.extBut b o (Nat.ne_of_lt (Heap.lt_size e)) (Heap.get?_push_of_some _ e)
 have keep:∀ b o,s.heap.get? b = some o -> h1.get? b = some o:=fun b o e=>keep3 b o (by rw [hheap]; exact Heap.get?_push_of_some _ e)
 have Ic:=mD (tk:=s.toks) I3 cf hk hf3 hlt3 hns keep3
 have st1:tn 0 h1:=T.keep 0 _ _ st fun b _ o e=>keep b o e
 have fr0:∀ b ∈ fp,(upd H s.heap.objs.size (.dK [])) b = none:=fun b hb=>(hf3 b hb).1
 have stat:∀ {H':Hp},(∀ b ∈ fp,H' b = none) -> ∀ b ∈ fp,S1 (O1 X N scope (D6 X.env scope.names []) fp s3 (upd H s.heap.objs.size (.dK []))) [] H' b:=fun hn b hb=>
  ⟨hn b hb,Nat.ne_of_lt (hlt3 b hb),Ic.ok.exfs b hb,.inl hb,fun x c h=>(hf b hb).2.2.2.2.1 x c (X8 h),fun p hp=>absurd (show p ∈ ([]:List (Addr × Obj)) from hp) (by simp)⟩
 have hos:s3.os = s.os:=by rw [<- hS3]
 have hge:s3.gens = s.gens:=by rw [<- hS3]
 have loop:codeAny (model X.prog X.w) X.A (.compLoop (.DictComp kx vx [⟨target,iter,ifs,0⟩] scope pos) 0 (.ref it) (.ref s.heap.objs.size) (compEnvC scope (D6 X.env scope.names []) s3.heap.objs.size X.env))
   (RR (.ref s.heap.objs.size) s3.heap.objs.size) { s3 with heap:=h1,toks:=s.toks }:=by
  refine gL (fun n s'=>∃ i H',Inv (O1 X N scope (D6 X.env scope.names []) fp s3 (upd H s.heap.objs.size (.dK []))) [] (N7 cap σ) H' s' /\ tn i s'.heap /\ (∀ b ∈ fp,H' b = none) /\ W i n H') ?_ m0 ⟨0,_,Ic,st1,fr0,w0⟩
  rintro n s4 ⟨i,H4,I4,st4,fr4,w4⟩
  rcases turn i n H4 w4 with ⟨stop,qn⟩ | ⟨go,step⟩
  ·refine B6 (T.done (O1 X N scope (D6 X.env scope.names []) fp s3 (upd H s.heap.objs.size (.dK []))) rfl rfl rfl hcalm i [] s4 _ H4 (fun _ _=>False) I4 (stat fr4) st4 stop) fun r s5 ⟨hr,I5⟩=>?_
   subst hr
   obtain ⟨m,hn5,_⟩:=I5.loc
   refine hRR _ _ H4 s5 m ?_ hn5 (I3.js (Nat.le_refl _) I5.free) qn
   exact I3.iE I5.os I5.base I5.hok I5.bare fun b hb=>⟨(hf b hb).2.2.2.1,(hf b hb).2.1,(hf b hb).2.2.2.2.1,(hf b hb).2.2.2.2.2⟩
  ·refine B6 (T.item (O1 X N scope (D6 X.env scope.names []) fp s3 (upd H s.heap.objs.size (.dK []))) rfl rfl rfl hcalm i [] s4 _ H4 (fun _ _=>False) I4 (stat fr4) st4 go) fun r s5 ⟨u,hr,h5⟩=>?_
   subst hr
   refine B6 h5 fun _ s6 ⟨x,H6,I6,r6,y6,st6,fr6⟩=>?_
   have I6':=I6.pinned (stat fr6) (T.obj _ _ st6)
   refine B6 (hg _ _ _ _ _ s6 _ H6 x u _ I6' r6 (step x H6 y6)) fun _ s7 ⟨σ7,H7,I7,q7⟩=>?_
   refine B6 (hc _ _ _ _ _ s7 σ7 H7 _ I7 q7) fun ok s8 ⟨H8,I8,q8⟩=>?_
   have again:∀ {σ9:St} {H9:Hp} {s9:Shared},Inv (O1 X N scope (D6 X.env scope.names []) fp s3 (upd H s.heap.objs.size (.dK []))) ([] ++ cR fp s6.heap) σ9 H9 s9 -> (∃ m',m' < n /\ W (i + 1) m' H9) ->
     ∃ m,m < n /\ ∃ i H',Inv (O1 X N scope (D6 X.env scope.names []) fp s3 (upd H s.heap.objs.size (.dK []))) [] (N7 cap σ) H' s9 /\ tn i s9.heap /\ (∀ b ∈ fp,H' b = none) /\ W i m H':=fun {σ9 H9 s9} I9 ⟨m',hm,w9⟩=>by
    refine ⟨m',hm,i + 1,H9,iD I3 cf hf3 I9.ae,T.keep _ _ _ st6 fun b hb o e=>(I9.pin (b,o) (List.mem_append_right _ (List.mem_append_right _ (M0 hb e)))).1,fun b hb=>?_,w9⟩
    obtain ⟨o,e,d⟩:=T.obj _ _ st6 b hb
    exact (I9.pin (b,o) (List.mem_append_right _ (List.mem_append_right _ (M0 hb e)))).2.1
   cases ok with
   | false=>exact again I8 q8
   | true=>
    show wpAny _ _ (eval kx _) _ _ s8
    refine B6 (hx _ _ _ _ _ s8 σ7 H8 _ I8 q8) fun y0 s8' ⟨v0,H8',I8',r8',q8'⟩=>?_
    refine B6 (he _ _ _ _ _ s8' σ7 H8' _ I8' q8') fun y s9 ⟨v,H9,I9,r9,acc,k,ek,hacc,hlen,m',hm,w9⟩=>?_
    subst ek
    exact uz (X:=O1 X N scope (D6 X.env scope.names []) fp s3 (upd H s.heap.objs.size (.dK []))) I9 hacc hlen r8' r9 fun s10 I10=>again I10 ⟨m',hm,w9⟩
 have e4:({ s with heap:=h1,toks:=s.toks + ([]:List (Str × Value)).length }:Shared) = { s3 with heap:=h1,toks:=s.toks }:=by rw [<- hS3]; rfl
 rw [<- hheap,e4]
 exact codeAny_compStart_dict loop (T.self _ 0 _ _ _ st1 loop)
def GZ (cap:List (Option Nat)) (wi:TI) (g:List (Str × Addr) -> List Addr -> Shared -> Hp -> TG) (tc:List (Str × Addr) -> List Addr -> Shared -> Hp -> TT) (tk te:List (Str × Addr) -> List Addr -> Shared -> Hp -> TE):TE:=fun σ H Q=>wi σ H fun J H1=>∀ cl fp s H',GL J (g cl fp s H') (tc cl fp s H') (tk cl fp s H') (te cl fp s H') (N7 cap σ) Q H1
theorem rP {X:Cx} {i:Nat} {y:Str} {XN N:List Str} {XS scope:Scope} {cap:List (Option Nat)} {kx vx target iter:Expr} {ifs:List Expr} {pos spos py:Pos} {wi:TI} {g:List (Str × Addr) -> List Addr -> Shared -> Hp -> TG} {tc:List (Str × Addr) -> List Addr -> Shared -> Hp -> TT} {tk te:List (Str × Addr) -> List Addr -> Shared -> Hp -> TE}
  (hXN:X.N.Nodup) (hiN:X.N[i]? = some y) (hy:X.env.scope.names.lookup y = some .local)
  (hcap:aS XN N XS scope cap = true) (hN:X.N = XN) (hS:X.env.scope = XS) (hk:scope.kind = .function) (hcalm:X.calm = true) (hi:PI X target iter wi)
  (hg:∀ cl fp s H,PG (O1 X N scope cl fp s H) target (g cl fp s H)) (hc:∀ cl fp s H,zL (O1 X N scope cl fp s H) ifs (tc cl fp s H)) (hx:∀ cl fp s H,PE (O1 X N scope cl fp s H) kx (tk cl fp s H)) (he:∀ cl fp s H,PE (O1 X N scope cl fp s H) vx (te cl fp s H))
  (hsw:swapsWith (.DictComp kx vx [⟨target,iter,ifs,0⟩] scope pos) (some (.Name y py)) spos.line X.env = pure true:=by rfl)
  (hs:∀ x,foldedSetIterable iter X.env x = pure x:=by intro _; rfl):PS X (.Assign [.Name y py] (.DictComp kx vx [⟨target,iter,ifs,0⟩] scope pos) spos) (sk (GZ cap wi g tc tk te) (mQ i)):=by
 refine .of ?_
 intro pins s σ H D I h
 have cf:=ah hN hS hcap
 rw [exec_Assign_Name_used _ _ _ _ hsw]
 refine wpAny_bind (wpAny_standAt (wpAny_bind ?_))
 show wpAny _ X.A (do let _ <- comprehension (.DictComp kx vx [⟨target,iter,ifs,0⟩] scope pos) scope X.env _ newDict false (eval iter X.env) (some (assign (.Name y py) X.env))) _ _ s
 refine wpAny_bind (wpAny_mono (wpAny_comprehension_free (use:=some (assign (.Name y py) X.env)) (Q:=fun _ s'=>SP X pins D .next s') rfl hs (bq (I.Y2 cf)) hk cf.loc (B6 (hi pins s σ H _ I h) fun v s1 h1=>B6 h1 fun itv s2 h2=>?_))
  (fun _ s' hq=>wpAny_pure (wpAny_pure hq)) fun _ _ e=>e)
 obtain ⟨it,fp,tn,J,H2,rfl,I2,T,st2,f2,q⟩:=h2
 refine su (RR:=fun acc C=>compPost (model X.prog X.w) X.A X.xe (some (assign (.Name y py) X.env)) (fun _ s'=>SP X pins D .next s') acc C) hcalm cf hk hg hc hx he I2 T st2 f2 q fun d C H' s' m I' hn hC q'=>?_
 show wpAny _ _ (assign (.Name y py) X.env (.ref d)) _ _ s'
 refine wpAny_assign_Name (T7 (v:=.ref d) I' hXN hiN (.inl hy) rfl (fun s2 I2 ⟨a,sb,ha⟩=>⟨m,hn.sameBut sb ?_,fun h' sb'=>⟨_,H',I2.vF hC sb',q'⟩⟩) (.inr hy))
 rcases ha with z | z
 ·rw [z]; exact hC.2.1
 ·exact fun e=>hC.2.2.2.2.1 y a z e.symm
end L2
namespace L3
open PySem PySem.Spec L2
theorem C9.same {K:PySem.W.Frag} {H H':Hp} (s:i7 H H') {v:List (Key × V)} {d:List (Key × D)} {A:List Addr} (r:C9 K H v d A):C9 K H' v d A:=
 r.mono (T9.of s) fun a ha=>by
  obtain ⟨o,e⟩:=eO.some (r.X0 a ha)
  rw [e]; exact s a o e
noncomputable def oH (g:dA) (tc:cE) (tk te:TU) (ρ0:Ev):List D -> List (Key × D) -> (List (Key × D) -> Prop) -> Prop
 | [],acc,Q=>Q acc
 | x :: xs,acc,Q=>g x ρ0 fun ρ1=>tc ρ1 fun b=>Br b (tk ρ1 fun y=>te ρ1 fun d=>∃ k,cG y = some k /\ D3 d = true /\ oH g tc tk te ρ0 xs (putD acc k d) Q) (oH g tc tk te ρ0 xs acc Q)
def Ih (cap:List (Option Nat)) (ui:uF) (g:dA) (tc:cE) (tk te:TU):TU:=fun ρ Q=>ui ρ fun xs=>xs.length < sizeLine /\ oH g tc tk te (Z3 cap ρ) xs [] fun ds=>Q (.dic ds)
theorem Hm {K:PySem.W.Frag} {cap:List (Option Nat)} {g3:dA} {tc3:cE} {tk3 te3:TU} {fk fv:Fl} {J:It} {g:TG} {tc:TT} {tk te:TE} {xs:List D} {C:List Addr} {ρ:Ev} {σ:St} {G:Ent} {H1:Hp} {fa:Nat -> List Addr} {Q:List (Key × D) -> Prop} {R:VK}
  (hg:∀ (G:Ent) (ρ:Ev) (σ:St) (H:Hp) (fa:Nat -> List Addr) (v:V) (d:D) (B:List Addr) (Q:Ev -> Prop) (R:St -> Hp -> Prop),G.cl = M5 cap -> E3 K G ρ σ H fa -> Rep K H v d B -> (∀ i,G.own i -> ∀ a ∈ B,a ∉ fa i) -> g3 d ρ Q ->
   (∀ σ' ρ' fa',E3 K G ρ' σ' H fa' -> (∀ i,G.own i -> fa' i = fa i /\ σ'[i]? = σ[i]?) -> (∀ i,G.own i -> ρ'[i]? = ρ[i]?) -> Q ρ' -> R σ' H) -> g v σ H R)
  (hc:∀ (G:Ent) (ρ:Ev) (σ:St) (H:Hp) (fa:Nat -> List Addr) (Q:Bool -> Prop) (R:Bool -> Hp -> Prop),G.cl = M5 cap -> E3 K G ρ σ H fa -> tc3 ρ Q -> (∀ b H',i7 H H' -> Q b -> R b H') -> tc σ H R)
  (hk:∀ (G:Ent) (ρ:Ev) (σ:St) (H:Hp) (fa:Nat -> List Addr) (Q:D -> Prop) (R:VK),G.cl = M5 cap -> E3 K G ρ σ H fa -> tk3 ρ Q -> (∀ v H' d B,i7 H H' -> Rep K H' v d B -> A3 G H fa B fk -> Q d -> R v H') -> tk σ H R)
  (he:∀ (G:Ent) (ρ:Ev) (σ:St) (H:Hp) (fa:Nat -> List Addr) (Q:D -> Prop) (R:VK),G.cl = M5 cap -> E3 K G ρ σ H fa -> te3 ρ Q -> (∀ v H' d B,i7 H H' -> Rep K H' v d B -> A3 G H fa B fv -> Q d -> R v H') -> te σ H R)
  (E:E3 K G ρ σ H1 fa) (it:eU K J xs C H1) (tr:∀ a ∈ C,H1 a ≠ none) (hn:xs.length < sizeLine) (q:oH g3 tc3 tk3 te3 (Z3 cap ρ) xs [] Q)
  (k:∀ d H' acc ds,i7 H1 H' -> H1 d = none -> H' d = some (.dK acc) -> C9 K H' acc ds [] -> Q ds -> R (.ref d) H'):GL J g tc tk te (N7 cap σ) R H1:=by
 intro d hd
 refine ⟨fun i m H=>m = xs.length - i /\ i <= xs.length /\ i7 H1 H /\ ∃ acc ds,H d = some (.dK acc) /\ acc.length <= i /\ C9 K H acc ds [] /\ oH g3 tc3 tk3 te3 (Z3 cap ρ) (xs.drop i) ds Q,
  ⟨xs.length,by simp,Nat.zero_le _,i7.n9 hd,[],[],i4,Nat.le_refl _,.nil,q⟩,?_⟩
 rintro i m H ⟨rfl,hle,s1,acc,ds,hacc,hal,rs,q⟩
 have tf:Tf H1 H:=⟨fun b ys h=>s1 _ _ h,fun b o u h=>s1 _ _ h⟩
 have kC:∀ a ∈ C,H a = H1 a:=fun a ha=>by
  obtain ⟨o,eo⟩:=Option.ne_none_iff_exists'.mp (tr a ha)
  rw [eo]; exact s1 a o eo
 by_cases hlt:i < xs.length
 ·right
  obtain ⟨go,yl⟩:=(it H tf kC i).2 _ (List.getElem?_eq_getElem hlt)
  rw [List.drop_eq_getElem_cons hlt] at q
  refine ⟨go,fun y H2 hy=>?_⟩
  obtain ⟨s2,By,rB,sB⟩:=yl y H2 hy
  have E2:=(E.same (s1.trans s2)).comp cap
  refine hg (fE cap) _ _ H2 _ y _ By _ _ rfl E2 rB (fun j hj=>(K0 hj).elim) q fun σ3 ρ3 fa3 E3' _ _ q3=>?_
  refine hc (fE cap) ρ3 σ3 H2 fa3 _ _ rfl E3' q3 fun b H3 s3 q4=>?_
  have hacc3:H3 d = some (.dK acc):=s3 _ _ (s2 _ _ hacc)
  cases b with
  | false=>
   rw [if_neg Bool.false_ne_true]
   exact ⟨xs.length - (i + 1),by omega,rfl,hlt,(s1.trans s2).trans s3,acc,ds,hacc3,by omega,(rs.same s2).same s3,q4.f rfl⟩
  | true=>
   rw [if_pos rfl]
   refine hk (fE cap) ρ3 σ3 H3 fa3 _ _ rfl (E3'.same s3) (q4.t rfl) fun vk H4 dk Bk s4 rk fok q5=>?_
   refine he (fE cap) ρ3 σ3 H4 fa3 _ _ rfl ((E3'.same s3).same s4) q5 fun v H5 dv Bv s5 rv fo q6=>?_
   obtain ⟨kk,ek,im,q6⟩:=q6
   have hacc5:H5 d = some (.dK acc):=s5 _ _ (s4 _ _ hacc3)
   have s15:i7 H1 H5:=(((s1.trans s2).trans s3).trans s4).trans s5
   have st:T9 H5 (upd H5 d (.dK (putK acc kk v))):=⟨fun b ys h=>by
     by_cases e:b = d
     ·subst e; rw [hacc5] at h; cases h
     ·rw [i6 e]; exact h,fun b u w' h=>by
     by_cases e:b = d
     ·subst e; rw [hacc5] at h; cases h
     ·rw [i6 e]; exact h,fun b h=>by
     by_cases e:b = d
     ·subst e; rw [i4] at h; cases h
     ·rw [i6 e] at h; exact h⟩
   have rs5:=(((rs.same s2).same s3).same s4).same s5
   have eB:=rv.M1 im
   subst eB
   obtain ⟨C',rp,sC⟩:=rs5.put kk rv
   have eC:C' = []:=List.sublist_nil.mp sC
   subst eC
   refine ⟨acc,kk,bP rk ek,hacc5,by omega,xs.length - (i + 1),by omega,rfl,hlt,fun b o e=>?_,putK acc kk v,putD ds kk dv,i4,by have:=Q7 acc kk v; omega,?_,q6⟩
   ·rw [i6 (u5 e hd)]
    exact s15 _ _ e
   ·exact rp.mono st fun a ha=>by cases ha
 ·have ei:i = xs.length:=by omega
  subst ei
  left
  rw [List.drop_length] at q
  refine ⟨(it H tf kC _).1 rfl,k d H acc ds s1 hd hacc rs q⟩
section
variable {X:Cx} {cl:List Cl} {pos:Pos} {f fk fv:Fl} {XN N:List Str} {XS scope:Scope} {cap:List (Option Nat)} {kx vx target iter:Expr} {ifs:List Expr} {ui:uF} {g3:dA} {tc3:cE} {tk3 te3:TU}
theorem zI {i:Nat} {y:Str} {spos py:Pos} (hXN:X.N.Nodup) (hiN:X.N[i]? = some y) (hy:X.env.scope.names.lookup y = some .local) (hci:zu cl[i]? .fresh i = true)
  (hcap:aS XN N XS scope cap = true) (hN:X.N = XN) (hS:X.env.scope = XS) (hk:scope.kind = .function) (hcalm:X.calm = true) (hi:eP X cl target iter f ui)
  (hg:∀ c fp s H,yL (O1 X N scope c fp s H) (M5 cap) target g3) (hc:∀ c fp s H,uH (O1 X N scope c fp s H) (M5 cap) ifs tc3) (hx:∀ c fp s H,PU (O1 X N scope c fp s H) (M5 cap) kx fk tk3) (he:∀ c fp s H,PU (O1 X N scope c fp s H) (M5 cap) vx fv te3)
  (hsw:swapsWith (.DictComp kx vx [⟨target,iter,ifs,0⟩] scope pos) (some (.Name y py)) spos.line X.env = pure true:=by rfl)
  (hs:∀ x,foldedSetIterable iter X.env x = pure x:=by intro _; rfl):K9 X cl (.Assign [.Name y py] (.DictComp kx vx [⟨target,iter,ifs,0⟩] scope pos) spos) (D4 i (Ih cap ui g3 tc3 tk3 te3)):=.of <| by
 obtain ⟨wi,pi,hi⟩:=hi.run
 refine ⟨_,xW <| rP (g:=fun c fp s H=>Classical.choose (hg c fp s H).run) (tc:=fun c fp s H=>Classical.choose (hc c fp s H).run) (tk:=fun c fp s H=>Classical.choose (hx c fp s H).run) (te:=fun c fp s H=>Classical.choose (he c fp s H).run) hXN hiN hy hcap hN hS hk hcalm pi
  (fun c fp s H=>(Classical.choose_spec (hg c fp s H).run).1) (fun c fp s H=>(Classical.choose_spec (hc c fp s H).run).1) (fun c fp s H=>(Classical.choose_spec (hx c fp s H).run).1) (fun c fp s H=>(Classical.choose_spec (he c fp s H).run).1) hsw hs,fun G T ρ σ H fa R hG E hu le=>?_⟩
 refine hi G ρ σ H fa _ _ hG E hu fun J H1 xs C s it tr fo q=>fun c fp s' H'=>?_
 refine Hm (K:=X.K) (Classical.choose_spec (hg c fp s' H').run).2 (Classical.choose_spec (hc c fp s' H').run).2 (Classical.choose_spec (hx c fp s' H').run).2 (Classical.choose_spec (he c fp s' H').run).2 (E.same s) it tr q.1 q.2 fun d H2 acc ds s2 hd hacc rs q2=>⟨d,acc,hacc,fun ep=>?_⟩
 obtain ⟨s3,r⟩:=AB (ep:=ep) s2 hd hacc rs
 exact le.nx _ _ ⟨_,_,(E.same (s.trans s3)).set (Nat.le_of_ble_eq_true q2.1) r (gY.of (f:=.fresh) E ⟨by simp,fun a ha=>by cases List.mem_singleton.mp ha; exact s.free hd⟩ (by rw [hG]; exact hci)),q2.2⟩
end
end L3
namespace L3
open PySem PySem.Spec L2
mutual
noncomputable def pyd:D -> PyData
 | .bl b=>.bool b
 | .int i=>.int i
 | .str x=>.str x
 | .tup xs=>.tuple (bw xs)
 | .lst xs=>.list (bw xs)
 | .fz xs=>.list (bw xs)
 | _=>.none
noncomputable def bw:List D -> List PyData
 | []=>[]
 | x :: xs=>pyd x :: bw xs
end
mutual
noncomputable def oy:D -> Bool
 | .non=>true
 | .bl _=>true
 | .int _=>true
 | .str _=>true
 | .tup xs=>lp xs
 | .lst xs=>lp xs
 | .fz xs=>lp xs
 | _=>false
noncomputable def lp:List D -> Bool
 | []=>true
 | x :: xs=>oy x && lp xs
end
section
variable {X:Cx} {pins:List (Addr × Obj)} {σ:St} {H:Hp} {s:Shared}
mutual
theorem Q2 (I:Inv X pins σ H s):∀ {v:V} {d:D} {A:List Addr} {u:Value},Rep X.K H v d A -> oy d = true -> RelV v u -> ∃ as,Reads s.heap u (pyd d) as
 | _,_,_,_,.non,_,r=>by cases r; exact ⟨_,.none⟩
 | _,_,_,_,.bl,_,r=>by cases r; exact ⟨_,.bool _⟩
 | _,_,_,_,.int,_,r=>by obtain ⟨t,rfl⟩:=r; exact ⟨_,.int _ t⟩
 | _,_,_,_,.str,_,r=>by obtain ⟨t,rfl⟩:=r; exact ⟨_,.str _ t⟩
 | _,_,_,_,.tup h rs,p,r=>by
  cases r
  obtain ⟨its,rv,⟨o,ho,hc,n,hd⟩,_⟩:=I.tuple (O8.of h)
  obtain ⟨as,q⟩:=aL I rs (by simpa [oy] using p) rv
  exact ⟨_,.tuple ho hc hd (by simpa using q)⟩
 | _,_,_,_,.lst h rs,p,r=>by
  cases r
  obtain ⟨its,rv,pl,_⟩:=I.list (S3.of h)
  obtain ⟨o,ho,hc,n,hd⟩:=pl.isList
  obtain ⟨as,q⟩:=aL I rs (by simpa [oy] using p) rv
  exact ⟨_,.list ho hc hd (by simpa using q)⟩
 | _,_,_,_,.frz h rs,p,r=>by
  cases r
  obtain ⟨its,rv,pl,_⟩:=I.list h.sq
  obtain ⟨o,ho,hc,n,hd⟩:=pl.isList
  obtain ⟨as,q⟩:=aL I rs (by simpa [oy] using p) rv
  exact ⟨_,.list ho hc hd (by simpa using q)⟩
 | _,_,_,_,.dic _ _,p,_=>by simp [oy] at p
 | _,_,_,_,.obj _ _,p,_=>by simp [oy] at p
 | _,_,_,_,.st _ _,p,_=>by simp [oy] at p
 | _,_,_,_,.xc _,p,_=>by simp [oy] at p
 | _,_,_,_,.ty,p,_=>by simp [oy] at p
 | _,_,_,_,.adr,p,_=>by simp [oy] at p
theorem aL (I:Inv X pins σ H s):∀ {v:List V} {d:List D} {A:List Addr} {u:List Value},n8 X.K H v d A -> lp d = true -> Vals v u -> ∃ as,ReadsAll s.heap u (bw d) as
 | _,_,_,_,.nil,_,r=>by cases r; exact ⟨_,.nil⟩
 | _,_,_,_,.cons h rs,p,r=>by
  cases r with
  | cons a b=>
   simp only [lp,Bool.and_eq_true] at p
   obtain ⟨as,q⟩:=Q2 I h p.1 a
   obtain ⟨bs,q2⟩:=aL I rs p.2 b
   exact ⟨_,.cons q q2⟩
end
end
mutual
noncomputable def gB:D -> Bool
 | .non=>true
 | .bl _=>true
 | .int i=>decide (i.natAbs < 10 ^ 150)
 | .str x=>x.cps.toList.all fun c=>decide (c < 16 ^ 8)
 | .tup xs=>oh xs
 | .lst xs=>oh xs
 | .fz xs=>oh xs
 | _=>false
noncomputable def oh:List D -> Bool
 | []=>true
 | x :: xs=>gB x && oh xs
end
mutual
theorem zm:∀ d:D,gB d = true -> oy d = true
 | .non,_=>rfl
 | .bl _,_=>rfl
 | .int _,_=>rfl
 | .str _,_=>rfl
 | .tup xs,h=>by rw [oy]; exact bK xs (by simpa [gB] using h)
 | .lst xs,h=>by rw [oy]; exact bK xs (by simpa [gB] using h)
 | .fz xs,h=>by rw [oy]; exact bK xs (by simpa [gB] using h)
 | .dic _,h=>by simp [gB] at h
 | .obj _ _,h=>by simp [gB] at h
 | .st _,h=>by simp [gB] at h
 | .xc _ _ _,h=>by simp [gB] at h
 | .ty _,h=>by simp [gB] at h
 | .adr _,h=>by simp [gB] at h
theorem bK:∀ d:List D,oh d = true -> lp d = true
 | [],_=>rfl
 | x :: xs,h=>by
  simp only [oh,Bool.and_eq_true] at h
  simp only [lp,Bool.and_eq_true]
  exact ⟨zm x h.1,bK xs h.2⟩
end
theorem Cc {i:Int} (h:i.natAbs < 10 ^ 150):i.natAbs.log2 < 1920:=by
 by_cases e:i.natAbs = 0
 ·rw [e]; decide
 ·exact (Nat.log2_lt e).mpr (Nat.lt_of_lt_of_le h (by decide +kernel))
mutual
theorem xY:∀ d:D,gB d = true -> (pyd d).showable = true /\ (pyd d).leavesShort 151 = true /\ (pyd d).hasDict = false
 | .non,_=>⟨by simp [pyd,PyData.showable],by simp [pyd,PyData.leavesShort],by simp [pyd,PyData.hasDict]⟩
 | .bl _,_=>⟨by simp [pyd,PyData.showable],by simp [pyd,PyData.leavesShort],by simp [pyd,PyData.hasDict]⟩
 | .int i,h=>by
  have h:i.natAbs < 10 ^ 150:=by simpa [gB] using h
  refine ⟨?_,?_,by simp [pyd,PyData.hasDict]⟩
  ·simp only [pyd,PyData.showable]; exact decide_eq_true (Cc h)
  ·simp only [pyd,PyData.leavesShort,PyData.shown]
   refine decide_eq_true ?_
   rw [ofString_length]
   exact int_text_length_le10 (by decide) h
 | .str x,h=>⟨by simp [pyd,PyData.showable],by simpa [pyd,PyData.leavesShort,gB] using h,by simp [pyd,PyData.hasDict]⟩
 | .tup xs,h=>by
  have:=aG xs (by simpa [gB] using h)
  exact ⟨by simpa [pyd,PyData.showable] using this.1,by simpa [pyd,PyData.leavesShort] using this.2.1,by simpa [pyd,PyData.hasDict] using this.2.2⟩
 | .lst xs,h=>by
  have:=aG xs (by simpa [gB] using h)
  exact ⟨by simpa [pyd,PyData.showable] using this.1,by simpa [pyd,PyData.leavesShort] using this.2.1,by simpa [pyd,PyData.hasDict] using this.2.2⟩
 | .fz xs,h=>by
  have:=aG xs (by simpa [gB] using h)
  exact ⟨by simpa [pyd,PyData.showable] using this.1,by simpa [pyd,PyData.leavesShort] using this.2.1,by simpa [pyd,PyData.hasDict] using this.2.2⟩
 | .dic _,h=>by simp [gB] at h
 | .obj _ _,h=>by simp [gB] at h
 | .st _,h=>by simp [gB] at h
 | .xc _ _ _,h=>by simp [gB] at h
 | .ty _,h=>by simp [gB] at h
 | .adr _,h=>by simp [gB] at h
theorem aG:∀ d:List D,oh d = true -> PyData.showableAll (bw d) = true /\ PyData.leavesShortAll 151 (bw d) = true /\ PyData.hasDictAll (bw d) = false
 | [],_=>⟨by simp [bw,PyData.showableAll],by simp [bw,PyData.leavesShortAll],by simp [bw,PyData.hasDictAll]⟩
 | x :: xs,h=>by
  simp only [oh,Bool.and_eq_true] at h
  have a:=xY x h.1
  have b:=aG xs h.2
  exact ⟨by simp [bw,PyData.showableAll,a.1,b.1],by simp [bw,PyData.leavesShortAll,a.2.1,b.2.1],by simp [bw,PyData.hasDictAll,a.2.2,b.2.2]⟩
end
section
variable {X:Cx} {cl:List Cl} {e a b:Expr} {es:List Expr} {f:Fl} {pos:Pos} {ua ub:TU} {ma mb:TM} {fa fb:Fl}
def xx (d:D):Prop:=oy d = true /\ (pyd d).canLay0 = true /\ (pyd d).depth <= 64
def uK (X:Cx) (neg:Bool):R2:=fun x y H Q=>∃ d e A B,Rep X.K H x d A /\ Rep X.K H y e B /\ xx d /\ xx e /\ Q (.bl (ng neg (PyData.eqv (pyd d) (pyd e)))) H
theorem jW {k:Nat} (hr:E6 k X.A):J4 X (compareOp .Eq) (uK X false):=by
 intro pins s σ H x y v u Q I rx ry h
 obtain ⟨d,e,A,B,r1,r2,o1,o2,q⟩:=h
 obtain ⟨as,rd⟩:=Q2 I r1 o1.1 rx
 obtain ⟨bs,re⟩:=Q2 I r2 o2.1 ry
 have hu:=hr.units
 exact PySem.SeqAt.compareEq_shaped rd re (by unfold PySem.SeqAt.shaped; rw [o1.2.1,decide_eq_true o1.2.2]; rfl) (by unfold PySem.SeqAt.shaped; rw [o2.2.1,decide_eq_true o2.2.2]; rfl) hu ⟨.bl _,H,I,rfl,q⟩
theorem Dy {k:Nat} (hr:E6 k X.A):J4 X (compareOp .NotEq) (uK X true):=by
 intro pins s σ H x y v u Q I rx ry h
 obtain ⟨d,e,A,B,r1,r2,o1,o2,q⟩:=h
 obtain ⟨as,rd⟩:=Q2 I r1 o1.1 rx
 obtain ⟨bs,re⟩:=Q2 I r2 o2.1 ry
 have hu:=hr.units
 exact PySem.SeqAt.compareNe_shaped rd re (by unfold PySem.SeqAt.shaped; rw [o1.2.1,decide_eq_true o1.2.2]; rfl) (by unfold PySem.SeqAt.shaped; rw [o2.2.1,decide_eq_true o2.2.2]; rfl) hu ⟨.bl _,H,I,rfl,q⟩
noncomputable def FR (neg:Bool):D -> D -> (D -> Prop) -> Prop:=fun d e Q=>xx d /\ xx e /\ Q (.bl (ng neg (PyData.eqv (pyd d) (pyd e))))
theorem EX {neg:Bool}:X5 X (uK X neg) (FR neg):=by
 intro H v w d e A B Q R r1 r2 q k
 exact ⟨d,e,A,B,r1,r2,q.1,q.2.1,k _ H _ _ (i7.refl H) .bl List.nodup_nil (fun _ h=>(by cases h)) q.2.2⟩
end
end L3
namespace L2
open PySem PySem.Spec PySem.Builtin PySem.Builtin.Str PyProof.Rows
section
variable {X:Cx}
variable {e:Expr} {es:List Expr} {te:TE} {pos:Pos}
end
end L2
namespace L3
open PySem PySem.Spec L2
section
variable {X:Cx} {cl:List Cl} {e a b:Expr} {es:List Expr} {f:Fl} {pos:Pos} {ua ub:TU} {ma mb:TM} {fa fb:Fl}
end
end L3
namespace L2
open PySem PySem.Spec PyProof.Rows
section
variable {X:Cx}
def FE:R2:=fun x y H Q=>∃ a v,x = .ref a /\ Y3 H a y (some v) /\ Q v H
theorem qm (hu:X.A.units + 1 < cLine):yI X FE:=by
 intro value slice pins s σ H x y v u Q I rx ry h hs
 obtain ⟨a,z,rfl,g,q⟩:=h
 cases rx
 exact tail_any (mq I g) PySem.F.slot_dict_getitem.lookup (tK hu I g ry fun w' s3 I3 rw'=>⟨z,H,I3,rw',q⟩) hs
def zh (neg:Bool):R2:=fun y x H Q=>∃ a o,x = .ref a /\ Y3 H a y o /\ Q (.bl (match neg with | true=>!o.isSome | false=>o.isSome)) H
theorem vE (hu:X.A.units + 1 < cLine):J4 X (compareOp .In) (zh false):=by
 intro pins s σ H x y v u Q I rx ry h
 obtain ⟨a,o,rfl,g,q⟩:=h
 cases ry
 exact HG hu I g rx fun s3 I3=>⟨.bl o.isSome,H,I3,rfl,q⟩
theorem iA (hu:X.A.units + 1 < cLine):J4 X (compareOp .NotIn) (zh true):=by
 intro pins s σ H x y v u Q I rx ry h
 obtain ⟨a,o,rfl,g,q⟩:=h
 cases ry
 exact zH hu I g rx fun s3 I3=>⟨.bl (!o.isSome),H,I3,rfl,q⟩
end
end L2
namespace L3
open PySem PySem.Spec L2
section
variable {X:Cx} {cl:List Cl} {e a b tg:Expr} {es:List Expr} {f:Fl} {pos:Pos} {ua ub:TU} {ma mb:TM} {fa fb:Fl}
noncomputable def A8:D -> D -> (D -> Prop) -> Prop:=fun d e Q=>match d,e with
 | .int i,.int j=>Q (.int (i + j))
 | .str i,.str j=>i.length + j.length <= sizeLine /\ Q (.str (i ++ j))
 | .lst xs,.lst ys=>y8 xs = true /\ y8 ys = true /\ xs.length + ys.length <= sizeLine /\ Q (.lst (xs ++ ys))
 | .tup xs,.tup ys=>y8 xs = true /\ y8 ys = true /\ xs.length + ys.length <= sizeLine /\ Q (.tup (xs ++ ys))
 | _,_=>False
noncomputable abbrev Fb:R2:=fun x y H Q=>∃ i j,x = .str i /\ y = .str j /\ i.length + j.length <= sizeLine /\ Q (.str (i ++ j)) H
def Bp:R2:=fun x y H Q=>(uG fun i j=>.int (i + j)) x y H Q \/ Fb x y H Q \/ Dt x y H Q \/ vK x y H Q
theorem ra:J4 X (binaryOp .Add) Bp:=CY.or (pN.or (BC.or zp))
theorem yp:X5 X Bp A8:=by
 intro H v w d e A B Q R r1 r2 q k
 cases d <;> cases e <;> first | exact (show False from q).elim | skip
 ·exact .inl (oS H v w _ _ A B Q R r1 r2 q k)
 ·exact .inr (.inl (EE H v w _ _ A B Q R r1 r2 q k))
 ·exact .inr (.inr (.inr (DM H v w _ _ A B Q R r1 r2 q k)))
 ·exact .inr (.inr (.inl (FL H v w _ _ A B Q R r1 r2 q k)))
theorem B0 (ha:PU X cl a fa ua) (hb:PU X cl b fb ub):PU X cl (.BinOp a .Add b pos) .fresh (p6 A8 ua ub):=eY ra yp ha hb
theorem J8 (ha:PN X cl a ma) (hb:PN X cl b mb):PM X cl (.BinOp a .Add b pos) (aW A8 ma mb):=qM ra yp ha hb
noncomputable def O0:D -> D -> (D -> Prop) -> Prop:=fun d e Q=>match d,e with
 | .int i,.int j=>U6 i j /\ Q (.int (i * j))
 | .str z,.int n=>MulOk z n /\ Q (.str (Txt.mul z n))
 | .lst xs,.int n=>y8 xs = true /\ -(2 ^ 63) <= n /\ n < 2 ^ 63 /\ xs.length * n.toNat <= sizeLine /\ Q (.lst (List.replicate n.toNat xs).flatten)
 | _,_=>False
noncomputable abbrev Gj:R2:=fun x y H Q=>∃ z n,x = .str z /\ y = .int n /\ MulOk z n /\ Q (.str (Txt.mul z n)) H
def AJ:R2:=fun x y H Q=>(rI U6 fun i j=>.int (i * j)) x y H Q \/ Gj x y H Q \/ FQ x y H Q
theorem rE:J4 X (binaryOp .Mult) AJ:=DE.or (Al.or CK)
theorem cp {K:PySem.W.Frag} {H:Hp} {vs:List V} {xs:List D} (r:n8 K H vs xs []):∀ n:Nat,n8 K H (List.replicate n vs).flatten (List.replicate n xs).flatten []
 | 0=>.nil
 | n + 1=>by
  rw [List.replicate_succ,List.replicate_succ,List.flatten_cons,List.flatten_cons]
  exact r.append (cp r n)
theorem xk:X5 X AJ O0:=by
 intro H v w d e A B Q R r1 r2 q k
 cases d <;> cases e <;> first | exact (show False from q).elim | skip
 ·exact .inl (oo H v w _ _ A B Q R r1 r2 q k)
 ·exact .inr (.inl (BW H v w _ _ A B Q R r1 r2 q k))
 ·obtain ⟨im,h1,h2,h3,q⟩:=q
  obtain ⟨p,vs,B1,rfl,hp,rs,_⟩:=K1 r1
  cases B3 r2
  have eB:=rs.M1 im
  subst eB
  refine .inr (.inr ⟨p,_,vs,rfl,rfl,hp,h1,h2,by rw [rs.length]; exact h3,fun l hl=>k _ _ (.lst _) [l] (i7.n9 hl) (.lst i4 ((cp rs _).same (i7.n9 hl))) (by simp) (fun a ha=>?_) q⟩)
  have:a = l:=by simpa using ha
  rw [this]; exact hl
theorem O3 (ha:PU X cl a fa ua) (hb:PU X cl b fb ub):PU X cl (.BinOp a .Mult b pos) .fresh (p6 O0 ua ub):=eY rE xk ha hb
theorem eK (ha:PN X cl a ma) (hb:PN X cl b mb):PM X cl (.BinOp a .Mult b pos) (aW O0 ma mb):=qM rE xk ha hb
noncomputable def N6 (neg:Bool):D -> D -> (D -> Prop) -> Prop:=fun d e Q=>match Z2 d && Z2 e with
 | true=>Ea neg d e Q
 | false=>FR neg d e Q
theorem iS {neg:Bool} {r:R2} (o:X5 X r (Ea neg)):X5 X (fun x y H Q=>r x y H Q \/ uK X neg x y H Q) (N6 neg):=by
 intro H v w d e A B Q R r1 r2 q k
 unfold N6 at q
 split at q
 ·exact .inl (o H v w d e A B Q R r1 r2 q k)
 ·exact .inr (EX H v w d e A B Q R r1 r2 q k)
section
variable {kr:Nat} (hr:E6 kr X.A)
include hr
theorem Bx (ha:PU X cl a fa ua) (hb:PU X cl b fb ub) (hm:behindInMarks .Eq b = false):PU X cl (.Compare a [.Eq] [b] pos) .fresh (p6 (N6 false) ua ub):=Z8 (lz.or (jW hr)) (iS vd) ha hb hm
theorem jK (ha:PU X cl a fa ua) (hb:PU X cl b fb ub) (hm:behindInMarks .Eq b = false):L5 X cl (.Compare a [.Eq] [b] pos) (uT (p6 (N6 false) ua ub)):=V3 (lz.or (jW hr)) (iS vd) ha hb hm
theorem cA (ha:PU X cl a fa ua) (hb:PU X cl b fb ub) (hm:behindInMarks .NotEq b = false):L5 X cl (.Compare a [.NotEq] [b] pos) (uT (p6 (N6 true) ua ub)):=V3 (EO.or (Dy hr)) (iS GS) ha hb hm
theorem Bw (ha:PN X cl a ma) (hb:PN X cl b mb) (hm:behindInMarks .Eq b = false):PM X cl (.Compare a [.Eq] [b] pos) (aW (N6 false) ma mb):=Cu (lz.or (jW hr)) (iS vd) ha hb hm
theorem pX (ha:PN X cl a ma) (hb:PN X cl b mb) (hm:behindInMarks .Eq b = false):Fi X cl (.Compare a [.Eq] [b] pos) (mT (aW (N6 false) ma mb)):=CH (lz.or (jW hr)) (iS vd) ha hb hm
noncomputable def FV (neg:Bool):D -> D -> (D -> Prop) -> Prop:=fun d e Q=>match e with
 | .dic kvs=>∃ k,cG d = some k /\ Q (.bl (ng neg (C5 kvs k).isSome))
 | _=>HN neg d e Q
end
theorem Fg {neg:Bool}:X5 X (fun x y H Q=>FU X.K neg x y H Q \/ zh neg x y H Q) (FV neg):=by
 intro H v w d e A B Q R r1 r2 q k
 cases e with
 | dic kvs=>
  obtain ⟨j,hk,q⟩:∃ k,cG d = some k /\ Q (.bl (ng neg (C5 kvs k).isSome)):=q
  obtain ⟨p,vs,B',rfl,hp,rs,rfl⟩:=bU r2
  cases bP r1 hk
  have hv:=rs.val j
  refine .inr ?_
  cases ev:C5 kvs j with
  | none=>
   rw [ev] at q
   exact ⟨p,none,rfl,(by have:=Y3.k (k:=j) hp; rwa [hv.2 ev] at this),k _ H _ _ (i7.refl H) .bl List.nodup_nil (fun _ h=>(by cases h)) (by cases neg <;> exact q)⟩
  | some z=>
   rw [ev] at q
   obtain ⟨u,C,e1,r3,s3⟩:=hv.1 z ev
   exact ⟨p,some u,rfl,(by have:=Y3.k (k:=j) hp; rwa [e1] at this),k _ H _ _ (i7.refl H) .bl List.nodup_nil (fun _ h=>(by cases h)) (by cases neg <;> exact q)⟩
 | _=>exact .inl (GY H v w _ _ A B Q R r1 r2 q k)
noncomputable def DU:D -> D -> (D -> Prop) -> Prop:=fun d y Q=>match d with
 | .dic kvs=>∃ k v,cG y = some k /\ C5 kvs k = some v /\ Q v
 | _=>HS d y Q
theorem qW {v w:V} {H:Hp} {d e:D} {A B:List Addr} {Q:D -> Prop} {R:VK} (r1:Rep X.K H v d A) (r2:Rep X.K H w e B) (q:DU d e Q) (k:∀ x z C,Rep X.K H x z C -> C.Sublist A -> Q z -> R x H):GF X.K v w H R \/ FE v w H R:=by
 cases d with
 | dic kvs=>
  obtain ⟨a,u,z,C,e1,g,r3,s3,q3⟩:=zw r1 r2 (show Bh (.dic kvs) e Q from q)
  exact .inr ⟨a,u,e1,g,k u z C r3 s3 q3⟩
 | _=>exact .inl (Cd r1 r2 q k)
def x5 (ua ub:TU):TU:=fun ρ Q=>ua ρ fun x=>ub ρ fun y=>DU x y Q
theorem j5 (hu:X.A.units + 1 < cLine) (ha:PU X cl a fa ua) (hb:PU X cl b fb ub) (hs:jv b):PU X cl (.Subscript a b pos) fa (x5 ua ub):=.of <| by
 obtain ⟨ta,tb,pa,pb,h⟩:=u2 ha hb
 refine ⟨_,AN (vO.or (qm hu)) pa pb hs,fun G ρ σ H fo Q R hG E hq k=>?_⟩
 refine h G ρ σ H fo _ _ hG E hq fun v w H' d e A B s r1 r2 f1 f2 q=>?_
 exact qW r1 r2 q fun x z C r sb q2=>k x H' z C s r (f1.sub sb) q2
def jM (ma mb:TM):TM:=fun ρ Q=>ma ρ fun x ρ1=>mb ρ1 fun y ρ2=>DU x y fun d=>Q d ρ2
theorem Y6 (hu:X.A.units + 1 < cLine) (ha:PN X cl a ma) (hb:PN X cl b mb) (hs:jv b):PN X cl (.Subscript a b pos) (jM ma mb):=.of <| by
 obtain ⟨ta,tb,pa,pb,h⟩:=m2 ha hb
 refine ⟨_,AN (vO.or (qm hu)) pa pb hs,fun G ρ σ H fo Q R hG E hq k=>?_⟩
 refine h G ρ σ H fo _ _ hG E hq fun v w H' d e A B ρ' fa' E' c r1 r2 n1 _ q=>?_
 exact qW r1 r2 q fun x z C r s q2=>k x H' z C ρ' fa' E' c r (fun i hi a ha=>n1 i hi a (s.mem ha)) q2
end
end L3
namespace L3
open PySem PySem.Spec L2
section
variable {X:Cx} {cl:List Cl} {e a b tg:Expr} {es:List Expr} {f:Fl} {pos:Pos} {ua ub:TU} {ma mb:TM} {fa fb:Fl}
def Du (ua:TU) (lo hi:BM):TU:=fun ρ Q=>ua ρ fun d=>lo ρ fun l=>hi ρ fun h=>match d with
 | .tup xs=>y8 xs = true /\ Q (.tup (cutD xs l h))
 | .lst xs=>y8 xs = true /\ Q (.lst (cutD xs l h))
 | .fz xs=>y8 xs = true /\ Q (.lst (cutD xs l h))
 | _=>False
theorem wm {lo hi:Option Expr} {ul uh:BM} {p2:Pos} (ha:PU X cl a fa ua) (hl:Eb X cl lo ul) (hh:Eb X cl hi uh):PU X cl (.Subscript a (.Slice lo hi none p2) pos) .fresh (Du ua ul uh):=.of <| by
 obtain ⟨ta,pa,ha⟩:=ha.run
 obtain ⟨tl,pl,hl⟩:=hl.run
 obtain ⟨th,ph,hh⟩:=hh.run
 refine ⟨_,kR (qj.or wt) pa pl ph,fun G ρ σ H fo Q R hG E hu k=>ha G ρ σ H fo _ _ hG E hu fun v H1 d A s1 r1 f1 q1=>hl G ρ σ H1 fo _ _ hG (E.same s1) q1 fun o1 H2 s2 q2=>hh G ρ σ H2 fo _ _ hG (E.same (s1.trans s2)) q2 fun o2 H3 s3 q3=>?_⟩
 have s13:=(s1.trans s2).trans s3
 have lists:∀ {xs:List D},kindB false d = some xs -> y8 xs = true -> Q (.lst (cutD xs o1 o2)) -> FD X.K v o1 o2 H3 R:=fun {xs} e1 im q=>by
  obtain ⟨p,vs,B,rfl,hq,rs,_⟩:=rH ((r1.same s2).same s3) e1
  have eB:=rs.M1 im
  subst eB
  refine ⟨p,vs,rfl,hq,fun l hl=>?_⟩
  obtain ⟨B,sB,rc⟩:=rs.cut (HT.D1 xs.length 0 o1) (HT.D1 xs.length xs.length o2 - HT.D1 xs.length 0 o1)
  have eB:B = []:=List.sublist_nil.mp sB
  subst eB
  refine k _ _ _ [l] (s13.trans (i7.n9 hl)) (.lst i4 ?_) ⟨by simp,fun a ha=>?_⟩ q
  ·have rc2:n8 X.K H3 (dN vs o1 o2) (cutD xs o1 o2) []:=by
    unfold dN cutD
    rw [rs.length]
    exact rc
   exact rc2.same (i7.n9 hl)
  ·have:a = l:=by simpa using ha
   rw [this]; exact s13.free hl
 cases d <;> first | exact (show False from q3).elim | skip
 ·rename_i xs
  obtain ⟨im,q3⟩:=q3
  obtain ⟨p,vs,rfl,hq,rs⟩:=K4 ((r1.same s2).same s3)
  have eB:=rs.M1 im
  subst eB
  refine .inr ⟨p,vs,rfl,hq,fun r H4 s4 hr=>?_⟩
  obtain ⟨B,sB,rc⟩:=rs.cut (HT.D1 xs.length 0 o1) (HT.D1 xs.length xs.length o2 - HT.D1 xs.length 0 o1)
  have eB:B = []:=List.sublist_nil.mp sB
  subst eB
  refine k _ _ (.tup (cutD xs o1 o2)) [] (s13.trans s4) (.tup hr ?_) (A3.nil _) q3
  have rc':=rc.same s4
  unfold dN cutD
  rw [rs.length]
  exact rc'
 ·exact .inl (lists rfl q3.1 q3.2)
 ·exact .inl (lists rfl q3.1 q3.2)
end
end L3
namespace L3
open PySem PySem.Spec L2
theorem AZ {i j k l m:Nat} {ds:List D} {ρ:Ev} {Q:Ev -> Prop} (h:u6 (g1 i) (u6 (g1 j) (u6 (g1 k) (u6 (g1 l) (u6 (g1 m) X2)))) ds ρ Q):ds.length = 5:=by
 rcases ds with _ | ⟨a,_ | ⟨b,_ | ⟨c,_ | ⟨d,_ | ⟨e,_ | ⟨f,r⟩⟩⟩⟩⟩⟩ <;> first | rfl | (simp [u6,X2,g1] at h)
end L3
namespace L2
open PySem PySem.Spec PySem.Builtin PySem.Builtin.Str PyProof.Rows
section
variable {X:Cx}
def Et:R2:=fun x y H Q=>∃ i j,x = .str i /\ y = .str j /\ Q (.bl (!decide (j.cps.toList < i.cps.toList))) H
theorem sN:J4 X (compareOp .LtE) Et:=by
 intro pins s σ H x y v u Q I rx ry h
 obtain ⟨i,j,rfl,rfl,q⟩:=h
 obtain ⟨t,rfl⟩:=rx
 obtain ⟨t',rfl⟩:=ry
 exact PySem.P.le_str ⟨.bl _,H,I,rfl,q⟩
def Ap (neg:Bool):R2:=fun x y H Q=>∃ b,y = .bl b /\ Q (.bl (match neg with | true=>!decide (x = .bl b) | false=>decide (x = .bl b))) H
noncomputable def GK (x:Str):It:=⟨fun i _=>i < x.cps.size,fun i H v H'=>H' = H /\ ∃ c,x.cps[i]? = some c /\ v = .str ⟨#[c]⟩,fun i _=>i = x.cps.size⟩
theorem lU {P:Program} {w:World} {K:PySem.W.Frag} {tg:Expr} {x:Str} {ty:String} {t:Tok} (it:Addr)
  (W:∀ A:Around,A.handled = none -> Walks P w A it [it] [it] x.cps.size (SignAt x) (fun i h=>h.IsStrIter it ty x t i)) (hne:["enumerate", "zip", "dict_itemiterator", "dict_reverseitemiterator", "odict_iterator", "itertools.zip_longest", "itertools.pairwise"].contains ty = false)
  (hs:∀ (A:Around) (i:Nat) (s:Shared) (Q:Value -> Shared -> Prop) (E:Value -> Shared -> Prop),s.heap.IsStrIter it ty x t i -> Q (.ref it) s -> wpAny (model P w) A (pyIter (.ref it)) Q E s):Turn P w K tg (GK x) [it] it (fun i h=>h.IsStrIter it ty x t i) where
 mem:=by simp
 obj:=fun i h st b hb=>by
  have e:b = it:=by simpa using hb
  subst e
  obtain ⟨o,e,c,d⟩:=st
  exact ⟨o,e,fun v z=>by rw [d] at z; cases z⟩
 keep:=fun i h h' st k=>let ⟨o,ho,r⟩:=st; ⟨o,k it (by simp) o ho,r⟩
 item:=by
  intro X hP hw hK hc i pins s σ H E I hf st hg
  subst hP hw hK
  obtain ⟨f0,f1,f2,f3,f4,f5⟩:=hf it (by simp)
  refine (W X.A (I.ok.hd hc)).item i s _ _ hg st fun v h' tk hv st' kk=>?_
  obtain ⟨c,u,hx,rfl⟩:=hv
  have I1:Inv X pins σ H { s with heap:=h',toks:=tk }:=I.turned (fun b o hb e=>kk b o (by simpa using hb) e) f0 f1 f3 f4 f5
  obtain ⟨o,e,cc,d⟩:=id st'
  exact ⟨_,rfl,rg (s:={ s with heap:=h',toks:=tk }) e cc d hne ⟨.str ⟨#[c]⟩,H,I1,⟨u,rfl⟩,⟨rfl,c,hx,rfl⟩,st',fun b hb=>(hf b hb).1⟩⟩
 done:=by
  intro X hP hw hK hc i pins s σ H E I hf st hg
  subst hP hw hK
  obtain ⟨f0,f1,f2,f3,f4,f5⟩:=hf it (by simp)
  have hg:i = x.cps.size:=hg
  subst hg
  exact (W X.A (I.ok.hd hc)).done s _ _ st fun h' tk kk=>⟨rfl,I.turned (fun b o hb e=>kk b o (by simpa using hb) e) f0 f1 f3 f4 f5⟩
 self:=hs
def Hg (K:PySem.W.Frag) (tl:TE):TI:=fun σ H R=>tl σ H fun x H1=>(∃ z,x = .str z /\ R (GK z) H1) \/ ∃ a,x = .ref a /\ ((∃ xs,S3 K H1 a xs /\ R (Gs K a) H1) \/ ∃ xs,O8 K H1 a xs /\ R (Hn K a) H1)
theorem DW {tg l:Expr} {tl:TE} (hl:PE X l tl):PI X tg l (Hg X.K tl):=.of fun pins s σ H R I q=>by
 refine B6 (hl pins s σ H _ I q) fun v s1 ⟨x,H1,I1,r1,q1⟩=>?_
 rcases q1 with ⟨z,rfl,q⟩ | ⟨a,rfl,q1⟩
 ·obtain ⟨t,rfl⟩:=r1
  have fp:∀ b ∈ [s1.heap.objs.size],S1 X pins H1 b:=fun b hb=>by
   have e:b = s1.heap.objs.size:=by simpa using hb
   subst e
   exact I1.js (Nat.le_refl _) (I1.hok.fresh (Nat.le_refl _))
  cases ha:z.cps.all (· < 128)
  ·exact wpAny_pyIter_wide ha ⟨s1.heap.objs.size,[s1.heap.objs.size],_,_,H1,rfl,I1.kept (t':=s1.toks) fun b o e=>Heap.get?_push_of_some _ e,lU (t:=t) _ (fun A hA=>Walks.strWide hA _ z t) (by decide) (fun A i s Q E st h=>wpAny_pyIter_striter_wide st h),⟨_,Heap.get?_push_size _ rfl,rfl,rfl⟩,fp,q⟩
  ·exact wpAny_pyIter_ascii ha ⟨s1.heap.objs.size,[s1.heap.objs.size],_,_,H1,rfl,I1.kept (t':=s1.toks) fun b o e=>Heap.get?_push_of_some _ e,lU (t:=t) _ (fun A hA=>Walks.strAscii hA _ z t) (by decide) (fun A i s Q E st h=>wpAny_pyIter_striter_ascii st h),⟨_,Heap.get?_push_size _ rfl,rfl,rfl⟩,fp,q⟩
 ·cases r1
  rcases q1 with ⟨xs,hq,q⟩ | ⟨xs,hq,q⟩
  ·obtain ⟨its,rv,p,hz⟩:=I1.list hq
   refine wpAny_pyIter_list p.isList ?_
   refine ⟨s1.heap.objs.size,[s1.heap.objs.size],_,_,H1,rfl,I1.kept (t':=s1.toks) fun b o e=>Heap.get?_push_of_some _ e,tV a _,⟨_,Heap.get?_push_size _ rfl,rfl,rfl⟩,fun b hb=>?_,q⟩
   have e:b = s1.heap.objs.size:=by simpa using hb
   subst e
   exact I1.js (Nat.le_refl _) (I1.hok.fresh (Nat.le_refl _))
  ·obtain ⟨its,rv,p,hz⟩:=I1.tuple hq
   refine wpAny_pyIter_tuple (show s1.heap.IsTuple a its.toArray from p) ?_
   refine ⟨s1.heap.objs.size,[s1.heap.objs.size],_,_,H1,rfl,I1.kept (t':=s1.toks) fun b o e=>Heap.get?_push_of_some _ e,oX a _,⟨_,Heap.get?_push_size _ rfl,rfl,rfl⟩,fun b hb=>?_,q⟩
   have e:b = s1.heap.objs.size:=by simpa using hb
   subst e
   exact I1.js (Nat.le_refl _) (I1.hok.fresh (Nat.le_refl _))
noncomputable def AS:List V -> Hp -> VK -> Prop:=fun xs H Q=>((∃ i,xs = [.int i] /\ Q (.int i) H) \/ ∃ k,xs = [.bl k] /\ Q (.int (if k then 1 else 0)) H) \/ ∃ x n,xs = [.str x] /\ PySem.intText? x = some n /\ x.length <= 640 /\ Q (.int n) H
theorem tX:Z6 X (.type "int") AS:=by
 intro pins s σ H xs us Q I r h
 rcases h with h | ⟨x,n,rfl,hn,hl,q⟩
 ·exact tq pins s σ H xs us Q I r h
 ·obtain ⟨u,rfl,t,rfl⟩:=vals1 r
  exact PySem.W.KIN.call_text hn hl ⟨.int n,H,I.tok _,⟨_,rfl⟩,q⟩
end
end L2
namespace L2
open PySem PySem.Spec PyProof.Rows
section
variable {X:Cx}
theorem oq {x:V} {v:Value} (r:RelV x v) (b:Bool):(v == .bool b) = decide (x = .bl b):=by
 cases x <;> first
  | (cases r; first | rfl | (rename_i c; cases b <;> cases c <;> rfl))
  | (obtain ⟨t,rfl⟩:=r; rfl)
theorem vz:J4 X (compareOp .Is) (Ap false):=by
 intro pins s σ H x y v u Q I rx ry h
 obtain ⟨b,rfl,q⟩:=h
 cases ry
 have f:EP X pins σ Q (.bool (v == .bool b)) s:=⟨.bl _,H,I,by rw [oq rx]; rfl,q⟩
 cases x <;> first
  | (cases rx; exact wpAny_pure f)
  | (obtain ⟨t,rfl⟩:=rx; exact wpAny_pure f)
theorem wF:J4 X (compareOp .IsNot) (Ap true):=by
 intro pins s σ H x y v u Q I rx ry h
 obtain ⟨b,rfl,q⟩:=h
 cases ry
 have f:EP X pins σ Q (.bool (!(v == .bool b))) s:=⟨.bl _,H,I,by rw [oq rx]; rfl,q⟩
 cases x <;> first
  | (cases rx; exact wpAny_pure f)
  | (obtain ⟨t,rfl⟩:=rx; exact wpAny_pure f)
end
end L2
namespace L3
open PySem PySem.Spec L2
section
variable {X:Cx} {cl:List Cl} {e a b tg:Expr} {es:List Expr} {f:Fl} {pos:Pos} {ua ub uc:TU} {ma mb:TM} {fa fb fc:Fl}
noncomputable def cL:D -> D -> (D -> Prop) -> Prop:=fun d e Q=>match d,e with
 | .int i,.int j=>Q (.bl (decide (i <= j)))
 | .str x,.str y=>Q (.bl (!decide (y.cps.toList < x.cps.toList)))
 | _,_=>False
noncomputable abbrev Eu:R2:=fun x y H Q=>(uG fun i j=>.bl (decide (i <= j))) x y H Q \/ Et x y H Q
theorem R6:J4 X (compareOp .LtE) Eu:=Fs.or sN
theorem aQ:X5 X Eu cL:=by
 intro H v w d e A B Q R r1 r2 q k
 cases d <;> cases e <;> first | exact (show False from q).elim | skip
 ·exact .inl (gb H v w _ _ A B Q R r1 r2 q k)
 ·cases D0 r1; cases D0 r2
  exact .inr ⟨_,_,rfl,rfl,k _ H _ _ (i7.refl H) .bl List.nodup_nil (fun _ h=>(by cases h)) q⟩
theorem wu (ha:PU X cl a fa ua) (hb:PU X cl b fb ub) (hm:behindInMarks .LtE b = false):PU X cl (.Compare a [.LtE] [b] pos) .fresh (p6 cL ua ub):=Z8 R6 aQ ha hb hm
noncomputable def aM (d:D) (b:Bool):Bool:=match d with
 | .bl c=>c == b
 | _=>false
noncomputable def dR (neg:Bool):D -> D -> (D -> Prop) -> Prop:=fun d e Q=>match e with
 | .non=>Q (.bl (ng neg (bW d)))
 | .bl b=>Q (.bl (ng neg (aM d b)))
 | _=>False
theorem qN {K:PySem.W.Frag} {H:Hp} {v:V} {d:D} {A:List Addr} (h:Rep K H v d A) (b:Bool):decide (v = .bl b) = aM d b:=by
 cases h <;> first | (simp [aM]; done) | skip
 rename_i c
 cases b <;> cases c <;> rfl
noncomputable abbrev Hl:R2:=fun x y H Q=>y = .non /\ Q (.bl (decide (x = .non))) H
noncomputable abbrev Cw:R2:=fun x y H Q=>y = .non /\ Q (.bl (!decide (x = .non))) H
theorem AM:X5 X (fun x y H Q=>Hl x y H Q \/ Ap false x y H Q) (dR false):=by
 intro H v w d e A B Q R r1 r2 q k
 cases e <;> first | exact (show False from q).elim | skip
 ·exact .inl (Hb H v w d .non A B Q R r1 r2 q k)
 ·cases N8 r2
  refine .inr ⟨_,rfl,?_⟩
  show R (.bl (decide (v = .bl _))) H
  rw [qN r1]
  exact k _ H _ _ (i7.refl H) .bl List.nodup_nil (fun _ h=>(by cases h)) q
theorem zj:X5 X (fun x y H Q=>Cw x y H Q \/ Ap true x y H Q) (dR true):=by
 intro H v w d e A B Q R r1 r2 q k
 cases e <;> first | exact (show False from q).elim | skip
 ·exact .inl (CQ H v w d .non A B Q R r1 r2 q k)
 ·cases N8 r2
  refine .inr ⟨_,rfl,?_⟩
  show R (.bl (!decide (v = .bl _))) H
  rw [qN r1]
  exact k _ H _ _ (i7.refl H) .bl List.nodup_nil (fun _ h=>(by cases h)) q
theorem pK (ha:PU X cl a fa ua) (hb:PU X cl b fb ub) (hm:behindInMarks .Is b = false):PU X cl (.Compare a [.Is] [b] pos) .fresh (p6 (dR false) ua ub):=Z8 (yv.or vz) AM ha hb hm
theorem xt (ha:PU X cl a fa ua) (hb:PU X cl b fb ub) (hm:behindInMarks .Is b = false):L5 X cl (.Compare a [.Is] [b] pos) (uT (p6 (dR false) ua ub)):=V3 (yv.or vz) AM ha hb hm
theorem nA (ha:PU X cl a fa ua) (hb:PU X cl b fb ub) (hm:behindInMarks .IsNot b = false):L5 X cl (.Compare a [.IsNot] [b] pos) (uT (p6 (dR true) ua ub)):=V3 (Ay.or wF) zj ha hb hm
noncomputable def HY (x y:Str):Bool:=!(Builtin.Str.occurrences x y 0 x.length 1).isEmpty
noncomputable def gf (neg:Bool):D -> D -> (D -> Prop) -> Prop:=fun d e Q=>match e with
 | .str z=>(match d with | .str y=>Q (.bl (ng neg (HY z y))) | _=>False)
 | _=>FV neg d e Q
noncomputable abbrev DQ (neg:Bool):R2:=fun x y H Q=>∃ i j,x = .str i /\ y = .str j /\ Q (.bl (ng neg (HY j i))) H
theorem yq:J4 X (compareOp .In) (DQ false):=rY
theorem iH:J4 X (compareOp .NotIn) (DQ true):=kF
theorem qA {neg:Bool}:X5 X (fun x y H Q=>(FU X.K neg x y H Q \/ zh neg x y H Q) \/ DQ neg x y H Q) (gf neg):=by
 intro H v w d e A B Q R r1 r2 q k
 cases e with
 | str z=>
  cases d <;> first | exact (show False from q).elim | skip
  cases D0 r1; cases D0 r2
  exact .inr ⟨_,_,rfl,rfl,k _ H _ _ (i7.refl H) .bl List.nodup_nil (fun _ h=>(by cases h)) q⟩
 | _=>exact .inl (Fg H v w _ _ A B Q R r1 r2 q k)
theorem BY (hu:X.A.units + 1 < cLine) (ha:PU X cl a fa ua) (hb:PU X cl b fb ub) (hm:behindInMarks .In b = false):PU X cl (.Compare a [.In] [b] pos) .fresh (p6 (gf false) ua ub):=Z8 ((iM.or (vE hu)).or yq) qA ha hb hm
theorem ib (hu:X.A.units + 1 < cLine) (ha:PU X cl a fa ua) (hb:PU X cl b fb ub) (hm:behindInMarks .NotIn b = false):PU X cl (.Compare a [.NotIn] [b] pos) .fresh (p6 (gf true) ua ub):=Z8 ((bC.or (iA hu)).or iH) qA ha hb hm
theorem BN (hu:X.A.units + 1 < cLine) (ha:PU X cl a fa ua) (hb:PU X cl b fb ub) (hm:behindInMarks .In b = false):L5 X cl (.Compare a [.In] [b] pos) (uT (p6 (gf false) ua ub)):=V3 ((iM.or (vE hu)).or yq) qA ha hb hm
theorem jc (hu:X.A.units + 1 < cLine) (ha:PU X cl a fa ua) (hb:PU X cl b fb ub) (hm:behindInMarks .NotIn b = false):L5 X cl (.Compare a [.NotIn] [b] pos) (uT (p6 (gf true) ua ub)):=V3 ((bC.or (iA hu)).or iH) qA ha hb hm
noncomputable def sU (z:Str):List D:=z.cps.toList.map fun c=>.str ⟨#[c]⟩
def V4 (u:TU):uF:=fun ρ Q=>u ρ fun d=>match d with
 | .lst xs=>Q xs
 | .fz xs=>Q xs
 | .tup xs=>Q xs
 | .str z=>Q (sU z)
 | _=>False
theorem Ii {K:PySem.W.Frag} {H:Hp} (z:Str):eU K (GK z) (sU z) [] H:=fun H' tf k i=>by
 refine ⟨fun hl=>?_,fun d e=>?_⟩
 ·show i = z.cps.size
  rw [<- hl]; simp [sU]
 ·unfold sU at e
  rw [List.getElem?_map] at e
  cases ec:z.cps.toList[i]? with
  | none=>rw [ec] at e; cases e
  | some c=>
   rw [ec] at e
   cases e
   have hi:i < z.cps.size:=by
    have:=(List.getElem?_eq_some_iff.mp ec).1
    simpa using this
   have ec':z.cps[i]? = some c:=by simpa using ec
   refine ⟨hi,fun x H2 hy=>?_⟩
   obtain ⟨rfl,c',e',rfl⟩:=hy
   rw [ec'] at e'
   cases e'
   exact ⟨i7.refl _,[],.str,List.nil_sublist _⟩
theorem Q4 (h:PU X cl e f ua):eP X cl tg e f (V4 ua):=.of <| by
 obtain ⟨t,p,h⟩:=h.run
 refine ⟨_,DW p,fun G ρ σ H fa Q R hG E hq k=>h G ρ σ H fa _ _ hG E hq fun v H' d B s r fo q=>?_⟩
 cases d <;> first | exact (show False from q).elim | skip
 ·cases D0 r
  exact .inl ⟨_,rfl,k _ H' _ [] s (Ii _) (fun a ha=>by cases ha) (A3.nil _) q⟩
 ·obtain ⟨p,vs,rfl,hp,rs⟩:=K4 r
  exact .inr ⟨p,rfl,.inr ⟨vs,O8.of hp,k _ H' _ _ s (Gq hp rs) rs.there fo q⟩⟩
 ·have r0:=r
  obtain ⟨p,vs,C,rfl,hp,rs,rfl⟩:=K1 r
  exact .inr ⟨p,rfl,.inl ⟨vs,S3.of hp,k _ H' _ _ s (Il hp rs) (fun a ha=>r0.there ha) fo q⟩⟩
 ·obtain ⟨p,vs,rfl,hp,rs⟩:=fT r
  exact .inr ⟨p,rfl,.inl ⟨vs,hp.sq,k _ H' _ _ s (Iq hp rs) rs.there fo q⟩⟩
noncomputable def yb:List D -> (D -> Prop) -> Prop
 | [.int i],Q=>Q (.int i)
 | [.bl k],Q=>Q (.int (if k then 1 else 0))
 | [.str x],Q=>x.length <= 640 /\ ∃ n,PySem.intText? x = some n /\ Q (.int n)
 | _,_=>False
theorem Ce:Call3 X AS yb:=by
 intro H vs ds A Q R r q k
 unfold yb at q
 split at q
 ·exact .inl (Bg H vs _ A Q R r q k)
 ·exact .inl (Bg H vs _ A Q R r q k)
 ·obtain ⟨hl,n,hn,q⟩:=q
  obtain ⟨v,rfl,rr⟩:=r.one
  cases D0 rr
  exact .inr ⟨_,n,rfl,hn,hl,k _ H _ _ (i7.refl H) .int List.nodup_nil (fun _ h=>(by cases h)) q⟩
 ·exact q.elim
end
end L3
namespace L2
open PySem PySem.Spec PyProof.Rows
end L2
namespace L3
open PySem PySem.Spec L2
section
variable {X:Cx} {cl:List Cl} {e a b tg:Expr} {es:List Expr} {f:Fl} {pos:Pos} {ua ub uc:TU} {ma mb:TM} {fa fb fc:Fl}
end
end L3
namespace My
open PySem L2 L3
theorem fq {α:Type} (x:α) (xs:List α):P1 (x :: xs) 0 = some x:=by
 have:(0:Int) < ((xs.length + 1:Nat):Int):=by omega
 unfold P1 kc
 rw [if_pos (Int.le_refl 0),List.length_cons,if_pos this]
 rfl
theorem U4 {α:Type} {g:dA} {tc:cE} {te:TU} {ρ0:Ev} {F f:α -> D} {Q:List D -> Prop}:∀ (as:List α) (acc:List D),(∀ a ∈ as,∀ (K:D -> Prop) (R:Prop),K (f a) -> g (F a) ρ0 fun ρ1=>tc ρ1 fun b=>Br b (te ρ1 K) R) -> Q (acc ++ as.map f) -> kd g tc te ρ0 (as.map F) acc Q
 | [],acc,_,q=>by
  rw [List.map_nil,List.append_nil] at q
  exact q
 | a :: as,acc,h,q=>by
  rw [List.map_cons]
  refine h a List.mem_cons_self _ _ (U4 as (acc ++ [f a]) (fun b hb=>h b (List.mem_cons_of_mem _ hb)) ?_)
  rw [List.append_assoc]
  exact q
theorem cx {α:Type} {g:dA} {tc:cE} {te:TU} {ρ0:Ev} {F f:α -> D} {Q:List D -> Prop} (p:α -> Bool):∀ (as:List α) (acc:List D),(∀ a ∈ as,∀ (K:D -> Prop) (R:Prop),(p a = true -> K (f a)) -> (p a = false -> R) -> g (F a) ρ0 fun ρ1=>tc ρ1 fun b=>Br b (te ρ1 K) R) -> Q (acc ++ (as.filter p).map f) -> kd g tc te ρ0 (as.map F) acc Q
 | [],acc,_,q=>by
  rw [List.filter_nil,List.map_nil,List.append_nil] at q
  exact q
 | a :: as,acc,h,q=>by
  rw [List.map_cons]
  refine h a List.mem_cons_self _ _ (fun e=>cx p as (acc ++ [f a]) (fun b hb=>h b (List.mem_cons_of_mem _ hb)) ?_) (fun e=>cx p as acc (fun b hb=>h b (List.mem_cons_of_mem _ hb)) ?_)
  ·rw [List.filter_cons,if_pos e,List.map_cons] at q
   rw [List.append_assoc]; exact q
  ·rw [List.filter_cons,if_neg (by rw [e]; exact Bool.false_ne_true)] at q
   exact q
theorem get_map {α:Type} {F:α -> D} {as:List α} {i:Nat} {d:D} (h:(as.map F)[i]? = some d):∃ a,as[i]? = some a /\ d = F a:=by
 rw [List.getElem?_map] at h
 cases e:as[i]? with
 | none=>rw [e] at h; cases h
 | some a=>rw [e] at h; cases h; exact ⟨a,rfl,rfl⟩
theorem y3 {n:Nat} (h:n <= 100000):n < sizeLine:=by rw [sizeLine_eq]; omega
theorem wK (ns:List Int):y8 (ns.map D.int) = true:=by
 induction ns with
 | nil=>rfl
 | cons n ns ih=>rw [List.map_cons]; exact ih
theorem uP (ns:List Str):y8 (ns.map D.str) = true:=by
 induction ns with
 | nil=>rfl
 | cons n ns ih=>rw [List.map_cons]; exact ih
theorem T1 {xs:List D} (h:∀ x ∈ xs,D3 x = true):y8 xs = true:=by
 induction xs with
 | nil=>rfl
 | cons n ns ih=>
  show (D3 n && y8 ns) = true
  rw [h n List.mem_cons_self,ih fun x hx=>h x (List.mem_cons_of_mem _ hx)]; rfl
theorem K3 {α:Type} {f:α -> D} {xs:List α} {i:Int} (h0:0 <= i) (h1:i < xs.length):∃ x,x ∈ xs /\ xs[i.toNat]? = some x /\ P1 (xs.map f) i = some (f x):=by
 have hi:i.toNat < xs.length:=by omega
 refine ⟨xs[i.toNat],List.getElem_mem hi,List.getElem?_eq_getElem hi,?_⟩
 unfold P1 kc
 rw [if_pos h0,List.length_map,if_pos h1]
 simp [hi]
theorem Gi {n:Int} (h:n <= 10 ^ 70) (h0:0 < n):n.natAbs.log2 < 9000:=by
 have h1:n.natAbs < 2 ^ 9000:=Nat.lt_of_le_of_lt (m:=10 ^ 70) (by omega) (by decide +kernel)
 exact (Nat.log2_lt (by omega)).mpr h1
noncomputable abbrev EM (Q:D -> D -> Prop):W9:={ nx:=fun ρ=>e8 0 ρ fun l=>Q .non l,rt:=fun d ρ=>e8 0 ρ fun l=>Q d l }
noncomputable abbrev EP (Q:D -> Prop):W9:={ nx:=fun _=>Q .non,rt:=fun d _=>Q d }
noncomputable def nums (xs:List Int):D:=.lst (xs.map D.int)
theorem oi {α:Type} {f:α -> D} {xs:List α} (h:0 < xs.length):∃ x,x ∈ xs /\ P1 (xs.map f) (-1) = some (f x):=by
 refine ⟨xs[xs.length - 1],List.getElem_mem (by omega),?_⟩
 unfold P1 kc
 have h1:¬ (0:Int) <= -1:=by decide
 have h2:-((xs.map f).length:Int) <= -1:=by rw [List.length_map]; omega
 have h3:((-1:Int) + ((xs.map f).length:Int)).toNat = xs.length - 1:=by rw [List.length_map]; omega
 rw [if_neg h1,if_pos h2,h3]
 show (xs.map f)[xs.length - 1]? = _
 rw [List.getElem?_map,List.getElem?_eq_getElem (by omega)]
 rfl
theorem x4 (n:Nat):ke 0 n = (List.range n).map fun (k:Nat)=>D.int (0 + (k:Int)):=rfl
theorem cV (p:Key × D) (r:List (Key × D)) (j:Key):C5 (p :: r) j = if p.1 = j then some p.2 else C5 r j:=by
 unfold C5
 rw [List.find?_cons]
 by_cases e:p.1 = j
 ·rw [if_pos e,decide_eq_true e]; rfl
 ·rw [if_neg e,decide_eq_false e]
theorem iq (k j:Key) (y:D):∀ kvs:List (Key × D),C5 (kvs.map fun kv=>if kv.1 = k then (kv.1,y) else kv) j = if j = k then (C5 kvs j).map (fun _=>y) else C5 kvs j
 | []=>by simp [C5]
 | p :: r=>by
  rw [List.map_cons,cV,cV,iq k j y r]
  by_cases e1:p.1 = k
  ·rw [if_pos e1]
   by_cases e2:p.1 = j
   ·have e3:j = k:=e2.symm.trans e1
    simp [e2,e3]
   ·simp [e2]
  ·rw [if_neg e1]
   by_cases e2:p.1 = j
   ·have e3:¬ j = k:=fun z=>e1 (e2.trans z)
    simp [e2,e3]
   ·simp [e2]
theorem fC (k:Key):∀ kvs:List (Key × D),(kvs.any fun kv=>decide (kv.1 = k)) = (C5 kvs k).isSome
 | []=>rfl
 | p :: r=>by
  rw [List.any_cons,fC k r,cV]
  by_cases e:p.1 = k
  ·simp [e]
  ·simp [e]
theorem lT (k j:Key) (y:D):∀ kvs:List (Key × D),C5 (kvs ++ [(k,y)]) j = (C5 kvs j).or (if k = j then some y else none)
 | []=>by rw [List.nil_append,cV]; simp [C5]
 | p :: r=>by
  rw [List.cons_append,cV,cV,lT k j y r]
  by_cases e:p.1 = j
  ·simp [e]
  ·simp [e]
theorem fW (kvs:List (Key × D)) (k j:Key) (y:D):C5 (putD kvs k y) j = if j = k then some y else C5 kvs j:=by
 unfold putD
 by_cases a:(kvs.any fun kv=>decide (kv.1 = k)) = true
 ·rw [if_pos a,iq]
  rw [fC] at a
  obtain ⟨v,hv⟩:=Option.isSome_iff_exists.mp a
  by_cases e:j = k
  ·subst e; simp [hv]
  ·simp [e]
 ·rw [if_neg a,lT]
  rw [fC] at a
  have hn:C5 kvs k = none:=by
   cases q:C5 kvs k with
   | none=>rfl
   | some v=>rw [q] at a; exact (a rfl).elim
  by_cases e:j = k
  ·subst e; simp [hn]
  ·have e':¬ k = j:=fun z=>e z.symm
   simp [e,e']
theorem wd (kvs:List (Key × D)) (k:Key) (v:D):(putD kvs k v).length <= kvs.length + 1:=by
 unfold putD
 split
 ·rw [List.length_map]; omega
 ·rw [List.length_append]; simp
theorem mU (a b:D) (l:List D):P1 (a :: b :: l) 1 = some b:=by
 unfold P1 kc
 rw [if_pos (by decide),if_pos (by simp only [List.length_cons]; omega)]
 rfl
theorem xp {α:Type} {g:dA} {tc:cE} {tk te:TU} {ρ0:Ev} {F v:α -> D} {k:α -> Key} {Q:List (Key × D) -> Prop}:∀ (as:List α) (acc:List (Key × D)),(∀ a ∈ as,∀ (K:Key -> D -> Prop) (R:Prop),K (k a) (v a) -> g (F a) ρ0 fun ρ1=>tc ρ1 fun b=>Br b (tk ρ1 fun y=>te ρ1 fun d=>∃ k,cG y = some k /\ D3 d = true /\ K k d) R) ->
  Q (as.foldl (fun acc a=>putD acc (k a) (v a)) acc) -> oH g tc tk te ρ0 (as.map F) acc Q
 | [],acc,_,q=>q
 | a :: as,acc,h,q=>by
  rw [List.map_cons]
  exact h a List.mem_cons_self (fun k d=>oH g tc tk te ρ0 (as.map F) (putD acc k d) Q) _ (xp as _ (fun b hb=>h b (List.mem_cons_of_mem _ hb)) q)
theorem jb {α:Type} {v:α -> D} {k:α -> Key} (j:Key):∀ (as:List α) (acc:List (Key × D)),(∀ a ∈ as,k a ≠ j) -> C5 (as.foldl (fun acc a=>putD acc (k a) (v a)) acc) j = C5 acc j
 | [],acc,_=>rfl
 | a :: as,acc,h=>by
  rw [List.foldl_cons,jb j as _ fun b hb=>h b (List.mem_cons_of_mem _ hb),fW,if_neg fun z=>h a List.mem_cons_self z.symm]
theorem lB {α:Type} {v:α -> D} {k:α -> Key}:∀ (as:List α) (acc:List (Key × D)),(as.map k).Nodup -> ∀ a ∈ as,C5 (as.foldl (fun acc a=>putD acc (k a) (v a)) acc) (k a) = some (v a)
 | [],_,_,a,ha=>by cases ha
 | b :: as,acc,h,a,ha=>by
  rw [List.map_cons] at h
  obtain ⟨h1,h2⟩:=List.nodup_cons.mp h
  rw [List.foldl_cons]
  rcases List.mem_cons.mp ha with e | e
  ·subst e
   rw [jb (k a) as _ fun c hc z=>h1 (List.mem_map.mpr ⟨c,hc,z⟩),fW,if_pos rfl]
  ·exact lB as _ h2 a e
def AF (d:D) (ns:List Int):Prop:=d = .fz (ns.map D.int) \/ d = .lst (ns.map D.int)
noncomputable def feed (c d k:Int):D:=.lst [.int c,.int d,.int k]
noncomputable abbrev Rw:=Str × List D
noncomputable def row (r:Rw):D:=.tup (.str r.1 :: r.2)
noncomputable def yw (rs:List Rw):D:=.tup (rs.map row)
noncomputable def HL (gs ls:List Rw):D:=.tup [yw gs,yw ls]
noncomputable def gC (xs:List Str):D:=.lst (xs.map D.str)
theorem Ag {r:Rw} (h:y8 r.2 = true):D3 (row r) = true:=h
theorem iW {gs:List Rw} (h:∀ g ∈ gs,y8 g.2 = true):y8 (gs.map row) = true:=T1 fun x hx=>by
 obtain ⟨g,hg,rfl⟩:=List.mem_map.mp hx
 exact Ag (h g hg)
noncomputable def uD:Option Str -> D
 | none=>.non
 | some x=>.str x
noncomputable abbrev Pr:=Int × Int
noncomputable def pr (p:Pr):D:=.tup [.int p.1,.int p.2]
noncomputable def cm (ps:List Pr):D:=.tup (ps.map pr)
def Cq (p:Pr):Prop:=1 <= p.1 /\ p.1 < 10 ^ 59 /\ 0 <= p.2 /\ p.2 < 10 ^ 60
theorem X9:∀ ps:List Pr,y8 (ps.map pr) = true
 | []=>rfl
 | p :: ps=>by
  show ((true && (true && true)) && y8 (ps.map pr)) = true
  rw [X9 ps]; rfl
def gh (ps:List Pr):Prop:=1 <= ps.length /\ ps.length <= 5 /\ (∀ p ∈ ps,1 <= p.1 /\ p.1 < 10 ^ 60 /\ 1 <= p.2 /\ p.2 < 10 ^ 60) /\ ps.Pairwise fun p q=>p.1 < q.1 /\ q.2 < p.2
def nm (n:Nat) (x:Str):Prop:=1 <= x.cps.toList.length /\ x.cps.toList.length <= n /\ ∀ c ∈ x.cps.toList,97 <= c /\ c <= 122
noncomputable instance (n:Nat) (x:Str):Decidable (nm n x):=by unfold nm; infer_instance
theorem eF (ps:List Pr):D3 (cm ps) = true:=X9 ps
def M7:Cp:=fun ds Q=>∃ (d:D) (ns:List Int) (k:Int),ds = [d,.int k] /\ AF d ns /\ 0 <= k /\ ∀ c,Q (.int c)
def P8:Cp:=fun ds Q=>∃ (d:D) (ns:List Int) (k:Int),ds = [d,.int k] /\ AF d ns /\ 0 <= k /\ k <= 1000 /\ ∀ c,Q (feed c c (100 * k))
def p9:Cm:=fun ds Q=>∃ (c d k n:Int),ds = [feed c d k,.int n] /\ 0 <= k /\ k <= 10 ^ 9 /\ 0 < n /\ n <= 10 ^ 70 /\ ∀ (r d':Int),0 <= r -> r < n -> Q (.int r) (feed c d' (k + 1))
def I0:Cm:=fun ds Q=>∃ (c d k:Int),ds = [feed c d k] /\ 0 <= k /\ k <= 10 ^ 8 /\ ∀ (r d' k':Int),1 <= r -> r < 10 ^ 59 -> k <= k' -> k' <= k + 3 -> Q (.int r) (feed c d' k')
def G8:Cm:=fun ds Q=>∃ (c d k:Int),ds = [feed c d k] /\ 0 <= k /\ k <= 10 ^ 7 /\ ∀ (r d' k':Int),0 <= r -> r < 10 ^ 60 -> k <= k' -> k' <= k + 4 -> Q (.int r) (feed c d' k')
noncomputable def iI:Str := "abcdefghijklmnopqrstuvwxyz"
noncomputable def bJ (i:Int):Nat:=(P1 iI.cps.toList i).getD 0
theorem zK:∀ n:Nat,n < 26 -> bJ (n:Int) = 97 + n:=by decide +kernel
theorem jC {i:Int} (h0:0 <= i) (h1:i < 26):bJ i = 97 + i.toNat:=by
 have e:((i.toNat:Nat):Int) = i:=Int.toNat_of_nonneg h0
 have q:=zK i.toNat (by omega)
 rw [e] at q
 exact q
theorem er {i j:Int} (i0:0 <= i) (i1:i < 26) (j0:0 <= j) (j1:j < 26) (h:bJ i = bJ j):i = j:=by
 rw [jC i0 i1,jC j0 j1] at h; omega
theorem cD {i:Int} (h0:0 <= i) (h1:i < 26):97 <= bJ i /\ bJ i <= 122:=by rw [jC h0 h1]; omega
theorem qp {c:Nat} {n:Int} (h0:0 <= n) (h1:n <= 4):(Txt.mul ⟨#[c]⟩ n).cps.toList = List.replicate n.toNat c:=by
 have h:n = 0 \/ n = 1 \/ n = 2 \/ n = 3 \/ n = 4:=by omega
 rcases h with rfl | rfl | rfl | rfl | rfl
 all_goals rfl
theorem sg (xs:List Int):∀ acc:Array Nat,((xs.map fun b=>(⟨#[bJ b]⟩:Str)).foldl (fun acc p=>acc ++ (Str.cps "") ++ p.cps) acc).toList = acc.toList ++ xs.map bJ:=by
 induction xs with
 | nil=>intro acc; simp
 | cons b B ih=>
  intro acc
  rw [List.map_cons,List.foldl_cons,ih,List.map_cons]
  show (acc ++ #[] ++ #[bJ b]).toList ++ _ = _
  simp
theorem xR (xs:List Int):(Txt.join "" (xs.map fun b=>(⟨#[bJ b]⟩:Str))).cps.toList = xs.map bJ:=by
 unfold Txt.join Builtin.Str.glued
 cases xs with
 | nil=>rfl
 | cons b B=>
  exact (sg B #[bJ b]).trans rfl
theorem jJ (x y:Str):(x ++ y).cps.toList = x.cps.toList ++ y.cps.toList:=by
 show (x.cps ++ y.cps).toList = _
 simp
theorem N9 {α:Type} (f:Nat -> α) (n:Nat) (h:∀ i j,i < n -> j < n -> f i = f j -> i = j):((List.range n).map f).Nodup:=by
 rw [List.Nodup,List.pairwise_map]
 refine List.Pairwise.imp_of_mem ?_ (List.nodup_range (n:=n))
 intro a b ha hb hne e
 exact hne (h a b (List.mem_range.mp ha) (List.mem_range.mp hb) e)
theorem ja {α:Type} {x:α}:∀ {xs:List α} (i:Nat),xs.Nodup -> x ∉ xs -> (xs.set i x).Nodup
 | [],_,_,_=>List.nodup_nil
 | y :: ys,0,h,hx=>List.nodup_cons.mpr ⟨fun z=>hx (List.mem_cons_of_mem _ z),(List.nodup_cons.mp h).2⟩
 | y :: ys,i + 1,h,hx=>by
  rw [List.set_cons_succ]
  refine List.nodup_cons.mpr ⟨fun z=>?_,ja i (List.nodup_cons.mp h).2 fun z=>hx (List.mem_cons_of_mem _ z)⟩
  rcases List.mem_or_eq_of_mem_set z with w | w
  ·exact (List.nodup_cons.mp h).1 w
  ·exact hx (w ▸ List.mem_cons_self)
noncomputable def nameA (f:Int) (i:Nat):Str:=Txt.mul ⟨#[bJ ((f + (0 + (i:Int))) % 26)]⟩ (1 + (0 + (i:Int)) / 26)
theorem cJ {f:Int} {i:Nat} (hi:i < 100):(nameA f i).cps.toList = List.replicate (1 + i / 26) (bJ ((f + (0 + (i:Int))) % 26)):=by
 unfold nameA
 rw [qp (by omega) (by omega)]
 congr 1
 omega
theorem sG {f:Int} {i j:Nat} (hi:i < 100) (hj:j < 100) (h:nameA f i = nameA f j):i = j:=by
 have e:=congrArg (fun x:Str=>x.cps.toList) h
 rw [cJ hi,cJ hj] at e
 have el:=congrArg List.length e
 rw [List.length_replicate,List.length_replicate] at el
 rw [el] at e
 have e2:bJ ((f + (0 + (i:Int))) % 26) = bJ ((f + (0 + (j:Int))) % 26):=by
  have e3:=congrArg (fun l:List Nat=>l.head?) e
  simpa [Nat.add_comm 1,List.replicate_succ] using e3
 have e4:=er (Int.emod_nonneg _ (by decide)) (Int.emod_lt_of_pos _ (by decide)) (Int.emod_nonneg _ (by decide)) (Int.emod_lt_of_pos _ (by decide)) e2
 omega
theorem xg {f:Int} {i n:Nat} (hi:i < 100) (h:1 + i / 26 <= n):nm n (nameA f i):=by
 unfold nm
 rw [cJ hi,List.length_replicate]
 refine ⟨by omega,h,fun c hc=>?_⟩
 rw [(List.mem_replicate.mp hc).2]
 exact cD (Int.emod_nonneg _ (by decide)) (Int.emod_lt_of_pos _ (by decide))
noncomputable def dO (bs:List Int) (a o b1 b2:Int) (i:Nat):List Int:=(bs.set a.toNat ((b1 + (0 + (i:Int))) % 26)).set o.toNat ((b2 + (0 + (i:Int)) / 26) % 26)
noncomputable def dn (bs:List Int) (a o b1 b2 f l:Int) (i:Nat):Str:=Txt.join "" ((dO bs a o b1 b2 i).map fun b=>(⟨#[bJ b]⟩:Str)) ++ Txt.mul ⟨#[bJ f]⟩ (l * ((0 + (i:Int)) % 2))
theorem Z7 {bs:List Int} {a o b1 b2:Int} {i:Nat}:(dO bs a o b1 b2 i).length = bs.length:=by unfold dO; rw [List.length_set,List.length_set]
theorem jZ {bs:List Int} {a o b1 b2:Int} {i:Nat} (hb:∀ b ∈ bs,0 <= b /\ b < 26):∀ b ∈ dO bs a o b1 b2 i,0 <= b /\ b < 26:=fun b hb'=>by
 rcases List.mem_or_eq_of_mem_set hb' with w | w
 ·rcases List.mem_or_eq_of_mem_set w with w | w
  ·exact hb b w
  ·rw [w]; exact ⟨Int.emod_nonneg _ (by decide),Int.emod_lt_of_pos _ (by decide)⟩
 ·rw [w]; exact ⟨Int.emod_nonneg _ (by decide),Int.emod_lt_of_pos _ (by decide)⟩
theorem Ey {l:Int} (l0:0 <= l) (l1:l <= 1) (i:Nat):0 <= l * ((0 + (i:Int)) % 2) /\ l * ((0 + (i:Int)) % 2) <= 1:=by
 have h:l = 0 \/ l = 1:=by omega
 rcases h with rfl | rfl <;> omega
theorem cT {bs:List Int} {a o b1 b2 f l:Int} {i:Nat} (l0:0 <= l) (l1:l <= 1):(dn bs a o b1 b2 f l i).cps.toList = (dO bs a o b1 b2 i).map bJ ++ List.replicate (l * ((0 + (i:Int)) % 2)).toNat (bJ f):=by
 unfold dn
 have:=Ey l0 l1 i
 rw [jJ,xR,qp this.1 (by omega)]
theorem ur {bs:List Int} {a o b1 b2 f l:Int} {i j:Nat} (hi:i < 100) (hj:j < 100) (l0:0 <= l) (l1:l <= 1) (a0:0 <= a) (a1:a < bs.length) (o0:0 <= o) (o1:o < bs.length) (ao:a ≠ o) (hb:∀ b ∈ bs,0 <= b /\ b < 26)
  (h:dn bs a o b1 b2 f l i = dn bs a o b1 b2 f l j):i = j:=by
 have e:=congrArg (fun x:Str=>x.cps.toList) h
 rw [cT l0 l1,cT l0 l1] at e
 have e1:=(List.append_inj e (by rw [List.length_map,List.length_map,Z7,Z7])).1
 have at_:∀ (n:Nat) (x y:Int),(dO bs a o b1 b2 i)[n]? = some x -> (dO bs a o b1 b2 j)[n]? = some y -> x = y:=fun n x y hx hy=>by
  have e2:=congrArg (fun z:List Nat=>z[n]?) e1
  rw [List.getElem?_map,List.getElem?_map,hx,hy] at e2
  have:=jZ hb x (List.mem_of_getElem? hx)
  have:=jZ hb y (List.mem_of_getElem? hy)
  exact er (by omega) (by omega) (by omega) (by omega) (Option.some.inj e2)
 have ga:∀ k:Nat,(dO bs a o b1 b2 k)[a.toNat]? = some ((b1 + (0 + (k:Int))) % 26):=fun k=>by
  unfold dO
  rw [List.getElem?_set_ne (by omega),List.getElem?_set_self (by omega)]
 have go:∀ k:Nat,(dO bs a o b1 b2 k)[o.toNat]? = some ((b2 + (0 + (k:Int)) / 26) % 26):=fun k=>by
  unfold dO
  rw [List.getElem?_set_self (by rw [List.length_set]; omega)]
 have q1:=at_ _ _ _ (ga i) (ga j)
 have q2:=at_ _ _ _ (go i) (go j)
 omega
theorem uI {bs:List Int} {a o b1 b2 f l:Int} {i n:Nat} (l0:0 <= l) (l1:l <= 1) (f0:0 <= f) (f1:f < 26) (hb:∀ b ∈ bs,0 <= b /\ b < 26) (h1:1 <= bs.length) (h2:bs.length + l <= n):nm n (dn bs a o b1 b2 f l i):=by
 have:=Ey l0 l1 i
 have h:l = 0 \/ l = 1:=by omega
 unfold nm
 rw [cT l0 l1,List.length_append,List.length_map,Z7,List.length_replicate]
 refine ⟨by omega,?_,fun c hc=>?_⟩
 ·rcases h with rfl | rfl
  ·rw [Int.zero_mul]; show bs.length + 0 <= n; omega
  ·omega
 ·rcases List.mem_append.mp hc with w | w
  ·obtain ⟨b,hb',rfl⟩:=List.mem_map.mp w
   have:=jZ hb b hb'
   exact cD this.1 this.2
  ·rw [(List.mem_replicate.mp w).2]
   exact cD f0 f1
theorem xN {a r n:Int} (a0:0 <= a) (a1:a < n) (r0:0 <= r) (r1:r < n - 1):a ≠ (a + 1 + r) % n:=by
 by_cases h:a + 1 + r < n
 ·rw [Int.emod_eq_of_lt (by omega) h]; omega
 ·have e:(a + 1 + r) % n = a + 1 + r - n:=by
   have e2:a + 1 + r = (a + 1 + r - n) + n:=by omega
   rw [e2,Int.add_emod_right,Int.emod_eq_of_lt (by omega) (by omega)]
   omega
  rw [e]; omega
def ai:Cm:=fun ds Q=>∃ (c d k m:Int),ds = [feed c d k,.int m] /\ 0 <= k /\ k <= 10 ^ 6 /\ 1 <= m /\ m <= 100 /\ ∀ (xs:List Str) (d' k':Int),xs.length = m -> xs.Nodup -> (∀ x ∈ xs,nm 8 x) -> Q (gC xs) (feed c d' k')
end My
namespace My
open PySem L2 L3
local macro_rules | `(tactic| walk_at "w")=>`(tactic| conv=>whnf)
local macro_rules | `(tactic| walk_at "a")=>`(tactic| first | refine ⟨rfl,?_⟩ | refine ⟨_,rfl,?_⟩ | refine ⟨(show (0:Int) < _ from by decide),?_⟩ | refine ⟨(show aO _ _ from ⟨by decide,by decide⟩),?_⟩ | refine ⟨(show gU _ _ from ⟨by decide,by decide,by decide⟩),?_⟩ | refine ⟨(show U6 _ _ from .inr ⟨by decide,by decide⟩),?_⟩ | refine ⟨(show U6 _ _ from .inl ⟨by decide,by decide⟩),?_⟩ | refine ⟨_,_,_,rfl,rfl,rfl,?_⟩ | refine ⟨_,fq _ _,?_⟩ | refine ⟨_,_,rfl,rfl,?_⟩)
local macro_rules | `(tactic| walk_at "r")=>`(tactic| ((repeat ((conv=>whnf); (walk_at "a"))); (try (conv=>whnf))))
structure BJ (xs:List Str) (gs:List Rw) (ds:List Nat) (i:Nat) (g:Rw) (u:Option Str) (e:Nat) (cv:List Pr) (n1 n2:Int):Prop where
 name:xs[i]? = some g.1
 row:g.2 = [uD u,cm cv,.int n1,.int n2]
 cv:gh cv
 n1:0 <= n1 /\ n1 < 10 ^ 60
 n2:0 <= n2 /\ n2 < 10 ^ 60
 dep:ds[i]? = some e
 top:u = none -> e = 1
 under:∀ y,u = some y -> ∃ j f gj,j < i /\ gs[j]? = some gj /\ gj.1 = y /\ ds[j]? = some f /\ e = f + 1
 ge:1 <= e
 le:e <= 8
def yX (xs:List Str) (gs:List Rw) (ds:List Nat):Prop:=ds.length = gs.length /\ ∀ i g,gs[i]? = some g -> ∃ u e cv n1 n2,BJ xs gs ds i g u e cv n1 n2
theorem yX.y8 {xs:List Str} {gs:List Rw} {ds:List Nat} (h:yX xs gs ds):∀ g ∈ gs,y8 g.2 = true:=fun g hg=>by
 obtain ⟨i,hi⟩:=List.getElem?_of_mem hg
 obtain ⟨u,e,cv,n1,n2,a⟩:=h.2 i g hi
 rw [a.row]
 show (D3 (uD u) && (D3 (cm cv) && (true && (true && true)))) = true
 rw [eF]
 cases u <;> rfl
theorem BJ.more {xs:List Str} {gs:List Rw} {ds:List Nat} {i:Nat} {g:Rw} {u:Option Str} {e:Nat} {cv:List Pr} {n1 n2:Int} (a:BJ xs gs ds i g u e cv n1 n2) (gs':List Rw) (ds':List Nat):BJ xs (gs ++ gs') (ds ++ ds') i g u e cv n1 n2:=by
 refine ⟨a.name,a.row,a.cv,a.n1,a.n2,?_,a.top,fun y hy=>?_,a.ge,a.le⟩
 ·rw [List.getElem?_append_left (List.getElem?_eq_some_iff.mp a.dep).1]; exact a.dep
 ·obtain ⟨j,f,gj,h1,h2,h3,h4,h5⟩:=a.under y hy
  exact ⟨j,f,gj,h1,by rw [List.getElem?_append_left (List.getElem?_eq_some_iff.mp h2).1]; exact h2,h3,by rw [List.getElem?_append_left (List.getElem?_eq_some_iff.mp h4).1]; exact h4,h5⟩
theorem yX.snoc {xs:List Str} {gs:List Rw} {ds:List Nat} {g:Rw} {e:Nat} {u:Option Str} {cv:List Pr} {n1 n2:Int} (h:yX xs gs ds) (a:BJ xs (gs ++ [g]) (ds ++ [e]) gs.length g u e cv n1 n2):yX xs (gs ++ [g]) (ds ++ [e]):=by
 refine ⟨by simp [h.1],fun i x hi=>?_⟩
 by_cases hl:i < gs.length
 ·rw [List.getElem?_append_left hl] at hi
  obtain ⟨u',e',cv',n1',n2',a'⟩:=h.2 i x hi
  exact ⟨u',e',cv',n1',n2',a'.more _ _⟩
 ·have hi2:=(List.getElem?_eq_some_iff.mp hi).1
  rw [List.length_append,List.length_singleton] at hi2
  have ei:i = gs.length:=by omega
  subst ei
  rw [List.getElem?_append_right (Nat.le_refl _),Nat.sub_self] at hi
  cases hi
  exact ⟨_,_,_,_,_,a⟩
structure Ee (xs:List Str) (gs:List Rw) (i:Nat) (l:Rw) (y:Str) (ps:List Pr) (n:Int) (b:Bool):Prop where
 name:xs[i]? = some l.1
 row:l.2 = [.str y,cm ps,.int n,.bl b]
 at_:∃ g ∈ gs,g.1 = y
 len:ps.length <= 4
 prs:∀ p ∈ ps,Cq p
 n:0 <= n /\ n < 10 ^ 60
def Gw (xs:List Str) (gs ls:List Rw):Prop:=ls.length = xs.length /\ ∀ i l,ls[i]? = some l -> ∃ y ps n b,Ee xs gs i l y ps n b
theorem Ee.y8 {xs:List Str} {gs:List Rw} {i:Nat} {l:Rw} {y:Str} {ps:List Pr} {n:Int} {b:Bool} (a:Ee xs gs i l y ps n b):y8 l.2 = true:=by
 rw [a.row]
 show (true && (L3.y8 (ps.map pr) && (true && (true && true)))) = true
 rw [X9]; rfl
theorem Gw.y8 {xs:List Str} {gs ls:List Rw} (h:Gw xs gs ls):∀ l ∈ ls,y8 l.2 = true:=fun l hl=>by
 obtain ⟨i,hi⟩:=List.getElem?_of_mem hl
 obtain ⟨y,ps,n,b,a⟩:=h.2 i l hi
 exact a.y8
def af:Cm:=fun ds Q=>∃ (c d k:Int),ds = [feed c d k] /\ 0 <= k /\ k <= 10 ^ 6 /\ ∀ (ps:List Pr) (d' k':Int),gh ps -> k <= k' -> k' <= k + 50 -> Q (cm ps) (feed c d' k')
def R3:Cp:=fun ds Q=>∃ (d:D) (ns:List Int) (xs:List Str) (m:Int),ds = [d,gC xs,.int m] /\ AF d ns /\ 1 <= m /\ m <= 16 /\ m <= xs.length /\ xs.Nodup /\ ∀ (gs:List Rw) (es:List Nat),gs.length = m -> yX xs gs es -> Q (.lst (gs.map row))
def Y4:Cp:=fun ds Q=>∃ (d:D) (ns:List Int) (xs:List Str) (gs:List Rw),ds = [d,gC xs,.lst (gs.map row)] /\ AF d ns /\ xs.length <= 24 /\ 0 < gs.length /\ gs.length <= 100 /\ (∀ g ∈ gs,y8 g.2 = true) /\ ∀ ls:List Rw,Gw xs gs ls -> Q (.lst (ls.map row))
end My
namespace My
open PySem L2 L3
structure Gd where
 nm:Str
 un:Option Str
 cv:List Pr
 de:Int
 wa:Int
structure Ld where
 nm:Str
 at_:Str
 cs:List Pr
 la:Int
 on:Bool
structure Bd where
 gs:List Gd
 ls:List Ld
noncomputable def gD (g:Gd):D:=.tup [.str g.nm,uD g.un,cm g.cv,.int g.de,.int g.wa]
noncomputable def lD (l:Ld):D:=.tup [.str l.nm,.str l.at_,cm l.cs,.int l.la,.bl l.on]
noncomputable def bD (b:Bd):D:=.tup [.tup (b.gs.map gD),.tup (b.ls.map lD)]
def FN (gs:List Gd):Prop:=∃ dp:Nat -> Nat,∀ i g,gs[i]? = some g -> 1 <= dp i /\ dp i <= 8 /\ (g.un = none -> dp i = 1) /\ ∀ y,g.un = some y -> ∃ j gj,j < i /\ gs[j]? = some gj /\ gj.nm = y /\ dp i = dp j + 1
structure D9 (b:Bd):Prop where
 g1:1 <= b.gs.length
 g16:b.gs.length <= 16
 l24:b.ls.length <= 24
 nd:(b.gs.map (·.nm) ++ b.ls.map (·.nm)).Nodup
 nmg:∀ g ∈ b.gs,nm 8 g.nm
 nml:∀ l ∈ b.ls,nm 8 l.nm
 cv:∀ g ∈ b.gs,gh g.cv
 de:∀ g ∈ b.gs,0 <= g.de /\ g.de < 10 ^ 60
 wa:∀ g ∈ b.gs,0 <= g.wa /\ g.wa < 10 ^ 60
 un:FN b.gs
 cs4:∀ l ∈ b.ls,l.cs.length <= 4
 cs:∀ l ∈ b.ls,∀ p ∈ l.cs,1 <= p.1 /\ p.1 < 10 ^ 60 /\ 0 <= p.2 /\ p.2 < 10 ^ 60
 la:∀ l ∈ b.ls,0 <= l.la /\ l.la < 10 ^ 60
 at_:∀ l ∈ b.ls,∃ g ∈ b.gs,g.nm = l.at_
theorem pF (u:Option Str):D3 (uD u) = true:=by cases u <;> rfl
theorem DK (g:Gd):D3 (gD g) = true:=by
 show (true && (D3 (uD g.un) && (D3 (cm g.cv) && (true && (true && true))))) = true
 rw [pF,eF]; rfl
theorem DS (g:Ld):D3 (lD g) = true:=by
 show (true && (true && (D3 (cm g.cs) && (true && (true && true))))) = true
 rw [eF]; rfl
theorem nD {α:Type} {f:α -> D} (h:∀ a,D3 (f a) = true) (as:List α):y8 (as.map f) = true:=T1 fun x hx=>by
 obtain ⟨a,_,rfl⟩:=List.mem_map.mp hx
 exact h a
theorem eD (gs:List Gd):y8 (gs.map gD) = true:=nD DK gs
theorem jF (gs:List Ld):y8 (gs.map lD) = true:=nD DS gs
noncomputable def Ec:D -> Option Str
 | .str y=>some y
 | _=>none
noncomputable def yH:D -> Pr
 | .tup [.int a,.int b]=>(a,b)
 | _=>(0,0)
noncomputable def toG (r:Rw):Gd:=match r.2 with
 | [u,.tup ps,.int a,.int b]=>⟨r.1,Ec u,ps.map yH,a,b⟩
 | _=>⟨r.1,none,[],0,0⟩
noncomputable def zB (r:Rw):Ld:=match r.2 with
 | [.str y,.tup ps,.int a,.bl b]=>⟨r.1,y,ps.map yH,a,b⟩
 | _=>⟨r.1, "",[],0,false⟩
theorem ji (ps:List Pr):(ps.map pr).map yH = ps:=by
 rw [List.map_map]
 conv=>rhs; rw [<- List.map_id ps]
 exact List.map_congr_left fun p _=>rfl
theorem Dm {x:Str} {u:Option Str} {cv:List Pr} {a b:Int}:toG (x,[uD u,cm cv,.int a,.int b]) = ⟨x,u,cv,a,b⟩:=by
 show (⟨x,Ec (uD u),(cv.map pr).map yH,a,b⟩:Gd) = _
 rw [ji]
 cases u <;> rfl
theorem Ds {x y:Str} {cs:List Pr} {a:Int} {b:Bool}:zB (x,[.str y,cm cs,.int a,.bl b]) = ⟨x,y,cs,a,b⟩:=by
 show (⟨x,y,(cs.map pr).map yH,a,b⟩:Ld) = _
 rw [ji]
theorem Gk {xs ys:List Str} {gs ls:List Rw} {es:List Nat} (gk:yX xs gs es) (lk:Gw ys gs ls) (hx:gs.length <= xs.length) (h1:1 <= gs.length) (h16:gs.length <= 16) (h24:ys.length <= 24) (hy:ys = xs.drop gs.length) (nd:xs.Nodup) (hn:∀ x ∈ xs,nm 8 x) :
  ∃ b:Bd,D9 b /\ HL gs ls = bD b:=by
 have G:∀ i g,gs[i]? = some g -> ∃ u e cv n1 n2,BJ xs gs es i g u e cv n1 n2 /\ toG g = ⟨g.1,u,cv,n1,n2⟩:=fun i g hg=>by
  obtain ⟨u,e,cv,n1,n2,a⟩:=gk.2 i g hg
  refine ⟨u,e,cv,n1,n2,a,?_⟩
  obtain ⟨x,r⟩:=g
  have ar:=a.row
  dsimp only at ar
  subst ar
  exact Dm
 have L:∀ i l,ls[i]? = some l -> ∃ y ps n b,Ee ys gs i l y ps n b /\ zB l = ⟨l.1,y,ps,n,b⟩:=fun i l hl=>by
  obtain ⟨y,ps,n,b,a⟩:=lk.2 i l hl
  refine ⟨y,ps,n,b,a,?_⟩
  obtain ⟨x,r⟩:=l
  have ar:=a.row
  dsimp only at ar
  subst ar
  exact Ds
 have Gm:∀ g ∈ gs,∃ i u e cv n1 n2,gs[i]? = some g /\ BJ xs gs es i g u e cv n1 n2 /\ toG g = ⟨g.1,u,cv,n1,n2⟩:=fun g hg=>by
  obtain ⟨i,hi⟩:=List.getElem?_of_mem hg
  obtain ⟨u,e,cv,n1,n2,a⟩:=G i g hi
  exact ⟨i,u,e,cv,n1,n2,hi,a⟩
 have Lm:∀ l ∈ ls,∃ i y ps n b,ls[i]? = some l /\ Ee ys gs i l y ps n b /\ zB l = ⟨l.1,y,ps,n,b⟩:=fun l hl=>by
  obtain ⟨i,hi⟩:=List.getElem?_of_mem hl
  obtain ⟨y,ps,n,b,a⟩:=L i l hi
  exact ⟨i,y,ps,n,b,hi,a⟩
 have gn:gs.map (·.1) = xs.take gs.length:=by
  refine List.ext_getElem? fun i=>?_
  rw [List.getElem?_map,List.getElem?_take]
  by_cases hi:i < gs.length
  ·obtain ⟨u,e,cv,n1,n2,a,_⟩:=G i gs[i] (List.getElem?_eq_getElem hi)
   rw [if_pos hi,a.name,List.getElem?_eq_getElem hi]; rfl
  ·rw [if_neg hi,List.getElem?_eq_none (by omega)]; rfl
 have ln:ls.map (·.1) = ys:=by
  refine List.ext_getElem? fun i=>?_
  rw [List.getElem?_map]
  by_cases hi:i < ls.length
  ·obtain ⟨y,ps,n,b,a,_⟩:=L i ls[i] (List.getElem?_eq_getElem hi)
   rw [a.name,List.getElem?_eq_getElem hi]; rfl
  ·rw [List.getElem?_eq_none (by omega),List.getElem?_eq_none (by rw [<- lk.1]; omega)]; rfl
 have tg1:∀ g ∈ gs,(toG g).nm = g.1:=fun g hg=>by obtain ⟨_,_,_,_,_,_,_,_,e⟩:=Gm g hg; rw [e]
 have tl1:∀ l ∈ ls,(zB l).nm = l.1:=fun l hl=>by obtain ⟨_,_,_,_,_,_,_,e⟩:=Lm l hl; rw [e]
 have gnm:(gs.map toG).map (·.nm) = xs.take gs.length:=by
  rw [List.map_map,<- gn]
  exact List.map_congr_left fun g hg=>tg1 g hg
 have lnm:(ls.map zB).map (·.nm) = ys:=by
  rw [List.map_map,<- ln]
  exact List.map_congr_left fun g hg=>tl1 g hg
 refine ⟨⟨gs.map toG,ls.map zB⟩,?_,?_⟩
 ·refine ⟨by simpa using h1,by simpa using h16,by rw [List.length_map,lk.1]; exact h24,?_,?_,?_,?_,?_,?_,?_,?_,?_,?_,?_⟩
  ·show ((gs.map toG).map (·.nm) ++ (ls.map zB).map (·.nm)).Nodup
   rw [gnm,lnm,hy,List.take_append_drop]; exact nd
  ·intro g hg
   obtain ⟨r,hr,rfl⟩:=List.mem_map.mp hg
   obtain ⟨i,u,e,cv,n1,n2,_,a,e⟩:=Gm r hr
   rw [tg1 r hr]; exact hn _ (List.mem_of_getElem? a.name)
  ·intro l hl
   obtain ⟨r,hr,rfl⟩:=List.mem_map.mp hl
   obtain ⟨i,y,ps,n,b,_,a,e⟩:=Lm r hr
   rw [tl1 r hr]
   refine hn _ ?_
   have:=List.mem_of_getElem? a.name
   rw [hy] at this
   exact List.mem_of_mem_drop this
  ·intro g hg
   obtain ⟨r,hr,rfl⟩:=List.mem_map.mp hg
   obtain ⟨i,u,e,cv,n1,n2,_,a,e⟩:=Gm r hr
   rw [e]; exact a.cv
  ·intro g hg
   obtain ⟨r,hr,rfl⟩:=List.mem_map.mp hg
   obtain ⟨i,u,e,cv,n1,n2,_,a,e⟩:=Gm r hr
   rw [e]; exact a.n1
  ·intro g hg
   obtain ⟨r,hr,rfl⟩:=List.mem_map.mp hg
   obtain ⟨i,u,e,cv,n1,n2,_,a,e⟩:=Gm r hr
   rw [e]; exact a.n2
  ·refine ⟨fun i=>(es[i]?).getD 1,fun i g hg=>?_⟩
   obtain ⟨r,hr,rfl⟩:∃ r,gs[i]? = some r /\ toG r = g:=by
    rw [List.getElem?_map] at hg
    cases e:gs[i]? with
    | none=>rw [e] at hg; cases hg
    | some r=>rw [e] at hg; exact ⟨r,rfl,by simpa using hg⟩
   obtain ⟨u,e,cv,n1,n2,a,et⟩:=G i r hr
   dsimp only
   rw [a.dep,et]
   refine ⟨a.ge,a.le,a.top,fun y hy=>?_⟩
   obtain ⟨j,f,gj,h1,h2,h3,h4,h5⟩:=a.under y hy
   refine ⟨j,toG gj,h1,by rw [List.getElem?_map,h2]; rfl,by rw [tg1 gj (List.mem_of_getElem? h2)]; exact h3,?_⟩
   rw [h4]; exact h5
  ·intro l hl
   obtain ⟨r,hr,rfl⟩:=List.mem_map.mp hl
   obtain ⟨i,y,ps,n,b,_,a,e⟩:=Lm r hr
   rw [e]; exact a.len
  ·intro l hl p hp
   obtain ⟨r,hr,rfl⟩:=List.mem_map.mp hl
   obtain ⟨i,y,ps,n,b,_,a,e⟩:=Lm r hr
   rw [e] at hp
   have:=a.prs p hp
   unfold Cq at this
   omega
  ·intro l hl
   obtain ⟨r,hr,rfl⟩:=List.mem_map.mp hl
   obtain ⟨i,y,ps,n,b,_,a,e⟩:=Lm r hr
   rw [e]; exact a.n
  ·intro l hl
   obtain ⟨r,hr,rfl⟩:=List.mem_map.mp hl
   obtain ⟨i,y,ps,n,b,_,a,e⟩:=Lm r hr
   obtain ⟨g,hg,eg⟩:=a.at_
   refine ⟨toG g,List.mem_map.mpr ⟨g,hg,rfl⟩,?_⟩
   rw [tg1 g hg,e]; exact eg
 ·unfold HL bD yw
  have e1:gs.map row = (gs.map toG).map gD:=by
   rw [List.map_map]
   refine List.map_congr_left fun g hg=>?_
   obtain ⟨i,u,e,cv,n1,n2,_,a,et⟩:=Gm g hg
   show D.tup (.str g.1 :: g.2) = gD (toG g)
   rw [et,a.row]; rfl
  have e2:ls.map row = (ls.map zB).map lD:=by
   rw [List.map_map]
   refine List.map_congr_left fun g hg=>?_
   obtain ⟨i,y,ps,n,b,_,a,et⟩:=Lm g hg
   show D.tup (.str g.1 :: g.2) = lD (zB g)
   rw [et,a.row]; rfl
  rw [e1,e2]
def Z9:Cp:=fun ds Q=>∃ (d:D) (ns:List Int),ds = [d] /\ AF d ns /\ ∀ b:Bd,D9 b -> Q (bD b)
noncomputable abbrev cs (x:Str):List Nat:=x.cps.toList
noncomputable def nt (n:Int):Str:=Str.ofString (toString n)
theorem BF {n:Int} (h:0 <= n) (h1:n < 10 ^ 60):(nt n).length <= 61:=by
 unfold nt
 rw [ofString_length]
 exact int_text_length_le10 (by decide) (by omega)
def num (n:Int):Prop:=0 <= n /\ n < 10 ^ 60
def Bl (ps:List Pr):Prop:=ps.length <= 5 /\ ∀ p ∈ ps,num p.1 /\ num p.2
structure GT (g:Gd):Prop where
 nm:nm 8 g.nm
 un:∀ y,g.un = some y -> My.nm 8 y
 cv:Bl g.cv
 de:num g.de
 wa:num g.wa
structure LT (l:Ld):Prop where
 nm:nm 8 l.nm
 at_:My.nm 8 l.at_
 cs:Bl l.cs
 la:num l.la
theorem num.len {n:Int} (h:num n):(nt n).length <= 61:=BF h.1 h.2
theorem BI {n:Nat} {x:Str} (h:nm n x):x.length <= n:=by
 have:=h.2.1
 simpa [Str.length] using this
def Fv (x:Str):Prop:=10 ∉ cs x
noncomputable instance (x:Str):Decidable (Fv x):=by unfold Fv; infer_instance
theorem D9.gt {b:Bd} (h:D9 b):∀ g ∈ b.gs,GT g:=fun g hg=>by
 refine ⟨h.nmg g hg,fun y hy=>?_,⟨(h.cv g hg).2.1,fun p hp=>?_⟩,h.de g hg,h.wa g hg⟩
 ·obtain ⟨dp,hd⟩:=h.un
  obtain ⟨i,hi⟩:=List.getElem?_of_mem hg
  obtain ⟨j,gj,_,e,rfl,_⟩:=(hd i g hi).2.2.2 y hy
  exact h.nmg gj (List.mem_of_getElem? e)
 ·have:=(h.cv g hg).2.2.1 p hp
  unfold num
  omega
theorem D9.lt {b:Bd} (h:D9 b):∀ l ∈ b.ls,LT l:=fun l hl=>by
 refine ⟨h.nml l hl,?_,⟨Nat.le_trans (h.cs4 l hl) (by decide),fun p hp=>?_⟩,h.la l hl⟩
 ·obtain ⟨g,hg,e⟩:=h.at_ l hl
  rw [<- e]; exact h.nmg g hg
 ·have:=h.cs l hl p hp
  unfold num
  omega
mutual
noncomputable def kn:D -> Bool
 | .non=>true
 | .bl _=>true
 | .int _=>true
 | .str x=>decide (x.length <= 100000)
 | .tup xs=>gF xs
 | .lst xs=>gF xs
 | .dic _=>true
 | _=>false
noncomputable def gF:List D -> Bool
 | []=>true
 | x :: xs=>kn x && gF xs
end
theorem M8:∀ {xs:List D},gF xs = true -> ∀ x ∈ xs,kn x = true
 | [],_,x,hx=>by cases hx
 | y :: xs,h,x,hx=>by
  simp only [gF,Bool.and_eq_true] at h
  rcases List.mem_cons.mp hx with rfl | hx
  ·exact h.1
  ·exact M8 h.2 x hx
noncomputable def Dc:D -> Bool
 | .int _=>true
 | _=>false
noncomputable def E9:D -> Bool
 | .int i=>decide (0 <= i) && decide (i < 10 ^ 60)
 | _=>false
noncomputable def posB (d:D):Bool:=E9 d && (match d with | .int i=>!decide (i = 0) | _=>true)
noncomputable def jk (c:Nat):Bool:=decide (97 <= c) && decide (c <= 122)
noncomputable def B4:D -> Bool
 | .str x=>decide (1 <= x.length) && decide (x.length <= 8) && (cs x).all jk
 | _=>false
noncomputable def R1:D -> Bool
 | .tup [a,b]=>posB a && posB b
 | _=>false
noncomputable def CD:D -> D -> Bool
 | .tup [.int a,.int b],.tup [.int c,.int d]=>decide (a < c) && decide (d < b)
 | _,_=>false
noncomputable def R4:List D -> Bool
 | x :: y :: r=>CD x y && R4 (y :: r)
 | _=>true
noncomputable def W3:D -> Bool
 | .tup xs=>decide (1 <= xs.length) && decide (xs.length <= 5) && xs.all R1 && R4 xs
 | _=>false
noncomputable def gM:D -> Bool
 | .tup [a,b]=>posB a && E9 b
 | _=>false
noncomputable def W5:D -> Bool
 | .tup xs=>decide (xs.length <= 4) && xs.all gM
 | _=>false
noncomputable def V9:D -> Bool
 | .tup [n,u,c,de,wa]=>B4 n && (bW u || B4 u) && W3 c && E9 de && E9 wa
 | _=>false
noncomputable def dg:D -> Bool
 | .tup [n,a,c,la,on]=>B4 n && B4 a && W5 c && E9 la && (aM on true || aM on false)
 | _=>false
def N2:Cp:=fun ds Q=>∃ d:D,ds = [d] /\ kn d = true /\ Q (.bl (Dc d))
def u9:Cp:=fun ds Q=>∃ d:D,ds = [d] /\ kn d = true /\ Q (.bl (E9 d))
def G7:Cp:=fun ds Q=>∃ d:D,ds = [d] /\ kn d = true /\ Q (.bl (B4 d))
def Q6:Cp:=fun ds Q=>∃ d:D,ds = [d] /\ kn d = true /\ Q (.bl (R1 d))
def M9:Cp:=fun ds Q=>∃ (a b c d:Int),ds = [.tup [.int a,.int b],.tup [.int c,.int d]] /\ Q (.bl (decide (a < c) && decide (d < b)))
def N0:Cp:=fun ds Q=>∃ d:D,ds = [d] /\ kn d = true /\ Q (.bl (W3 d))
def J0:Cp:=fun ds Q=>∃ d:D,ds = [d] /\ kn d = true /\ Q (.bl (W5 d))
def N3:Cp:=fun ds Q=>∃ d:D,ds = [d] /\ kn d = true /\ Q (.bl (V9 d))
def Q8:Cp:=fun ds Q=>∃ d:D,ds = [d] /\ kn d = true /\ Q (.bl (dg d))
def lY:j2:=(A6 (fR (S2 dI (g9 (e8 0) (g9 (uC (.ty "int")) j4))) (Fq (S2 dI (g9 (e8 0) (g9 (uC (.ty "bool")) j4))))))
def ix:j2:=(A6 (fR (u3 N2 (g9 (e8 0) j4)) (Z0 cL AY (uC (.int 0)) (e8 0) (uC (.int (10 ^ 60))))))
def jN:j2:=(A6 (uC (.bl false)))
def kg:j2:=(A6 (uC (.bl false)))
def kB:j2:=(X3 (tP (K5 (uT (Z0 cL cL (uC (.str "a")) (e8 1) (uC (.str "z")))))) kg x9)
def sR:j2:=(A6 (uC (.bl true)))
def hZ:j2:=(i8 (bV (iP (V4 (e8 0))) (g1 1) kB) sR)
def qR:j2:=(i8 (X3 (tP (jm (K5 (N4 (S2 dI (g9 (e8 0) (g9 (uC (.ty "str")) j4))))) (K5 (uT (Z0 cL cL (uC (.int 1)) (S2 X6 (g9 (e8 0) j4)) (uC (.int 8))))))) jN x9) hZ)
def jL:j2:=(A6 (uC (.bl false)))
def kj:j2:=(A6 (uC (.bl false)))
def W0:j2:=(X3 (tP (jm (K5 (N4 (u3 u9 (g9 (e8 1) j4)))) (uT (p6 (N6 false) (e8 1) (uC (.int 0)))))) kj x9)
def rQ:j2:=(A6 (uC (.bl true)))
def tB:j2:=(i8 (bV (iP (V4 (e8 0))) (g1 1) W0) rQ)
def qB:j2:=(i8 (X3 (tP (jm (K5 (N4 (S2 dI (g9 (e8 0) (g9 (uC (.ty "tuple")) j4))))) (uT (p6 (N6 true) (S2 X6 (g9 (e8 0) j4)) (uC (.int 2)))))) jL x9) tB)
def nc:j2:=(A6 (fR (p6 AY (x5 (e8 0) (uC (.int 0))) (x5 (e8 1) (uC (.int 0)))) (p6 DY (x5 (e8 0) (uC (.int 1))) (x5 (e8 1) (uC (.int 1))))))
def hX:j2:=(A6 (uC (.bl false)))
def gQ:j2:=(A6 (uC (.bl false)))
def gP:j2:=(X3 (tP (K5 (N4 (u3 Q6 (g9 (e8 1) j4))))) gQ x9)
def gW:j2:=(A6 (uC (.bl false)))
def gS:j2:=(X3 (tP (K5 (N4 (u3 M9 (g9 (e8 2) (g9 (e8 1) j4)))))) gW x9)
def oO:j2:=(A6 (uC (.bl true)))
def fU:j2:=(i8 (bV (iP (Fe true true (e8 0) (Du (e8 0) (mY (uC (.int 1))) lS))) (gT (u6 (g1 2) (u6 (g1 1) X2))) gS) oO)
def fG:j2:=(i8 (bV (iP (V4 (e8 0))) (g1 1) gP) fU)
def nK:j2:=(i8 (X3 (tP (jm (K5 (N4 (S2 dI (g9 (e8 0) (g9 (uC (.ty "tuple")) j4))))) (K5 (uT (Z0 cL cL (uC (.int 1)) (S2 X6 (g9 (e8 0) j4)) (uC (.int 5))))))) hX x9) fG)
def fH:j2:=(A6 (uC (.bl false)))
def gu:j2:=(A6 (uC (.bl false)))
def eW:j2:=(A6 (uC (.bl false)))
def fF:j2:=(X3 (tP (jm (K5 (N4 (u3 u9 (g9 (e8 2) j4)))) (jm (uT (p6 (N6 false) (e8 2) (uC (.int 0)))) (K5 (N4 (u3 u9 (g9 (e8 3) j4))))))) eW x9)
def eS:j2:=(i8 (xB (gT (u6 (g1 2) (u6 (g1 3) X2))) (e8 1)) fF)
def gi:j2:=(i8 (X3 (tP (jm (K5 (N4 (S2 dI (g9 (e8 1) (g9 (uC (.ty "tuple")) j4))))) (uT (p6 (N6 true) (S2 X6 (g9 (e8 1) j4)) (uC (.int 2)))))) gu x9) eS)
def mm:j2:=(A6 (uC (.bl true)))
def df:j2:=(i8 (bV (iP (V4 (e8 0))) (g1 1) gi) mm)
def iZ:j2:=(i8 (X3 (tP (jm (K5 (N4 (S2 dI (g9 (e8 0) (g9 (uC (.ty "tuple")) j4))))) (uT (p6 DY (S2 X6 (g9 (e8 0) j4)) (uC (.int 4)))))) fH x9) df)
def gK:j2:=(A6 (uC (.bl false)))
def gO:j2:=(A6 (uC (.bl false)))
def fK:j2:=(A6 (fR (u3 N0 (g9 (e8 3) j4)) (fR (u3 u9 (g9 (e8 4) j4)) (u3 u9 (g9 (e8 5) j4)))))
def pA:j2:=(i8 (X3 (tP (jm (K5 (N4 (u3 G7 (g9 (e8 1) j4)))) (K5 (jm (uT (p6 (dR false) (e8 2) (uC .non))) (N4 (u3 G7 (g9 (e8 2) j4))))))) gO x9) fK)
def oQ:j2:=(i8 (xB (gT (u6 (g1 1) (u6 (g1 2) (u6 (g1 3) (u6 (g1 4) (u6 (g1 5) X2)))))) (e8 0)) pA)
def og:j2:=(i8 (X3 (tP (jm (K5 (N4 (S2 dI (g9 (e8 0) (g9 (uC (.ty "tuple")) j4))))) (uT (p6 (N6 true) (S2 X6 (g9 (e8 0) j4)) (uC (.int 5)))))) gK x9) oQ)
def jG:j2:=(A6 (uC (.bl false)))
def jg:j2:=(A6 (uC (.bl false)))
def iQ:j2:=(A6 (fR (u3 J0 (g9 (e8 3) j4)) (fR (u3 u9 (g9 (e8 4) j4)) (HR (p6 (dR false) (e8 5) (uC (.bl true))) (p6 (dR false) (e8 5) (uC (.bl false)))))))
def sj:j2:=(i8 (X3 (tP (jm (K5 (N4 (u3 G7 (g9 (e8 1) j4)))) (K5 (N4 (u3 G7 (g9 (e8 2) j4)))))) jg x9) iQ)
def sE:j2:=(i8 (xB (gT (u6 (g1 1) (u6 (g1 2) (u6 (g1 3) (u6 (g1 4) (u6 (g1 5) X2)))))) (e8 0)) sj)
def qI:j2:=(i8 (X3 (tP (jm (K5 (N4 (S2 dI (g9 (e8 0) (g9 (uC (.ty "tuple")) j4))))) (uT (p6 (N6 true) (S2 X6 (g9 (e8 0) j4)) (uC (.int 5)))))) jG x9) sE)
def ye (q:D) (xs:List D):Prop:=q = .tup xs \/ q = .lst xs
noncomputable def R9:D -> Str
 | .tup (.str x :: _)=>x
 | _=>Str.empty
def pj (d:D):Prop:=∃ x r,d = .tup (.str x :: r)
def C8:Cp:=fun ds Q=>∃ (q:D) (xs:List D),ds = [q] /\ ye q xs /\ xs.length <= 100 /\ (∀ x ∈ xs,pj x) /\ Q (gC (xs.map R9))
structure jo (gs:List Gd):Prop where
 len:gs.length <= 16
 nd:(gs.map (·.nm)).Nodup
 un:FN gs
noncomputable def AL (gs:List Gd) (x:Str):Option Str:=match gs.find? (fun g=>decide (g.nm = x)) with
 | some g=>g.un
 | none=>none
noncomputable def ups (gs:List Gd):Nat -> Option Str -> List Str
 | 0,_=>[]
 | _ + 1,none=>[]
 | n + 1,some x=>x :: ups gs n (AL gs x)
def aj:Cp:=fun ds Q=>∃ (q:D) (gs:List Gd) (x:Str),ds = [q,.str x] /\ ye q (gs.map gD) /\ jo gs /\ (∃ g ∈ gs,g.nm = x) /\ Q (gC (ups gs 8 (some x)))
noncomputable def aR (gs:List Gd) (d:D):Bool:=V9 d && match d with
 | .tup (.str n :: .str y :: _)=>!decide (n ∈ gs.map (·.nm)) && decide (y ∈ gs.map (·.nm)) && decide ((ups gs 8 (some y)).length <= 7)
 | .tup (.str n :: _)=>!decide (n ∈ gs.map (·.nm))
 | _=>false
noncomputable def aP (xs ys:List Str) (d:D):Bool:=dg d && match d with
 | .tup (.str n :: .str a :: _)=>decide (a ∈ xs) && !decide (n ∈ xs) && !decide (n ∈ ys)
 | _=>false
def E8:Cp:=fun ds Q=>∃ (q:D) (gs:List Gd) (d:D),ds = [q,d] /\ ye q (gs.map gD) /\ jo gs /\ kn d = true /\ Q (.bl (aR gs d))
def J5:Cp:=fun ds Q=>∃ (q:D) (xs:List D) (p:D) (ys:List D) (d:D),ds = [q,p,d] /\ ye q xs /\ ye p ys /\ xs.length <= 100 /\ ys.length <= 100 /\ (∀ x ∈ xs,pj x) /\ (∀ x ∈ ys,pj x) /\ kn d = true /\ Q (.bl (aP (xs.map R9) (ys.map R9) d))
end My
namespace L2
open PySem PySem.Spec PyProof.Rows
def Fc (h:Heap) (e:Addr) (cls a0:Value) (T:Addr):Prop:=
 ∃ oe vs oT ts,h.get? e = some oe /\ oe.cls = cls /\ vs[0]? = some a0 /\ oe.data = .fields vs /\ vs[1]? = some (.ref T) /\ T ≠ e /\ h.get? T = some oT /\ oT.data = .fields ts /\ ts[3]? = some .none
structure Cj (l:List Env) (old:List Addr) (h h':Heap) (e:Addr) (cls a0:Value) (T:Addr):Prop where
 keep:∀ b o,h.get? b = some o -> b ≠ e -> b ∉ old -> b ∉ T3 l -> h'.get? b = some o
 slot:∀ b o,h.get? b = some o -> b ∈ T3 l -> ∃ sl,h'.get? b = some { o with slots:=sl }
 gN:Fc h' e cls a0 T
 new:T ∈ old \/ h.get? T = none
section
variable {M:Model} {A:Around} {E:Value -> Shared -> Prop} {s:Shared} {base:Heap} {env:Env} {outer:List Env} {L e:Addr} {Q:Unit -> Shared -> Prop}
end
end L2
namespace L2
open PySem PySem.Spec PyProof.Rows
theorem w8.is {P:Program} {w:World} {H:Hp} {h:Heap} {a:Addr} {o:HO} (x:w8 P w H h a o):∃ u,h.get? a = some u:=by
 cases o with
 | lst xs=>obtain ⟨_,_,_,_,e⟩:=x; exact ⟨_,e⟩
 | tup xs=>obtain ⟨_,_,_,⟨o,e,_⟩⟩:=x; exact ⟨_,e⟩
 | dK kvs=>obtain ⟨_,_,_,_,o,_,_,e,_⟩:=x; exact ⟨_,e⟩
 | dE kvs ep=>obtain ⟨_,_,_,_,o,_,e,_⟩:=x; exact ⟨_,e⟩
 | dT kvs=>obtain ⟨_,_,_,_,o,_,_,e,_⟩:=x; exact ⟨_,e⟩
 | set S n=>obtain ⟨o,_,_,_,e,_⟩:=x; exact ⟨_,e⟩
 | ins C dx fs=>obtain ⟨_,_,_,e,_⟩:=x; exact ⟨_,e⟩
 | own y=>exact x
 | xd fs=>obtain ⟨_,⟨_,_,_,e,_⟩,_⟩:=x; exact ⟨_,e⟩
 | rng lo hi=>obtain ⟨_,_,_,e⟩:=x; exact ⟨_,e⟩
 | frz ob u=>obtain ⟨e,_⟩:=x; exact ⟨_,e⟩
 | tbl ps=>exact ⟨_,(show h.get? a = some _ from x)⟩
 | met f y=>exact ⟨_,(show h.get? a = some _ from x)⟩
 | ext φ=>exact x.2.1
theorem P2.none_of {P:Program} {w:World} {H:Hp} {h:Heap} {a:Addr} (x:P2 P w H h) (e:h.get? a = none):H a = none:=by
 cases q:H a with
 | none=>rfl
 | some o=>
  obtain ⟨u,hu⟩:=(x a o q).is
  rw [e] at hu; cases hu
theorem P2.qu {P:Program} {w:World} {H:Hp} {h h':Heap} (x:P2 P w H h) (k:∀ b u,H b ≠ none -> h.get? b = some u -> h'.get? b = some u):P2 P w H h':=fun a o e=>
 (x a o e).jA (fun b u hb q=>k b u (hb.elim (fun hb=>by rw [hb,e]; intro z; cases z) fun hb=>by rw [hb]; intro z; cases z) q) (fun _ q=>q) fun _ _ q=>q
theorem zR {P:Program} {w:World} {env:Env} {outer:List Env} {L e T:Addr} {old:List Addr} {H H1:Hp} {h h1 h2:Heap} {cls a0:Value} (hf:env.frame = some L) (U:Un (T3 outer) [] H H1 h h1) (ok:P2 P w H1 h1)
  (hL:h.get? L = none) (he:h.get? e = none) (ho:∀ b ∈ old,h.get? b = none) (tL:H1 L = none) (te:H1 e = none) (to:∀ b ∈ old,H1 b = none) (tf:∀ b ∈ T3 outer,H1 b = none)
  (g:Cj (env :: outer) old h1 h2 e cls a0 T):Un (T3 outer) [] H H1 h h2 /\ P2 P w H1 h2 /\ H1 T = none /\ h.get? T = none:=by
 have inF:∀ b,b ∈ T3 (env :: outer) -> b = L \/ b ∈ T3 outer:=fun b hb=>by
  unfold T3 at hb
  rw [List.filterMap_cons,hf] at hb
  exact List.mem_cons.mp hb
 have ofF:∀ b,b ∈ T3 outer -> b ∈ T3 (env :: outer):=fun b hb=>by
  unfold T3 at hb ⊢
  rw [List.filterMap_cons,hf]
  exact List.mem_cons_of_mem _ hb
 have gk:∀ b o,h1.get? b = some o -> b ≠ L -> b ≠ e -> b ∉ old -> b ∉ T3 outer -> h2.get? b = some o:=fun b o hb n1 n2 n3 n4=>g.keep b o hb n2 n3 fun z=>(inF b z).elim n1 n4
 have st:∀ b o,h.get? b = some o -> b ≠ L /\ b ≠ e /\ b ∉ old:=fun b o hb=>⟨fun z=>(by rw [z,hL] at hb; cases hb),fun z=>(by rw [z,he] at hb; cases hb),fun z=>(by rw [ho b z] at hb; cases hb)⟩
 refine ⟨⟨fun b o hb hn hF _=>?_,fun b o hb hn hF hx=>?_,U.free,fun b o hb hx=>?_,U.L4,U.frzs,U.tbls⟩,ok.qu fun b u hb hu=>?_,?_,?_⟩
 ·obtain ⟨n1,n2,n3⟩:=st b o hb
  exact gk b o (U.keep b o hb hn hF (by simp)) n1 n2 n3 hF
 ·obtain ⟨sl,h3⟩:=U.slot b o hb hn hF hx
  obtain ⟨sl',h4⟩:=g.slot b _ h3 (ofF b hF)
  exact ⟨sl',h4⟩
 ·obtain ⟨n1,n2,n3⟩:=st b o hb
  obtain ⟨o',h3⟩:=U.there b o hb hx
  by_cases hF:b ∈ T3 outer
  ·obtain ⟨sl',h4⟩:=g.slot b _ h3 (ofF b hF)
   exact ⟨_,h4⟩
  ·exact ⟨o',gk b o' h3 n1 n2 n3 hF⟩
 ·exact gk b u hu (fun z=>hb (z ▸ tL)) (fun z=>hb (z ▸ te)) (fun z=>hb (to b z)) fun z=>hb (tf b z)
 ·rcases g.new with z | z
  ·exact to T z
  ·exact ok.none_of z
 ·rcases g.new with z | z
  ·exact ho T z
  ·cases q:h.get? T with
   | none=>rfl
   | some o=>
    obtain ⟨o',h3⟩:=U.there T o q (by simp)
    rw [z] at h3; cases h3
section
variable {P:Program} {w:World} {K:PySem.W.Frag} {mg:Str -> Option Value} {base:Heap} {N:List Str} {qual:Str} {scope:Scope} {f:Addr} {cd:Value} {A:Around} {outer:List Env} {s:Shared} {H:Hp} {E:XK}
 {pins:List (Addr × Obj)} {σ:St} {H1:Hp} {s1:Shared}
theorem tJ:s.heap.get? s.heap.objs.size = none:=by
 cases e:s.heap.get? s.heap.objs.size with
 | none=>rfl
 | some o=>exact absurd (Heap.lt_size e) (Nat.lt_irrefl _)
end
end L2
namespace L2
open PySem PySem.Spec PyProof.Rows
end L2
namespace L2
open PySem PySem.Spec PyProof.Rows
section
variable {M:Model} {A:Around} {E:Value -> Shared -> Prop} {s:Shared} {base:Heap} {env:Env} {outer:List Env} {L e:Addr} {Q:Unit -> Shared -> Prop}
end
theorem uu {P:Program} {w:World} {l:List Env} {e T:Addr} {old:List Addr} {H H1:Hp} {h h1 h2:Heap} {cls a0:Value} (U:Un (T3 l) [] H H1 h h1) (ok:P2 P w H1 h1)
  (he:h.get? e = none) (ho:∀ b ∈ old,h.get? b = none) (te:H1 e = none) (to:∀ b ∈ old,H1 b = none) (tf:∀ b ∈ T3 l,H1 b = none)
  (g:Cj l old h1 h2 e cls a0 T):Un (T3 l) [] H H1 h h2 /\ P2 P w H1 h2 /\ H1 T = none /\ h.get? T = none:=by
 have st:∀ b o,h.get? b = some o -> b ≠ e /\ b ∉ old:=fun b o hb=>⟨fun z=>(by rw [z,he] at hb; cases hb),fun z=>(by rw [ho b z] at hb; cases hb)⟩
 refine ⟨⟨fun b o hb hn hF _=>?_,fun b o hb hn hF hx=>?_,U.free,fun b o hb hx=>?_,U.L4,U.frzs,U.tbls⟩,ok.qu fun b u hb hu=>?_,?_,?_⟩
 ·obtain ⟨n2,n3⟩:=st b o hb
  exact g.keep b o (U.keep b o hb hn hF (by simp)) n2 n3 hF
 ·obtain ⟨sl,h3⟩:=U.slot b o hb hn hF hx
  obtain ⟨sl',h4⟩:=g.slot b _ h3 hF
  exact ⟨sl',h4⟩
 ·obtain ⟨n2,n3⟩:=st b o hb
  obtain ⟨o',h3⟩:=U.there b o hb hx
  by_cases hF:b ∈ T3 l
  ·obtain ⟨sl',h4⟩:=g.slot b _ h3 hF
   exact ⟨_,h4⟩
  ·exact ⟨o',g.keep b o' h3 n2 n3 hF⟩
 ·exact g.keep b u hu (fun z=>hb (z ▸ te)) (fun z=>hb (to b z)) fun z=>hb (tf b z)
 ·rcases g.new with z | z
  ·exact to T z
  ·exact ok.none_of z
 ·rcases g.new with z | z
  ·exact ho T z
  ·cases q:h.get? T with
   | none=>rfl
   | some o=>
    obtain ⟨o',h3⟩:=U.there T o q (by simp)
    rw [z] at h3; cases h3
section
variable {M:Model} {A:Around} {E:Value -> Shared -> Prop} {h:Heap} {g:Array GenState} {d:Drawn} {t:Nat} {os:OsState} {e C C':Addr} {oe:Obj} {Q:Bool -> Shared -> Prop}
 {nm q:Str} {N:Addr} {bs bm:List Value} {hdct:Bool} {sn:List Str} {sub:List Value} {ab:Bool} {col:Option Bool} {dd:Option Addr} {k0 k1 k2 k3 k5:Option Value} {newId:String}
 {nm' q':Str} {N':Addr} {bs' bm':List Value} {hdct':Bool} {sn':List Str} {sub':List Value} {ab':Bool} {col':Option Bool} {dd':Option Addr} {k0' k1' k2' k3' k5':Option Value} {newId':String}
theorem gZ (hC:h.get? C = some (excClassObj nm q C N bs bm hdct sn sub ab col dd k0 k1 k2 k3 k5 newId)) (hC':h.get? C' = some (excClassObj nm' q' C' N' bs' bm' hdct' sn' sub' ab' col' dd' k0' k1' k2' k3' k5' newId')) (he:h.get? e = some oe) (hcls:oe.cls = .ref C)
  (hbase:bm'.contains (.type "BaseException") = true) (hq:Q ((Value.ref C :: bm).contains (.ref C')) ⟨h,g,d,t,os⟩):wpAny M A (excMatches (.ref e) (.ref C')) Q E ⟨h,g,d,t,os⟩:=by
 have hcB:(Value.ref C' :: bm').contains (.type "BaseException") = true:=by rw [List.contains_cons,hbase,Bool.or_true]
 have f:=tc_notTuple
 unfold excMatches
 repeat (first | (with_reducible refine wpAny_loadPart_at he ?_; rw [hcls]) | with_reducible refine wpAny_loadPart_at hC' ?_ | (with_reducible refine wpAny_isSubtype_exc hC' ?_; rw [hcB]) | with_reducible refine wpAny_isSubtype_exc hC ?_ | wp_step)
 cases hb:(Value.ref C :: bm).contains (.ref C') <;> (rw [hb] at hq; wp_walk; exact hq)
end
end L2
namespace L2
open PySem PySem.Spec PyProof.Rows
noncomputable def Cx.M4 (X:Cx) (e:Addr) (oe:Obj) (F:Value -> Shared -> Prop):Cx:={ X with A:=X.A.mark (some (.ref e)),calm:=false,pn:=X.pn ++ [(e,oe)],xe:=F }
section
variable {X:Cx} {pins:List (Addr × Obj)} {σ:St} {H:Hp} {s:Shared} {e:Addr} {oe:Obj} {F:Value -> Shared -> Prop}
theorem Cx.Ok.M4 (ok:X.Ok):(X.M4 e oe F).Ok:=
 ⟨ok.mod,ok.kind,ok.glob,ok.blt,ok.above,ok.inj,ok.has,ok.cab,fun z=>absurd (show false = true from z) Bool.false_ne_true,ok.frames,ok.stk,ok.exf,ok.bs,ok.bsz,ok.noex,ok.exfs,ok.cQ,ok.frf⟩
theorem Inv.M4 (I:Inv X pins σ H s) (h1:s.heap.get? e = some oe) (h2:H e = none) (h3:e ≠ X.env.locals) (h4:e ∉ X.fs) (h5:∀ v,oe.data ≠ .cell v):Inv (X.M4 e oe F) pins σ H s:=by
 refine ⟨I.ok.M4,I.os,I.bare,I.base,I.loc,I.cell,I.free,I.freeC,fun p hp=>?_,I.hok,I.len⟩
 have hp:p ∈ (X.pn ++ [(e,oe)]) ++ pins:=hp
 rcases List.mem_append.mp hp with z | z
 ·rcases List.mem_append.mp z with z | z
  ·exact I.pin p (List.mem_append_left _ z)
  ·rw [List.mem_singleton.mp z]; exact ⟨h1,h2,h3,h4,h5⟩
 ·exact I.pin p (List.mem_append_right _ z)
theorem Inv.uncaught (ok:X.Ok) (I:Inv (X.M4 e oe F) pins σ H s):Inv X pins σ H s:=by
 refine ⟨ok,I.os,I.bare,I.base,I.loc,I.cell,I.free,I.freeC,fun p hp=>I.pin p ?_,I.hok,I.len⟩
 show p ∈ (X.pn ++ [(e,oe)]) ++ pins
 rcases List.mem_append.mp hp with z | z
 ·exact List.mem_append_left _ (List.mem_append_left _ z)
 ·exact List.mem_append_right _ z
end
end L2
namespace L2
open PySem PySem.Spec PyProof.Rows
structure CW (X:Cx) (pins:List (Addr × Obj)) (σ:St) (H:Hp) (s:Shared) (e T:Addr) (cls a0:Value):Prop where
 inv:Inv X pins σ H s
 gN:Fc s.heap e cls a0 T
 te:H e = none
 tT:H T = none
 from_:∃ H1 s1,Inv X pins σ H1 s1 /\ s.os = s1.os /\ AllBare s.gens /\ Un (T3 X.stack) [] H1 H s1.heap s.heap /\ s1.heap.get? e = none /\ s1.heap.get? T = none
section
variable {X:Cx} {pins:List (Addr × Obj)} {σ:St} {H:Hp} {s:Shared} {e T:Addr} {cls a0:Value} {E:XK} {x:Value} {Q:Unit -> Shared -> Prop} {M:Model} {A:Around} {E2:Value -> Shared -> Prop}
theorem Fc.apart {base:Heap} {l:List Env} {h:Heap} (f:Fc h e cls a0 T) (hl:h.FunFrames base l):e ∉ T3 l /\ T ∉ T3 l:=by
 obtain ⟨oe,vs,oT,ts,he,hc,h0,hd,h1,hTe,hT,hdT,h3⟩:=f
 refine ⟨fun z=>?_,fun z=>?_⟩
 ·obtain ⟨_,o,ho,hn⟩:=hl.mem z
  rw [he] at ho; cases ho; exact hn vs hd
 ·obtain ⟨_,o,ho,hn⟩:=hl.mem z
  rw [hT] at ho; cases ho; exact hn ts hdT
theorem CW.pin (hh:CW X pins σ H s e T cls a0) {F:Value -> Shared -> Prop}:∃ oe,oe.cls = cls /\ Inv (X.M4 e oe F) pins σ H s:=by
 have ap:=hh.gN.apart hh.inv.stack
 obtain ⟨oe,vs,oT,ts,he,hc,h0,hd,_⟩:=hh.gN
 refine ⟨oe,hc,hh.inv.M4 he hh.te (fun z=>?_) (fun z=>?_) fun v z=>by rw [hd] at z; cases z⟩
 ·obtain ⟨m,⟨o,es,ep,ho,hdd,_⟩,_⟩:=hh.inv.loc
  rw [<- z,he] at ho
  cases ho
  rw [hd] at hdd; cases hdd
 ·have f2:s.heap.FunFrames X.base X.outer:=by
   rcases hh.inv.ok.stk with q | ⟨q,_⟩
   ·rw [<- q]; exact hh.inv.stack
   ·have:=hh.inv.stack
    rw [q] at this
    exact this.2.2
  exact (hh.gN.apart f2).1 z
end
end L2
namespace L2
open PySem PySem.Spec PyProof.Rows
section
variable {X:Cx} {pins:List (Addr × Obj)} {σ:St} {H:Hp} {s:Shared} {i:Nat} {n:Str} {M:Model} {A:Around} {E:Value -> Shared -> Prop} {Q:Unit -> Shared -> Prop}
theorem Inv.GI (I:Inv X pins σ H s) (hN:X.N.Nodup) (hi:X.N[i]? = some n) (hk:X.env.scope.names.lookup n = some .local) {v:V} (hv:σ[i]? = some (some v)) (h:∀ s',Inv X pins (σ.set i none) H s' -> Q () s'):wpAny M A (unbindName X.env n) Q E s:=by
 obtain ⟨m,hn,hl⟩:=id I.loc
 have hcls:(X.env.scope.kind == .class || (X.env.scope.kind == .module && X.env.locals != X.env.globals)) = false:=by rw [I.ok.kind]; rfl
 have hiσ:i < σ.length:=(List.getElem?_eq_some_iff.mp hv).1
 have xw:=I.xw
 obtain ⟨u,r,lk⟩:=hl i n v hi hv (.inl hk)
 have hm:m n = some u:=by
  rcases lk with ⟨_,q⟩ | ⟨q,_⟩
  ·exact q
  ·rcases q with q | q
   ·rw [show X.env.kindOf n = X.env.scope.names.lookup n from rfl,hk] at q; cases q
   ·rw [show X.env.kindOf n = X.env.scope.names.lookup n from rfl,hk] at q; cases q
 refine wpAny_unbindName_local hk hn hm hcls fun h' w' hn' hs=>?_
 obtain ⟨oL,_,_,hoL,_⟩:=id hn
 refine h _ ⟨I.ok,I.os,I.bare,⟨fun b o e n hb hx=>?_,fun b o e n hb hx=>?_,I.base.free,fun b o e hx=>?_,I.base.L4,I.base.frzs,I.base.tbls⟩,⟨_,hn',fun j y v' e1 e2 e3=>?_⟩,fun y c e=>?_,I.free,I.freeC,fun p hp=>?_,P2.qu I.hok fun b u hb hu=>(hs.2 b fun z=>hb (z ▸ I.free)).trans hu,by simpa using I.len⟩
 ·exact (hs.2 b (Nat.ne_of_lt (Nat.lt_of_lt_of_le (Heap.lt_size e) I.ok.above))).trans (I.base.keep b o e n hb hx)
 ·obtain ⟨sl,e1⟩:=I.base.slot b o e n hb hx
  exact ⟨sl,(hs.2 b (Nat.ne_of_lt (Nat.lt_of_lt_of_le (Heap.lt_size e) I.ok.above))).trans e1⟩
 ·obtain ⟨o',e1⟩:=I.base.there b o e hx
  exact ⟨o',(hs.2 b (Nat.ne_of_lt (Nat.lt_of_lt_of_le (Heap.lt_size e) I.ok.above))).trans e1⟩
 ·by_cases hj:j = i
  ·subst hj
   rw [List.getElem?_set_self hiσ] at e2
   cases e2
  ·rw [List.getElem?_set_ne (Ne.symm hj)] at e2
   obtain ⟨u',r',q⟩:=hl j y v' e1 e2 e3
   refine ⟨u',r',?_⟩
   rcases q with ⟨k,e⟩ | ⟨k,c,e,z⟩
   ·refine .inl ⟨k,?_⟩
    have:y ≠ n:=fun e=>hj (eQ hN e1 (e ▸ hi))
    show (if y = n then w' else m y) = some u'
    rw [if_neg this]; exact e
   ·exact .inr ⟨k,c,e,z.sameBut hs (xw y c e)⟩
 ·obtain ⟨w',z⟩:=I.cell y c e
  exact ⟨w',z.sameBut hs (xw y c e)⟩
 ·obtain ⟨e,n,ne,nf,d⟩:=I.pin p hp
  exact ⟨(hs.2 p.1 ne).trans e,n,ne,nf,d⟩
theorem Inv.bu {pos:Pos} (I:Inv X pins σ H s) (hN:X.N.Nodup) (hi:X.N[i]? = some n) (hk:X.env.scope.names.lookup n = some .local) (h:∀ s',Inv X pins (σ.set i none) H s' -> Q () s') :
  wpAny M A (do bindName X.env n .none; unbindBehindTheSuite X.env n pos) Q E s:=by
 have hiσ:i < σ.length:=by rw [I.len]; exact (List.getElem?_eq_some_iff.mp hi).1
 refine wpAny_bind (wpAny_bindName (T7 (v:=.non) I hN hi (.inl hk) rfl (fun s1 I1 _=>?_) (.inr hk)))
 unfold unbindBehindTheSuite
 refine wpAny_onRaise (I1.GI hN hi hk (List.getElem?_set_self hiσ) fun s' I'=>h s' ?_)
 rw [List.set_set] at I'
 exact I'
end
def Under (base:Heap) (C B:Addr) (b:Bool):Prop:=
 (∃ nm q N bs bm hdct sn sub ab col dd k0 k1 k2 k3 k5 newId,base.get? C = some (excClassObj nm q C N bs bm hdct sn sub ab col dd k0 k1 k2 k3 k5 newId) /\ (Value.ref C :: bm).contains (.ref B) = b) /\
 ∃ nm q N bs bm hdct sn sub ab col dd k0 k1 k2 k3 k5 newId,base.get? B = some (excClassObj nm q B N bs bm hdct sn sub ab col dd k0 k1 k2 k3 k5 newId) /\ bm.contains (.type "BaseException") = true
end L2
namespace L3
open PySem PySem.Spec PySem.Calls PyProof.Rows L2
noncomputable abbrev Io:=List D -> (D -> Prop) -> (Str -> Prop) -> Prop
def calm (c:Io):Cp:=fun ds Q=>c ds Q fun _=>False
section
variable {X:Cx} {cl:List Cl} {e:Expr} {es:List Expr} {pos p:Pos} {us:ck} {k:Nat} {fn:Addr} {fd:FuncData} {ps:List Str} {x:Str}
end
theorem E3.unset {K:PySem.W.Frag} {G:Ent} {ρ:Ev} {σ:L2.St} {H:Hp} {fa:Nat -> List Addr} (E:E3 K G ρ σ H fa) (i:Nat) (ho:¬ G.own i):E3 K G (ρ.set i none) (σ.set i none) H (fun j=>if j = i then [] else fa j):=by
 have nj:∀ j,G.own j -> j ≠ i:=fun j hj e=>ho (e ▸ hj)
 refine ⟨fun j d e=>?_,fun j e=>?_,by simp [E.len],fun j hj=>?_,fun j l n hj a ha=>?_,fun j hj h=>?_,fun j hj h a ha=>?_,fun j hj a ha=>?_,E.frm,E.stb,E.zk,E.zn,fun j hj a ha=>?_,E.po⟩
 ·by_cases q:j = i
  ·subst q
   by_cases hl:j < ρ.length
   ·rw [List.getElem?_set_self hl] at e; cases e
   ·rw [List.getElem?_eq_none (by simpa using hl)] at e; cases e
  ·rw [List.getElem?_set_ne (Ne.symm q)] at e
   obtain ⟨v,e1,r⟩:=E.rep j d e
   refine ⟨v,by rw [List.getElem?_set_ne (Ne.symm q)]; exact e1,?_⟩
   rw [if_neg q]; exact r
 ·show (if j = i then [] else fa j) = []
  by_cases q:j = i
  ·rw [if_pos q]
  ·rw [if_neg q]
   refine E.emp j fun d z=>e d ?_
   rw [List.getElem?_set_ne (Ne.symm q)]; exact z
 ·show (if j = i then [] else fa j).Nodup
  by_cases q:j = i
  ·rw [if_pos q]; exact List.nodup_nil
  ·rw [if_neg q]; exact E.nd j hj
 ·have ha:a ∈ (if j = i then [] else fa j):=ha
  rw [if_neg (nj j hj)] at ha
  show a ∉ (if l = i then [] else fa l)
  by_cases q:l = i
  ·rw [if_pos q]; intro z; cases z
  ·rw [if_neg q]; exact E.dj j l n hj a ha
 ·rw [List.getElem?_set_ne (Ne.symm (nj j h))]; exact E.par j hj h
 ·have ha:a ∈ (if j = i then [] else fa j):=ha
  rw [if_neg (nj j h)] at ha
  exact E.old j hj h a ha
 ·have ha:a ∈ (if j = i then [] else fa j):=ha
  by_cases q:j = i
  ·rw [if_pos q] at ha; cases ha
  ·rw [if_neg q] at ha; exact E.new j hj a ha
 ·have ha:a ∈ (if j = i then [] else fa j):=ha
  rw [if_neg (nj j hj)] at ha
  exact E.zo j hj a ha
theorem Iw {CX:oV} {Wt:Type} {Wi:Wt -> Hp -> XK -> Prop} {P:Program} {w:World} {K:PySem.W.Frag} {mg:Str -> Option Value} {base:Heap} {x qual:Str} {st:Stmt} {f:Addr} {fd:FuncData} {N ps:List Str} {k:Nat} {c:List D -> (D -> Prop) -> Wt -> Prop} {s:Wt -> j2} {cl:List Cl} (F:X1 K x qual st f fd) (S:o4 N ps (g6 st)) (hcl:noOwn cl ps.length = true)
  (hl:∀ ds Q W,c ds Q W -> ds.length = ps.length)
  (hb:∀ (W:Wt) (cdv:Value) (A:Around) (outer:List Env) (s0:Shared) (H:Hp) (E:XK),E6 k (A.deeper (envOfC qual (g6 st) s0.heap.objs.size f cdv)) -> Wi W H E -> gR (bR CX P w K mg base N qual (g6 st) f cdv A outer s0 H E) (cl ++ [.mk H]) (j8 st) (s W))
  (hc:∀ ds Q W,c ds Q W -> s W { nx:=fun _=>Q .non,rt:=fun d _=>Q d } (i5 N.length ds)):y4 P w K mg base CX (k + 1) f fd ps (fun vs H Q E=>∃ ds A Qd W,n8 K H vs ds A /\ c ds Qd W /\ (∀ r v H' B,Qd r -> i7 H H' -> Rep K H' v r B -> B.Nodup -> (∀ a ∈ B,H a = none) -> Q v H') /\ Wi W H E):=by
 obtain ⟨oc,od,kV,doc,pm,an,cdv,ct,osl,rfl,lk,hcd⟩:=F.ex
 refine Bm lk hcd S (fun vs H Q E h=>?_) fun A outer s0 H vs Q E hr h=>?_
 ·obtain ⟨ds,A,Qd,W,r,q,_⟩:=h
  rw [r.length]; exact hl ds Qd W q
 ·obtain ⟨ds,B,Qd,W,r,q,kk,wi⟩:=h
  have hlen:=hl ds Qd W q
  obtain ⟨t,pt,h⟩:=(hb W cdv A outer s0 H E hr wi).run
  obtain ⟨fa,h1,h2⟩:=r.each
  let G:Ent:=⟨H,fun _=>[],vs,cl ++ [.mk H],fun _=>False,H⟩
  have vl:vs.length = ps.length:=r.length.trans hlen
  have bor:∀ i,i < vs.length -> (cl ++ [Cl.mk H])[i]? = some .bor:=fun i hi=>by
   have q:=ay hcl (show i < ps.length by omega)
   rw [List.getElem?_append_left (List.getElem?_eq_some_iff.mp q).1]; exact q
  have nown:∀ i,i < vs.length -> ¬ G.own i:=fun i hi z=>by
   have z':(cl ++ [Cl.mk H])[i]? = some .own:=z
   rw [bor i hi] at z'; cases z'
  have far:∀ i,G.own i -> fa i = []:=fun i hi=>h2 i (by
   have q1:¬ i < vs.length:=fun q=>nown i q hi
   have q2:=r.length
   omega)
  have mkI:∀ (j:Nat) (H':Hp),(cl ++ [Cl.mk H])[j]? = some (.mk H') -> H' = H:=fun j H' e=>by
   by_cases hj:j < cl.length
   ·rw [List.getElem?_append_left hj] at e
    exact (bA hcl e).elim
   ·rw [List.getElem?_append_right (by omega)] at e
    cases hk:j - cl.length with
    | zero=>rw [hk] at e; cases e; rfl
    | succ m=>rw [hk] at e; cases e
  have E0:E3 K G (i5 N.length ds) (L2.start N vs) H fa:=by
   refine ⟨fun i d e=>?_,fun i e=>h2 i ?_,bh r.length.symm,fun i hi=>?_,fun i j _ hi a ha=>?_,fun i hi ho=>absurd ho (nown i hi),fun i hi ho=>absurd ho (nown i hi),fun i hi a ha=>?_,fun a o h _=>h,T9.refl H,fun a z=>z.elim,fun a z=>z.elim,fun i _ a _ z=>z,⟨fun i hi ho=>absurd ho (nown i hi),fun j H' e a o hao=>?_⟩⟩
   ·obtain ⟨v,e1,r1⟩:=h1 i d (aZ e)
    exact ⟨v,F0 e1,r1⟩
   ·by_cases hi:i < ds.length
    ·exact absurd (aD (List.getElem?_eq_getElem hi)) (e _)
    ·omega
   ·rw [h2 i (by
     by_cases q:i < ds.length
     ·rcases hi with hi | hi
      ·exact absurd hi (nown i (by have:=r.length; omega))
      ·have z':(cl ++ [Cl.mk H])[i]? = some .loc:=hi
       rw [bor i (by have:=r.length; omega)] at z'; cases z'
     ·omega)]; exact List.nodup_nil
   ·rw [far i hi] at ha; cases ha
   ·rcases hi with hi | hi
    ·have:¬ i < vs.length:=fun q=>by
      have z':(cl ++ [Cl.mk H])[i]? = some .loc:=hi
      rw [bor i q] at z'; cases z'
     rw [h2 i (by have:=r.length; omega)] at ha; cases ha
    ·rw [far i hi.1] at ha; cases ha
   ·have e:H' = H:=mkI j H' e
    subst e
    exact ⟨hao,fun i hi ho=>absurd ho (nown i hi)⟩
  refine ⟨t,pt,h G _ _ _ H fa _ rfl E0 (hc ds Qd W q) ⟨fun σ' H' q'=>?_,fun v H' q'=>?_,fun _ _ z=>?_,fun _ _ z=>?_⟩⟩
  ·obtain ⟨ρ',fa',E',q'⟩:=q'
   exact kk .non .non H' [] q' (E'.kept (j:=cl.length) (show (cl ++ [Cl.mk H])[cl.length]? = some (.mk H) from by rw [List.getElem?_append_right (Nat.le_refl _),Nat.sub_self]; rfl)) .non List.nodup_nil (fun _ h=>(by cases h))
  ·obtain ⟨d,ρ',σ',fa',B',E',r',n',new',_,q'⟩:=q'
   exact kk d v H' B' q' (E'.kept (j:=cl.length) (show (cl ++ [Cl.mk H])[cl.length]? = some (.mk H) from by rw [List.getElem?_append_right (Nat.le_refl _),Nat.sub_self]; rfl)) r' n' new'
  ·obtain ⟨_,_,_,z⟩:=z; exact z
  ·obtain ⟨_,_,_,z⟩:=z; exact z
section
variable {X:Cx} {cl:List Cl} {e:Expr} {es:List Expr} {pos cpos hpos np p:Pos} {us:ck} {k:Nat} {fn:Addr} {fd:FuncData} {ps:List Str} {x y bn n:Str} {i:Nat}
end
end L3
namespace PySem.W
open PySem PySem.Calls PyProof.Rows Builtin Builtin.ObjectAttr Builtin.Getset_descriptor
section
variable {K:Frag} {prog:Program} {w:World} {A:Around} {E:Value -> Shared -> Prop} {s:Shared} {e D:Addr} {oe:Obj}
end
end PySem.W
namespace PySem.W
open PySem PySem.Calls PyProof.Rows Builtin Builtin.ObjectAttr Builtin.Getset_descriptor
theorem vi:builtinKind "BaseException.__getattribute__" = some .slot:=by decide +kernel
theorem sL:splitId "BaseException.__getattribute__" = some ("BaseException", "__getattribute__"):=by decide +kernel
theorem rW:plainId "BaseException.__getattribute__" = true:=by decide +kernel
theorem vj (v:Value):bindSpecial (.builtin "BaseException.__getattribute__") v = pure (.builtin "BaseException.__getattribute__",[v]):=by kernel_rfl
section
variable {K:Frag} {prog:Program} {w:World} {A:Around} {E:Value -> Shared -> Prop} {s:Shared} {e D:Addr} {oe:Obj}
theorem tR {M:Model} {nv:Value} {h:Heap} {g:Array GenState} {d:Drawn} {t:Nat} {os:OsState} {Q:Unit -> Shared -> Prop} (L0:Looks M h (typeOf (.ref e)) (.ref D)) (Lb:Looks M h (isSubtype (.ref D) (.type "BaseException")) true)
  (hq:Q () ⟨h,g,d,t,os⟩):wpAny M A (checkBuiltinCall "BaseException.__getattribute__" ⟨[.ref e,nv],[]⟩) Q E ⟨h,g,d,t,os⟩:=by
 have ha:=F.args_bexc_ga (.ref e) nv
 simp only [checkBuiltinCall,vi,sL]
 refine wpAny_bind ?_
 unfold isInstance
 refine wpAny_bind (L0.at (Lb.at ?_))
 refine wpAny_of_eq (show _ = pure () from ?_) hq
 unfold argsOk at ha
 revert ha
 generalize Manifest.signature? "BaseException.__getattribute__" = o
 intro ha
 cases o <;> exact ha
end
end PySem.W
namespace PySem.W
open PySem PySem.Calls PyProof.Rows
structure mK (K:Frag) (D:Addr):Prop where
 ga:findIn K (.ref D) "__getattribute__" = some (some (.builtin "BaseException.__getattribute__"))
 gn:findIn K (.ref D) "__getattr__" = some none
 cl:findIn K (.ref D) "__class__" = some (some (.builtin "object.__class__"))
 sp:specialIn K (.builtin "object.__class__") "__get__" = some (some (.builtin "getset_descriptor.__get__"))
 tk:takesIn K (.builtin "object.__class__") = some true
 ob:mroIn K D (.type "object") = some true
 be:mroIn K D (.type "BaseException") = some true
section
variable {K:Frag} {D e:Addr}
theorem mK.at (B:mK K D):∃ c d cd sl,K.lookup D = some ⟨c,d,.cls cd,sl⟩:=by
 have h:=B.ob
 unfold mroIn clsIn at h
 split at h
 ·rename_i c d cd sl ho
  exact ⟨_,_,_,_,ho⟩
 ·cases h
end
end PySem.W
namespace L3
open PySem PySem.Spec PySem.Calls PyProof.Rows PySem.W L2
section
variable {X:Cx} {cl:List Cl} {e C:Addr} {oe:Obj} {pos p p1 p2:Pos} {n y:Str} {i:Nat} {b:Bool}
end
end L3
namespace L2
open PySem PySem.Spec PyProof.Rows
end L2
namespace L3
open PySem PySem.Spec PyProof.Rows L2
section
variable {X:Cx} {cl:List Cl} {tg e a kx:Expr} {f fb:Fl} {ua ub:TU} {pos p:Pos}
end
end L3
namespace PySem.SeqAt
open PySem MeetsSeq MeetsSeq2 MeetsSeq3 SeqRoads2
end PySem.SeqAt
namespace PySem.SeqAt
open PySem MeetsSeq MeetsSeq2 MeetsSeq3 SeqRoads2
section
variable {A:Around} {s:Shared}
end
end PySem.SeqAt
namespace L2
open PySem PySem.Spec PyProof.Rows
section
variable {X:Cx}
end
end L2
namespace L3
open PySem PySem.Spec PyProof.Rows L2
section
variable {X:Cx} {cl:List Cl} {a b:Expr} {fa fb:Fl} {ua ub:TU} {pos:Pos}
end
end L3
namespace L2
open PySem PySem.Spec PyProof.Rows
section
variable {X:Cx}
end
end L2
namespace L3
open PySem PySem.Spec L2
section
variable {X:Cx} {cl:List Cl} {a:Expr} {fa:Fl} {ua:TU} {pos:Pos}
end
end L3
namespace PySem
end PySem
namespace L2
open PySem PySem.Spec PyProof.Rows
section
variable {X:Cx} {pins:List (Addr × Obj)} {σ:St}
end
end L2
namespace L3
open PySem PySem.Spec PyProof.Rows L2
section
variable {X:Cx}
end
end L3
namespace L2
open PySem PySem.Spec PyProof.Rows
section
variable {X:Cx} {e c:Expr} {te:TE} {pos p2:Pos}
end
end L2
namespace L3
open PySem PySem.Spec L2
section
variable {X:Cx} {cl:List Cl} {a c:Expr} {fa:Fl} {ua uc:TU} {pos p2:Pos}
end
end L3
namespace L2
open PySem PySem.Spec PySem.Calls PyProof.Rows
section
variable {X:Cx} {pins:List (Addr × Obj)} {σ:St} {H:Hp} {s:Shared}
end
end L2
namespace L3
open PySem PySem.Spec PySem.Calls PyProof.Rows L2
section
variable {X:Cx} {cl:List Cl} {e:Expr} {es:List Expr} {pos cpos hpos np p:Pos} {us:ck} {k m:Nat} {x y bn n:Str} {i j:Nat} {AP:Addr -> Prop}
end
end L3
namespace L3
open PySem PySem.Spec PySem.Calls PyProof.Rows L2
section
variable {X:Cx} {cl:List Cl} {e:Expr} {es:List Expr} {pos p:Pos} {us:ck} {k:Nat} {fn:Addr} {fd:FuncData} {ps:List Str} {x:Str} {ua:TU} {f:Fl} {ma:TM}
end
end L3
namespace L2
open PySem PySem.Spec PyProof.Rows
section
variable {X:Cx}
end
end L2
namespace L2
open PySem PySem.Spec PyProof.Rows
section
variable {X:Cx}
end
end L2
namespace L3
open PySem PySem.Spec L2
section
variable {X:Cx} {cl:List Cl} {e a b tg:Expr} {es:List Expr} {f:Fl} {pos:Pos} {ua ub:TU} {fa fb:Fl} {us:ck} {x y:Str}
end
end L3
namespace L2
open PySem PySem.Spec PyProof.Rows
namespace RT
end RT
def BG (h:Heap) (a t:Addr) (i:Int):Prop:=∃ o,h.get? a = some o /\ o.cls = .type "reversed" /\ o.data = .fields #[.ref t,rawInt i]
section
variable {prog:Program} {w:World} {A:Around} {E:Value -> Shared -> Prop} {s:Shared}
theorem BG.at {h h':Heap} {a t:Addr} {i:Int} (x:BG h a t i) (e:∀ o,h.get? a = some o -> h'.get? a = some o):BG h' a t i:=let ⟨o,ho,r⟩:=x; ⟨o,e _ ho,r⟩
end
end L2
namespace L3
open PySem PySem.Spec PyProof.Rows L2
section
variable {X:Cx} {cl:List Cl} {tg e:Expr} {f:Fl} {ua:TU} {pos p:Pos}
end
end L3
namespace L2
open PySem PySem.Spec PyProof.Rows
section
variable {X:Cx}
end
end L2
namespace L3
open PySem PySem.Spec PySem.Calls PyProof.Rows L2
section
variable {X:Cx} {cl:List Cl} {e a b:Expr} {es:List Expr} {pos cpos hpos np p:Pos} {us:ck} {ua ub:TU} {fa fb:Fl} {ma:TM} {k:Nat} {fn:Addr} {fd:FuncData} {ps:List Str} {x y bn:Str} {i:Nat}
end
end L3
namespace L2
open PySem PySem.Spec PyProof.Rows
end L2
namespace L3
open PySem PySem.Spec PySem.Calls PyProof.Rows L2
section
variable {X:Cx} {cl:List Cl} {tg e a b:Expr} {es:List Expr} {pos p2 vp:Pos} {ua ub:TU} {f fa fb:Fl} {ma mb:TM} {x:Str} {i:Nat}
theorem P5 {K:PySem.W.Frag} {H:Hp}:∀ {vs:List V} {ns:List Int} {A:List Addr},n8 K H vs (ns.map D.int) A -> vs = ns.map V.int
 | _,[],_,.nil=>rfl
 | _,n :: ns,_,.cons h r=>by cases h; rw [P5 r]; rfl
end
end L3
namespace L3
open PySem PySem.Spec PySem.Calls PyProof.Rows L2
section
variable {X:Cx} {cl:List Cl} {tg e a b:Expr} {es:List Expr} {pos p2 vp:Pos} {ua ub:TU} {f fa fb:Fl} {ma mb:TM} {x y:Str} {i j:Nat}
end
end L3
namespace L2
open PySem PySem.Spec PyProof.Rows PySem.SeqAt
end L2
namespace L3
open PySem PySem.Spec PySem.Calls PyProof.Rows L2
section
variable {X:Cx} {cl:List Cl} {e a b:Expr} {pos:Pos} {ua ub:TU} {fa fb:Fl}
end
end L3
namespace L2
open PySem PySem.Spec PyProof.Rows
def lu (h:Heap) (e:Addr) (cls a0:Value) (T:Addr) (od:Option Addr):Prop:=
 ∃ oe vs oT ts,h.get? e = some oe /\ oe.cls = cls /\ oe.dict = od /\ vs[0]? = some a0 /\ oe.data = .fields vs /\ vs[1]? = some (.ref T) /\ T ≠ e /\ h.get? T = some oT /\ oT.data = .fields ts /\ ts[3]? = some .none
theorem lu.gN {h:Heap} {e:Addr} {cls a0:Value} {T:Addr} {od:Option Addr} (f:lu h e cls a0 T od):Fc h e cls a0 T:=
 let ⟨oe,vs,oT,ts,he,hc,_,h0,hd,h1,hTe,hT,hdT,h3⟩:=f; ⟨oe,vs,oT,ts,he,hc,h0,hd,h1,hTe,hT,hdT,h3⟩
structure iK (l:List Env) (old:List Addr) (h h':Heap) (e:Addr) (cls a0:Value) (T:Addr) (od:Option Addr):Prop where
 keep:∀ b o,h.get? b = some o -> b ≠ e -> b ∉ old -> b ∉ T3 l -> h'.get? b = some o
 slot:∀ b o,h.get? b = some o -> b ∈ T3 l -> ∃ sl,h'.get? b = some { o with slots:=sl }
 gN:lu h' e cls a0 T od
 new:T ∈ old \/ h.get? T = none
theorem iK.gone {l:List Env} {old:List Addr} {h h':Heap} {e:Addr} {cls a0:Value} {T:Addr} {od:Option Addr} (g:iK l old h h' e cls a0 T od):Cj l old h h' e cls a0 T:=⟨g.keep,g.slot,g.gN.gN,g.new⟩
theorem eT (o:Obj) (f:Array Value -> Array Value):(o.mapFields f).dict = o.dict:=by
 obtain ⟨c,d,dt,sl⟩:=o
 cases dt <;> rfl
section
variable {M:Model} {A:Around} {E:Value -> Shared -> Prop} {s:Shared} {base:Heap} {env:Env} {outer:List Env} {L e:Addr} {Q:Unit -> Shared -> Prop}
theorem rm {oe:Obj} {vs:Array Value} {a0 head:Value} {hn:Bool} (hfr:A.frames = some (env :: outer)) (hl:s.heap.FunFrames base (env :: outer)) (hf:env.frame = some L) (he:s.heap.get? e = some oe) (hd:oe.data = .fields vs) (hsz:1 < vs.size) (h0:vs[0]? = some a0)
  (h:∀ h' T,iK (env :: outer) [] s.heap h' e oe.cls a0 T oe.dict -> Q () { s with heap:=h' }) :
  wpAny M A (do let a <- frameOf env; let pl <- entryPlaceOf L hn; let b <- EntryCells.newEntry head a .none (rawInt L) .none pl; setField (.ref e) 1 b) (fun _ s2=>wpAny M A (setFlight (.ref e) none) Q E s2) E s:=by
 have ef:e ∉ T3 (env :: outer):=fun z=>by
  obtain ⟨_,o,ho,hx⟩:=hl.mem z
  rw [he] at ho; cases ho; exact hx vs hd
 refine wpAny_bind (wpAny_frameOf_fun hfr hl hf fun h1 q1=>wpAny_bind (wpAny_entryPlaceOf fun pl hp=>?_))
 unfold EntryCells.newEntry newFields
 refine wpAny_bind (wpAny_newObj_type ?_ (hp.sizeOk5 _ _ _ _ _))
 generalize hob:({ cls:=.type "traceback",dict:=none,data:=.fields ([head,.ref L,.none,rawInt L,.none] ++ (if pl.isEmpty then List.replicate 6 Value.none else pl)).toArray }:Obj) = tb
 obtain ⟨ts,ht,ht3⟩:∃ ts,tb.data = .fields ts /\ 3 < ts.size:=⟨_,by rw [<- hob],by simp only [List.size_toArray,List.length_append,List.length_cons,List.length_nil]; omega⟩
 have e1:h1.get? e = some oe:=(q1.2.1 e ef).trans he
 have te:h1.objs.size ≠ e:=Nat.ne_of_gt (Heap.lt_size e1)
 have e2:(h1.push tb).get? e = some oe:=Heap.get?_push_of_some tb e1
 refine wpAny_setField e2 hd hsz ?_
 generalize hf1:(Obj.mapFields fun x=>x.setIfInBounds 1 (Value.ref h1.objs.size)) = f1
 have d1:(f1 oe).data = .fields (vs.setIfInBounds 1 (Value.ref h1.objs.size)):=by rw [<- hf1]; exact Obj.data_mapFields hd _
 have c1:(f1 oe).cls = oe.cls:=by rw [<- hf1]; exact Obj.cls_mapFields _ _
 have dd1:(f1 oe).dict = oe.dict:=by rw [<- hf1]; exact eT _ _
 have e3:((h1.push tb).update e f1).get? e = some (f1 oe):=Heap.get?_update_self f1 e2 (Obj.isFreed_of_fields d1)
 have frz:tb.isFreed = false:=Obj.isFreed_of_fields ht
 have t3:((h1.push tb).update e f1).get? h1.objs.size = some tb:=(Heap.get?_update_other _ f1 te.symm).trans (Heap.get?_push_size h1 frz)
 show wpAny M A (setFlight (.ref e) none) Q E { s with heap:=(h1.push tb).update e f1 }
 refine wpAny_setFlight_none e3 d1 (by simp [hsz]) t3 ht ht3 (h _ h1.objs.size ?_)
 show iK (env :: outer) [] s.heap (((h1.push tb).update e f1).update h1.objs.size (Obj.mapFields fun x=>x.setIfInBounds 3 Value.none)) e oe.cls a0 h1.objs.size oe.dict
 generalize hf2:(Obj.mapFields fun x=>x.setIfInBounds 3 Value.none) = f2
 have keep:∀ b o,b ≠ e -> h1.get? b = some o -> (((h1.push tb).update e f1).update h1.objs.size f2).get? b = some o:=fun b o ne hb=>by
  rw [Heap.get?_update_other _ f2 (Nat.ne_of_gt (Heap.lt_size hb)),Heap.get?_update_other _ f1 ne.symm]
  exact Heap.get?_push_of_some tb hb
 refine ⟨fun b o hb n1 _ n3=>keep b o n1 ((q1.2.1 b n3).trans hb),fun b o hb hm=>?_,?_,.inr ?_⟩
 ·obtain ⟨sl,z⟩:=q1.2.2 b o hb
  exact ⟨sl,keep b _ (fun w=>ef (w ▸ hm)) z⟩
 ·refine ⟨f1 oe,_,_,_,(Heap.get?_update_other _ f2 te).trans e3,c1,dd1,?_,d1,by simp [hsz],te,Heap.get?_update_self f2 t3 (Obj.isFreed_of_fields (by rw [<- hf2]; exact Obj.data_mapFields ht _)),by rw [<- hf2]; exact Obj.data_mapFields ht _,by simp [ht3]⟩
  rw [Array.getElem?_setIfInBounds_ne (by decide)]; exact h0
 ·cases q:s.heap.get? h1.objs.size with
  | none=>rfl
  | some o=>
   obtain ⟨sl,z⟩:=q1.2.2 _ o q
   exact absurd (Heap.lt_size z) (Nat.lt_irrefl _)
theorem jY {oe:Obj} {vs:Array Value} {a0:Value} (hfr:A.frames = some (env :: outer)) (hl:s.heap.FunFrames base (env :: outer)) (hf:env.frame = some L) (he:s.heap.get? e = some oe) (hd:oe.data = .fields vs) (h1:vs[1]? = some .none) (h0:vs[0]? = some a0)
  (h:∀ h' T,iK (env :: outer) [] s.heap h' e oe.cls a0 T oe.dict -> Q () { s with heap:=h' }):wpAny M A (leaving env (.ref e)) Q E s:=by
 unfold leaving noteFrame
 simp only [hf]
 refine wpAny_bind (wpAny_bind (wpAny_field he hd h1 ?_))
 rw [if_neg (show ¬ (Value.none != Value.none) = true by decide)]
 exact rm hfr hl hf he hd (Array.getElem?_eq_some_iff.mp h1).1 h0 h
theorem mZ {cls a0:Value} {T0:Addr} {od:Option Addr} (hfr:A.frames = some (env :: outer)) (hl:s.heap.FunFrames base (env :: outer)) (hf:env.frame = some L) (fl:lu s.heap e cls a0 T0 od)
  (h:∀ h' T,iK (env :: outer) [T0] s.heap h' e cls a0 T od -> Q () { s with heap:=h' }):wpAny M A (noteFrame (.ref e) env) (fun _ s2=>wpAny M A (setFlight (.ref e) none) Q E s2) E s:=by
 obtain ⟨oe,vs,oT,ts,he,rfl,rfl,h0,hd,h1,hTe,hT,hdT,h3⟩:=fl
 unfold noteFrame
 simp only [hf]
 refine wpAny_bind (wpAny_field he hd h1 ?_)
 rw [if_pos (show (Value.ref T0 != Value.none) = true by simp)]
 refine wpAny_bind (wpAny_field hT hdT h3 ?_)
 rw [if_neg (show ¬ (Value.none == rawInt L) = true by simp [rawInt])]
 have sz3:=(Array.getElem?_eq_some_iff.mp h3).1
 refine wpAny_bind (wpAny_setField hT hdT sz3 ?_)
 generalize hg:(Obj.mapFields fun x=>x.setIfInBounds 3 Value.none) = g
 have oth:∀ b,b ≠ T0 -> (s.heap.update T0 g).get? b = s.heap.get? b:=fun b hb=>Heap.get?_update_other _ g hb.symm
 have hg0:(s.heap.update T0 g).get? T0 = some (g oT):=Heap.get?_update_self g hT (Obj.isFreed_of_fields (by rw [<- hg]; exact Obj.data_mapFields hdT _))
 have nT:T0 ∉ T3 (env :: outer):=fun z=>by
  obtain ⟨_,o,ho,hx⟩:=hl.mem z
  rw [hT] at ho; cases ho; exact hx ts hdT
 have hl2:(s.heap.update T0 g).FunFrames base (env :: outer):=hl.of_keeps fun b o hb hx=>⟨o,(oth b fun z=>by rw [z,hT] at hb; cases hb; exact hx ts hdT).trans hb,rfl⟩
 refine rm (s:={ s with heap:=s.heap.update T0 g }) hfr hl2 hf ((oth e hTe.symm).trans he) hd (Array.getElem?_eq_some_iff.mp h1).1 h0 fun h' T gd=>h h' T ⟨fun b o hb n1 n2 n3=>?_,fun b o hb hm=>?_,gd.gN,?_⟩
 ·exact gd.keep b o ((oth b fun z=>n2 (z ▸ List.mem_singleton.mpr rfl)).trans hb) n1 (fun z=>nomatch z) n3
 ·exact gd.slot b o ((oth b fun z=>nT (z ▸ hm)).trans hb) hm
 ·rcases gd.new with z | z
  ·cases z
  ·by_cases w:T = T0
   ·exact .inl (w ▸ List.mem_singleton.mpr rfl)
   ·exact .inr ((oth T w).symm.trans z)
theorem hV {cls a0:Value} {T0:Addr} {od:Option Addr} (fl:lu s.heap e cls a0 T0 od) (h:∀ h',(∀ b,b ≠ T0 -> h'.get? b = s.heap.get? b) -> lu h' e cls a0 T0 od -> Q () { s with heap:=h' }):wpAny M A (setFlight (.ref e) none) Q E s:=by
 obtain ⟨oe,vs,oT,ts,he,hc,ho,h0,hd,h1,hTe,hT,hdT,h3⟩:=fl
 have hsz:3 < ts.size:=(Array.getElem?_eq_some_iff.mp h3).1
 refine wpAny_setFlight_none he hd h1 hT hdT hsz (h _ (fun b hb=>Heap.get?_update_other _ _ (Ne.symm hb)) ?_)
 exact ⟨oe,vs,_,_,(Heap.get?_update_other _ _ hTe).trans he,hc,ho,h0,hd,h1,hTe,Heap.get?_update_self _ hT (Obj.isFreed_of_fields (Obj.data_mapFields hdT _)),Obj.data_mapFields hdT _,by simp [hsz]⟩
end
end L2
namespace L2
open PySem PySem.Spec PyProof.Rows
section
variable {prog:Program} {w:World} {A:Around} {E:Value -> Shared -> Prop} {h:Heap} {g:Array GenState} {d:Drawn} {t:Nat} {os:OsState}
variable {nm q:Str} {C N fI:Addr} {oI:Obj} {bs bm bmB bmN:List Value} {hdct:Bool} {sn:List Str} {sub:List Value} {ab:Bool} {col:Option Bool} {dd:Option Addr} {k0 k1 k2 k3 k5:Option Value} {B Bn newId nid initId inN:String} {mN:Str -> Option Value} {rest:List Value}
theorem oN {Q:PySem.Fin -> Shared -> Prop} (Fn:ExcBaseFacts Bn newId inN bmN) (hBn:bmB.contains (.type Bn) = true) (F:ExcBaseFacts B nid initId bmB) (T:OwnTail h bmB bm)
  (hC:h.get? C = some (excClassObj nm q C N bs bm hdct sn sub ab col dd k0 k1 k2 k3 k5 newId)) (hn:h.Ns N mN) (hi:mN "__init__" = some (.ref fI)) (hf:h.get? fI = some oI) (hfc:oI.cls = .type "function") (hr:rest.length <= sizeLine)
  (hq:∀ h' e,Heap.MadeExcOf h h' e (.ref C) rest -> h.objs.size <= e -> wpAny (model prog w) A (call (.ref fI) (.ref e :: rest)) (fun r s'=>r = .none /\ Q (.done (.ret (.ref e))) s') E ⟨h',g,d,t,os⟩) :
  wpAny (model prog w) A (Builtin.«type.__call__» ⟨.ref C :: rest,[]⟩) Q E ⟨h,g,d,t,os⟩:=by
 repeat (first | with_reducible refine wpAny_loadPart_at hC ?_ | with_reducible refine wpAny_madeBy_exc hC ?_ | wp_step)
 refine codeAny_call_builtin_code (Code.quiet_builtin _ Fn.quiet) (wpAny_check_new_subU Fn hBn T hC (codeAny_exc_new_subU Fn hBn F T hC ?_ hr))
 show wpAny _ _ _ _ _ _
 have kp:∀ b o,h.get? b = some o -> ((h.push { cls:=.type "tuple",data:=.seq rest.toArray }).push { cls:=.ref C,data:=.fields #[.ref h.objs.size,.none,.none,.none,.bool false,.none] }).get? b = some o:=fun b o z=>Heap.get?_push_of_some _ (Heap.get?_push_of_some _ z)
 have me:((h.push { cls:=.type "tuple",data:=.seq rest.toArray }).push { cls:=.ref C,data:=.fields #[.ref h.objs.size,.none,.none,.none,.bool false,.none] }).get? (h.objs.size + 1) = some { cls:=.ref C,data:=.fields #[.ref h.objs.size,.none,.none,.none,.bool false,.none] }:=by heap_get
 have mk:Heap.MadeExcOf h ((h.push { cls:=.type "tuple",data:=.seq rest.toArray }).push { cls:=.ref C,data:=.fields #[.ref h.objs.size,.none,.none,.none,.bool false,.none] }) (h.objs.size + 1) (.ref C) rest:=
  ⟨kp,Heap.get?_none_of_le (Nat.le_succ _),h.objs.size,me,Heap.get?_none_of_le (Nat.le_refl _),Heap.get?_push_of_some _ (Heap.get?_push_at rfl rfl)⟩
 generalize (h.push { cls:=.type "tuple",data:=.seq rest.toArray }).push { cls:=.ref C,data:=.fields #[.ref h.objs.size,.none,.none,.none,.bool false,.none] } = h1 at kp me mk
 have cC:(Value.ref C :: bm).contains (.ref C) = true:=by simp
 unfold isInstance
 repeat (first | with_reducible refine wpAny_loadPart_at me ?_ | (with_reducible refine wpAny_isSubtype_exc (kp _ _ hC) ?_; rw [cC]) | wp_step)
 show wpAny _ _ (typeLookup (.ref C) _) _ _ _
 refine wpAny_typeLookup_tail (kp _ _ hC) (hn.keeps kp) (T.keeps kp) F.mroIs F.init.lookup ?_
 rw [hi]
 refine wpAny_holding (wpAny_bind ?_)
 unfold bindSpecial
 refine wpAny_bind (wpAny_typeOf (T := "function") ⟨_,kp _ _ hf,hfc⟩ ?_)
 rw [if_pos (by decide)]
 refine wpAny_pure (wpAny_bind (wpAny_mono (hq h1 _ mk (Nat.le_succ _)) (fun r s' hr'=>?_) fun _ _ z=>z))
 obtain ⟨rfl,z⟩:=hr'
 wp_walk
 exact z
theorem pO {Q:Value -> Shared -> Prop} (Fn:ExcBaseFacts Bn newId inN bmN) (hBn:bmB.contains (.type Bn) = true) (F:ExcBaseFacts B nid initId bmB) (T:OwnTail h bmB bm)
  (hC:h.get? C = some (excClassObj nm q C N bs bm hdct sn sub ab col dd k0 k1 k2 k3 k5 newId)) (hn:h.Ns N mN) (hi:mN "__init__" = some (.ref fI)) (hf:h.get? fI = some oI) (hfc:oI.cls = .type "function") (hr:rest.length <= sizeLine)
  (hq:∀ h' e,Heap.MadeExcOf h h' e (.ref C) rest -> h.objs.size <= e -> wpAny (model prog w) (A.under (.builtin "type.__call__" ⟨.ref C :: rest,[]⟩)) (call (.ref fI) (.ref e :: rest)) (fun r s'=>r = .none /\ Q (.ref e) s') E ⟨h',g,d,t,os⟩) :
  wpAny (model prog w) A (call (.ref C) rest) Q E ⟨h,g,d,t,os⟩:=by
 have f1:=tc_lookup
 have f2:=tc_bind (.ref C)
 have hT:(⟨h,g,d,t,os⟩:Shared).TypeIs (.ref C) "type" := ⟨_,hC,rfl⟩
 refine wpAny_call (codeAny_of_tree (show wpAny _ _ (callAny (.ref C) _) _ _ _ from ?_))
 repeat (any_goals (first | assumption | with_reducible refine wpAny_loadPart_at hC ?_ | wp_step))
 exact ⟨rfl,codeAny_call_builtin_at (Code.quiet_builtin _ (by decide +kernel)) entry_typeCall (wpAny_check_type_call_sub hC (oN Fn hBn F T hC hn hi hf hfc hr hq))⟩
end
section
variable {M:Model} {A:Around} {E:Value -> Shared -> Prop} {env:Env}
variable {nm q:Str} {C N:Addr} {bs bm:List Value} {hdct:Bool} {sn:List Str} {sub:List Value} {ab:Bool} {col:Option Bool} {dd:Option Addr} {k0 k1 k2 k3 k5:Option Value} {newId:String}
theorem pz {s:Shared} {x:Sem Value} {Q:Flow -> Shared -> Prop} (hbase:bm.contains (.type "BaseException") = true) (hh:A.handled = none)
  (h:wpAny M A x (fun v s1=>∃ e oe vs,v = .ref e /\ s1.heap.get? C = some (excClassObj nm q C N bs bm hdct sn sub ab col dd k0 k1 k2 k3 k5 newId) /\ s1.heap.get? e = some oe /\ oe.cls = .ref C /\ oe.data = .fields vs /\ vs[1]? = some .none /\ E (.ref e) s1) E s) :
  wpAny M A (raiseStmt env (some x) none) Q E s:=by
 have cB:(Value.ref C :: bm).contains (.type "BaseException") = true:=by rw [List.contains_cons,hbase,Bool.or_true]
 unfold raiseStmt
 refine wpAny_bind (wpAny_mono h (fun v s1 h1=>?_) fun _ _ z=>z)
 obtain ⟨e,oe,vs,rfl,hC,he,hc,hd,h1,hE⟩:=h1
 obtain ⟨⟨cl,di,da,sl⟩,rfl⟩:∃ o,oe = o:=⟨oe,rfl⟩
 cases (show cl = _ from hc)
 cases (show da = _ from hd)
 obtain ⟨hp,g,d,tk,os⟩:=s1
 repeat (first | with_reducible refine wpAny_loadPart_at he ?_ | with_reducible refine wpAny_loadPart_at hC ?_ | (with_reducible refine wpAny_isSubtype_exc hC ?_; rw [cB]) | wp_step)
 rw [h1]
 refine wpAny_pure ?_
 rw [if_neg (show ¬ (Value.none != Value.none) = true by decide)]
 exact wpAny_pure (wpAny_raiseNew_none hh hE)
end
end L2
namespace L2
open PySem PySem.Spec PyProof.Rows
noncomputable def uj:List Value:=[.type "ValueError",.type "Exception",.type "BaseException",.type "object"]
theorem iX (self:Value):∀ rs:List Addr,refuseLoop self "__setattr__" (rs.map Value.ref ++ uj) = pure ()
 | []=>PySem.F.store_ValueError.passes self
 | c :: r=>by rw [List.map_cons,List.cons_append,refuseLoop_ref]; exact iX self r
theorem mJ {n:String} (hn:uj.contains (.type n) = true):∀ rs:List Addr,(rs.map Value.ref ++ uj).contains (.type n) = true
 | []=>hn
 | c :: r=>by rw [List.map_cons,List.cons_append,List.contains_cons,mJ hn r,Bool.or_true]
structure kf (K:PySem.W.Frag) (C:Addr) (name:Str):Prop where
 cls:∃ (cd:ClassData) (rs:List Addr),PySem.W.clsIn K C = some cd /\ cd.mro = rs.map Value.ref ++ uj /\ cd.hasDict = true
 set:PySem.W.findIn K (.ref C) "__setattr__" = some (some (.builtin "object.__setattr__"))
 no:PySem.W.findIn K (.ref C) name = some none
noncomputable def RQ (Q:Unit -> Shared -> Prop) (E:Value -> Shared -> Prop):Result -> Shared -> Prop:=fun r s'=>match r with
 | .ok (.ret _)=>Q () s'
 | .ok _=>False
 | .error e=>E e s'
section
variable {prog:Program} {w:World} {A:Around} {E:Value -> Shared -> Prop} {s:Shared} {K:PySem.W.Frag} {x C:Addr} {ox:Obj} {name:Str} {v:Value}
theorem iz {Q:Unit -> Shared -> Prop} (X:K.In s.heap) (hx:s.heap.get? x = some ox) (hcl:ox.cls = .ref C) (F:kf K C name)
  (h:∀ b:Bool,wpAny (model prog w) A.in1 (Builtin.ObjectAttr.storeInOwnDict (.ref x) (.ref C) (.str name s.toks) name v b) (fun fin s'=>match fin with | .done f=>RQ Q E (.ok f) s' | .again c'=>c'.quiet = true /\ codeAny (model prog w) A c' (RQ Q E) s') (fun e s'=>RQ Q E (.error e) s') { s with toks:=s.toks + 1 }) :
  wpAny (model prog w) A (setAttr (.ref x) name v) Q E s:=by
 obtain ⟨cd,rs,hc,hm,hh⟩:=F.cls
 have ty:PySem.W.Looks (model prog w) s.heap (typeOf (.ref x)) (.ref C):=fun A Q E s' k q=>by
  have:=k _ _ hx
  unfold typeOf
  refine wpAny_bind (wpAny_loadPart this ?_)
  rw [hcl]
  exact wpAny_pure q
 have mr:PySem.W.Looks (model prog w) s.heap (mroOf (.ref C)) cd.mro:=(PySem.W.looks_clsIn X hc).andThen .now
 have SF:=PySem.F.store_object
 have ne:cd.mro.isEmpty = false:=by rw [hm]; cases rs <;> rfl
 have sub:PySem.W.Looks (model prog w) s.heap (isInstance (.ref x) (.type "object")) true:=ty.andThen (PySem.W.looks_mroIn X (by unfold PySem.W.mroIn; rw [hc,Option.bind_some,if_neg (by rw [ne]; decide),hm,mJ (by decide)]))
 unfold setAttr callSpecial? specialOf
 refine wpAny_bind (wpAny_mkText (wpAny_bind (wpAny_bind (wpAny_bind ((ty.keeps fun _ _ e=>e).here (s:={ s with toks:=s.toks + 1 }) (((PySem.W.looks_findIn X F.set).keeps fun _ _ e=>e).here (s:={ s with toks:=s.toks + 1 }) (wpAny_holding ?_)))))))
 rw [SF.slot.bind]
 refine wpAny_bind (wpAny_pure (wpAny_bind (wpAny_call (codeAny_mono (R:=RQ Q E) ?_ fun r s' z=>?_))))
 rotate_left
 ·rcases r with e | (v | _ | _ | _) <;> first | exact z | exact wpAny_pure (wpAny_pure z)
 refine codeAny_call_builtin SF.slot.plain SF.entry (@PySem.W.check_slot (model prog w) _ _ { s with toks:=s.toks + 1 } "object.__setattr__" "object" "__setattr__" (.ref x) [.str name s.toks,v] [] _ SF.kind SF.split sub (SF.args (.ref x) (.str name s.toks) v) ?_)
 show wpAny (model prog w) A.in1 (Builtin.«object.__setattr__» ⟨[.ref x,.str name s.toks,v],[]⟩) _ _ _
 rw [PySem.W.osa_eq,refuse_eq]
 refine wpAny_bind (wpAny_bind (ty.here (s:={ s with toks:=s.toks + 1 }) (wpAny_bind (mr.here (s:={ s with toks:=s.toks + 1 }) ?_))))
 rw [hm,iX]
 refine wpAny_pure (wpAny_bind (ty.here (s:={ s with toks:=s.toks + 1 }) (wpAny_bind ((PySem.W.looks_findIn X F.no).here (s:={ s with toks:=s.toks + 1 }) (wpAny_bind (PySem.W.Looks.now.here (r:=(none:Option Value)) ?_))))))
 exact h _
theorem fw {Q:Unit -> Shared -> Prop} {d:Addr} {m:Str -> Option Value} {ns:List Str} {tk:Tok} (hn:s.heap.Ns1 d m) (hw:Within m ns) (hz:ns.length < sizeLine)
  (h:∀ h',h'.Ns1 d (fun y=>if y = name then some v else m y) -> Heap.SameBut d s.heap h' -> Q () { s with heap:=h',toks:=s.toks + 1 }) :
  wpAny (model prog w) A.in1 (Builtin.ObjectAttr.storeInDict d (.str name tk) name v) (fun fin s'=>match fin with | .done f=>RQ Q E (.ok f) s' | .again c'=>c'.quiet = true /\ codeAny (model prog w) A c' (RQ Q E) s') (fun e s'=>RQ Q E (.error e) s') s:=by
 refine wpAny_bind (wpAny_pure (wpAny_bind (wpAny_nsSet1 hn fun h' n2 s2=>?_)))
 obtain ⟨oD,es,ep,hoD,hdD,hcD⟩:=n2.count (Within.cons name v hw)
 refine wpAny_bind (wpAny_lookBehind hoD (by rw [hdD]; exact pastItsLine_dict (Nat.le_trans hcD (by rw [List.length_cons]; omega))) ?_)
 exact wpAny_pure (h h' n2 s2)
theorem vJ {Q:Unit -> Shared -> Prop} (X:K.In s.heap) (hx:s.heap.get? x = some ox) (hcl:ox.cls = .ref C) (F:kf K C name) {vs:Array Value} (hd:ox.data = .fields vs) (hn:ox.dict = none)
  (h:∀ h' tk,h'.get? x = some { ox with dict:=some s.heap.objs.size } -> h'.Ns1 s.heap.objs.size (fun y=>if y = name then some v else none) -> (∀ b o,b ≠ x -> s.heap.get? b = some o -> h'.get? b = some o) -> Q () { s with heap:=h',toks:=tk }) :
  wpAny (model prog w) A (setAttr (.ref x) name v) Q E s:=by
 refine iz X hx hcl F fun b=>?_
 obtain ⟨cd,rs,hc,hm,hh⟩:=F.cls
 obtain ⟨c0,d0,da0,sl0⟩:=ox
 cases (show c0 = _ from hcl); cases (show d0 = _ from hn); cases (show da0 = _ from hd)
 have ld:=(PySem.W.looks_clsIn (M:=model prog w) X hc)
 refine wpAny_bind (wpAny_pure (wpAny_bind (wpAny_bind (wpAny_loadPart hx (wpAny_bind (ld.here (s:={ s with toks:=s.toks + 1 }) ?_))))))
 rw [hh,if_neg (by decide)]
 have hx1:(s.heap.push { cls:=.type "dict",data:=.dict #[] }).get? x = some { cls:=.ref C,data:=.fields vs,slots:=sl0 }:=Heap.get?_push_of_some _ hx
 have xs:x ≠ s.heap.objs.size:=Nat.ne_of_lt (Heap.lt_size hx)
 refine wpAny_bind (wpAny_alloc' (wpAny_bind (wpAny_update' hx1 ?_)))
 refine wpAny_pure ?_
 have gx:((s.heap.push { cls:=.type "dict",data:=.dict #[] }).update x fun o=>{ cls:=o.cls,dict:=some s.heap.objs.size,data:=o.data,slots:=o.slots }).get? x = some { cls:=.ref C,dict:=some s.heap.objs.size,data:=.fields vs,slots:=sl0 }:=Heap.get?_update_self _ hx1 rfl
 have gd:((s.heap.push { cls:=.type "dict",data:=.dict #[] }).update x fun o=>{ cls:=o.cls,dict:=some s.heap.objs.size,data:=o.data,slots:=o.slots }).get? s.heap.objs.size = some { cls:=.type "dict",data:=.dict #[] }:=(Heap.get?_update_ne _ _ _ _ xs.symm).trans (Heap.get?_push_at rfl rfl)
 have gk:∀ b o,b ≠ x -> s.heap.get? b = some o -> ((s.heap.push { cls:=.type "dict",data:=.dict #[] }).update x fun o=>{ cls:=o.cls,dict:=some s.heap.objs.size,data:=o.data,slots:=o.slots }).get? b = some o:=fun b o nb hb=>(Heap.get?_update_ne _ _ _ _ nb).trans (Heap.get?_push_of_some _ hb)
 generalize (s.heap.push { cls:=.type "dict",data:=.dict #[] }).update x (fun o=>{ cls:=o.cls,dict:=some s.heap.objs.size,data:=o.data,slots:=o.slots }) = h1 at gx gd gk
 have hn1:h1.Ns1 s.heap.objs.size (fun _=>none):=Heap.Ns1.of_empty ⟨_,#[],_,gd,rfl,fun e he=>absurd he (by simp),fun _=>rfl⟩
 refine fw (s:={ s with heap:=h1,toks:=s.toks + 1 }) (ns:=[]) hn1 Within.nil (by show 0 < sizeLine; rw [sizeLine_eq]; decide) fun h' n2 s2=>h h' _ ((s2.2 x xs).trans gx) n2 fun b o nb hb=>(s2.2 b (Nat.ne_of_lt (Heap.lt_size hb))).trans (gk b o nb hb)
theorem tN {Q:Unit -> Shared -> Prop} (X:K.In s.heap) (hx:s.heap.get? x = some ox) (hcl:ox.cls = .ref C) (F:kf K C name) {d:Addr} {m:Str -> Option Value} {ns:List Str} (hd:ox.dict = some d) (hn:s.heap.Ns1 d m) (hw:Within m ns) (hz:ns.length < sizeLine)
  (h:∀ h' tk,h'.Ns1 d (fun y=>if y = name then some v else m y) -> Heap.SameBut d s.heap h' -> Q () { s with heap:=h',toks:=tk }) :
  wpAny (model prog w) A (setAttr (.ref x) name v) Q E s:=by
 refine iz X hx hcl F fun b=>?_
 obtain ⟨cd,rs,hc,hm,hh⟩:=F.cls
 obtain ⟨c0,d0,da0,sl0⟩:=ox
 cases (show c0 = _ from hcl); cases (show d0 = _ from hd)
 have ld:=(PySem.W.looks_clsIn (M:=model prog w) X hc)
 refine wpAny_bind (wpAny_pure (wpAny_bind (wpAny_bind (wpAny_loadPart hx (wpAny_bind (ld.here (s:={ s with toks:=s.toks + 1 }) ?_))))))
 rw [hh,if_neg (by decide)]
 refine wpAny_pure ?_
 exact fw (s:={ s with toks:=s.toks + 1 }) hn hw hz fun h' n2 s2=>h h' _ n2 s2
end
end L2
namespace PySem.W
open PySem PySem.Calls PyProof.Rows Builtin Builtin.ObjectAttr Builtin.Getset_descriptor
section
variable {K:Frag} {prog:Program} {w:World} {A:Around} {E:Value -> Shared -> Prop} {s:Shared} {e D dx:Addr} {oe:Obj} {name:Str} {m:Str -> Option Value} {v:Value} {cd:ClassData}
theorem zg {expr:Bool} {Q:Value -> Shared -> Prop} (hga:findIn K (.ref D) "__getattribute__" = some (some (.builtin "BaseException.__getattribute__"))) (hka:findIn K (.ref D) "__getattr__" = some none)
  (ha:findIn K (.ref D) name = some none) (hb:mroIn K D (.type "BaseException") = some true) (hcd:clsIn K D = some cd) (hh:cd.hasDict = true)
  (X:K.In s.heap) (he:s.heap.get? e = some oe) (hc:oe.cls = .ref D) (hd:oe.dict = some dx) (hn:s.heap.Ns1 dx m) (hv:m name = some v) {vs:Array Value} (hf:oe.data = .fields vs) (ho:handedOut v = pure v) (h:Q v { s with toks:=s.toks + 1 }):wpAny (model prog w) A (getAttr (.ref e) name expr) Q E s:=by
 obtain ⟨hp,gg,d,t,os⟩:=s
 have L0:Looks (model prog w) hp (typeOf (.ref e)) (.ref D):=hc ▸ (Looks.ld he).andThen .now
 have L1:=looks_findIn (M:=model prog w) X hga
 have L2:=looks_findIn (M:=model prog w) X hka
 have L3:=looks_findIn (M:=model prog w) X ha
 have Lb:=looks_mroIn (M:=model prog w) X hb
 have Lc:=looks_clsIn (M:=model prog w) X hcd
 unfold getAttr getAttrBy
 refine wpAny_bind (wpAny_mkText (wpAny_holding (wpAny_bind (L0.at (wpAny_bind (L1.at ?_))))))
 show wpAny _ _ (getAttrByItsOwn _ _ _ _ _ _) _ _ _
 unfold getAttrByItsOwn hookBefore
 refine wpAny_bind (L2.at ?_)
 refine wpAny_bind (wpAny_attempt (wpAny_holding ?_))
 unfold callGetattribute
 rw [show (expr && onTheHeap (Value.builtin "BaseException.__getattribute__")) = false by cases expr <;> rfl]
 rw [if_neg Bool.false_ne_true]
 unfold boundAndCalled
 refine wpAny_bind (wpAny_of_eq (vj _) ?_)
 show wpAny _ _ (call (.builtin "BaseException.__getattribute__") [.ref e,.str name t]) _ _ _
 refine wpAny_call (codeAny_call_builtin rW F.entry_bexc_ga (tR L0 Lb ?_))
 unfold Builtin.«object.__getattribute__»
 refine wpAny_bind (wpAny_pure (wpAny_bind (wpAny_pure (wpAny_bind (L0.at (wpAny_bind ?_))))))
 unfold find
 refine wpAny_bind (L3.at (wpAny_bind (wpAny_pure (wpAny_bind (wpAny_pure ?_)))))
 obtain ⟨c0,d0,da0,sl0⟩:=oe
 cases (show c0 = _ from hc); cases (show d0 = _ from hd); cases (show da0 = _ from hf)
 show wpAny _ _ (inOwnDict name (.ref e) >>= _) _ _ _
 refine wpAny_bind ?_
 show wpAny _ _ (Builtin.ObjectAttr.ownDict e >>= inDict name) _ _ _
 refine wpAny_bind ?_
 unfold Builtin.ObjectAttr.ownDict loadHead instanceDict
 refine wpAny_bind (wpAny_loadPart he (wpAny_bind (wpAny_loadPart he (wpAny_bind (Lc.at ?_)))))
 rw [hh,if_neg (by decide)]
 refine wpAny_pure (wpAny_nsGet hn.ns ?_)
 rw [hv]
 refine wpAny_bind (wpAny_rule (wpAny_pure (wpAny_pure ?_)))
 show wpAny _ _ (handedOut v) _ _ _
 rw [ho]
 exact wpAny_pure h
end
end PySem.W
namespace L2
open PySem PySem.Spec PyProof.Rows
noncomputable def yK (P:Program) (w:World):oV:=fun outer H s E x s'=>∃ (e:Addr) (cls a0:Value) (T:Addr) (od:Option Addr) (H':Hp),x = .ref e /\ lu s'.heap e cls a0 T od /\ s.heap.get? e = none /\ s.heap.get? T = none /\ H' e = none /\ H' T = none /\
 s'.os = s.os /\ AllBare s'.gens /\ Un (T3 outer) [] H H' s.heap s'.heap /\ P2 P w H' s'.heap /\ E cls od H'
section
variable {P:Program} {w:World} {K:PySem.W.Frag} {mg:Str -> Option Value} {base:Heap} {N:List Str} {qual:Str} {scope:Scope} {f:Addr} {cd:Value} {A:Around} {outer:List Env} {s:Shared} {H:Hp} {E:XK}
 {pins:List (Addr × Obj)} {σ:St} {H1:Hp} {s1:Shared}
theorem uV {e:Addr} {oe:Obj} {vs:Array Value} {a0:Value} (I:Inv (bR (yK P w) P w K mg base N qual scope f cd A outer s H E) pins σ H1 s1) (he:s1.heap.get? e = some oe) (hd:oe.data = .fields vs) (h0:vs[0]? = some a0) (h1:vs[1]? = some .none)
  (en:s.heap.get? e = none) (te:H1 e = none) (hE:E oe.cls oe.dict H1):(bR (yK P w) P w K mg base N qual scope f cd A outer s H E).xe (.ref e) s1:=by
 have hst:s1.heap.FunFrames base (envOfC qual scope s.heap.objs.size f cd :: outer):=I.stack
 have U0:Un (T3 outer) [] H H1 s.heap s1.heap:=I.base
 refine jY (L:=s.heap.objs.size) (I.ok.frames) hst rfl he hd h1 h0 fun h2 T g=>?_
 obtain ⟨a,b,c,d⟩:=zR (L:=s.heap.objs.size) rfl U0 I.hok tJ en (fun b hb=>by cases hb) I.free te (fun b hb=>by cases hb) (fun b hb=>I.dY b (by
  show b ∈ T3 (envOfC qual scope s.heap.objs.size f cd :: outer)
  exact List.mem_cons_of_mem _ hb)) g.gone
 exact ⟨e,_,_,T,_,H1,rfl,g.gN,en,d,te,c,I.os,I.bare,a,b,hE⟩
end
section
variable {X:Cx} {pins:List (Addr × Obj)} {σ:St} {H:Hp} {s:Shared}
def xr (X:Cx) (pins:List (Addr × Obj)) (σ:St) (E:XK) (x:Value) (s':Shared):Prop:=∃ H1 s1,Inv X pins σ H1 s1 /\ yK X.prog X.w X.stack H1 s1 E x s'
theorem tG {k:Nat} {f:Addr} {fd:FuncData} {ps:List Str} {sp:Sp} {dvs:List V} {ds:List Value} {x:Str} {p pos:Pos} {e:Expr} {es:List Expr} {t:TA} {E:XK} {Q:VK} (Fn:y4 X.prog X.w X.K X.mg X.base (yK X.prog X.w) k f fd ps sp) (hr:E6 k X.A) (hg:Gl X x) (hm:X.mg x = some (.ref f)) (hk:PySem.W.keepIn X.K (.ref f) = true) (hb:Binds X.K fd ps ds) (hd:Vals dvs ds)
  (ha:PA (X.cb fun _ _=>False) (e :: es) t) (I:Inv X pins σ H s) (h:t σ H fun vs H1=>sp (vs ++ dvs) H1 Q E) (hdb:(x == ("__debug__" : Str)) = false:=by decide) (he:starEach (e :: es) X.env = (false,eval e X.env) :: starEach es X.env:=by rfl) (hpl:(backTo pos (starEach es X.env)).any (·.1) = false:=by rfl) :
  wpAny (model X.prog X.w) X.A (eval (.Call (.Name x p) (e :: es) [] pos) X.env) (EP X pins σ Q) (xr X pins σ E) s:=by
 refine wpAny_Call_Name_kw (bB I hg hm ?_ hdb)
 have I':Inv (X.cb fun _ _=>False) pins σ H s:=⟨I.ok.cb _,I.os,I.bare,I.base,I.loc,I.cell,I.free,I.freeC,I.pin,I.hok,I.len⟩
 have ha':=ha pos pins s σ H _ I' h
 refine PySem.W.callWith_K (h₀:=X.base) I.ok.mod.kin hk (wpAny_mono ha' (fun us s1 h1=>?_) fun _ _ z=>z.elim) he hpl
 obtain ⟨vs,H1,I1',r,q⟩:=h1
 have I1:Inv X pins σ H1 s1:=⟨I.ok,I1'.os,I1'.bare,I1'.base,I1'.loc,I1'.cell,I1'.free,I1'.freeC,I1'.pin,I1'.hok,I1'.len⟩
 refine ⟨I1.gp,?_⟩
 have r2:Vals (vs ++ dvs) (us ++ ds):=r.append hd
 have hl:(us ++ ds).length = ps.length:=by rw [<- r2.length]; exact Fn.len _ _ _ _ q
 refine wpAny_call (codeAny_mono (Fn.run X.A X.stack s1 H1 ⟨us,[]⟩ (us ++ ds) (vs ++ dvs) Q E hr I1.Cv (hb s1 us I1.gp hl) r2 q) fun rr s' hq=>?_)
 cases rr with
 | error e=>exact ⟨H1,s1,I1,hq⟩
 | ok fl=>
  cases fl with
  | ret u=>exact I1.after hq
  | next=>exact False.elim hq
  | brk=>exact False.elim hq
  | cont=>exact False.elim hq
end
structure iw (X:Cx) (pins:List (Addr × Obj)) (σ:St) (H:Hp) (s:Shared) (e T:Addr) (cls a0:Value) (od:Option Addr):Prop where
 held:CW X pins σ H s e T cls a0
 gN:lu s.heap e cls a0 T od
section
variable {X:Cx} {pins:List (Addr × Obj)} {σ:St} {H:Hp} {s:Shared} {e T:Addr} {cls a0:Value} {od:Option Addr} {E:XK} {x:Value} {Q:Unit -> Shared -> Prop} {M:Model} {A:Around} {E2:Value -> Shared -> Prop}
theorem sd {s':Shared} (hA:A.frames = some X.stack) (hst:X.stack = X.env :: X.outer) (hf:X.env.frame = some X.env.locals) (c:xr X pins σ E x s')
  (h:∀ e T cls a0 od H' s3,x = .ref e -> iw X pins σ H' s3 e T cls a0 od -> E cls od H' -> Q () s3):wpAny M A (noteFrame x X.env) (fun _ s2=>wpAny M A (setFlight x none) Q E2 s2) E2 s':=by
 obtain ⟨H1,s1,I1,e,cls,a0,T,od,H',rfl,fl,ne,nT,te,tT,os,bare,U,ok,hE⟩:=c
 have J:=I1.iE os U ok bare (fun b z=>absurd z (by simp))
 have hl:s'.heap.FunFrames X.base (X.env :: X.outer):=hst ▸ J.stack
 refine mZ (hst ▸ hA) hl hf fl fun h2 T' g=>?_
 obtain ⟨a,b,c,d⟩:=uu (l:=X.stack) U ok ne (fun b hb=>by rw [List.mem_singleton.mp hb]; exact nT) te (fun b hb=>by rw [List.mem_singleton.mp hb]; exact tT) J.dY (by rw [hst]; exact g.gone)
 have J2:Inv X pins σ H' { s' with heap:=h2 }:=I1.iE (s':={ s' with heap:=h2 }) os a b bare (fun b z=>absurd z (by simp))
 exact h e T' cls a0 od H' _ rfl ⟨⟨J2,g.gN.gN,te,c,H1,s1,I1,os,bare,a,ne,d⟩,g.gN⟩ hE
theorem iw.again (hh:iw X pins σ H s e T cls a0 od) (h:∀ s',iw X pins σ H s' e T cls a0 od -> Q () s'):wpAny M A (setFlight (.ref e) none) Q E2 s:=by
 obtain ⟨H1,s1,I1,os,bare,U,ne,nT⟩:=hh.held.from_
 refine hV hh.gN fun h' k fl=>?_
 have st:∀ b o,s1.heap.get? b = some o -> b ≠ T:=fun b o hb z=>by rw [z,nT] at hb; cases hb
 have U2:Un (T3 X.stack) [] H1 H s1.heap h':=⟨fun b o hb hn hF hx=>(k b (st b o hb)).trans (U.keep b o hb hn hF hx),fun b o hb hn hF hx=>by
   obtain ⟨sl,q⟩:=U.slot b o hb hn hF hx
   exact ⟨sl,(k b (st b o hb)).trans q⟩,U.free,fun b o hb hx=>by
   obtain ⟨o',q⟩:=U.there b o hb hx
   exact ⟨o',(k b (st b o hb)).trans q⟩,U.L4,U.frzs,U.tbls⟩
 have ok2:P2 X.prog X.w H h':=P2.qu hh.held.inv.hok fun b u hb hu=>(k b fun z=>hb (z ▸ hh.held.tT)).trans hu
 exact h _ ⟨⟨I1.iE (s':={ s with heap:=h' }) os U2 ok2 bare (fun b z=>absurd z (by simp)),fl.gN,hh.held.te,hh.held.tT,H1,s1,I1,os,bare,U2,ne,nT⟩,fl⟩
theorem iw.pin (hh:iw X pins σ H s e T cls a0 od) {F:Value -> Shared -> Prop}:∃ oe,oe.cls = cls /\ oe.dict = od /\ (∃ vs,oe.data = .fields vs) /\ Inv (X.M4 e oe F) pins σ H s:=by
 have ap:=hh.gN.gN.apart hh.held.inv.stack
 obtain ⟨oe,hc,I⟩:=hh.held.pin (F:=F)
 obtain ⟨oe2,vs,_,_,he2,_,hd2,_,hf2,_⟩:=hh.gN
 obtain ⟨he,_⟩:=I.pin (e,oe) (List.mem_append_left _ (List.mem_append_right _ (List.mem_singleton.mpr rfl)))
 have:oe2 = oe:=Option.some.inj (he2.symm.trans he)
 subst this
 exact ⟨oe2,hc,hd2,⟨vs,hf2⟩,I⟩
end
end L2
namespace L2
open PySem PySem.Spec PyProof.Rows
noncomputable def vG:V -> Bool
 | .int _=>true
 | .str _=>true
 | _=>false
theorem vZ {v:V} {u:Value} (h:vG v = true) (r:RelV v u):handedOut u = pure u:=by
 cases v <;> first | cases h | skip
 ·obtain ⟨t,rfl⟩:=r; rfl
 ·obtain ⟨t,rfl⟩:=r; rfl
structure kS (K:PySem.W.Frag) (C:Addr) (f:Str):Prop where
 cls:∃ cd,PySem.W.clsIn K C = some cd /\ cd.hasDict = true
 no:PySem.W.findIn K (.ref C) f = some none
def IB (e dx:Addr) (ta:TE) (f:Str):TE:=fun σ H Q=>ta σ H fun x H1=>x = .ref e /\ ∃ fs v,H1 dx = some (oz dx fs) /\ fs.lookup f = some v /\ vG v = true /\ Q v H1
section
variable {X:Cx} {o:Expr} {f:Str} {pos:Pos} {ta:TE} {e dx C:Addr} {oe:Obj} {vs:Array Value}
theorem zV (hp:(e,oe) ∈ X.pn) (hc:oe.cls = .ref C) (hd:oe.dict = some dx) (hf:oe.data = .fields vs) (B:PySem.W.mK X.K C) (F:kS X.K C f) (he:PE X o ta) (hb:attributeBase o f X.env (eval o X.env) = eval o X.env):PE X (.Attribute o f pos) (IB e dx ta f):=by
 refine .of ?_
 intro pins s σ H Q I h
 obtain ⟨cd,hcd,hh⟩:=F.cls
 refine yO hb (B6 (he pins s σ H _ I h) fun u s1 ⟨x,H1,I1,rx,ex,fs,v,hx,hl,lf,q⟩=>?_)
 subst ex
 obtain rfl:u = Value.ref e:=rx
 obtain ⟨⟨mA,hn,hr,_⟩,_⟩:=(show w8 X.prog X.w H1 s1.heap dx (oz dx fs) from I1.hok dx _ hx)
 have hv:=hr f
 rw [hl] at hv
 cases ev:mA f with
 | none=>rw [ev] at hv; exact hv.elim
 | some u=>
  rw [ev] at hv
  exact PySem.W.zg B.ga B.gn F.no B.be hcd hh I1.gp (I1.pin (e,oe) (List.mem_append_left _ hp)).1 hc hd hn ev hf (vZ lf hv) ⟨v,H1,I1.tok _,hv,q⟩
end
def FA (tx:St -> Hp -> VK -> XK -> Prop) (i:Nat) (C:Addr) (ts:Addr -> Addr -> Obj -> TS):TS:=fun D σ H=>tx σ H (fun _ H1=>D.nx σ H1) fun cls od H1=>cls = .ref C /\ ∃ dx,od = some dx /\
 ∀ e oe,H1 e = none -> oe.cls = .ref C -> oe.dict = some dx -> ts dx e oe { nx:=fun σ' H'=>D.nx (σ'.set i none) H',rt:=D.rt,bk:=fun σ' H'=>D.bk (σ'.set i none) H',ct:=fun σ' H'=>D.ct (σ'.set i none) H' } (σ.set i (some (.ref e))) H1
theorem Aa {X:Cx} {call:Expr} {cpos hpos pos np:Pos} {B C:Addr} {bn n:Str} {i:Nat} {b₀:Stmt} {suite:List Stmt} {tx:St -> Hp -> VK -> XK -> Prop} {ts:Addr -> Addr -> Obj -> TS}
  (hx:∀ pins s σ H Q E,Inv X pins σ H s -> tx σ H Q E -> wpAny (model X.prog X.w) X.A (eval call X.env) (EP X pins σ Q) (xr X pins σ E) s)
  (hst:X.stack = X.env :: X.outer) (hf:X.env.frame = some X.env.locals) (hg:Gl X bn) (hm:X.mg bn = some (.ref B)) (un:Under X.base C B true)
  (hN:X.N.Nodup) (hi:X.N[i]? = some n) (hk:X.env.scope.names.lookup n = some .local)
  (hs:∀ dx e oe,oe.cls = .ref C -> oe.dict = some dx -> (∃ vs,oe.data = .fields vs) -> jR (X.M4 e oe fun _ _=>False) (b₀ :: suite) (ts dx e oe)) (hdb:(bn == ("__debug__" : Str)) = false:=by decide) (hsw:swapsWith call none cpos.line X.env = pure false:=by rfl) :
  PS X (.Try [.Expr call cpos] [.ExceptHandler (some (.Name bn np)) (some n) (b₀ :: suite) hpos] [] [] pos) (FA tx i C ts):=by
 refine .of ?_
 intro pins s σ H D I h
 refine wpAny_Try_except (wpAny_execs_cons (wpAny_Expr_any (wpAny_mono (hx pins s σ H _ _ I h) (fun v s1 h1=>?_) fun x s1 h1=>?_) I.quiet hsw))
 ·obtain ⟨x,H1,I1,_,q⟩:=h1
  exact wpAny_execs_nil (wpAny_execs_nil ⟨σ,H1,I1,q⟩)
 ·refine sd I.ok.frames hst hf h1 fun e T cls a0 od H' s3 hxe hh hE=>?_
  subst hxe
  obtain ⟨rfl,dx,rfl,hq⟩:=hE
  obtain ⟨oe0,_,_,_,Ic⟩:=hh.pin (F:=fun _ _=>False)
  obtain ⟨⟨nm,q,N,bs,bm,hdct,sn,sub,ab,col,dd,k0,k1,k2,k3,k5,newId,hC,hcon⟩,⟨nm',q',N',bs',bm',hdct',sn',sub',ab',col',dd',k0',k1',k2',k3',k5',newId',hB,hbs⟩⟩:=un
  refine wpAny_handleBy_cons (codeAny_handlers_test (bB (X:=X.M4 e oe0 fun _ _=>False) Ic hg hm ?_ hdb)) (by intro z; cases z)
  obtain ⟨oe,vs,oT,ts',he,hc,_⟩:=id hh.gN.gN
  have hC3:=hh.held.inv.bk _ _ hC
  have hB3:=hh.held.inv.bk _ _ hB
  obtain ⟨h3,g3,d3,t3,o3⟩:=s3
  refine gZ hC3 hB3 he hc hbs ?_
  rw [hcon]
  show codeAny _ _ _ _ _
  refine codeAny_handlers_suite_as (hh.again fun s4 hh4=>?_)
  obtain ⟨oe4,hc4,hd4,hf4,I4⟩:=hh4.pin (F:=fun _ _=>False)
  refine T7 (X:=X.M4 e oe4 fun _ _=>False) (v:=.ref e) I4 hN hi (.inl hk) rfl (fun s5 I5 _=>?_) (.inr hk)
  refine wpAny_mono (hs dx e oe4 hc4 hd4 hf4 pins s5 _ H' _ I5 (hq e oe4 hh.held.te hc4 hd4)) (fun f s6 h6=>?_) fun _ _ z=>z.elim
  cases f with
  | next=>obtain ⟨σ6,H6,I6,q6⟩:=h6; exact (I6.uncaught I.ok).bu hN hi hk fun s7 I7=>⟨_,_,I7,q6⟩
  | brk=>obtain ⟨σ6,H6,I6,q6⟩:=h6; exact (I6.uncaught I.ok).bu hN hi hk fun s7 I7=>⟨_,_,I7,q6⟩
  | cont=>obtain ⟨σ6,H6,I6,q6⟩:=h6; exact (I6.uncaught I.ok).bu hN hi hk fun s7 I7=>⟨_,_,I7,q6⟩
  | ret u=>obtain ⟨v,σ6,H6,I6,r6,q6⟩:=h6; exact (I6.uncaught I.ok).bu hN hi hk fun s7 I7=>⟨v,_,_,I7,r6,q6⟩
end L2
namespace L2
open PySem PySem.Spec PyProof.Rows
noncomputable def xo (a:Addr) (oe:Obj):HO:=.ext fun h=>h.get? a = some oe
theorem AR {P:Program} {w:World} {H:Hp} {h:Heap} {a:Addr} {oe:Obj} (e:h.get? a = some oe):w8 P w H h a (xo a oe):=⟨e,⟨_,e⟩,fun h1 h2 q k=>k _ q⟩
def oa (K:PySem.W.Frag) (ta tv:TE) (f:Str):TS:=fun D σ H=>tv σ H fun y H1=>ta σ H1 fun x H2=>∃ a oe C vs,x = .ref a /\ H2 a = some (xo a oe) /\ oe.cls = .ref C /\ oe.data = .fields vs /\ kf K C f /\
  ((oe.dict = none /\ ∀ dx,H2 dx = none -> dx ≠ a -> D.nx σ (upd (upd H2 dx (oz dx [(f,y)])) a (xo a { oe with dict:=some dx }))) \/
   ∃ dx fs,oe.dict = some dx /\ dx ≠ a /\ H2 dx = some (oz dx fs) /\ fs.length < 1000 /\ D.nx σ (upd H2 dx (oz dx ((f,y) :: fs))))
theorem bL {f g:Str} {y:V} {u:Value} {fs:List (Str × V)} {mA:Str -> Option Value} (r:∀ f,ag (fs.lookup f) (mA f)) (ry:RelV y u):ag (((f,y) :: fs).lookup g) (if g = f then some u else mA g):=by
 by_cases h:g = f
 ·subst h
  rw [if_pos rfl,List.lookup_cons_self]
  exact ry
 ·rw [if_neg h]
  have:(g == f) = false:=beq_eq_false_iff_ne.mpr h
  rw [List.lookup_cons,this]
  exact r g
section
variable {X:Cx} {o e value:Expr} {f:Str} {pos pos':Pos} {ta tv:TE}
theorem rh (ha:PE X o ta) (hv:PE X value tv) (hs:swapsWith value (some (.Attribute o f pos')) pos.line X.env = pure false):PS X (.Assign [.Attribute o f pos'] value pos) (oa X.K ta tv f):=by
 refine .of ?_
 intro pins s σ H D I h
 refine plainObj_wpAny_Assign_Attribute (B6 (hv pins s σ H _ I h) fun u s1 ⟨y,H1,I1,ry,q⟩=>B6 (ha pins s1 σ H1 _ I1 q) fun ov s2 ⟨x,H2,I2,rx,a,oe,C,vs,ex,ea,hc,hd,F,q2⟩=>?_) hs
 subst ex
 obtain rfl:ov = Value.ref a:=rx
 obtain ⟨hx,_⟩:=(show w8 X.prog X.w H2 s2.heap a (xo a oe) from I2.hok a _ ea)
 have hx:s2.heap.get? a = some oe:=hx
 rcases q2 with ⟨hn,q2⟩ | ⟨dx,fs,hdx,ne,hfx,hl,q2⟩
 ·refine vJ I2.gp hx hc F hd hn fun h' tk gx n2 k2=>?_
  have ax:a ≠ s2.heap.objs.size:=Nat.ne_of_lt (Heap.lt_size hx)
  obtain ⟨c0,d0,da0,sl0⟩:=oe
  cases (show c0 = _ from hc); cases (show d0 = _ from hn); cases (show da0 = _ from hd)
  have fr:Obj.isFreed { cls:=.ref C,dict:=none,data:=.fields vs,slots:=sl0 } = false:=rfl
  have g1:(h'.update a fun _=>{ cls:=.ref C,dict:=none,data:=.fields vs,slots:=sl0 }).get? a = some { cls:=.ref C,dict:=none,data:=.fields vs,slots:=sl0 }:=Heap.get?_update_self _ gx fr
  have g2:∀ b,b ≠ a -> (h'.update a fun _=>{ cls:=.ref C,dict:=none,data:=.fields vs,slots:=sl0 }).get? b = h'.get? b:=fun b hb=>Heap.get?_update_other _ _ hb.symm
  generalize (h'.update a fun _=>{ cls:=.ref C,dict:=none,data:=.fields vs,slots:=sl0 }) = h1 at g1 g2
  have n3:h1.Ns1 s2.heap.objs.size (fun y=>if y = f then some u else none):=n2.at fun o z=>(g2 _ ax.symm).trans z
  have J1:=I2.laid (a:=s2.heap.objs.size) (o:=oz s2.heap.objs.size [(f,y)]) (h':=h1) (t':=tk) (fun b o z=>by
   by_cases hb:b = a
   ·subst hb; rw [hx] at z; cases z; exact g1
   ·exact (g2 b hb).trans (k2 b o hb z)) (Nat.le_refl _) (wA n3 (fun g=>bL (fs:=[]) (mA:=fun _=>none) (fun _=>trivial) ry) (Within.cons f u Within.nil))
  have J2:=J1.write (x:=a) (e:=a) (o:=xo a { cls:=.ref C,dict:=some s2.heap.objs.size,data:=.fields vs,slots:=sl0 }) (h':=h') (t':=tk) (by rw [i6 ax,ea]; exact True.intro) (.inl rfl) (fun b u hb z=>(g2 b hb).symm.trans z) ⟨_,gx⟩ (AR gx)
  exact ⟨σ,_,J2,q2 _ (I2.hok.fresh (Nat.le_refl _)) ax.symm⟩
 ·obtain ⟨⟨mA,hn,hr,hw⟩,_⟩:=(show w8 X.prog X.w H2 s2.heap dx (oz dx fs) from I2.hok dx _ hfx)
  refine tN I2.gp hx hc F hdx hn hw (by rw [List.length_map,sizeLine_eq]; omega) fun h' tk n2 s3=>?_
  exact ⟨σ,_,I2.write (x:=dx) (e:=dx) (o:=oz dx ((f,y) :: fs)) (h':=h') (t':=tk) (by rw [hfx]; exact True.intro) (.inl rfl) (fun b u hb z=>(s3.2 b hb).trans z) (let ⟨o,_,_,e,_⟩:=n2; ⟨o,e⟩) (wA n2 (fun g=>bL hr ry) (Within.cons f u hw)),q2⟩
end
end L2
namespace L2
open PySem PySem.Spec PyProof.Rows
noncomputable def forget (H:Hp) (e:Addr):Hp:=fun b=>if b = e then none else H b
theorem G0 {H:Hp} {e b:Addr} (h:b ≠ e):forget H e b = H b:=if_neg h
theorem Un.forget {fs ex:List Addr} {H H':Hp} {h h':Heap} {e:Addr} (u:Un fs ex H H' h h') (n:H e = none):Un fs ex H (L2.forget H' e) h h' where
 keep:=u.keep
 slot:=u.slot
 free:=fun b o q z hx=>by
  unfold L2.forget
  by_cases hb:b = e
  ·rw [if_pos hb]
  ·rw [if_neg hb]; exact u.free b o q z hx
 there:=u.there
 L4:=fun b xs z=>by rw [G0 fun w=>by rw [w,n] at z; cases z]; exact u.L4 b xs z
 frzs:=fun b o v z=>by rw [G0 fun w=>by rw [w,n] at z; cases z]; exact u.frzs b o v z
 tbls:=fun b ps z=>by rw [G0 fun w=>by rw [w,n] at z; cases z]; exact u.tbls b ps z
theorem P2.forget {P:Program} {w:World} {H:Hp} {h:Heap} {e:Addr} {oe:Obj} (ok:P2 P w H h) (z:H e = some (xo e oe)):P2 P w (L2.forget H e) h:=fun a o q=>by
 have ne:a ≠ e:=fun w=>by unfold L2.forget at q; rw [if_pos w] at q; cases q
 rw [G0 ne] at q
 exact (ok a o q).jA (fun b u _ y=>y) (fun b y=>by rw [G0 fun w=>by rw [w,z] at y; cases y]; exact y) fun b xs y=>by rw [G0 fun w=>by rw [w,z] at y; cases y]; exact y
def Y8 (C:Addr) (names:List Str):Sp:=fun vs H Q _=>∃ e oe fl args,vs = .ref e :: args /\ args.length = names.length /\ H e = some (xo e oe) /\ oe.cls = .ref C /\ oe.dict = none /\ oe.data = .fields fl /\
 ∀ dx H',H dx = none -> dx ≠ e -> H' dx = some (oz dx (names.zip args).reverse) -> H' e = some (xo e { oe with dict:=some dx }) -> (∀ b,b ≠ dx -> b ≠ e -> H' b = H b) -> Q .non H'
def qh (X:Cx) (E:XK):Prop:=∀ (pins:List (Addr × Obj)) (σ:St) (H1:Hp) (s1:Shared) (e:Addr) (oe:Obj) (vs:Array Value) (a0:Value),Inv X pins σ H1 s1 -> s1.heap.get? e = some oe -> oe.data = .fields vs -> vs[0]? = some a0 -> vs[1]? = some .none -> X.s₀.heap.get? e = none -> H1 e = none -> E oe.cls oe.dict H1 -> X.xe (.ref e) s1
theorem bp {P:Program} {w:World} {K:PySem.W.Frag} {mg:Str -> Option Value} {base:Heap} {N:List Str} {qual:Str} {scope:Scope} {f:Addr} {cd:Value} {A:Around} {outer:List Env} {s:Shared} {H:Hp} {E:XK} :
  qh (bR (yK P w) P w K mg base N qual scope f cd A outer s H E) E:=fun pins σ H1 s1 e oe vs a0 I he hd h0 h1 en te hE=>uV I he hd h0 h1 en te hE
structure An (x:Str) (C fI:Addr) (bmB:List Value) (newId:String) (mg:Str -> Option Value) (base:Heap):Prop where
 bound:mg x = some (.ref C)
 obj:∃ tl N nm q bs hdct sn sub ab col dd k0 k1 k2 k3 k5 mN oI,base.get? C = some (excClassObj nm q C N bs tl hdct sn sub ab col dd k0 k1 k2 k3 k5 newId) /\ base.Ns N mN /\ mN "__init__" = some (.ref fI) /\ OwnTail base bmB tl /\ base.get? fI = some oI /\ oI.cls = .type "function"
def yU (C:Addr) (names:List Str) (E:XK) (t:TA):TS:=fun _ σ H=>t σ H fun vs H1=>vs.length = names.length /\ vs.length <= sizeLine /\ ∀ dx H2,H1 dx = none -> H2 dx = some (oz dx (names.zip vs).reverse) -> (∀ b,b ≠ dx -> H1 b ≠ none -> H2 b = H1 b) -> (∀ b,H2 b = none -> H1 b = none) -> E (.ref C) (some dx) H2
theorem sP {X:Cx} {x:Str} {C fI:Addr} {k:Nat} {fdI:FuncData} {psI names:List Str} {B Bn newId nid initId inN:String} {bm bmN:List Value} {np cpos pos:Pos} {e₀:Expr} {rest:List Expr} {E:XK} {t:TA} (O:An x C fI bm newId X.mg X.base) (FI:y4 X.prog X.w X.K X.mg X.base Q9 k fI fdI psI (Y8 C names)) (hr:E6 (k + 1) X.A) (hb:Binds X.K fdI psI [])
  (Fn:ExcBaseFacts Bn newId inN bmN) (hBn:bm.contains (.type Bn) = true) (FB:ExcBaseFacts B nid initId bm) (hc:X.calm = true) (mk:qh X E) (hg:Gl X x) (ha:PA X (e₀ :: rest) t) (hdb:(x == ("__debug__" : Str)) = false:=by decide)
  (he:starEach (e₀ :: rest) X.env = (false,eval e₀ X.env) :: starEach rest X.env:=by rfl) (hpl:(backTo cpos (starEach rest X.env)).any (·.1) = false:=by rfl) :
  PS X (.Raise (some (.Call (.Name x np) (e₀ :: rest) [] cpos)) none pos) (yU C names E t):=by
 refine .of ?_
 intro pins s σ H D I h
 obtain ⟨tl,N,nm,q,bs,hdct,sn,sub,ab,col,dd,k0,k1,k2,k3,k5,mN,oI,hC,hN,hi,T,hf,hfc⟩:=O.obj
 rw [arm_exec_Raise]
 refine wpAny_bind (wpAny_standAt (pz (C:=C) (nm:=nm) (q:=q) (N:=N) (bs:=bs) (bm:=tl) (hdct:=hdct) (sn:=sn) (sub:=sub) (ab:=ab) (col:=col) (dd:=dd) (k0:=k0) (k1:=k1) (k2:=k2) (k3:=k3) (k5:=k5) (newId:=newId) (T.hasType FB.hasBase) (I.ok.hd hc) ?_))
 refine wpAny_bind (wpAny_mono (wpAny_Call_ofName (bB I hg O.bound ?_ hdb)) (fun v s3 h3=>wpAny_bind (wpAny_standAt (wpAny_pure h3))) fun _ _ z=>z)
 have ha':=ha cpos pins s σ H _ I h
 have hpl':(backTo cpos ((false,eval e₀ X.env) :: starEach rest X.env)).any (·.1) = false:=by show (false || (backTo cpos (starEach rest X.env)).any (·.1)) = false; rw [hpl]; rfl
 unfold callWith
 rw [he] at ha' ⊢
 have hA:wpAny (model X.prog X.w) X.A (evalArgs (.ref C) true (backTo cpos ((false,eval e₀ X.env) :: starEach rest X.env)) []) (fun a s2=>a.kw = [] /\ ∃ vs H1,Inv X pins σ H1 s2 /\ Vals vs a.pos /\ vs.length = names.length /\ vs.length <= sizeLine /\ ∀ dx H2,H1 dx = none -> H2 dx = some (oz dx (names.zip vs).reverse) -> (∀ b,b ≠ dx -> H1 b ≠ none -> H2 b = H1 b) -> (∀ b,H2 b = none -> H1 b = none) -> E (.ref C) (some dx) H2) X.xe s:=Calls.evalArgs_plain (B6 ha' fun us s1 ⟨vs,H1,I1,r,q⟩=>⟨rfl,vs,H1,I1,r,q⟩)
 refine wpAny_bind (wpAny_holding (wpAny_mono hA (fun a s2 h2=>wpAny_bind (wpAny_standAt ?_)) fun _ _ z=>z))
 obtain ⟨us,kw⟩:=a
 obtain ⟨hkw,vs,H1,I1,r,hlen,hsz,hE⟩:=h2
 obtain rfl:kw = []:=hkw
 have hC2:=I1.bk _ _ hC
 have hf2:=I1.bk _ _ hf
 simp only [hpl']
 obtain ⟨hp,g,d,tk,os⟩:=s2
 have hlu:us.length <= sizeLine:=by rw [<- r.length]; exact hsz
 refine wpAny_bind (wpAny_keeperOf_exc hC2 ?_)
 refine wpAny_bind (pO Fn hBn FB (T.keeps I1.bk) hC2 (hN.keeps I1.bk) hi hf2 hfc hlu fun h' e hm hle=>?_)
 obtain ⟨t0,hte,_,_⟩:=hm.there
 have n1:H1 e = none:=I1.hok.fresh hle
 have I2:=I1.laid (a:=e) (o:=xo e { cls:=.ref C,data:=.fields #[.ref t0,.none,.none,.none,.bool false,.none] }) (h':=h') (t':=tk) hm.keeps hle (AR hte)
 have r2:Vals (V.ref e :: vs) (Value.ref e :: us):=.cons rfl r
 have sp:Y8 C names (V.ref e :: vs) (upd H1 e (xo e { cls:=.ref C,data:=.fields #[.ref t0,.none,.none,.none,.bool false,.none] })) (fun v H'=>v = .non /\ ∃ dx,dx ≠ e /\ H1 dx = none /\ H' dx = some (oz dx (names.zip vs).reverse) /\ H' e = some (xo e { cls:=.ref C,dict:=some dx,data:=.fields #[.ref t0,.none,.none,.none,.bool false,.none] }) /\ ∀ b,b ≠ dx -> b ≠ e -> H' b = H1 b) E0:=
  ⟨e,_,_,vs,rfl,hlen,i4,rfl,rfl,rfl,fun dx H' z1 z2 z3 z4 z5=>⟨rfl,dx,z2,by rw [<- z1,i6 z2],z3,z4,fun b y1 y2=>(z5 b y1 y2).trans (i6 y2)⟩⟩
 have hl:(Value.ref e :: us ++ []).length = psI.length:=by
  have q:=r2.length
  rw [FI.len _ _ _ _ sp] at q
  rw [List.append_nil]
  exact q.symm
 have run:=FI.run _ X.stack _ _ ⟨Value.ref e :: us,[]⟩ (Value.ref e :: us) _ _ E0 (hr.make C us []) (I2.Cv.make C us []) (by have:=hb _ (Value.ref e :: us) I2.gp hl; rw [List.append_nil] at this; exact this) r2 sp
 refine wpAny_call (codeAny_mono run fun rr s' hq=>?_)
 cases rr with
 | error x=>exact (show False from hq).elim
 | ok fl=>
  cases fl with
  | next=>exact (show False from hq).elim
  | brk=>exact (show False from hq).elim
  | cont=>exact (show False from hq).elim
  | ret u=>
   obtain ⟨v,H',os',bare,un,ok,rv,ev,dx,ne,nd,z3,z4,z5⟩:=hq
   subst ev
   have U12:Un (T3 X.stack) [] H1 (upd H1 e (xo e { cls:=.ref C,data:=.fields #[.ref t0,.none,.none,.none,.bool false,.none] })) hp h':=Un.laid hm.keeps hle n1
   have UT:=(U12.trans un).forget n1
   have J:Inv X pins σ (forget H' e) s':=I1.iE os' UT (ok.forget z4) bare (fun b z=>absurd z (by simp))
   obtain ⟨ge,_⟩:=(show w8 X.prog X.w H' s'.heap e (xo e _) from ok e _ z4)
   have ge:s'.heap.get? e = some { cls:=.ref C,dict:=some dx,data:=.fields #[.ref t0,.none,.none,.none,.bool false,.none] }:=ge
   have en:X.s₀.heap.get? e = none:=Heap.get?_none_of_le (Nat.le_trans I1.sz hle)
   refine ⟨rv,wpAny_bind (wpAny_holding (wpAny_point (wpAny_pure ?_)))⟩
   refine ⟨e,_,_,rfl,J.bk _ _ hC,ge,rfl,rfl,rfl,mk pins σ _ s' e _ _ _ J ge rfl rfl rfl en (if_pos rfl) (hE dx (forget H' e) nd ((G0 ne).trans z3) (fun b y1 y2=>?_) fun b y=>?_)⟩
   ·have be:b ≠ e:=fun z=>y2 (z ▸ n1)
    exact (G0 be).trans (z5 b y1 be)
   ·by_cases be:b = e
    ·rw [be]; exact n1
    ·by_cases bd:b = dx
     ·rw [bd]; exact nd
     ·exact (z5 b bd be).symm.trans ((G0 (H:=H') be).symm.trans y)
end L2
namespace L2
open PySem PySem.Spec PyProof.Rows
section
variable {K:PySem.W.Frag} {C:Addr} {f1 f2 f3:Str} {vs:List V} {H:Hp} {Q:VK} {E:XK} {N:List Str}
theorem yF (F1:kf K C f1) (F2:kf K C f2) (h:Y8 C [f1,f2] vs H Q E):vN (oa K (W8 0) (W8 1) f1) (vN (oa K (W8 0) (W8 2) f2) vb) { nx:=fun _ H'=>Q .non H',rt:=Q } (start N vs) H:=by
 obtain ⟨e,oe,fl,args,rfl,hl,he,hc,hn,hf,k⟩:=h
 match args,hl with
 | [a,b],_=>
  refine ⟨a,L3.F0 rfl,.ref e,L3.F0 rfl,e,oe,C,fl,rfl,he,hc,hf,F1,.inl ⟨hn,fun dx nd ne=>?_⟩⟩
  refine ⟨b,L3.F0 rfl,.ref e,L3.F0 rfl,e,_,C,fl,rfl,i4,hc,hf,F2,.inr ⟨dx,[(f1,a)],rfl,ne,by rw [i6 ne,i4],(show 1 < 1000 by decide),?_⟩⟩
  exact k dx _ nd ne i4 (by rw [i6 ne.symm,i4]) fun b h1 h2=>by rw [i6 h1,i6 h2,i6 h1]
theorem pS {ns ps:List Str} (h:Y8 C ns vs H Q E) (hp:ps.length = ns.length + 1):vs.length = ps.length:=by
 obtain ⟨e,oe,fl,args,rfl,hl,_⟩:=h
 rw [List.length_cons,hl,hp]
end
theorem yE {P:Program} {w:World} {K:PySem.W.Frag} {mg:Str -> Option Value} {base:Heap} {x qual f1 f2:Str} {C fI:Addr} {st:Stmt} {fd:FuncData} {N ps:List Str} {k:Nat} (F:X1 K x qual st fI fd) (S:o4 N ps (g6 st)) (hp:ps.length = 3) (F1:kf K C f1) (F2:kf K C f2)
  (hb:∀ (cdv:Value) (A:Around) (outer:List Env) (s:Shared) (H:Hp) (E:XK),jR (bR Q9 P w K mg base N qual (g6 st) fI cdv A outer s H E).DO (j8 st) (vN (oa K (W8 0) (W8 1) f1) (vN (oa K (W8 0) (W8 2) f2) vb))):y4 P w K mg base Q9 (k + 1) fI fd ps (Y8 C [f1,f2]):=
 F.ok S (fun vs H Q E h=>pS h hp) fun cdv A outer s H vs Q E hr h=>⟨_,hb cdv A outer s H E,yF F1 F2 h⟩
end L2
namespace L3
open PySem PySem.Spec PySem.Calls PyProof.Rows L2
noncomputable abbrev DX:=List D -> (D -> Prop) -> (Str -> List V -> Prop) -> Prop
def ez (Fo:Str -> List Str) (mg:Str -> Option Value) (W:Str -> List V -> Prop) (H:Hp) (E:XK):Prop:=∀ (y:Str) (C:Addr) (vs:List V) (dx:Addr) (H':Hp),W y vs -> mg y = some (.ref C) -> i7 H H' -> H dx = none -> H' dx = some (oz dx ((Fo y).zip vs).reverse) -> E (.ref C) (some dx) H'
def Bo (Fo:Str -> List Str) (K:PySem.W.Frag) (mg:Str -> Option Value) (c:DX):Sp:=fun vs H Q E=>∃ ds A Qd W,n8 K H vs ds A /\ c ds Qd W /\ (∀ r v H' B,Qd r -> i7 H H' -> Rep K H' v r B -> B.Nodup -> (∀ a ∈ B,H a = none) -> Q v H') /\ ez Fo mg W H E
structure yz (P:Program) (w:World) (K:PySem.W.Frag) (mg:Str -> Option Value) (base:Heap) (x:Str) (k:Nat) (ps:List Str) (sp:Sp) (f:Addr) (fd:FuncData):Prop where
 ok:y4 P w K mg base (yK P w) k f fd ps sp
 mgf:mg x = some (.ref f)
 kp:PySem.W.keepIn K (.ref f) = true
 bd:Binds K fd ps []
theorem IA {Fo:Str -> List Str} {P:Program} {w:World} {K:PySem.W.Frag} {mg:Str -> Option Value} {base:Heap} {x qual:Str} {st:Stmt} {f:Addr} {fd:FuncData} {N ps:List Str} {k:Nat} {c:DX} {s:(Str -> List V -> Prop) -> j2} {cl:List Cl} (F:X1 K x qual st f fd) (S:o4 N ps (g6 st)) (hcl:noOwn cl ps.length = true)
  (hl:∀ ds Q W,c ds Q W -> ds.length = ps.length)
  (hb:∀ (W:Str -> List V -> Prop) (cdv:Value) (A:Around) (outer:List Env) (s0:Shared) (H:Hp) (E:XK),E6 k (A.deeper (envOfC qual (g6 st) s0.heap.objs.size f cdv)) -> ez Fo mg W H E -> gR (bR (yK P w) P w K mg base N qual (g6 st) f cdv A outer s0 H E) (cl ++ [.mk H]) (j8 st) (s W))
  (hc:∀ ds Q W,c ds Q W -> s W { nx:=fun _=>Q .non,rt:=fun d _=>Q d } (i5 N.length ds)):y4 P w K mg base (yK P w) (k + 1) f fd ps (Bo Fo K mg c):=Iw (Wi:=fun W H E=>ez Fo mg W H E) F S hcl hl hb hc
noncomputable def AH:D -> Bool
 | .int _=>true
 | .str _=>true
 | _=>false
noncomputable def leafOf:D -> V
 | .int i=>.int i
 | .str x=>.str x
 | _=>.non
noncomputable def Ip:V -> D
 | .int i=>.int i
 | .str x=>.str x
 | _=>.non
theorem cP {K:PySem.W.Frag} {H:Hp}:∀ {vs:List V} {ds:List D} {A:List Addr},n8 K H vs ds A -> ds.all AH = true -> vs = ds.map leafOf
 | _,_,_,.nil,_=>rfl
 | _,_,_,.cons (d:=d) h r,e=>by
  rw [List.all_cons,Bool.and_eq_true] at e
  rw [List.map_cons,<- cP r e.2]
  congr 1
  cases h <;> first | rfl | (have:=e.1; cases this)
section
variable {X:Cx} {cl:List Cl} {e:Expr} {es:List Expr} {pos cpos hpos np p p1:Pos} {us:ck} {k kI:Nat} {fn:Addr} {fd:FuncData} {ps:List Str} {x y bn n f:Str} {i:Nat} {Fo:Str -> List Str}
def eJ (Fo:Str -> List Str) (W:Str -> List V -> Prop) (y:Str) (us:ck):j2:=fun _ ρ=>us ρ fun ds=>ds.all AH = true /\ Nat.beq ds.length (Fo y).length = true /\ Nat.ble ds.length 9 = true /\ W y (ds.map leafOf)
theorem fM {C fI:Addr} {fdI:FuncData} {psI:List Str} {B Bn newId nid initId inN:String} {bm bmN:List Value} {W:Str -> List V -> Prop} {H0:Hp} {Ew:XK} {j:Nat} (O:An y C fI bm newId X.mg X.base) (FI:y4 X.prog X.w X.K X.mg X.base Q9 kI fI fdI psI (Y8 C (Fo y))) (hr:E6 (kI + 1) X.A) (hb:Binds X.K fdI psI [])
  (Fn:ExcBaseFacts Bn newId inN bmN) (hBn:bm.contains (.type Bn) = true) (FB:ExcBaseFacts B nid initId bm) (hc:X.calm = true)
  (mk:qh X Ew) (wi:ez Fo X.mg W H0 Ew) (hj:cl[j]? = some (.mk H0)) (hg:Gl X y) (ha:wq X cl (e :: es) us) (hst:isStar e = false) (hdb:(y == ("__debug__" : Str)) = false:=by decide) (hpl:(backTo cpos (starEach es X.env)).any (·.1) = false:=by rfl) :
  K9 X cl (.Raise (some (.Call (.Name y np) (e :: es) [] cpos)) none pos) (eJ Fo W y us):=.of <| by
 obtain ⟨t,pt,h⟩:=ha.run
 refine ⟨_,sP O FI hr hb Fn hBn FB hc mk hg pt hdb (L9 hst) hpl,fun G T ρ σ H fa R hG E hu le=>?_⟩
 refine h G ρ σ H fa _ _ hG E hu fun vs H1 ds A s r n3 q=>?_
 have ev:=cP r q.1
 subst ev
 have s01:i7 H0 H1:=(E.same s).kept (j:=j) (by rw [hG]; exact hj)
 refine ⟨by rw [List.length_map]; exact Nat.eq_of_beq_eq_true q.2.1,by rw [List.length_map,sizeLine_eq]; have:=Nat.le_of_ble_eq_true q.2.2.1; omega,fun dx H2 nd hd hk _=>?_⟩
 have s12:i7 H1 H2:=fun b o hb=>by rw [hk b (fun z=>by rw [z,nd] at hb; cases hb) (by rw [hb]; exact fun z=>nomatch z)]; exact hb
 exact wi y C _ dx H2 q.2.2.2 O.bound (s01.trans s12) (s01.free nd) hd
def Bf (Fo:Str -> List Str) (c:DX) (us:ck) (i:Nat) (y:Str) (ts:Addr -> Addr -> j2):j2:=fun T ρ=>us ρ fun ds=>c ds (fun _=>T.nx ρ) fun z fs=>z = y /\ Nat.blt i ρ.length = true /\
 ∀ e dx,ts e dx { nx:=fun ρ'=>T.nx (ρ'.set i none),rt:=T.rt,bk:=fun ρ'=>T.bk (ρ'.set i none),ct:=fun ρ'=>T.ct (ρ'.set i none) } (ρ.set i (some (.xc e dx ((Fo y).zip fs).reverse)))
theorem CT {np2:Pos} {c:DX} {B C:Addr} {b₀:Stmt} {suite:List Stmt} {ts:Addr -> Addr -> j2} (F:yz X.prog X.w X.K X.mg X.base x k ps (Bo Fo X.K X.mg c) fn fd) (hr:E6 k X.A) (hgx:Gl X x) (ha:wq (X.cb fun _ _=>False) cl (e :: es) us) (hst:isStar e = false)
  (hstk:X.stack = X.env :: X.outer) (hf:X.env.frame = some X.env.locals) (hg:Gl X bn) (hm:X.mg bn = some (.ref B)) (hmy:X.mg y = some (.ref C)) (un:Under X.base C B true)
  (hN:X.N.Nodup) (hi:X.N[i]? = some n) (hk:X.env.scope.names.lookup n = some .local) (hcl:cl[i]? = some .bor)
  (hs:∀ e dx oe,oe.cls = .ref C -> oe.dict = some dx -> (∃ vs,oe.data = .fields vs) -> gR (X.M4 e oe fun _ _=>False) cl (b₀ :: suite) (ts e dx))
  (hdx:(x == ("__debug__" : Str)) = false:=by decide) (hpl:(backTo p (starEach es X.env)).any (·.1) = false:=by rfl) (hdb:(bn == ("__debug__" : Str)) = false:=by decide) (hsw:swapsWith (.Call (.Name x np) (e :: es) [] p) none cpos.line X.env = pure false:=by rfl) :
  K9 X cl (.Try [.Expr (.Call (.Name x np) (e :: es) [] p) cpos] [.ExceptHandler (some (.Name bn np2)) (some n) (b₀ :: suite) hpos] [] [] pos) (Bf Fo c us i y ts):=.of <| by
 obtain ⟨t,pt,h⟩:=ha.run
 have hs':=fun e dx oe hc hd hv=>(hs e dx oe hc hd hv).run
 refine ⟨_,Aa (tx:=fun σ H Q E=>t σ H fun vs H1=>Bo Fo X.K X.mg c (vs ++ []) H1 Q E) (ts:=fun dx e oe R σ H=>∀ (hc:oe.cls = .ref C) (hd:oe.dict = some dx) (hv:∃ vs,oe.data = .fields vs),Classical.choose (hs' e dx oe hc hd hv) R σ H)
  (fun pins s σ H Q E I q=>tG F.ok hr hgx F.mgf F.kp F.bd .nil pt I q hdx (L9 hst) hpl) hstk hf hg hm un hN hi hk (fun dx e oe hc hd hv=>?_) hdb hsw,fun G T ρ σ H fa R hG E hu le=>?_⟩
 ·refine .of ?_
  intro pins s σ H D I q
  exact (Classical.choose_spec (hs' e dx oe hc hd hv)).1 pins s σ H D I (q hc hd hv)
 ·have hb':G.cl[i]? = some .bor:=by rw [hG]; exact hcl
  have no:¬ G.own i:=fun z=>by
   unfold Ent.own at z
   rw [hb'] at z; cases z
  refine h G ρ σ H fa _ _ hG E hu fun vs H1 ds A s r n3 q=>?_
  rw [List.append_nil]
  refine ⟨ds,A,_,_,r,q,fun r v H2 B qd s2 _ _ _=>le.nx σ H2 ⟨ρ,fa,E.same (s.trans s2),qd⟩,fun z C' fs dx H2 w hz s2 nd hd2=>?_⟩
  obtain ⟨rfl,hbl,w⟩:=w
  have eC:C' = C:=by rw [hmy] at hz; cases hz; rfl
  subst eC
  refine ⟨rfl,dx,rfl,fun e oe he hc hd hc' hd' hv=>?_⟩
  have E1:=E.same s
  have E2:=(E1.same s2).set (Nat.le_of_ble_eq_true hbl) (.xc (e:=e) hd2) ⟨fun j _ hj a ha z=>by cases List.mem_singleton.mp ha; exact E1.there j z nd,by rw [hb']; trivial⟩
  refine (Classical.choose_spec (hs' e dx oe hc' hd' hv)).2 G _ _ _ _ _ _ hG E2 (w e dx) ⟨fun σ' H' z=>?_,le.rt,fun σ' H' z=>?_,fun σ' H' z=>?_⟩
  ·obtain ⟨ρ',fa',E',z⟩:=z
   exact le.nx _ _ ⟨_,_,E'.unset i no,z⟩
  ·obtain ⟨ρ',fa',E',z⟩:=z
   exact le.bk _ _ ⟨_,_,E'.unset i no,z⟩
  ·obtain ⟨ρ',fa',E',z⟩:=z
   exact le.ct _ _ ⟨_,_,E'.unset i no,z⟩
theorem CC {K:PySem.W.Frag} {H:Hp} {v:V} {e dx:Addr} {fs:List (Str × V)} {A:List Addr} (h:Rep K H v (.xc e dx fs) A):v = .ref e /\ H dx = some (oz dx fs):=by
 cases h with
 | xc h=>exact ⟨rfl,h⟩
def Hs (e dx:Addr) (i:Nat) (f:Str):TU:=fun ρ Q=>∃ fs v,ρ[i]? = some (some (.xc e dx fs)) /\ fs.lookup f = some v /\ vG v = true /\ Q (Ip v)
theorem ql {e dx C:Addr} {oe:Obj} (hp:(e,oe) ∈ X.pn) (hc:oe.cls = .ref C) (hd:oe.dict = some dx) (hf:∃ vs,oe.data = .fields vs) (B:PySem.W.mK X.K C) (F:kS X.K C f) (hi:PE X (.Name n p1) (W8 i)) (hb:attributeBase (.Name n p1) f X.env (eval (.Name n p1) X.env) = eval (.Name n p1) X.env) :
  PU X cl (.Attribute (.Name n p1) f pos) .fresh (Hs e dx i f):=.of <| by
 obtain ⟨vs,hf⟩:=hf
 refine ⟨_,zV hp hc hd hf B F hi hb,fun G ρ σ H fa Q R hG E hu k=>?_⟩
 obtain ⟨fs,v,e1,hl,lf,q⟩:=hu
 obtain ⟨w,e2,r⟩:=E.rep i _ e1
 obtain ⟨rfl,h⟩:=CC r
 refine ⟨_,e2,rfl,fs,v,h,hl,lf,?_⟩
 cases v <;> first | (cases lf; done) | skip
 ·exact k _ H _ [] (i7.refl H) .int (A3.nil _) q
 ·exact k _ H _ [] (i7.refl H) .str (A3.nil _) q
end
end L3
namespace PySem.W
open PySem PySem.Calls PyProof.Rows
section
variable {K:Frag}
theorem yZ {h:Heap} {N:Addr} {m:Str -> Option Value} {n:Str} {v:Value} (X:K.In h) (G:h.Ns N m) (e:nsIn K N n = some (some v)):m n = some v:=by
 obtain ⟨o,es,ep,ho,hd,_,hf⟩:=G
 unfold nsIn at e
 split at e
 case h_2=>cases e
 rename_i k l q
 have w:=X _ _ q
 rw [w] at ho
 cases ho
 cases hd
 rw [<- hf n]
 cases z:List.find? (fun x=>x.key.isStr n) es.toList with
 | none=>
  rw [z] at e
  dsimp only at e
  split at e <;> cases e
 | some en=>
  rw [z] at e
  cases e
  show (Array.find? _ es).map (·.val) = _
  rw [<- Array.find?_toList]
  exact congrArg (Option.map (·.val)) z
noncomputable def fL (K:Frag) (C:Addr) (bmB:List Value) (newId:String) (f:Addr):Bool:=
  match K.lookup C with
  | some ⟨.type "type",_,.cls k,l⟩=>
    (match k.mro,l.toList with
     | .ref D :: bm,[_,_,_,_,some (.builtin n),_]=>D == C && n == newId && !k.hasDel && tailIn K bmB bm && nsOkIn K k.ns && nsIn K k.ns "__init__" == some (some (.ref f)) && k.hasDict
     | _,_=>false)
  | _=>false
theorem mf {h:Heap} {C f:Addr} {bmB:List Value} {newId:String} (X:K.In h) (q:fL K C bmB newId f = true) :
  ∃ bm N nm qn bs hd sn sub ab col dd k0 k1 k2 k3 k5 mN,h.get? C = some (excClassObj nm qn C N bs bm hd sn sub ab col dd k0 k1 k2 k3 k5 newId) /\ h.Ns N mN /\ mN "__init__" = some (.ref f) /\ OwnTail h bmB bm /\ ∀ v r,mroIn K C v = some r -> (Value.ref C :: bm).contains v = r:=by
 unfold fL at q
 split at q
 case h_2=>cases q
 rename_i dd cd sl ho
 split at q
 case h_2=>cases q
 rename_i D bm k0 k1 k2 k3 n k5 hm hs
 simp only [Bool.and_eq_true,beq_iff_eq,Bool.not_eq_true'] at q
 obtain ⟨⟨⟨⟨⟨⟨rfl,rfl⟩,hdel⟩,ht⟩,hok⟩,hni⟩,_⟩:=q
 have hv:∀ v r,mroIn K D v = some r -> (Value.ref D :: bm).contains v = r:=fun v r e=>by
  unfold mroIn clsIn at e
  rw [ho] at e
  simp only [Option.bind_some,hm,List.isEmpty_cons] at e
  exact Option.some.inj e
 obtain ⟨nm,bs,mro,ns,qn,hd,sn,sub,ab,col,del⟩:=cd
 dsimp only at hm hdel hok hni
 subst hm hdel
 have hsl:sl = #[k0,k1,k2,k3,some (.builtin n),k5]:=by
  obtain ⟨l⟩:=sl
  exact congrArg Array.mk hs
 subst hsl
 have hns:h.Ns ns (h.nsMap ns):=.of_isNs (isNs_of_in X hok)
 exact ⟨bm,ns,nm,qn,bs,hd,sn,sub,ab,col,dd,k0,k1,k2,k3,k5,_,X _ _ ho,hns,yZ X hns hni,tail_of_in X ht,hv⟩
theorem Dw {h:Heap} {C f:Addr} {oI:Obj} {bmB:List Value} {newId:String} {mg:Str -> Option Value} {x:Str} (X:K.In h) (G:h.Ns mainGlobals mg) (e:nsIn K mainGlobals x = some (some (.ref C))) (q:fL K C bmB newId f = true) (hf:K.lookup f = some oI) (hc:oI.cls = .type "function"):L2.An x C f bmB newId mg h:=by
 obtain ⟨bm,N,nm,qn,bs,hd,sn,sub,ab,col,dd,k0,k1,k2,k3,k5,mN,a,b,c,d,_⟩:=mf X q
 exact ⟨mg_of X G e,bm,N,nm,qn,bs,hd,sn,sub,ab,col,dd,k0,k1,k2,k3,k5,mN,oI,a,b,c,d,X _ _ hf,hc⟩
theorem kU {h:Heap} {C f:Addr} {bmB:List Value} {newId:String} (X:K.In h) (q:fL K C bmB newId f = true) (hb:bmB.contains (.type "BaseException") = true):L2.Under h C C true:=by
 obtain ⟨bm,N,nm,qn,bs,hd,sn,sub,ab,col,dd,k0,k1,k2,k3,k5,mN,a,_,_,d,v⟩:=mf X q
 exact ⟨⟨nm,qn,N,bs,bm,hd,sn,sub,ab,col,dd,k0,k1,k2,k3,k5,newId,a,by rw [List.contains_cons]; simp⟩,nm,qn,N,bs,bm,hd,sn,sub,ab,col,dd,k0,k1,k2,k3,k5,newId,a,d.hasType hb⟩
noncomputable def qF:List Value -> Bool
 | []=>false
 | v :: r=>(v :: r) == L2.uj || (match v with
  | .ref _=>qF r
  | _=>false)
theorem mV:∀ {l:List Value},qF l = true -> ∃ rs:List Addr,l = rs.map Value.ref ++ L2.uj
 | [],e=>by cases e
 | v :: r,e=>by
  unfold qF at e
  rw [Bool.or_eq_true] at e
  rcases e with e | e
  ·exact ⟨[],eq_of_beq e⟩
  ·cases v with
   | ref a=>
    obtain ⟨rs,z⟩:=mV (l:=r) e
    exact ⟨a :: rs,by rw [z]; rfl⟩
   | _=>cases e
noncomputable def vI (K:Frag) (C:Addr) (fs:List Str):Bool:=(clsIn K C).any (fun cd=>qF cd.mro && cd.hasDict) && findIn K (.ref C) "__setattr__" == some (some (.builtin "object.__setattr__")) && fs.all fun f=>findIn K (.ref C) f == some none
theorem eE {C:Addr} {fs:List Str} {f:Str} (q:vI K C fs = true) (h:f ∈ fs):L2.kf K C f /\ L2.kS K C f:=by
 unfold vI at q
 rw [Bool.and_eq_true,Bool.and_eq_true] at q
 obtain ⟨⟨q1,q2⟩,q3⟩:=q
 obtain ⟨cd,hc,q1⟩:=any_some q1
 rw [Bool.and_eq_true] at q1
 obtain ⟨rs,hm⟩:=mV q1.1
 have no:=beq_iff_eq.mp (List.all_eq_true.mp q3 f h)
 exact ⟨⟨⟨cd,rs,hc,hm,q1.2⟩,beq_iff_eq.mp q2,no⟩,⟨⟨cd,hc,q1.2⟩,no⟩⟩
end
end PySem.W
namespace L3
open PySem PySem.Spec PySem.Calls PyProof.Rows PySem.W L2
def yn (c:DX):Cp:=fun ds Q=>c ds Q fun _ _=>False
theorem Ek {X:Cx} {P:Program} {w:World}:Passes (yK P w) X E0:=fun _ _ _ _ _ _ _ h=>by
 obtain ⟨_,_,_,_,_,_,_,_,_,_,_,_,_,_,_,_,h⟩:=h
 exact (show False from h).elim
section
variable {X:Cx} {cl:List Cl} {e:Expr} {es:List Expr} {pos p:Pos} {us:ck} {k:Nat} {fn:Addr} {fd:FuncData} {ps:List Str} {x:Str} {Fo:Str -> List Str}
theorem om {c:DX} (C:yz X.prog X.w X.K X.mg X.base x k ps (Bo Fo X.K X.mg c) fn fd) (hr:E6 k X.A) (hg:Gl X x) (ha:wq X cl (e :: es) us) (hst:isStar e = false) (hdb:(x == ("__debug__" : Str)) = false:=by decide)
  (hpl:(backTo pos (starEach es X.env)).any (·.1) = false:=by rfl):PU X cl (.Call (.Name x p) (e :: es) [] pos) .fresh (u3 (yn c) us):=.of <| by
 obtain ⟨t,pt,h⟩:=ha.run
 refine ⟨_,dX C.ok hr hg C.mgf C.kp C.bd .nil Ek pt hdb (L9 hst) hpl,fun G ρ σ H fa Q R hG E hu kk=>?_⟩
 refine h G ρ σ H fa _ _ hG E hu fun vs H1 ds A s r n3 q=>?_
 rw [List.append_nil]
 exact ⟨ds,A,_,fun _ _=>False,r,q,fun r v H2 B qd s2 rp n1 n2=>kk v H2 r B (s.trans s2) rp ⟨n1,fun a ha=>s.free (n2 a ha)⟩ qd,fun _ _ _ _ _ w=>w.elim⟩
end
section
variable {X:Cx} {cl:List Cl} {e dx C:Addr} {oe:Obj} {pos p p1 p2:Pos} {n y:Str} {i:Nat} {b:Bool}
end
end L3
namespace PySem
open Sem (wp)
open AutoSeq1 (wpAny_loadPart')
theorem Z5 (l:Addr) (items:Array Value) (n:Nat) (dct:Option Addr) (sl:Array (Option Value)) :
  Meets (Builtin.«enumerate.__new__» ⟨[.type "enumerate",.ref l],[]⟩) (fun _ R s=>s.heap.get? l = some { cls:=.type "tuple",dict:=dct,data:=.seq items n,slots:=sl } /\
   R (.ok (.ret (.ref (s.heap.push { cls:=.type "tuple_iterator",data:=.fields #[.ref l,.int 0 0] }).objs.size)))
    { s with heap:=(s.heap.push { cls:=.type "tuple_iterator",data:=.fields #[.ref l,.int 0 0] }).push { cls:=.type "enumerate",data:=.fields #[.none,.bool false,.ref s.heap.objs.size,rawInt 0,.none,.none] } }):=
 .of_wp fun prog w A R s h=>by
  obtain ⟨hp,g,d,tk,os⟩:=s; obtain ⟨hl,h⟩:=h
  have hsub:=sub_enumerate
  have hL:Heap.IsTuple (Shared.heap ⟨hp,g,d,tk,os⟩) l items:=⟨_,hl,rfl,n,rfl⟩
  wp_walk using wpAny_loadPart' hl
  refine wpAny_stack_any fun st=>wpAny_pure ?_
  split
  ·rename_i c _ _ _ _ _
   cases (c == Value.type "enumerate")
   ·wp_walk using wpAny_loadPart' hl,wpAny_pyIter_tuple hL
    exact ⟨_,rfl,h⟩
   ·wp_walk using wpAny_loadPart' hl,wpAny_pyIter_tuple hL
    exact ⟨_,rfl,h⟩
  ·wp_walk using wpAny_loadPart' hl,wpAny_pyIter_tuple hL
   exact ⟨_,rfl,h⟩
theorem Y5 {prog:Program} {w:World} {A:Around} {E:Value -> Shared -> Prop} {s:Shared} {l:Addr} {items:Array Value} {Q:Value -> Shared -> Prop} (hL:s.heap.IsTuple l items)
  (h:∀ h',IsEnum h' (s.heap.objs.size + 1) s.heap.objs.size 0 .none -> h'.IsTupleIter s.heap.objs.size l 0 -> h'.objs.size = s.heap.objs.size + 2 ->
   (∀ b o,s.heap.get? b = some o -> h'.get? b = some o) -> Q (.ref (s.heap.objs.size + 1)) { s with heap:=h' }) :
  wpAny (model prog w) A (call (.type "enumerate") [.ref l]) Q E s:=by
 obtain ⟨⟨c,dct,dt,sl⟩,hl,hc,n,hd⟩:=hL
 replace hc:c = .type "tuple" := hc
 replace hd:dt = .seq items n:=hd
 subst hc hd
 refine callType_new F.called_enumerate (by decide) (F.typeCall_enumerate_1 _) (F.newCall_enumerate_1 _) (fun obj=>F.args_object_init_2 obj _) F.entry_enumerate_new
  (Z5 l items n dct sl) ⟨hl,?_⟩
 have hz:(s.heap.push { cls:=.type "tuple_iterator",data:=.fields #[.ref l,.int 0 0] }).objs.size = s.heap.objs.size + 1:=Heap.size_push ..
 show _ /\ _
 rw [hz]
 have he:IsEnum ((s.heap.push { cls:=.type "tuple_iterator",data:=.fields #[.ref l,.int 0 0] }).push
   { cls:=.type "enumerate",data:=.fields #[.none,.bool false,.ref s.heap.objs.size,rawInt 0,.none,.none] }) (s.heap.objs.size + 1) s.heap.objs.size 0 .none:=by
  have:=Heap.get?_push_size (s.heap.push { cls:=.type "tuple_iterator",data:=.fields #[.ref l,.int 0 0] })
   (o:={ cls:=.type "enumerate",data:=.fields #[.none,.bool false,.ref s.heap.objs.size,rawInt 0,.none,.none] }) rfl
  rw [hz] at this; exact this
 refine ⟨⟨_,he,rfl⟩,h _ he ⟨_,Heap.get?_push_of_some _ (Heap.get?_push_size _ rfl),rfl,rfl⟩ (by rw [Heap.size_push,hz]) fun b o x=>Heap.get?_push_of_some _ (Heap.get?_push_of_some _ x)⟩
end PySem
namespace L2
open PySem PySem.Spec PyProof.Rows
noncomputable def xi (K:PySem.W.Frag) (a:Addr):It:=
 ⟨fun i H=>∃ xs x,O8 K H a xs /\ xs[i]? = some x,fun i H x H'=>∃ p y,x = .ref p /\ H p = none /\ H' = upd H p (.tup [.int i,y]) /\ ∀ xs,O8 K H a xs -> xs[i]? = some y,fun i H=>∃ xs,O8 K H a xs /\ xs.length <= i⟩
theorem rV {prog:Program} {w:World} {A:Around} {E:Value -> Shared -> Prop} {s:Shared} {e it l:Addr} {i:Nat} {j:Int} {items:Array Value} {old:Value} {Q:Option Value -> Shared -> Prop} (hh:A.handled = none)
  (he:IsEnum s.heap e it j old) (hit:s.heap.IsTupleIter it l i) (hl:s.heap.IsTuple l items) (hx:items[i]? = none)
  (hQ:∀ h',Heap.ExtBut it s.heap h' -> Q none { s with heap:=h' }):wpAny (model prog w) A (pyNext (.ref e)) Q E s:=by
 have hT:s.TypeIs (.ref e) "enumerate" := ⟨_,he,rfl⟩
 unfold pyNext
 refine wpAny_bind (wpAny_attempt (wpAny_callSpecial?_slot (name:=Str.ofString "__next__") hT F.slot_enumerate_next
  (wpAny_call_entry F.slot_enumerate_next hT F.entry_enumerate_next ?_ (F.args_enumerate_next_1 _))))
 show wpAny _ _ (field (.ref e) 2 >>= _) _ _ _
 refine wpAny_bind (wpAny_field he rfl (x:=.ref it) rfl ?_)
 refine wpAny_bind (Y1 hh hit hl hx fun h' x he' hx'=>?_)
 obtain ⟨o,ho,hc⟩:=hx'
 refine wpAny_bind (wpAny_isInstance (T := "StopIteration") (b:=true) ⟨o,ho,hc⟩ isSubtype_stop ?_)
 exact wpAny_pure (hQ _ he')
theorem oG {P:Program} {w:World} {K:PySem.W.Frag} {elts:List Expr} {x1:Nat} {tp:Pos} (a e it:Addr) (hei:e ≠ it):Turn P w K (.Tuple elts x1 tp) (xi K a) [e,it] e (fun i h=>(∃ old,IsEnum h e it (i:Nat) old) /\ h.IsTupleIter it a i) where
 mem:=by simp
 obj:=fun i h st b hb=>by
  obtain ⟨⟨old,he⟩,o,ho,c,d⟩:=st
  rcases List.mem_cons.mp hb with rfl | hb
  ·exact ⟨_,he,fun v z=>by
    have z':Data.fields _ = Data.cell v:=z
    cases z'⟩
  ·have z:b = it:=by simpa using hb
   subst z
   exact ⟨o,ho,fun v z=>by rw [d] at z; cases z⟩
 keep:=fun i h h' st k=>by
  obtain ⟨⟨old,he⟩,hit⟩:=st
  exact ⟨⟨old,k e (by simp) _ he⟩,hit.at fun o q=>k it (by simp) o q⟩
 item:=by
  intro X hP hw hK hc i pins s σ H E I hf st hg
  subst hP hw hK
  obtain ⟨⟨old,he⟩,hit⟩:=st
  obtain ⟨xs,x,hq,hx⟩:=hg
  obtain ⟨its,rv,p,hz⟩:=I.tuple hq
  obtain ⟨u,hu,ru⟩:=rv.get hx
  have hai:a ≠ it:=fun z=>by
   subst z
   obtain ⟨o,h1,h2,_⟩:=p
   obtain ⟨o',h1',h2',_⟩:=hit
   rw [h1] at h1'; cases h1'
   rw [h2] at h2'; exact absurd h2' (by decide)
  have hae:e ≠ a:=fun z=>by
   subst z
   obtain ⟨o,h1,h2,_⟩:=p
   have h1':s.heap.get? e = some _:=he
   rw [h1] at h1'; cases h1'
   exact absurd (show Value.type "enumerate" = .type "tuple" from h2) (by decide)
  have hlt:i < its.toArray.size:=by
   have:=(List.getElem?_eq_some_iff.mp hu).1
   simpa using this
  refine wpAny_pyNext_enum_itemD (cH true (A:=X.A.in1) (I.ok.hd hc) it a hai its.toArray) he ⟨hit,p⟩ hlt hei (by simp [hei,hae]) fun x' h1 tk hP heo hst1 hT hsz hk=>?_
  obtain ⟨hit1,_⟩:=hst1
  have hP:its.toArray[i]? = some x':=hP
  have ex:x' = u:=by
   rw [List.getElem?_toArray,hu] at hP
   exact (Option.some.inj hP).symm
  subst ex
  refine ⟨_,rfl,wpAny_letOwnedTupleGo_enum heo fun h2 he2 hs2=>?_⟩
  have helt:e < s.heap.objs.size:=Heap.lt_size he
  have hilt:it < s.heap.objs.size:=by obtain ⟨o,ho,_⟩:=hit; exact Heap.lt_size ho
  have ht2:IsTup h2 s.heap.objs.size [Value.int i tk,x'].toArray:=⟨_,(hs2.2 _ (Nat.ne_of_gt helt)).trans hT,rfl,_,rfl⟩
  have I2:Inv X pins σ (upd H s.heap.objs.size (.tup [.int i,x])) { s with heap:=h2,toks:=tk + 1 }:=by
   refine I.jd (ch:=[e,it]) hf (fun b o hb q=>?_) (Nat.le_refl _) (.cons ⟨_,rfl⟩ (.cons ru .nil)) (by show 2 <= sizeLine; decide) ht2
   have b1:b ≠ e:=fun z=>hb (by simp [z])
   have b2:b ≠ it:=fun z=>hb (by simp [z])
   exact (hs2.2 b b1).trans (hk b o b1 b2 q)
  refine ⟨.ref s.heap.objs.size,_,I2,rfl,⟨s.heap.objs.size,x,rfl,I.fresh,rfl,fun ys hy=>by rw [I.cI hy hq]; exact hx⟩,⟨⟨x',by simpa using he2⟩,(show h1.IsTupleIter it a (i + 1) from hit1).at fun o q=>(hs2.2 it (Ne.symm hei)).trans q⟩,fun b hb=>?_⟩
  rcases List.mem_cons.mp hb with rfl | hb
  ·rw [i6 (Nat.ne_of_lt helt)]
   exact (hf _ (by simp)).1
  ·have z:b = it:=by simpa using hb
   subst z
   rw [i6 (Nat.ne_of_lt hilt)]
   exact (hf _ (by simp)).1
 done:=by
  intro X hP hw hK hc i pins s σ H E I hf st hg
  subst hP hw hK
  obtain ⟨⟨old,he⟩,hit⟩:=st
  obtain ⟨xs,hq,hx⟩:=hg
  obtain ⟨its,rv,p,hz⟩:=I.tuple hq
  have hl:=rv.length
  refine rV (I.ok.hd hc) he hit p (by simp; omega) fun h1 eb=>⟨rfl,I.rF (t':=s.toks) (ch:=[e,it]) hf fun b o hb q=>eb b o (fun z=>hb (by simp [z])) q⟩
 self:=fun _ _ _ _ _ st h=>wpAny_pyIter_enum st.1.choose_spec h
def xP (K:PySem.W.Frag) (ta:TA):TI:=fun σ H R=>ta σ H fun vs H1=>∃ a,vs = [.ref a] /\ (∃ xs,O8 K H1 a xs) /\ R (xi K a) H1
theorem kQ {X:Cx} {elts:List Expr} {x1:Nat} {tp:Pos} {a:Expr} {ta:TA} {p pos:Pos} (hg:Gl X "enumerate") (hm:X.mg "enumerate" = none) (ha:PA X [a] ta) (hs:starEach [a] X.env = [(false,eval a X.env)]:=by rfl) :
  PI X (.Tuple elts x1 tp) (.Call (.Name "enumerate" p) [a] [] pos) (xP X.K ta):=by
 refine .of ?_
 intro pins s σ H R I h
 refine Call_ (bo I hg hm boot_enumerate (PyProof.Rows.callWith_type1 (B6 (ha pos pins s σ H _ I h) fun us s1 ⟨vs,H1,I1,r1,q1⟩=>?_) hs rfl))
 obtain ⟨l,e,⟨xs,hq⟩,q⟩:=q1
 subst e
 cases r1 with
 | cons r rr=>
  cases rr
  cases r
  obtain ⟨its,rv,pl,hz⟩:=I1.tuple hq
  refine Y5 pl fun h' he hit hsz hk=>wpAny_pyIter_enum he ?_
  have I2:Inv X pins σ H1 { s1 with heap:=h' }:=I1.kept (t':=s1.toks) hk
  refine ⟨s1.heap.objs.size + 1,[s1.heap.objs.size + 1,s1.heap.objs.size],_,_,H1,rfl,I2,oG l _ _ (Nat.succ_ne_self _),⟨⟨_,he⟩,hit⟩,fun b hb=>?_,q⟩
  rcases List.mem_cons.mp hb with rfl | hb
  ·exact I1.js (Nat.le_succ _) (I1.hok.fresh (Nat.le_succ _))
  ·have z:b = s1.heap.objs.size:=by simpa using hb
   subst z
   exact I1.js (Nat.le_refl _) (I1.hok.fresh (Nat.le_refl _))
end L2
namespace L3
open PySem PySem.Spec PySem.Calls PyProof.Rows PySem.W L2
theorem HD {K:PySem.W.Frag} {H:Hp} {p:Addr} {vs:List V} {xs:List D} {C:List Addr} (h:H p = some (.tup vs)) (r:n8 K H vs xs C):eU K (xi K p) (dU 0 xs) C H:=fun H' tf k i=>by
 have hp:O8 K H' p vs:=O8.of (tf.L4 _ _ h)
 refine ⟨fun hl=>⟨vs,hp,by rw [r.length,<- Q1 (xs:=xs) (k:=0)]; exact Nat.le_of_eq hl⟩,fun d e=>?_⟩
 obtain ⟨x,e0,ed⟩:=bH e
 obtain ⟨v,B,e1,r1,s1⟩:=aB r tf k e0
 refine ⟨⟨vs,v,hp,e1⟩,fun y H2 hy=>?_⟩
 obtain ⟨p',z,rfl,hn,rfl,hz⟩:=hy
 have e3:=hz vs hp
 rw [e1] at e3
 cases e3
 refine ⟨i7.n9 hn,B,?_,s1⟩
 rw [ed]
 have rr:n8 K (upd H' p' (.tup [.int i,v])) [.int i,v] [.int ((0 + i:Nat):Int),x] ([] ++ (B ++ [])):=.cons (by rw [Nat.zero_add]; exact .int) (.cons (r1.same (i7.n9 hn)) .nil)
 rw [List.append_nil,List.nil_append] at rr
 exact .tup i4 rr
section
variable {X:Cx} {cl:List Cl} {tg e:Expr} {pos p:Pos} {f:Fl} {ua:TU}
def CM (u:TU):uF:=fun ρ Q=>u ρ fun d=>match d with
 | .tup xs=>Q (dU 0 xs)
 | _=>False
theorem rA {p:Pos} (h:PU X cl e f ua) (hst:isStar e = false)
  (mk:∀ {t},PA X [e] t -> PI X tg (.Call (.Name "enumerate" p) [e] [] pos) (xP X.K t)):eP X cl tg (.Call (.Name "enumerate" p) [e] [] pos) f (CM ua):=.of <| by
 obtain ⟨t,pt,h⟩:=h.run
 refine ⟨_,mk (cK pt R7 hst),fun G ρ σ H fa Q R hG E hu k=>h G ρ σ H fa _ _ hG E hu fun v H' d B s r fo q=>?_⟩
 cases d <;> first | exact (show False from q).elim | skip
 obtain ⟨p,vs,rfl,hp,rs⟩:=K4 r
 exact ⟨p,rfl,⟨vs,O8.of hp⟩,k _ H' _ _ s (HD hp rs) rs.there fo q⟩
def CL (ua:TU) (lo hi:BM):TU:=fun ρ Q=>ua ρ fun d=>lo ρ fun l=>hi ρ fun h=>match d with
 | .tup xs=>y8 (cutD xs l h) = true /\ Q (.tup (cutD xs l h))
 | _=>False
theorem xj {a:Expr} {fa:Fl} {lo hi:Option Expr} {ul uh:BM} {p2:Pos} (ha:PU X cl a fa ua) (hl:Eb X cl lo ul) (hh:Eb X cl hi uh):PU X cl (.Subscript a (.Slice lo hi none p2) pos) .fresh (CL ua ul uh):=.of <| by
 obtain ⟨ta,pa,ha⟩:=ha.run
 obtain ⟨tl,pl,hl⟩:=hl.run
 obtain ⟨th,ph,hh⟩:=hh.run
 refine ⟨_,kR (qj.or wt) pa pl ph,fun G ρ σ H fo Q R hG E hu k=>ha G ρ σ H fo _ _ hG E hu fun v H1 d A s1 r1 f1 q1=>hl G ρ σ H1 fo _ _ hG (E.same s1) q1 fun o1 H2 s2 q2=>hh G ρ σ H2 fo _ _ hG (E.same (s1.trans s2)) q2 fun o2 H3 s3 q3=>?_⟩
 have s13:=(s1.trans s2).trans s3
 cases d <;> first | exact (show False from q3).elim | skip
 rename_i xs
 obtain ⟨im,q3⟩:=q3
 obtain ⟨p,vs,rfl,hq,rs⟩:=K4 ((r1.same s2).same s3)
 refine .inr ⟨p,vs,rfl,hq,fun r H4 s4 hr=>?_⟩
 obtain ⟨B,sB,rc⟩:=rs.cut (HT.D1 xs.length 0 o1) (HT.D1 xs.length xs.length o2 - HT.D1 xs.length 0 o1)
 have eB:=n8.M1 rc (show y8 _ = true from im)
 subst eB
 refine k _ _ (.tup (cutD xs o1 o2)) [] (s13.trans s4) (.tup hr ?_) (A3.nil _) q3
 have rc':=rc.same s4
 unfold dN cutD
 rw [rs.length]
 exact rc'
end
end L3
namespace L3
open PySem PySem.Spec PySem.Calls PyProof.Rows PySem.W L2
noncomputable def Fo (y:Str):List Str:=bif y == "NoBoard" then ["word", "number"] else bif y == "NoText" then ["line"] else bif y == "NoEvent" then ["number"] else bif y == "Loud" then ["guard"] else bif y == "Blind" then ["lower", "upper", "greatness"] else []
example:Fo "NoBoard" = (["word", "number"]:List Str):=rfl
example:Fo "Blind" = (["lower", "upper", "greatness"]:List Str):=rfl
section
variable {X:Cx} {cl:List Cl} {tg a b:Expr} {pos p:Pos} {us:ck}
def AI (us:ck):uF:=fun ρ Q=>us ρ fun ds=>∃ i j:Int,ds = [.int i,.int j] /\ (-(2 ^ 62) <= i /\ i < 2 ^ 62 /\ -(2 ^ 62) <= j /\ j < 2 ^ 62) /\ Q (ke i (j - i).toNat)
theorem xu (h:wq X cl [a,b] us) (mk:∀ {t},PA X [a,b] t -> PI X tg (.Call (.Name "range" p) [a,b] [] pos) (Bi t)):eP X cl tg (.Call (.Name "range" p) [a,b] [] pos) .fresh (AI us):=.of <| by
 obtain ⟨t,pt,h⟩:=h.run
 refine ⟨_,mk pt,fun G ρ σ H fa Q R hG E hu k=>h G ρ σ H fa _ _ hG E hu fun vs H' ds A s r n3 q=>?_⟩
 obtain ⟨i,j,rfl,hb,q⟩:=q
 have ev:=cP r rfl
 subst ev
 exact ⟨i,j,rfl,hb,k _ H' _ [] s (itR i _) (fun a ha=>(by cases ha)) (A3.nil _) q⟩
end
section
variable {X:Cx} {cl:List Cl} {a b:Expr} {pos:Pos} {fa fb:Fl} {ua ub:TU}
theorem CB (hu:X.A.units + 64 < cLine):J4 X (compareOp .Eq) (uK X false):=by
 intro pins s σ H x y v u Q I rx ry h
 obtain ⟨d,e,A,B,r1,r2,o1,o2,q⟩:=h
 obtain ⟨as,rd⟩:=Q2 I r1 o1.1 rx
 obtain ⟨bs,re⟩:=Q2 I r2 o2.1 ry
 exact PySem.SeqAt.compareEq_shaped rd re (by unfold PySem.SeqAt.shaped; rw [o1.2.1,decide_eq_true o1.2.2]; rfl) (by unfold PySem.SeqAt.shaped; rw [o2.2.1,decide_eq_true o2.2.2]; rfl) hu ⟨.bl _,H,I,rfl,q⟩
theorem BK (hu:X.A.units + 64 < cLine) (ha:PU X cl a fa ua) (hb:PU X cl b fb ub) (hm:behindInMarks .Eq b = false):PU X cl (.Compare a [.Eq] [b] pos) .fresh (p6 (N6 false) ua ub):=Z8 (lz.or (CB hu)) (iS vd) ha hb hm
end
end L3
namespace PySem
open Sem (wp)
open Builtin
open AutoSeq1 (wpAny_loadPart')
theorem cS:fillsNumberSlot (.type "tuple") "mul" = pure false:=
 fillsNumberSlot_seq (id := "tuple.__mul__") (r:=some (.builtin "tuple.__rmul__")) F.slot_tuple_mul.lookup (by decide +kernel) F.slot_tuple_rmul.lookup (by decide +kernel)
theorem jT:seqRepeat? (.type "tuple") = pure (some (.builtin "tuple.__mul__")):=by
 unfold seqRepeat?
 rw [seqSlot_of (T := "tuple") (name := "__mul__") (id := "tuple.__mul__") F.slot_tuple_mul.lookup (by decide +kernel),seqSlot_of (T := "tuple") (name := "__rmul__") (id := "tuple.__rmul__") F.slot_tuple_rmul.lookup (by decide +kernel)]
 rfl
theorem fA (a:Int) (t:Tok) (l:Addr) (items:Array Value) (n:Nat) (dct:Option Addr) (sl:Array (Option Value)) :
  Meets (Builtin.«int.__rmul__» ⟨[.int a t,.ref l],[]⟩) (fun _ R s=>s.heap.get? l = some { cls:=.type "tuple",dict:=dct,data:=.seq items n,slots:=sl } /\ R (.ok (.ret Value.notImplemented)) s):=
 .of_wp fun prog w A R s h=>by obtain ⟨hp,g,d,tk,os⟩:=s; obtain ⟨hl,h⟩:=h; wp_walk; exact ⟨_,rfl,h⟩
theorem uk (l:Addr) (items:Array Value) (n:Nat) (dct:Option Addr) (sl:Array (Option Value)) (x:Int) (u:Tok) (h0:2 <= x) (h1:x < 2 ^ 63) (he:items.isEmpty = false) (hz:items.size * x.toNat <= sizeLine) :
  Meets (Builtin.«tuple.__mul__» ⟨[.ref l,.int x u],[]⟩) (fun _ R s=>s.heap.get? l = some { cls:=.type "tuple",dict:=dct,data:=.seq items n,slots:=sl } /\
   R (.ok (.ret (Value.ref s.heap.objs.size))) { s with heap:=s.heap.push { cls:=Value.type "tuple",data:=Data.seq (List.foldl (fun x1 x2=>x1 ++ x2) #[] (List.replicate x.toNat items)) } }):=
 .of_wp fun prog w A R s h=>by
  obtain ⟨hp,g,d,tk,os⟩:=s; obtain ⟨hl,h⟩:=h
  have e1:((decide (x < -(2 ^ 63)) || decide (x ≥ 2 ^ 63)):Bool) = false:=by
   rw [decide_eq_false (by omega),decide_eq_false (by omega)]; rfl
  have e2:(items.isEmpty || x == 1) = false:=by rw [he]; exact decide_eq_false (by omega)
  have e3:(decide (x <= 0) || items.isEmpty) = false:=by rw [he,decide_eq_false (by omega)]; rfl
  wp_walk
  refine wpAny_ite_false (decide_eq_false (by rw [e1]; exact Bool.false_ne_true)) ?_
  wp_walk
  refine wpAny_ite_false (decide_eq_false (by rw [e2]; exact Bool.false_ne_true)) ?_
  refine wpAny_ite_false (decide_eq_false (by rw [e3]; exact Bool.false_ne_true)) ?_
  have m:(items.size:Int) * x = ((items.size * x.toNat:Nat):Int):=by rw [Int.natCast_mul,Int.toNat_of_nonneg (by omega)]
  have e4:¬ ((items.size:Int) * x > (2 ^ 63 - 1) / 8):=by
   have:(sizeLine:Nat) <= (2 ^ 63 - 1) / 8:=by decide
   omega
  have e5:Builtin.Tuple.tupleTooMany ((items.size:Int) * x) = false:=decide_eq_false (by omega)
  rw [if_neg e4]
  have e6:(List.foldl (fun (x1 x2:Array Value)=>x1 ++ x2) #[] (List.replicate x.toNat items)).size <= sizeLine:=by
   have:∀ (m:Nat) (acc:Array Value),(List.foldl (fun (x1 x2:Array Value)=>x1 ++ x2) acc (List.replicate m items)).size = acc.size + m * items.size:=fun m=>by
    induction m with
    | zero=>intro acc; simp
    | succ m ih=>intro acc; rw [List.replicate_succ,List.foldl_cons,ih,Array.size_append,Nat.succ_mul]; omega
   rw [this,Nat.mul_comm]; simpa using hz
  refine wpAny_ite_false (decide_eq_false (by rw [e5]; exact Bool.false_ne_true)) ?_
  wp_walk
  exact ⟨_,rfl,h⟩
end PySem
namespace L2
open PySem PySem.Spec PyProof.Rows
section
variable {X:Cx}
def AE:R2:=fun x y H Q=>∃ l k xs,x = .ref l /\ y = .int k /\ H l = some (.tup xs) /\ 2 <= k /\ k < 2 ^ 63 /\ xs ≠ [] /\ xs.length * k.toNat <= sizeLine /\
 ∀ p,H p = none -> Q (.ref p) (upd H p (.tup (List.replicate k.toNat xs).flatten))
theorem yS:J4 X (binaryOp .Mult) AE:=by
 intro pins s σ H x y v u Q I rx ry h
 obtain ⟨l,k,xs,rfl,rfl,hH,h1,h2,hn,hz,q⟩:=h
 cases rx
 obtain ⟨t,rfl⟩:=ry
 obtain ⟨its,r,ht,hl⟩:=I.tuple (O8.of hH)
 obtain ⟨⟨c,dct,dt,sl⟩,e,hc,n,hd⟩:=ht
 replace hc:c = .type "tuple" := hc
 replace hd:dt = .seq its.toArray n:=hd
 subst hc hd
 have hlen:its.toArray.size * k.toNat <= sizeLine:=by rw [List.size_toArray,<- r.length]; exact hz
 have hne:its.toArray.isEmpty = false:=by
  cases its with
  | nil=>exact absurd (r.bQ.mp rfl) hn
  | cons a b=>rfl
 have hnew:List.foldl (fun x1 x2=>x1 ++ x2) #[] (List.replicate k.toNat its.toArray) = (List.replicate k.toNat its).flatten.toArray:=by
  have:=foldl_rep its k.toNat []
  rw [List.nil_append] at this
  exact this
 refine wpAny_binaryOp_repeat_ref (T := "tuple") (U := "int") (by decide) ⟨_,e,rfl⟩ (fun s'=>typeIs_int s' k t) cS F.fills_int_mul F.slot_int_rmul jT F.slot_int_index.lookup
  (call_meets F.slot_int_rmul (typeIs_int s k t) F.entry_int_rmul (F.args_int_rmul_2 _ _) (fA k t l its.toArray n dct sl)
   ⟨e,rfl,⟨_,e,rfl⟩,call_meets F.slot_tuple_mul ⟨_,e,rfl⟩ F.entry_tuple_mul (F.args_tuple_mul_2 _ _) (uk l its.toArray n dct sl k t h1 h2 hne hlen) ⟨e,?_⟩⟩)
 rw [hnew]
 refine ⟨.ref s.heap.objs.size,_,I.laid (t':=s.toks) (o:=.tup (List.replicate k.toNat xs).flatten) (fun b ob q=>Heap.get?_push_of_some _ q) (Nat.le_refl _) ?_,rfl,q _ (I.hok.fresh (Nat.le_refl _))⟩
 exact ⟨by rw [len_rep,Nat.mul_comm]; exact hz,_,r.rep k.toNat,IsTup.new _ _⟩
end
end L2
namespace L3
open PySem PySem.Spec PySem.Calls PyProof.Rows PySem.W L2
section
variable {X:Cx} {cl:List Cl} {a b:Expr} {pos:Pos} {fa fb:Fl} {ua ub:TU}
noncomputable def xh:D -> D -> (D -> Prop) -> Prop:=fun d e Q=>match d,e with
 | .tup xs,.int n=>y8 xs = true /\ 2 <= n /\ n < 2 ^ 63 /\ xs ≠ [] /\ xs.length * n.toNat <= sizeLine /\ Q (.tup (List.replicate n.toNat xs).flatten)
 | _,_=>False
theorem Cz:X5 X AE xh:=by
 intro H v w d e A B Q R r1 r2 q k
 cases d <;> cases e <;> first | exact (show False from q).elim | skip
 obtain ⟨im,h1,h2,h3,h4,q⟩:=q
 obtain ⟨p,vs,rfl,hp,rs⟩:=K4 r1
 cases B3 r2
 have eB:=rs.M1 im
 subst eB
 refine ⟨p,_,vs,rfl,rfl,hp,h1,h2,?_,by rw [rs.length]; exact h4,fun l hl=>k _ _ (.tup _) [] (i7.n9 hl) (.tup i4 ((cp rs _).same (i7.n9 hl))) List.nodup_nil (fun a ha=>(by cases ha)) q⟩
 intro z
 have:=rs.length
 rw [z] at this
 exact h3 (List.length_eq_zero_iff.mp this.symm)
theorem Ab (ha:PU X cl a fa ua) (hb:PU X cl b fb ub):PU X cl (.BinOp a .Mult b pos) .fresh (p6 xh ua ub):=eY yS Cz ha hb
end
end L3
namespace My
open PySem L2 L3
noncomputable def gz:D -> Bool
 | .tup [.tup gs,.tup ls]=>decide (1 <= gs.length) && decide (gs.length <= 16) && decide (ls.length <= 24)
 | _=>false
noncomputable def dG:D -> Gd
 | .tup [.str n,u,.tup ps,.int a,.int b]=>⟨n,Ec u,ps.map yH,a,b⟩
 | _=>⟨"",none,[],0,0⟩
noncomputable def X4:List Gd -> List D -> Option Nat
 | _,[]=>none
 | gs,x :: r=>bif aR gs x then X4 (gs ++ [dG x]) r else some gs.length
noncomputable def W2 (xs:List Str):List Str -> List D -> Option Nat
 | _,[]=>none
 | ys,y :: r=>bif aP xs ys y then W2 xs (ys ++ [R9 y]) r else some ys.length
noncomputable def lb:D -> Option (Str × Int)
 | .tup [.tup gs,.tup ls]=>bif gz (.tup [.tup gs,.tup ls]) then (match X4 [] gs with
  | some i=>some ("guard",i)
  | none=>match W2 (gs.map R9) [] ls with
   | some i=>some ("load",i)
   | none=>none) else some ("board",0)
 | _=>some ("board",0)
def E7:Cp:=fun ds Q=>∃ d:D,ds = [d] /\ kn d = true /\ Q (.bl (gz d))
def K6:DX:=fun ds Q W=>∃ d:D,ds = [d] /\ kn d = true /\ (match lb d with
 | none=>Q (.bl true)
 | some (w,i)=>W "NoBoard" [.str w,.int i])
def J6:Cp:=fun ds Q=>∃ (d:D) (ns:List Int),ds = [d] /\ AF d ns /\ ∀ b:Bd,D9 b -> Q (bD b)
def R0:Cp:=fun ds Q=>∃ (b:Bd),ds = [bD b] /\ D9 b /\ Q (.bl true)
def bj:Cp:=fun ds Q=>∃ (d:D) (ns:List Int),ds = [d] /\ AF d ns /\ ns.length <= 63 /\ Q (.bl true)
def dM:j2:=(A6 (uC (.bl false)))
def dF:j2:=(A6 (uC (.bl false)))
def dD:j2:=(X3 (tP (K5 (N4 (S2 dI (g9 (e8 1) (g9 (uC (.ty "tuple")) j4)))))) dF x9)
def ju:j2:=(A6 (fR (Z0 cL cL (uC (.int 1)) (S2 X6 (g9 (x5 (e8 0) (uC (.int 0))) j4)) (uC (.int 16))) (p6 cL (S2 X6 (g9 (x5 (e8 0) (uC (.int 1))) j4)) (uC (.int 24)))))
def jS:j2:=(i8 (bV (iP (V4 (e8 0))) (g1 1) dD) ju)
def gq:j2:=(i8 (X3 (tP (jm (K5 (N4 (S2 dI (g9 (e8 0) (g9 (uC (.ty "tuple")) j4))))) (uT (p6 (N6 true) (S2 X6 (g9 (e8 0) j4)) (uC (.int 2)))))) dM x9) jS)
def ki (W:Str -> List V -> Prop):j2:=(eJ Fo W "NoBoard" (g9 (uC (.str "board")) (g9 (uC (.int 0)) j4)))
def kA (W:Str -> List V -> Prop):j2:=(eJ Fo W "NoBoard" (g9 (uC (.str "guard")) (g9 (e8 3) j4)))
def bM (W:Str -> List V -> Prop):j2:=(X3 (tP (K5 (N4 (u3 E8 (g9 (CL (e8 1) lS (mY (e8 3))) (g9 (e8 4) j4)))))) (kA W) x9)
def jh (W:Str -> List V -> Prop):j2:=(eJ Fo W "NoBoard" (g9 (uC (.str "load")) (g9 (e8 3) j4)))
def U9 (W:Str -> List V -> Prop):j2:=(X3 (tP (K5 (N4 (u3 J5 (g9 (e8 1) (g9 (CL (e8 2) lS (mY (e8 3))) (g9 (e8 5) j4))))))) (jh W) x9)
def ij (W:Str -> List V -> Prop):j2:=(A6 (uC (.bl true)))
def tm (W:Str -> List V -> Prop):j2:=(i8 (bV (iP (CM (e8 2))) (gT (u6 (g1 3) (u6 (g1 5) X2))) (U9 W)) (ij W))
def ue (W:Str -> List V -> Prop):j2:=(i8 (bV (iP (CM (e8 1))) (gT (u6 (g1 3) (u6 (g1 4) X2))) (bM W)) (tm W))
def tW (W:Str -> List V -> Prop):j2:=(i8 (xB (gT (u6 (g1 1) (u6 (g1 2) X2))) (e8 0)) (ue W))
def qr (W:Str -> List V -> Prop):j2:=(i8 (X3 (tP (K5 (N4 (u3 E7 (g9 (e8 0) j4))))) (ki W) x9) (tW W))
def lO:j2:=(A6 (uB [none] (V4 (e8 0)) (g1 0) bT (G1 (x5 (e8 0) (uC (.int 0))))))
def nW:j2:=(D4 1 (x5 (e8 2) (e8 1)))
def mH:j2:=(i8 (dq (lV 4 (mP (G1 (e8 1))))) nW)
def ve:j2:=(A6 (e8 4))
def vB:j2:=(i8 (we (tP (uT (p6 (dR true) (e8 1) (uC .non)))) mH) ve)
def lR:j2:=(i8 (D4 4 (gX j4)) vB)
def xS:j2:=(i8 (D4 2 (Ih [none] (V4 (e8 0)) (g1 0) bT (x5 (e8 0) (uC (.int 0))) (x5 (e8 0) (uC (.int 1))))) lR)
def dQ:j2:=(A6 (uC (.bl false)))
def dJ:j2:=(A6 (uC (.bl true)))
def kb:j2:=(A6 (fR (p6 (gf false) (e8 2) (u3 C8 (g9 (e8 0) j4))) (p6 cL (S2 X6 (g9 (u3 aj (g9 (e8 0) (g9 (e8 2) j4))) j4)) (uC (.int 7)))))
def jO:j2:=(i8 (X3 (tP (uT (p6 (dR false) (e8 2) (uC .non)))) dJ x9) kb)
def jU:j2:=(i8 (D4 2 (x5 (e8 1) (uC (.int 1)))) jO)
def gc:j2:=(i8 (X3 (tP (jm (K5 (N4 (u3 N3 (g9 (e8 1) j4)))) (uT (p6 (gf false) (x5 (e8 1) (uC (.int 0))) (u3 C8 (g9 (e8 0) j4)))))) dQ x9) jU)
def gv:j2:=(A6 (uC (.bl false)))
def nR:j2:=(A6 (fR (p6 (gf true) (x5 (e8 2) (uC (.int 0))) (u3 C8 (g9 (e8 0) j4))) (p6 (gf true) (x5 (e8 2) (uC (.int 0))) (u3 C8 (g9 (e8 1) j4)))))
def jf:j2:=(i8 (X3 (tP (jm (K5 (N4 (u3 Q8 (g9 (e8 2) j4)))) (uT (p6 (gf true) (x5 (e8 2) (uC (.int 1))) (u3 C8 (g9 (e8 0) j4)))))) gv x9) nR)
def jV:j2:=(A6 (G1 (x5 (e8 0) (e8 1))))
def tZ:j2:=(A6 (uC (.int 0)))
def qv:j2:=(i8 (X3 (tP (uT (p6 AY (e8 1) (S2 X6 (g9 (e8 0) j4))))) jV x9) tZ)
def zA:j2:=(A6 (gX (g9 (G1 (e8 2)) (g9 (G1 (e8 2)) (g9 (p6 O0 (uC (.int 100)) (e8 1)) j4)))))
def AQ:j2:=(i8 (D4 2 (u3 M7 (g9 (e8 0) (g9 (e8 1) j4)))) zA)
def pP:j2:=(A6 (G1 (e8 2)))
def pI:j2:=(i8 (rO 0 (mP (p6 wD (x5 (e8 0) (uC (.int 1))) (e8 1))) (mP (uC (.int 1)))) pP)
def px:j2:=(i8 (D4 2 (p6 aN (x5 (e8 0) (uC (.int 1))) (e8 1))) pI)
def yR:j2:=(A6 (p6 aN (p6 wD (p6 aN (p6 O0 (e8 3) (p6 A8 (p6 aN (e8 3) (uC (.int 65521))) (uC (.int 3)))) (uC (.int 2147483629))) (uC (.int 5))) (e8 1)))
def zJ:j2:=(i8 (D4 3 (p6 aN (p6 A8 (p6 A8 (e8 3) (p6 O0 (p6 O0 (x5 (e8 0) (uC (.int 2))) (x5 (e8 0) (uC (.int 2)))) (uC (.int 69621)))) (uC (.int 11))) (uC (.int 2147483647)))) yR)
def Ar:j2:=(i8 (D4 3 (p6 A8 (p6 O0 (p6 aN (x5 (e8 0) (uC (.int 0))) (uC (.int 2147483629))) (uC (.int 48271))) (p6 O0 (uC (.int 7919)) (x5 (e8 0) (uC (.int 2)))))) zJ)
def Ai:j2:=(i8 (X3 (tP (yP (uT (p6 Iy (x5 (e8 0) (uC (.int 0))) (p6 kD (uC (.int 10)) (uC (.int 18))))) (uT (p6 DY (x5 (e8 0) (uC (.int 1))) (uC (.int 0)))))) px x9) Ar)
def Bb:j2:=(i8 (rO 0 (mP (p6 A8 (x5 (e8 0) (uC (.int 2))) (uC (.int 1)))) (mP (uC (.int 2)))) Ai)
def lC:j2:=(eV (aW A8 (mP (uC (.int 1))) (aW O0 (mP (e8 1)) (u4 0 p9 (p4 (mP (uC (.int 4))) A5)))))
def kK:j2:=(eV (aW A8 (mP (uC (.int 1))) (u4 0 p9 (p4 (mP (p6 kD (uC (.int 10)) (uC (.int 6)))) A5))))
def xa:j2:=(eV (aW A8 (aW O0 (aW A8 (mP (uC (.int 1))) (u4 0 p9 (p4 (mP (p6 kD (uC (.int 10)) (uC (.int 9)))) A5))) (mP (p6 kD (uC (.int 10)) (uC (.int 49))))) (u4 0 p9 (p4 (mP (p6 kD (uC (.int 10)) (uC (.int 40)))) A5))))
def yk:j2:=(i8 (X3 (tP (uT (p6 (N6 false) (e8 1) (uC (.int 2))))) kK x9) xa)
def yr:j2:=(i8 (X3 (tP (uT (p6 AY (e8 1) (uC (.int 2))))) lC x9) yk)
def uX:j2:=(i8 (G5 1 (u4 0 p9 (p4 (mP (uC (.int 4))) A5))) yr)
def jQ:j2:=(eV (u4 0 p9 (p4 (mP (uC (.int 4))) A5)))
def ka:j2:=(eV (u4 0 I0 A5))
def sr:j2:=(eV (aW X7 (mP (p6 X7 (p6 kD (uC (.int 10)) (uC (.int 60))) (uC (.int 1)))) (u4 0 p9 (p4 (mP (uC (.int 3))) A5))))
def tI:j2:=(i8 (X3 (tP (uT (p6 AY (e8 1) (uC (.int 4))))) ka x9) sr)
def sW:j2:=(i8 (X3 (tP (uT (p6 AY (e8 1) (uC (.int 2))))) jQ x9) tI)
def qi:j2:=(i8 (G5 1 (u4 0 p9 (p4 (mP (uC (.int 5))) A5))) sW)
def mE:j2:=(D4 4 (uB [none,some 2,some 3] (au (e8 1)) (g1 0) bT (p6 O0 (x5 (e8 1) (p6 aN (p6 A8 (e8 2) (e8 0)) (uC (.int 26)))) (p6 A8 (uC (.int 1)) (p6 wD (e8 0) (uC (.int 26)))))))
def nr:j2:=(dq (lV 4 (mP (p6 A8 (wx (uC (.str "")) (uB [none,some 2] (V4 (e8 11)) (g1 0) bT (G1 (x5 (e8 1) (e8 0))))) (p6 O0 (x5 (e8 2) (e8 3)) (p6 O0 (e8 9) (p6 aN (e8 10) (uC (.int 2)))))))))
def kO:j2:=(i8 (rO 11 (mP (p6 aN (p6 A8 (x5 (e8 6) (e8 8)) (p6 wD (e8 10) (uC (.int 26)))) (uC (.int 26)))) (mP (e8 8))) nr)
def lH:j2:=(i8 (rO 11 (mP (p6 aN (p6 A8 (x5 (e8 6) (e8 7)) (e8 10)) (uC (.int 26)))) (mP (e8 7))) kO)
def kZ:j2:=(i8 (D4 11 (S2 qP (g9 (e8 6) j4))) lH)
def nN:j2:=(bV (iP (au (e8 1))) (g1 10) kZ)
def ou:j2:=(i8 (D4 4 (gX j4)) nN)
def kN:j2:=(i8 (G5 9 (aW O0 (u4 0 p9 (p4 (mP (uC (.int 2))) A5)) (mP (S2 yb (g9 (p6 AY (e8 5) (uC (.int 8))) j4))))) ou)
def kM:j2:=(i8 (G5 8 (aW aN (aW A8 (mP (p6 A8 (e8 7) (uC (.int 1)))) (u4 0 p9 (p4 (mP (p6 X7 (e8 5) (uC (.int 1)))) A5))) (mP (e8 5)))) kN)
def nM:j2:=(i8 (G5 7 (u4 0 p9 (p4 (mP (e8 5)) A5))) kM)
def mn:j2:=(i8 (G5 6 (GC 1 0 [none,some 0] (iP (au (e8 5))) (g1 0) Cn (u4 1 p9 (p4 (mP (uC (.int 26))) A5)))) nM)
def ot:j2:=(i8 (G5 5 (aW A8 (mP (uC (.int 2))) (u4 0 p9 (p4 (mP (uC (.int 7))) A5)))) mn)
def ow:j2:=(rO 4 (mP (G1 (e8 12))) (u4 0 p9 (p4 (mP (e8 1)) A5)))
def yj:j2:=(A6 (e8 4))
def nH:j2:=(i8 (X3 (tP (yP (uT (p6 (N6 true) (e8 12) (uC (.str "")))) (uT (p6 (gf true) (e8 12) (e8 4))))) ow x9) yj)
def mO:j2:=(i8 (G5 12 (wO (jM (mP (gX (g9 (uC (.str "guard")) (g9 (uC (.str "load")) (g9 (uC (.str "on")) (g9 (uC (.str "off")) (g9 (uC (.str "board")) (g9 (uC (.str "map")) (g9 (uC (.str "least")) (g9 (uC (.str "")) (g9 (uC (.str "")) (g9 (uC (.str "")) (g9 (uC (.str "")) j4))))))))))))) (u4 0 p9 (p4 (mP (uC (.int 11))) A5))))) nH)
def vW:j2:=(i8 (X3 (mT (aW (N6 false) (u4 0 p9 (p4 (mP (uC (.int 5))) A5)) (mP (uC (.int 0))))) mE ot) mO)
def xO:j2:=(i8 (G5 3 (u4 0 p9 (p4 (mP (uC (.int 26))) A5))) vW)
def xT:j2:=(i8 (D4 2 (uC (.str "abcdefghijklmnopqrstuvwxyz"))) xO)
def lI:j2:=(dq (lV 3 (aW A8 (mP (G1 (x5 (e8 3) (Dz pM (uC (.int 1)))))) (u4 0 I0 A5))))
def mM:j2:=(i8 (dq (lV 2 (aW A8 (mP (G1 (x5 (e8 2) (Dz pM (uC (.int 1)))))) (u4 0 I0 A5)))) lI)
def ny:j2:=(D4 2 (uB [none,some 2] (V4 (e8 2)) (g1 0) bT (p6 A8 (p6 X7 (p6 X7 (p6 kD (uC (.int 10)) (uC (.int 60))) (uC (.int 1))) (x5 (e8 1) (Dz pM (uC (.int 1))))) (e8 0))))
def lZ:j2:=(D4 3 (uB [none,some 3] (V4 (e8 3)) (g1 0) bT (p6 A8 (p6 X7 (p6 X7 (p6 kD (uC (.int 10)) (uC (.int 60))) (uC (.int 1))) (x5 (e8 1) (Dz pM (uC (.int 1))))) (e8 0))))
def nV:j2:=(A6 (S2 S0 (g9 (uB [none,some 2,some 3,some 1] (au (e8 1)) (g1 0) bT (bY (g9 (G1 (x5 (e8 1) (e8 0))) (g9 (G1 (x5 (e8 2) (p6 X7 (p6 X7 (e8 3) (uC (.int 1))) (e8 0)))) j4)))) j4)))
def nE:j2:=(i8 (X3 (mT (aW (N6 false) (u4 0 p9 (p4 (mP (uC (.int 4))) A5)) (mP (uC (.int 0))))) lZ x9) nV)
def nF:j2:=(i8 (X3 (mT (aW (N6 false) (u4 0 p9 (p4 (mP (uC (.int 4))) A5)) (mP (uC (.int 0))))) ny x9) nE)
def wM:j2:=(i8 (bV (iP (au (p6 X7 (e8 1) (uC (.int 1))))) (g1 4) mM) nF)
def yi:j2:=(i8 (G5 3 (yT (p4 (u4 0 I0 A5) A5))) wM)
def va:j2:=(i8 (G5 2 (yT (p4 (u4 0 I0 A5) A5))) yi)
def yB:j2:=(i8 (G5 1 (aW A8 (mP (uC (.int 1))) (u4 0 p9 (p4 (mP (uC (.int 5))) A5)))) va)
def jD:j2:=(G5 9 (wO (jM (yT (p4 (mP (G1 (x5 (e8 7) (Dz pM (uC (.int 1)))))) (p4 (mP (G1 (x5 (e8 7) (Dz pM (uC (.int 1)))))) (p4 (wO (jM (mP (e8 7)) (u4 6 p9 (p4 (mP (S2 X6 (g9 (e8 7) j4))) A5)))) A5)))) (mP (p6 X7 (e8 8) (uC (.int 1)))))))
def V0:j2:=(dq (lV 3 (zX (p4 (mP (G1 (x5 (e8 1) (e8 5)))) (p4 (mP (G1 (e8 9))) (p4 (u4 6 af A5) (p4 (u4 6 G8 A5) (p4 (u4 6 G8 A5) A5))))))))
def O4:j2:=(i8 (vy 4 (mP (p6 A8 (uC (.int 1)) (wQ (e8 4) (e8 9) (uC (.int 0))))) (mP (x5 (e8 1) (e8 5)))) V0)
def kh:j2:=(i8 (X3 (tP (yP (uT (p6 DY (e8 8) (uC (.int 0)))) (uT (p6 DY (S2 X6 (g9 (e8 7) j4)) (uC (.int 0)))))) jD x9) O4)
def jz:j2:=(i8 (D4 9 (uC .non)) kh)
def jX:j2:=(i8 (G5 8 (u4 6 p9 (p4 (mP (uC (.int 4))) A5))) jz)
def ko:j2:=(i8 (D4 7 (uB [none,some 4] (V4 (e8 3)) (g1 0) (uT (p6 AY (x5 (e8 1) (x5 (e8 0) (uC (.int 0)))) (uC (.int 8)))) (G1 (x5 (e8 0) (uC (.int 0)))))) jX)
def jr:j2:=(i8 (D4 6 (u3 P8 (g9 (e8 0) (g9 (p6 A8 (uC (.int 2)) (e8 5)) j4)))) ko)
def rX:j2:=(A6 (e8 3))
def tw:j2:=(i8 (bV (iP (au (e8 2))) (g1 5) jr) rX)
def tD:j2:=(i8 (D4 4 (uC (.dic []))) tw)
def rL:j2:=(i8 (D4 3 (gX j4)) tD)
def mB:j2:=(dq (lV 3 (zX (p4 (mP (G1 (x5 (e8 1) (e8 4)))) (p4 (mP (G1 (e8 6))) (p4 (mP (G1 (e8 7))) (p4 (u4 5 G8 A5) (p4 (aW (N6 false) (u4 5 p9 (p4 (mP (uC (.int 2))) A5)) (mP (uC (.int 1)))) A5))))))))
def nQ:j2:=(i8 (G5 7 (GU S0 (p4 (GC 1 5 [none,some 5] (Fd (u4 5 p9 (p4 (mP (uC (.int 5))) A5))) (g1 0) Cn (zX (p4 (u4 1 I0 A5) (p4 (u4 1 G8 A5) A5)))) A5))) mB)
def nU:j2:=(i8 (G5 6 (wO (jM (jM (mP (e8 2)) (u4 5 p9 (p4 (mP (S2 X6 (g9 (e8 2) j4))) A5))) (mP (uC (.int 0)))))) nQ)
def nI:j2:=(i8 (D4 5 (u3 P8 (g9 (e8 0) (g9 (p6 A8 (uC (.int 18)) (e8 4)) j4)))) nU)
def xX:j2:=(A6 (e8 3))
def wb:j2:=(i8 (bV (iP (au (S2 X6 (g9 (e8 1) j4)))) (g1 4) nI) xX)
def yd:j2:=(i8 (D4 3 (gX j4)) wb)
def vA:j2:=(A6 (bY (g9 (S2 S0 (g9 (e8 4) j4)) (g9 (S2 S0 (g9 (u3 Y4 (g9 (e8 0) (g9 (Du (e8 3) (mY (e8 2)) lS) (g9 (e8 4) j4)))) j4)) j4))))
def yc:j2:=(i8 (D4 4 (u3 R3 (g9 (e8 0) (g9 (e8 3) (g9 (e8 2) j4))))) vA)
def vw:j2:=(i8 (G5 3 (yu ai (mP (u3 P8 (g9 (e8 0) (g9 (uC (.int 1)) j4)))) (p4 (aW A8 (mP (e8 2)) (u4 1 p9 (p4 (jM (mP (gX (g9 (uC (.int 6)) (g9 (uC (.int 25)) j4)))) (u4 1 p9 (p4 (mP (uC (.int 2))) A5))) A5))) A5))) yc)
def wz:j2:=(i8 (G5 2 (aW A8 (mP (uC (.int 1))) (u4 1 p9 (p4 (jM (mP (gX (g9 (uC (.int 4)) (g9 (uC (.int 16)) j4)))) (u4 1 p9 (p4 (mP (uC (.int 2))) A5))) A5)))) vw)
def wW:j2:=(i8 (D4 1 (u3 P8 (g9 (e8 0) (g9 (uC (.int 0)) j4)))) wz)
def fZ:j2:=(D4 9 (x5 (e8 5) (p6 X7 (e8 8) (uC (.int 1)))))
def Y0:j2:=(dq (lV 7 (mP (bY (g9 (G1 (x5 (e8 5) (e8 8))) (g9 (G1 (e8 9)) (g9 (G1 (e8 6)) (g9 (G1 (e8 2)) (g9 (G1 (e8 2)) j4)))))))))
def fJ:j2:=(i8 (X3 (tP (uT (p6 DY (p6 aN (e8 8) (uC (.int 8))) (uC (.int 0))))) fZ x9) Y0)
def eX:j2:=(i8 (D4 9 (uC .non)) fJ)
def br:j2:=(A6 (bY (g9 (S2 S0 (g9 (e8 7) j4)) (g9 (S2 S0 (g9 (e8 10) j4)) j4))))
def cZ:j2:=(i8 (D4 10 (uB [none,some 2,some 5] (AI (g9 (uC (.int 16)) (g9 (uC (.int 40)) j4))) (g1 0) bT (bY (g9 (G1 (x5 (e8 2) (e8 0))) (g9 (G1 (x5 (e8 2) (p6 aN (e8 0) (uC (.int 16))))) (g9 (p6 xh (bY (g9 (bY (g9 (G1 (e8 1)) (g9 (G1 (e8 1)) j4))) j4)) (uC (.int 4))) (g9 (G1 (e8 1)) (g9 (p6 (N6 false) (p6 aN (e8 0) (uC (.int 2))) (uC (.int 1))) j4)))))))) br)
def dc:j2:=(i8 (bV (iP (au (uC (.int 16)))) (g1 8) eX) cZ)
def mG:j2:=(i8 (D4 7 (gX j4)) dc)
def mS:j2:=(i8 (D4 6 (S2 S0 (g9 (uB [none,some 2] (au (uC (.int 5))) (g1 0) bT (bY (g9 (p6 A8 (p6 X7 (e8 1) (uC (.int 4))) (e8 0)) (g9 (p6 X7 (e8 1) (e8 0)) j4)))) j4))) mG)
def dz:j2:=(i8 (D4 5 (uB [none,some 4,some 3] (au (uC (.int 40))) (g1 0) bT (p6 A8 (p6 A8 (e8 1) (x5 (e8 2) (p6 wD (e8 0) (uC (.int 8))))) (x5 (e8 2) (p6 aN (e8 0) (uC (.int 8))))))) mS)
def kJ:j2:=(i8 (G5 4 (aW O0 (jM (mP (e8 3)) (u4 1 p9 (p4 (mP (uC (.int 26))) A5))) (mP (uC (.int 6))))) dz)
def ni:j2:=(i8 (D4 3 (uC (.str "abcdefghijklmnopqrstuvwxyz"))) kJ)
def nX:j2:=(i8 (D4 2 (p6 X7 (p6 kD (uC (.int 10)) (uC (.int 60))) (uC (.int 1)))) ni)
def iG:j2:=(i8 (D4 1 (u3 P8 (g9 (e8 0) (g9 (uC (.int 43)) j4)))) nX)
def jt (e:Addr) (dx:Addr):j2:=(A6 (p6 (N6 false) (bY (g9 (Hs e dx 1 "word") (g9 (Hs e dx 1 "number") j4))) (bY (g9 (uC (.str "board")) (g9 (uC (.int 0)) j4)))))
def tM:j2:=(A6 (uC (.bl false)))
def rG:j2:=(i8 (Bf Fo K6 (g9 (bY (g9 (G1 (x5 (e8 0) (uC (.int 0)))) (g9 (G1 (x5 (e8 0) (uC (.int 1)))) (g9 (bY j4) j4)))) j4) 1 "NoBoard" fun e dx=>(jt e dx)) tM)
def oj:j2:=(D4 1 (u3 J6 (g9 (e8 0) j4)))
def mW:j2:=(A6 (uC (.bl false)))
def vq:j2:=(A6 (p6 (dR false) (u3 (yn K6) (g9 (bY (g9 (S2 S0 (g9 (S2 qP (g9 (x5 (e8 1) (uC (.int 0))) j4)) j4)) (g9 (S2 S0 (g9 (S2 qP (g9 (x5 (e8 1) (uC (.int 1))) j4)) j4)) j4))) j4)) (uC (.bl true))))
def kY:j2:=(i8 (X3 (tP (jm (uT (p6 (dR true) (u3 (yn K6) (g9 (e8 1) j4)) (uC (.bl true)))) (K5 (N4 (u3 R0 (g9 (e8 1) j4)))))) mW x9) vq)
def kH:j2:=(i8 (X3 (tP (uT (p6 (N6 false) (p6 aN (u3 M7 (g9 (e8 0) (g9 (uC (.int 42)) j4))) (uC (.int 8))) (uC (.int 7))))) oj x9) kY)
def vY:j2:=(i8 (D4 1 (u3 Z9 (g9 (e8 0) j4))) kH)
noncomputable def top (i:Nat):Stmt:=PySem.Challenge.pw_fuseboard_k12_boards_let_by.main.body.getD i (.Pass ⟨0,0,0,0⟩)
noncomputable abbrev T8:Stmt:=top 3
noncomputable abbrev O9:Stmt:=top 4
noncomputable abbrev aK:Stmt:=top 5
noncomputable abbrev aF:Stmt:=top 9
noncomputable abbrev T6:Stmt:=top 10
noncomputable abbrev S4:Stmt:=top 8
noncomputable abbrev M3:Stmt:=top 20
noncomputable abbrev S7:Stmt:=top 23
noncomputable abbrev Q0:Stmt:=top 26
noncomputable abbrev ba:Stmt:=top 27
noncomputable abbrev L8:Stmt:=top 21
noncomputable abbrev P0:Stmt:=top 25
noncomputable abbrev aE:Stmt:=top 24
noncomputable abbrev P7:Stmt:=top 22
noncomputable abbrev aJ:Stmt:=top 19
noncomputable abbrev az:Stmt:=top 29
noncomputable abbrev iF:Stmt:=top 30
noncomputable abbrev iY:Stmt:=top 31
noncomputable abbrev cM:Stmt:=top 32
noncomputable abbrev av:Stmt:=top 33
noncomputable abbrev V5:Stmt:=top 34
noncomputable abbrev U5:Stmt:=top 35
noncomputable abbrev V7:Stmt:=top 36
noncomputable abbrev aX:Stmt:=top 37
noncomputable abbrev cq:Stmt:=top 38
noncomputable abbrev G3:Stmt:=top 39
noncomputable abbrev aA:Stmt:=top 40
noncomputable abbrev U7:Stmt:=top 41
section
variable {P:Program} {w:World} {K:PySem.W.Frag} {mg:Str -> Option Value} {base:Heap}
theorem sI:o4 ["thing"] ["thing"] (g6 T8):=⟨rfl,rfl,rfl,by decide +kernel,rfl,by decide +kernel,by decide +kernel⟩
theorem rS {f:Addr} {fd:FuncData} (F:X1 K "is_whole" "is_whole" T8 f fd) (hbool:mg "bool" = none) (hint:mg "int" = none) (hisinstance:mg "isinstance" = none)
  (len:∀ ds Q,N2 ds Q -> ds.length = 1) (rd:∀ ds Q,N2 ds Q -> lY (EP Q) (i5 1 ds)):y4 P w K mg base Q9 1 f fd ["thing"] (D2 K N2):=
 gE (cl:=[.bor]) F sI rfl len (fun cdv A outer s0 H E hr=>(P9 rfl (p8 (R8 (o8 y9 aq (by rfl) hisinstance PyProof.Rows.boot_isinstance (e9 (d9 0 (pv 0) rfl) (e9 (Y7 (J9 (v:=.ty "int") rfl hint PyProof.Rows.boot_int rfl)) i3 rfl) rfl)) (U8 (BQ (o8 y9 aq (by rfl) hisinstance PyProof.Rows.boot_isinstance (e9 (d9 0 (pv 0) rfl) (e9 (Y7 (J9 (v:=.ty "bool") rfl hbool PyProof.Rows.boot_bool rfl)) i3 rfl) rfl))))) rfl))) rd
theorem pk:o4 ["thing"] ["thing"] (g6 O9):=⟨rfl,rfl,rfl,by decide +kernel,rfl,by decide +kernel,by decide +kernel⟩
theorem oF {f:Addr} {fd:FuncData} (F:X1 K "is_number" "is_number" O9 f fd) {fIsWhole:Addr} {fdIsWhole:FuncData} (CIsWhole:D7 P w K mg base "is_whole" 1 ["thing"] (D2 K N2) fIsWhole fdIsWhole) {tkNUMBERS_END:Tok} (hNUMBERS_END:mg "NUMBERS_END" = some (.int (10 ^ 60) tkNUMBERS_END))
  (len:∀ ds Q,u9 ds Q -> ds.length = 1) (rd:∀ ds Q,u9 ds Q -> ix (EP Q) (i5 1 ds)):y4 P w K mg base Q9 2 f fd ["thing"] (D2 K u9):=
 gE (cl:=[.bor]) F pk rfl len (fun cdv A outer s0 H E hr=>(P9 rfl (p8 (R8 (j9 CIsWhole (hr.mono (by decide)) (by rfl) (e9 (d9 0 (pv 0) rfl) i3 rfl) rfl) (U8 (mI R6 xI aQ gb e7 (d9 0 (pv 0) rfl) (W4 (v:=.int (10 ^ 60)) (d:=.int (10 ^ 60)) (B:=[]) (V8 rfl hNUMBERS_END ⟨_,rfl⟩) (fun _=>.int)) (by with_unfolding_all rfl)))) rfl))) rd
theorem lh:o4 ["thing", "sign"] ["thing"] (g6 aK):=⟨rfl,rfl,rfl,by decide +kernel,rfl,by decide +kernel,by decide +kernel⟩
theorem xJ {f:Addr} {fd:FuncData} (F:X1 K "is_name" "is_name" aK f fd) (hisinstance:mg "isinstance" = none) (hlen:mg "len" = none) (hstr:mg "str" = none) {tkLONGEST_NAME:Tok} (hLONGEST_NAME:mg "LONGEST_NAME" = some (.int 8 tkLONGEST_NAME))
  (len:∀ ds Q,G7 ds Q -> ds.length = 1) (rd:∀ ds Q,G7 ds Q -> qR (EP Q) (i5 2 ds)):y4 P w K mg base Q9 1 f fd ["thing"] (D2 K G7):=
 gE (cl:=[.bor,.bor]) F lh rfl len (fun cdv A outer s0 H E hr=>(AX rfl (D8 (L5.m (cw.pt (N1 (x6 (p5 (o8 y9 aq (by rfl) hisinstance PyProof.Rows.boot_isinstance (e9 (d9 0 (pv 0) rfl) (e9 (Y7 (J9 (v:=.ty "str") rfl hstr PyProof.Rows.boot_str rfl)) i3 rfl) rfl)) (fun _=>rfl))) (G4 (x6 (fP R6 R6 aQ aQ e7 (o8 A9 O2 (by rfl) hlen PySem.boot_len (e9 (d9 0 (pv 0) rfl) i3 rfl)) (W4 (v:=.int 8) (d:=.int 8) (B:=[]) (V8 rfl hLONGEST_NAME ⟨_,rfl⟩) (fun _=>.int)) (by with_unfolding_all rfl))))))) (P9 rfl (p8 B9 rfl)) A2)
   (S5 (eP.m (Q4 (d9 0 (pv 0) rfl)) rfl) (o5 (j3 (i:=1) lh.nd rfl (Or.inl rfl)) rfl)
    (P9 rfl (D8 (L5.m (x6 (fP R6 R6 aQ aQ C6 (d9 1 (pv 1) rfl) C6 (by with_unfolding_all rfl)))) (P9 rfl (p8 B9 rfl)) A2)) (fun a b c=>M6 PassesOwn.never rfl a b c))
   (p8 B9 rfl))) rd
theorem lN:o4 ["thing", "part"] ["thing"] (g6 aF):=⟨rfl,rfl,rfl,by decide +kernel,rfl,by decide +kernel,by decide +kernel⟩
theorem xn {f:Addr} {fd:FuncData} (F:X1 K "is_step" "is_step" aF f fd) {fIsNumber:Addr} {fdIsNumber:FuncData} (CIsNumber:D7 P w K mg base "is_number" 2 ["thing"] (D2 K u9) fIsNumber fdIsNumber) (hisinstance:mg "isinstance" = none) (hlen:mg "len" = none) (htuple:mg "tuple" = none)
  (len:∀ ds Q,Q6 ds Q -> ds.length = 1) (rd:∀ ds Q,Q6 ds Q -> qB (EP Q) (i5 2 ds)):y4 P w K mg base Q9 3 f fd ["thing"] (D2 K Q6):=
 gE (cl:=[.bor,.bor]) F lN rfl len (fun cdv A outer s0 H E hr=>(AX rfl (D8 (L5.m (cw.pt (N1 (x6 (p5 (o8 y9 aq (by rfl) hisinstance PyProof.Rows.boot_isinstance (e9 (d9 0 (pv 0) rfl) (e9 (Y7 (J9 (v:=.ty "tuple") rfl htuple PyProof.Rows.boot_tuple rfl)) i3 rfl) rfl)) (fun _=>rfl))) (G4 (cA hr (o8 A9 O2 (by rfl) hlen PySem.boot_len (e9 (d9 0 (pv 0) rfl) i3 rfl)) e7 (p3 _)))))) (P9 rfl (p8 B9 rfl)) A2)
   (S5 (eP.m (Q4 (d9 0 (pv 0) rfl)) rfl) (o5 (j3 (i:=1) lN.nd rfl (Or.inl rfl)) rfl)
    (P9 rfl (D8 (L5.m (cw.pt (N1 (x6 (p5 (j9 CIsNumber (hr.mono (by decide)) (by rfl) (e9 (d9 1 (pv 1) rfl) i3 rfl) rfl) (fun _=>rfl))) (G4 (jK hr (d9 1 (pv 1) rfl) e7 (p3 _)))))) (P9 rfl (p8 B9 rfl)) A2)) (fun a b c=>M6 PassesOwn.never rfl a b c))
   (p8 B9 rfl))) rd
theorem um:o4 ["ahead", "step"] ["ahead", "step"] (g6 T6):=⟨rfl,rfl,rfl,by decide +kernel,rfl,by decide +kernel,by decide +kernel⟩
theorem tF {f:Addr} {fd:FuncData} (F:X1 K "follows" "follows" T6 f fd)
  (len:∀ ds Q,M9 ds Q -> ds.length = 2) (rd:∀ ds Q,M9 ds Q -> nc (EP Q) (i5 2 ds)):y4 P w K mg base Q9 1 f fd ["ahead", "step"] (D2 K M9):=
 gE (cl:=[.bor,.bor]) F um rfl len (fun cdv A outer s0 H E hr=>(P9 rfl (p8 (R8 (Bj (j5 (j6 hr) (d9 0 (pv 0) rfl) e7 (fun _ _=>rfl)) (j5 (j6 hr) (d9 1 (pv 1) rfl) e7 (fun _ _=>rfl)) (p3 _)) (U8 (Fj (j5 (j6 hr) (d9 0 (pv 0) rfl) e7 (fun _ _=>rfl)) (j5 (j6 hr) (d9 1 (pv 1) rfl) e7 (fun _ _=>rfl)) (p3 _)))) rfl))) rd
theorem aI:o4 ["thing", "step", "ahead"] ["thing"] (g6 S4):=⟨rfl,rfl,rfl,by decide +kernel,rfl,by decide +kernel,by decide +kernel⟩
theorem tU {f:Addr} {fd:FuncData} (F:X1 K "is_curve" "is_curve" S4 f fd) {fIsStep:Addr} {fdIsStep:FuncData} (CIsStep:D7 P w K mg base "is_step" 3 ["thing"] (D2 K Q6) fIsStep fdIsStep) {fFollows:Addr} {fdFollows:FuncData} (CFollows:D7 P w K mg base "follows" 1 ["ahead", "step"] (D2 K M9) fFollows fdFollows) (hisinstance:mg "isinstance" = none) (hlen:mg "len" = none) (htuple:mg "tuple" = none) (hzip:mg "zip" = none) {tkMOST_STEPS:Tok} (hMOST_STEPS:mg "MOST_STEPS" = some (.int 5 tkMOST_STEPS))
  (len:∀ ds Q,N0 ds Q -> ds.length = 1) (rd:∀ ds Q,N0 ds Q -> nK (EP Q) (i5 3 ds)):y4 P w K mg base Q9 4 f fd ["thing"] (D2 K N0):=
 gE (cl:=[.bor,.bor,.bor]) F aI rfl len (fun cdv A outer s0 H E hr=>(vX rfl (D8 (L5.m (cw.pt (N1 (x6 (p5 (o8 y9 aq (by rfl) hisinstance PyProof.Rows.boot_isinstance (e9 (d9 0 (pv 0) rfl) (e9 (Y7 (J9 (v:=.ty "tuple") rfl htuple PyProof.Rows.boot_tuple rfl)) i3 rfl) rfl)) (fun _=>rfl))) (G4 (x6 (fP R6 R6 aQ aQ e7 (o8 A9 O2 (by rfl) hlen PySem.boot_len (e9 (d9 0 (pv 0) rfl) i3 rfl)) (W4 (v:=.int 5) (d:=.int 5) (B:=[]) (V8 rfl hMOST_STEPS ⟨_,rfl⟩) (fun _=>.int)) (by with_unfolding_all rfl))))))) (P9 rfl (p8 B9 rfl)) A2)
   (S5 (eP.m (Q4 (d9 0 (pv 0) rfl)) rfl) (o5 (j3 (i:=1) aI.nd rfl (Or.inl rfl)) rfl)
    (P9 rfl (D8 (L5.m (x6 (p5 (j9 CIsStep (hr.mono (by decide)) (by rfl) (e9 (d9 1 (pv 1) rfl) i3 rfl) rfl) (fun _=>rfl)))) (P9 rfl (p8 B9 rfl)) A2)) (fun a b c=>M6 PassesOwn.never rfl a b c))
   (S5 (eP.m (EU true true (d9 0 (pv 0) rfl) (wm (d9 0 (pv 0) rfl) (dZ e7) eh) .stab rfl rfl rfl rfl rfl (fun pa=>Dh true true (by rfl) hzip pa)) rfl) (fB (n:=2) (A4 (o5 (j3 (i:=2) aI.nd rfl (Or.inl rfl)) rfl) (A4 (o5 (j3 (i:=1) aI.nd rfl (Or.inl rfl)) rfl) aV)) (fun _ _ _ h=>lW h) (fun p=>bc rfl p))
    (P9 rfl (D8 (L5.m (x6 (p5 (j9 CFollows (hr.mono (by decide)) (by rfl) (e9 (d9 2 (pv 2) rfl) (e9 (d9 1 (pv 1) rfl) i3 rfl) rfl) rfl) (fun _=>rfl)))) (P9 rfl (p8 B9 rfl)) A2)) (fun a b c=>M6 PassesOwn.never rfl a b c))
   (p8 B9 rfl))) rd
theorem cX:o4 ["thing", "part"] ["thing"] (g6 M3):=⟨rfl,rfl,rfl,by decide +kernel,rfl,by decide +kernel,by decide +kernel⟩
theorem kL {f:Addr} {fd:FuncData} (F:X1 K "is_outline" "is_outline" M3 f fd) (hisinstance:mg "isinstance" = none) (hlen:mg "len" = none) (htuple:mg "tuple" = none) {tkMOST_GUARDS:Tok} (hMOST_GUARDS:mg "MOST_GUARDS" = some (.int 16 tkMOST_GUARDS)) {tkMOST_LOADS:Tok} (hMOST_LOADS:mg "MOST_LOADS" = some (.int 24 tkMOST_LOADS))
  (len:∀ ds Q,E7 ds Q -> ds.length = 1) (rd:∀ ds Q,E7 ds Q -> gq (EP Q) (i5 2 ds)):y4 P w K mg base Q9 1 f fd ["thing"] (D2 K E7):=
 gE (cl:=[.bor,.bor]) F cX rfl len (fun cdv A outer s0 H E hr=>(AX rfl (D8 (L5.m (cw.pt (N1 (x6 (p5 (o8 y9 aq (by rfl) hisinstance PyProof.Rows.boot_isinstance (e9 (d9 0 (pv 0) rfl) (e9 (Y7 (J9 (v:=.ty "tuple") rfl htuple PyProof.Rows.boot_tuple rfl)) i3 rfl) rfl)) (fun _=>rfl))) (G4 (cA hr (o8 A9 O2 (by rfl) hlen PySem.boot_len (e9 (d9 0 (pv 0) rfl) i3 rfl)) e7 (p3 _)))))) (P9 rfl (p8 B9 rfl)) A2)
   (S5 (eP.m (Q4 (d9 0 (pv 0) rfl)) rfl) (o5 (j3 (i:=1) cX.nd rfl (Or.inl rfl)) rfl)
    (P9 rfl (D8 (L5.m (x6 (p5 (o8 y9 aq (by rfl) hisinstance PyProof.Rows.boot_isinstance (e9 (d9 1 (pv 1) rfl) (e9 (Y7 (J9 (v:=.ty "tuple") rfl htuple PyProof.Rows.boot_tuple rfl)) i3 rfl) rfl)) (fun _=>rfl)))) (P9 rfl (p8 B9 rfl)) A2)) (fun a b c=>M6 PassesOwn.never rfl a b c))
   (p8 (R8 (mI R6 R6 aQ aQ e7 (o8 A9 O2 (by rfl) hlen PySem.boot_len (e9 (j5 (j6 hr) (d9 0 (pv 0) rfl) e7 (fun _ _=>rfl)) i3 rfl)) (W4 (v:=.int 16) (d:=.int 16) (B:=[]) (V8 rfl hMOST_GUARDS ⟨_,rfl⟩) (fun _=>.int)) (by with_unfolding_all rfl)) (U8 (wu (o8 A9 O2 (by rfl) hlen PySem.boot_len (e9 (j5 (j6 hr) (d9 0 (pv 0) rfl) e7 (fun _ _=>rfl)) i3 rfl)) (W4 (v:=.int 24) (d:=.int 24) (B:=[]) (V8 rfl hMOST_LOADS ⟨_,rfl⟩) (fun _=>.int)) (p3 _)))) rfl))) rd
theorem P4:o4 ["thing", "name", "under", "curve", "delay", "wait"] ["thing"] (g6 S7):=⟨rfl,rfl,rfl,by decide +kernel,rfl,by decide +kernel,by decide +kernel⟩
theorem rZ {f:Addr} {fd:FuncData} (F:X1 K "is_guard" "is_guard" S7 f fd) {fIsNumber:Addr} {fdIsNumber:FuncData} (CIsNumber:D7 P w K mg base "is_number" 2 ["thing"] (D2 K u9) fIsNumber fdIsNumber) {fIsName:Addr} {fdIsName:FuncData} (CIsName:D7 P w K mg base "is_name" 1 ["thing"] (D2 K G7) fIsName fdIsName) {fIsCurve:Addr} {fdIsCurve:FuncData} (CIsCurve:D7 P w K mg base "is_curve" 4 ["thing"] (D2 K N0) fIsCurve fdIsCurve) (hisinstance:mg "isinstance" = none) (hlen:mg "len" = none) (htuple:mg "tuple" = none)
  (len:∀ ds Q,N3 ds Q -> ds.length = 1) (rd:∀ ds Q,N3 ds Q -> og (EP Q) (i5 6 ds)):y4 P w K mg base Q9 5 f fd ["thing"] (D2 K N3):=
 gE (cl:=[.bor,.bor,.bor,.bor,.bor,.bor]) F P4 rfl len (fun cdv A outer s0 H E hr=>(vX rfl (D8 (L5.m (cw.pt (N1 (x6 (p5 (o8 y9 aq (by rfl) hisinstance PyProof.Rows.boot_isinstance (e9 (d9 0 (pv 0) rfl) (e9 (Y7 (J9 (v:=.ty "tuple") rfl htuple PyProof.Rows.boot_tuple rfl)) i3 rfl) rfl)) (fun _=>rfl))) (G4 (cA hr (o8 A9 O2 (by rfl) hlen PySem.boot_len (e9 (d9 0 (pv 0) rfl) i3 rfl)) e7 (p3 _)))))) (P9 rfl (p8 B9 rfl)) A2)
   (qD (d9 0 (pv 0) rfl) rfl (fB (n:=5) (A4 (o5 (j3 (i:=1) P4.nd rfl (Or.inl rfl)) rfl) (A4 (o5 (j3 (i:=2) P4.nd rfl (Or.inl rfl)) rfl) (A4 (o5 (j3 (i:=3) P4.nd rfl (Or.inl rfl)) rfl) (A4 (o5 (j3 (i:=4) P4.nd rfl (Or.inl rfl)) rfl) (A4 (o5 (j3 (i:=5) P4.nd rfl (Or.inl rfl)) rfl) aV))))) (fun _ _ _ h=>AZ h) (fun p=>bc rfl p)) (fun p g=>U3 p g))
   (D8 (L5.m (cw.pt (N1 (x6 (p5 (j9 CIsName (hr.mono (by decide)) (by rfl) (e9 (d9 1 (pv 1) rfl) i3 rfl) rfl) (fun _=>rfl))) (G4 (x6 (cw.pt (N1 (xt (d9 2 (pv 2) rfl) fD (p3 _)) (G4 (p5 (j9 CIsName (hr.mono (by decide)) (by rfl) (e9 (d9 2 (pv 2) rfl) i3 rfl) rfl) (fun _=>rfl)))))))))) (P9 rfl (p8 B9 rfl)) A2)
   (p8 (R8 (j9 CIsCurve (hr.mono (by decide)) (by rfl) (e9 (d9 3 (pv 3) rfl) i3 rfl) rfl) (R8 (j9 CIsNumber (hr.mono (by decide)) (by rfl) (e9 (d9 4 (pv 4) rfl) i3 rfl) rfl) (U8 (j9 CIsNumber (hr.mono (by decide)) (by rfl) (e9 (d9 5 (pv 5) rfl) i3 rfl) rfl)))) rfl))) rd
theorem sM:o4 ["rows"] ["rows"] (g6 Q0):=⟨rfl,rfl,rfl,by decide +kernel,rfl,by decide +kernel,by decide +kernel⟩
theorem oZ:(["row"]:List Str).Nodup:=by decide +kernel
theorem sm {f:Addr} {fd:FuncData} (F:X1 K "names_of" "names_of" Q0 f fd)
  (len:∀ ds Q,C8 ds Q -> ds.length = 1) (rd:∀ ds Q,C8 ds Q -> lO (EP Q) (i5 1 ds)):y4 P w K mg base Q9 1 f fd ["rows"] (D2 K C8):=
 gE (cl:=[.bor]) F sM rfl len (fun cdv A outer s0 H E hr=>(P9 rfl (p8 (ff (XN:=["rows"]) (N:=["row"]) (XS:=g6 Q0) (cap:=[none]) (by decide +kernel) rfl rfl rfl rfl (Q4 (d9 0 (pv 0) rfl)) (fun _ _ _ _=>(o5 (j3 (i:=0) oZ rfl (Or.inl rfl)) rfl)) (fun _ _ _ _=>R5) (fun _ _ _ _=>(PU.D3 (j5 (j6 hr) (d9 0 (pv 0) rfl) e7 (fun _ _=>rfl))))) rfl))) rd
theorem eM:o4 ["guards", "name", "unders", "guard", "found"] ["guards", "name"] (g6 ba):=⟨rfl,rfl,rfl,by decide +kernel,rfl,by decide +kernel,by decide +kernel⟩
theorem yD:(["guard"]:List Str).Nodup:=by decide +kernel
theorem Aq {f:Addr} {fd:FuncData} (F:X1 K "climb" "climb" ba f fd)
  (len:∀ ds Q,aj ds Q -> ds.length = 2) (rd:∀ ds Q,aj ds Q -> xS (EP Q) (i5 5 ds)):y4 P w K mg base Q9 1 f fd ["guards", "name"] (D2 K aj):=
 gE (cl:=[.bor,.bor,.bor,.bor,.own]) F eM rfl len (fun cdv A outer s0 H E hr=>(vX rfl (zI (i:=2) (XN:=["guards", "name", "unders", "guard", "found"]) (N:=["guard"]) (XS:=g6 ba) (cap:=[none]) eM.nd rfl rfl rfl (by decide +kernel) rfl rfl rfl rfl (Q4 (d9 0 (pv 0) rfl)) (fun _ _ _ _=>(o5 (j3 (i:=0) yD rfl (Or.inl rfl)) rfl)) (fun _ _ _ _=>R5) (fun _ _ _ _=>(j5 (j6 hr) (d9 0 (pv 0) rfl) e7 (fun _ _=>rfl))) (fun _ _ _ _=>(j5 (j6 hr) (d9 0 (pv 0) rfl) e7 (fun _ _=>rfl))))
   (B8 (i:=4) eM.nd rfl (Or.inl rfl) (U1 C0 rfl) rfl)
   (za PassesOwn.never (L5.m (nA (d9 1 (pv 1) rfl) fD (p3 _))) (Eh rfl (bf (PM.n (L7 (r:=O7) 4 (pv 4) rfl (PU.m (PU.D3 (d9 1 (pv 1) rfl))) rfl (fun pa=>cW PySem.F.plainAttrs_list PySem.F.slot_list_append PySem.F.type_list_append J3 (pv 4) pa))))
   (B8 (i:=1) eM.nd rfl (Or.inl rfl) (j5 (j6 hr) (d9 2 (pv 2) rfl) (d9 1 (pv 1) rfl) (fun _ _=>rfl)) rfl)))
   (kl 4 (pv 4) (by decide) rfl))) rd
theorem dh:o4 ["ahead", "thing", "under"] ["ahead", "thing"] (g6 L8):=⟨rfl,rfl,rfl,by decide +kernel,rfl,by decide +kernel,by decide +kernel⟩
theorem nh {f:Addr} {fd:FuncData} (F:X1 K "guard_fits" "guard_fits" L8 f fd) {fIsGuard:Addr} {fdIsGuard:FuncData} (CIsGuard:D7 P w K mg base "is_guard" 5 ["thing"] (D2 K N3) fIsGuard fdIsGuard) {fNamesOf:Addr} {fdNamesOf:FuncData} (CNamesOf:D7 P w K mg base "names_of" 1 ["rows"] (D2 K C8) fNamesOf fdNamesOf) {fClimb:Addr} {fdClimb:FuncData} (CClimb:D7 P w K mg base "climb" 1 ["guards", "name"] (D2 K aj) fClimb fdClimb) (hlen:mg "len" = none) {tkMOST_OVER:Tok} (hMOST_OVER:mg "MOST_OVER" = some (.int 7 tkMOST_OVER))
  (len:∀ ds Q,E8 ds Q -> ds.length = 2) (rd:∀ ds Q,E8 ds Q -> gc (EP Q) (i5 3 ds)):y4 P w K mg base Q9 6 f fd ["ahead", "thing"] (D2 K E8):=
 gE (cl:=[.bor,.bor,.bor]) F dh rfl len (fun cdv A outer s0 H E hr=>(vX rfl (D8 (L5.m (cw.pt (N1 (x6 (p5 (j9 CIsGuard (hr.mono (by decide)) (by rfl) (e9 (d9 1 (pv 1) rfl) i3 rfl) rfl) (fun _=>rfl))) (G4 (BN (j6 hr) (j5 (j6 hr) (d9 1 (pv 1) rfl) e7 (fun _ _=>rfl)) (j9 CNamesOf (hr.mono (by decide)) (by rfl) (e9 (d9 0 (pv 0) rfl) i3 rfl) rfl) rfl))))) (P9 rfl (p8 B9 rfl)) A2)
   (B8 (i:=2) dh.nd rfl (Or.inl rfl) (j5 (j6 hr) (d9 1 (pv 1) rfl) e7 (fun _ _=>rfl)) rfl)
   (D8 (L5.m (xt (d9 2 (pv 2) rfl) fD (p3 _))) (P9 rfl (p8 B9 rfl)) A2)
   (p8 (R8 (BY (j6 hr) (d9 2 (pv 2) rfl) (j9 CNamesOf (hr.mono (by decide)) (by rfl) (e9 (d9 0 (pv 0) rfl) i3 rfl) rfl) rfl) (U8 (wu (o8 A9 O2 (by rfl) hlen PySem.boot_len (e9 (j9 CClimb (hr.mono (by decide)) (by rfl) (e9 (d9 0 (pv 0) rfl) (e9 (d9 2 (pv 2) rfl) i3 rfl) rfl) rfl) i3 rfl)) (W4 (v:=.int 7) (d:=.int 7) (B:=[]) (V8 rfl hMOST_OVER ⟨_,rfl⟩) (fun _=>.int)) (p3 _)))) rfl))) rd
theorem V6:o4 ["thing", "stretch", "turns", "draw"] ["thing"] (g6 P0):=⟨rfl,rfl,rfl,by decide +kernel,rfl,by decide +kernel,by decide +kernel⟩
theorem pL {f:Addr} {fd:FuncData} (F:X1 K "is_course" "is_course" P0 f fd) {fIsNumber:Addr} {fdIsNumber:FuncData} (CIsNumber:D7 P w K mg base "is_number" 2 ["thing"] (D2 K u9) fIsNumber fdIsNumber) (hisinstance:mg "isinstance" = none) (hlen:mg "len" = none) (htuple:mg "tuple" = none) {tkMOST_STRETCHES:Tok} (hMOST_STRETCHES:mg "MOST_STRETCHES" = some (.int 4 tkMOST_STRETCHES))
  (len:∀ ds Q,J0 ds Q -> ds.length = 1) (rd:∀ ds Q,J0 ds Q -> iZ (EP Q) (i5 4 ds)):y4 P w K mg base Q9 3 f fd ["thing"] (D2 K J0):=
 gE (cl:=[.bor,.bor,.bor,.bor]) F V6 rfl len (fun cdv A outer s0 H E hr=>(AX rfl (D8 (L5.m (cw.pt (N1 (x6 (p5 (o8 y9 aq (by rfl) hisinstance PyProof.Rows.boot_isinstance (e9 (d9 0 (pv 0) rfl) (e9 (Y7 (J9 (v:=.ty "tuple") rfl htuple PyProof.Rows.boot_tuple rfl)) i3 rfl) rfl)) (fun _=>rfl))) (G4 (mX (o8 A9 O2 (by rfl) hlen PySem.boot_len (e9 (d9 0 (pv 0) rfl) i3 rfl)) (W4 (v:=.int 4) (d:=.int 4) (B:=[]) (V8 rfl hMOST_STRETCHES ⟨_,rfl⟩) (fun _=>.int)) (p3 _)))))) (P9 rfl (p8 B9 rfl)) A2)
   (S5 (eP.m (Q4 (d9 0 (pv 0) rfl)) rfl) (o5 (j3 (i:=1) V6.nd rfl (Or.inl rfl)) rfl)
    (AX rfl (D8 (L5.m (cw.pt (N1 (x6 (p5 (o8 y9 aq (by rfl) hisinstance PyProof.Rows.boot_isinstance (e9 (d9 1 (pv 1) rfl) (e9 (Y7 (J9 (v:=.ty "tuple") rfl htuple PyProof.Rows.boot_tuple rfl)) i3 rfl) rfl)) (fun _=>rfl))) (G4 (cA hr (o8 A9 O2 (by rfl) hlen PySem.boot_len (e9 (d9 1 (pv 1) rfl) i3 rfl)) e7 (p3 _)))))) (P9 rfl (p8 B9 rfl)) A2)
   (qD (d9 1 (pv 1) rfl) rfl (fB (n:=2) (A4 (o5 (j3 (i:=2) V6.nd rfl (Or.inl rfl)) rfl) (A4 (o5 (j3 (i:=3) V6.nd rfl (Or.inl rfl)) rfl) aV)) (fun _ _ _ h=>lW h) (fun p=>bc rfl p)) (fun p g=>U3 p g))
   (D8 (L5.m (cw.pt (N1 (x6 (p5 (j9 CIsNumber (hr.mono (by decide)) (by rfl) (e9 (d9 2 (pv 2) rfl) i3 rfl) rfl) (fun _=>rfl))) (N1 (jK hr (d9 2 (pv 2) rfl) e7 (p3 _)) (G4 (x6 (p5 (j9 CIsNumber (hr.mono (by decide)) (by rfl) (e9 (d9 3 (pv 3) rfl) i3 rfl) rfl) (fun _=>rfl)))))))) (P9 rfl (p8 B9 rfl)) A2)) (fun a b c=>M6 PassesOwn.never rfl a b c))
   (p8 B9 rfl))) rd
theorem T2:o4 ["thing", "name", "at", "course", "last", "switch"] ["thing"] (g6 aE):=⟨rfl,rfl,rfl,by decide +kernel,rfl,by decide +kernel,by decide +kernel⟩
theorem xZ {f:Addr} {fd:FuncData} (F:X1 K "is_load" "is_load" aE f fd) {fIsNumber:Addr} {fdIsNumber:FuncData} (CIsNumber:D7 P w K mg base "is_number" 2 ["thing"] (D2 K u9) fIsNumber fdIsNumber) {fIsName:Addr} {fdIsName:FuncData} (CIsName:D7 P w K mg base "is_name" 1 ["thing"] (D2 K G7) fIsName fdIsName) {fIsCourse:Addr} {fdIsCourse:FuncData} (CIsCourse:D7 P w K mg base "is_course" 3 ["thing"] (D2 K J0) fIsCourse fdIsCourse) (hisinstance:mg "isinstance" = none) (hlen:mg "len" = none) (htuple:mg "tuple" = none)
  (len:∀ ds Q,Q8 ds Q -> ds.length = 1) (rd:∀ ds Q,Q8 ds Q -> qI (EP Q) (i5 6 ds)):y4 P w K mg base Q9 4 f fd ["thing"] (D2 K Q8):=
 gE (cl:=[.bor,.bor,.bor,.bor,.bor,.bor]) F T2 rfl len (fun cdv A outer s0 H E hr=>(vX rfl (D8 (L5.m (cw.pt (N1 (x6 (p5 (o8 y9 aq (by rfl) hisinstance PyProof.Rows.boot_isinstance (e9 (d9 0 (pv 0) rfl) (e9 (Y7 (J9 (v:=.ty "tuple") rfl htuple PyProof.Rows.boot_tuple rfl)) i3 rfl) rfl)) (fun _=>rfl))) (G4 (cA hr (o8 A9 O2 (by rfl) hlen PySem.boot_len (e9 (d9 0 (pv 0) rfl) i3 rfl)) e7 (p3 _)))))) (P9 rfl (p8 B9 rfl)) A2)
   (qD (d9 0 (pv 0) rfl) rfl (fB (n:=5) (A4 (o5 (j3 (i:=1) T2.nd rfl (Or.inl rfl)) rfl) (A4 (o5 (j3 (i:=2) T2.nd rfl (Or.inl rfl)) rfl) (A4 (o5 (j3 (i:=3) T2.nd rfl (Or.inl rfl)) rfl) (A4 (o5 (j3 (i:=4) T2.nd rfl (Or.inl rfl)) rfl) (A4 (o5 (j3 (i:=5) T2.nd rfl (Or.inl rfl)) rfl) aV))))) (fun _ _ _ h=>AZ h) (fun p=>bc rfl p)) (fun p g=>U3 p g))
   (D8 (L5.m (cw.pt (N1 (x6 (p5 (j9 CIsName (hr.mono (by decide)) (by rfl) (e9 (d9 1 (pv 1) rfl) i3 rfl) rfl) (fun _=>rfl))) (G4 (x6 (p5 (j9 CIsName (hr.mono (by decide)) (by rfl) (e9 (d9 2 (pv 2) rfl) i3 rfl) rfl) (fun _=>rfl))))))) (P9 rfl (p8 B9 rfl)) A2)
   (p8 (R8 (j9 CIsCourse (hr.mono (by decide)) (by rfl) (e9 (d9 3 (pv 3) rfl) i3 rfl) rfl) (R8 (j9 CIsNumber (hr.mono (by decide)) (by rfl) (e9 (d9 4 (pv 4) rfl) i3 rfl) rfl) (U8 (ER (pK (d9 5 (pv 5) rfl) B9 (p3 _)) (U8 (pK (d9 5 (pv 5) rfl) B9 (p3 _))))))) rfl))) rd
theorem oP:o4 ["guards", "ahead", "thing"] ["guards", "ahead", "thing"] (g6 P7):=⟨rfl,rfl,rfl,by decide +kernel,rfl,by decide +kernel,by decide +kernel⟩
theorem pU {f:Addr} {fd:FuncData} (F:X1 K "load_fits" "load_fits" P7 f fd) {fIsLoad:Addr} {fdIsLoad:FuncData} (CIsLoad:D7 P w K mg base "is_load" 4 ["thing"] (D2 K Q8) fIsLoad fdIsLoad) {fNamesOf:Addr} {fdNamesOf:FuncData} (CNamesOf:D7 P w K mg base "names_of" 1 ["rows"] (D2 K C8) fNamesOf fdNamesOf)
  (len:∀ ds Q,J5 ds Q -> ds.length = 3) (rd:∀ ds Q,J5 ds Q -> jf (EP Q) (i5 3 ds)):y4 P w K mg base Q9 5 f fd ["guards", "ahead", "thing"] (D2 K J5):=
 gE (cl:=[.bor,.bor,.bor]) F oP rfl len (fun cdv A outer s0 H E hr=>(Eh rfl (D8 (L5.m (cw.pt (N1 (x6 (p5 (j9 CIsLoad (hr.mono (by decide)) (by rfl) (e9 (d9 2 (pv 2) rfl) i3 rfl) rfl) (fun _=>rfl))) (G4 (jc (j6 hr) (j5 (j6 hr) (d9 2 (pv 2) rfl) e7 (fun _ _=>rfl)) (j9 CNamesOf (hr.mono (by decide)) (by rfl) (e9 (d9 0 (pv 0) rfl) i3 rfl) rfl) rfl))))) (P9 rfl (p8 B9 rfl)) A2)
   (p8 (R8 (ib (j6 hr) (j5 (j6 hr) (d9 2 (pv 2) rfl) e7 (fun _ _=>rfl)) (j9 CNamesOf (hr.mono (by decide)) (by rfl) (e9 (d9 0 (pv 0) rfl) i3 rfl) rfl) rfl) (U8 (ib (j6 hr) (j5 (j6 hr) (d9 2 (pv 2) rfl) e7 (fun _ _=>rfl)) (j9 CNamesOf (hr.mono (by decide)) (by rfl) (e9 (d9 1 (pv 1) rfl) i3 rfl) rfl) rfl))) rfl))) rd
theorem Q3:o4 ["thing", "guards", "loads", "at", "guard", "load"] ["thing"] (g6 aJ):=⟨rfl,rfl,rfl,by decide +kernel,rfl,by decide +kernel,by decide +kernel⟩
theorem vQ {f:Addr} {fd:FuncData} (F:X1 K "looked" "looked" aJ f fd) {fIsOutline:Addr} {fdIsOutline:FuncData} (CIsOutline:D7 P w K mg base "is_outline" 1 ["thing"] (D2 K E7) fIsOutline fdIsOutline) {fGuardFits:Addr} {fdGuardFits:FuncData} (CGuardFits:D7 P w K mg base "guard_fits" 6 ["ahead", "thing"] (D2 K E8) fGuardFits fdGuardFits) {fLoadFits:Addr} {fdLoadFits:FuncData} (CLoadFits:D7 P w K mg base "load_fits" 5 ["guards", "ahead", "thing"] (D2 K J5) fLoadFits fdLoadFits) (henumerate:mg "enumerate" = none) {cNoBoard:Addr} {fINoBoard:Addr} {fdINoBoard:FuncData} (ownINoBoard:An "NoBoard" cNoBoard fINoBoard [.type "ValueError",.type "Exception",.type "BaseException",.type "object"] "ValueError.__new__" mg base) (FINoBoard:y4 P w K mg base Q9 1 fINoBoard fdINoBoard ["self", "word", "number"] (Y8 cNoBoard (Fo "NoBoard"))) (bINoBoard:Binds K fdINoBoard ["self", "word", "number"] [])
  (len:∀ ds Q W,K6 ds Q W -> ds.length = 1) (rd:∀ ds Q W,K6 ds Q W -> qr W (EP Q) (i5 6 ds)):y4 P w K mg base (yK P w) 7 f fd ["thing"] (Bo Fo K mg K6):=
 IA (cl:=[.bor,.bor,.bor,.bor,.bor,.bor]) F Q3 rfl len (fun W cdv A outer s0 H E hr wi=>(Hq rfl (D8 (L5.m (x6 (p5 (j9 CIsOutline (hr.mono (by decide)) (by rfl) (e9 (d9 0 (pv 0) rfl) i3 rfl) rfl) (fun _=>rfl)))) (P9 rfl (fM (j:=6) ownINoBoard FINoBoard (hr.mono (by decide)) bINoBoard PySem.F.excBase_ValueError rfl PySem.F.excBase_ValueError rfl bp wi rfl (by rfl) (e9 C6 (e9 e7 i3 rfl) rfl) rfl)) A2)
   (qD (d9 0 (pv 0) rfl) rfl (fB (n:=2) (A4 (o5 (j3 (i:=1) Q3.nd rfl (Or.inl rfl)) rfl) (A4 (o5 (j3 (i:=2) Q3.nd rfl (Or.inl rfl)) rfl) aV)) (fun _ _ _ h=>lW h) (fun p=>bc rfl p)) (fun p g=>U3 p g))
   (S5 (eP.m (rA (d9 1 (pv 1) rfl) rfl (fun pa=>kQ (by rfl) henumerate pa)) rfl) (fB (n:=2) (A4 (o5 (j3 (i:=3) Q3.nd rfl (Or.inl rfl)) rfl) (A4 (o5 (j3 (i:=4) Q3.nd rfl (Or.inl rfl)) rfl) aV)) (fun _ _ _ h=>lW h) (fun p=>bc rfl p))
    (P9 rfl (D8 (L5.m (x6 (p5 (j9 CGuardFits (hr.mono (by decide)) (by rfl) (e9 (xj (d9 1 (pv 1) rfl) eh (dZ (d9 3 (pv 3) rfl))) (e9 (d9 4 (pv 4) rfl) i3 rfl) rfl) rfl) (fun _=>rfl)))) (P9 rfl (fM (j:=6) ownINoBoard FINoBoard (hr.mono (by decide)) bINoBoard PySem.F.excBase_ValueError rfl PySem.F.excBase_ValueError rfl bp wi rfl (by rfl) (e9 C6 (e9 (d9 3 (pv 3) rfl) i3 rfl) rfl) rfl)) A2)) (fun a b c=>M6 PassesOwn.leaving rfl a b c))
   (S5 (eP.m (rA (d9 2 (pv 2) rfl) rfl (fun pa=>kQ (by rfl) henumerate pa)) rfl) (fB (n:=2) (A4 (o5 (j3 (i:=3) Q3.nd rfl (Or.inl rfl)) rfl) (A4 (o5 (j3 (i:=5) Q3.nd rfl (Or.inl rfl)) rfl) aV)) (fun _ _ _ h=>lW h) (fun p=>bc rfl p))
    (P9 rfl (D8 (L5.m (x6 (p5 (j9 CLoadFits (hr.mono (by decide)) (by rfl) (e9 (d9 1 (pv 1) rfl) (e9 (xj (d9 2 (pv 2) rfl) eh (dZ (d9 3 (pv 3) rfl))) (e9 (d9 5 (pv 5) rfl) i3 rfl) rfl) rfl) rfl) (fun _=>rfl)))) (P9 rfl (fM (j:=6) ownINoBoard FINoBoard (hr.mono (by decide)) bINoBoard PySem.F.excBase_ValueError rfl PySem.F.excBase_ValueError rfl bp wi rfl (by rfl) (e9 C6 (e9 (d9 3 (pv 3) rfl) i3 rfl) rfl) rfl)) A2)) (fun a b c=>M6 PassesOwn.leaving rfl a b c))
   (p8 B9 rfl))) rd
theorem wj:o4 ["_law_script", "_law_k"] ["_law_script", "_law_k"] (g6 az):=⟨rfl,rfl,rfl,by decide +kernel,rfl,by decide +kernel,by decide +kernel⟩
theorem vf {f:Addr} {fd:FuncData} (F:X1 K "_law_cell_at" "_law_cell_at" az f fd) (hlen:mg "len" = none)
  (len:∀ ds Q,M7 ds Q -> ds.length = 2) (rd:∀ ds Q,M7 ds Q -> qv (EP Q) (i5 2 ds)):y4 P w K mg base Q9 1 f fd ["_law_script", "_law_k"] (D2 K M7):=
 gE (cl:=[.bor,.bor]) F wj rfl len (fun cdv A outer s0 H E hr=>(Eh rfl (D8 (L5.m (kT (d9 1 (pv 1) rfl) (o8 A9 O2 (by rfl) hlen PySem.boot_len (e9 (d9 0 (pv 0) rfl) i3 rfl)) (p3 _))) (P9 rfl (p8 (PU.D3 (j5 (j6 hr) (d9 0 (pv 0) rfl) (d9 1 (pv 1) rfl) (fun _ _=>rfl))) rfl)) A2)
   (p8 e7 rfl))) rd
theorem wX:o4 ["_law_script", "_law_k", "_law_cell"] ["_law_script", "_law_k"] (g6 iF):=⟨rfl,rfl,rfl,by decide +kernel,rfl,by decide +kernel,by decide +kernel⟩
theorem Dv {f:Addr} {fd:FuncData} (F:X1 K "_law_feed" "_law_feed" iF f fd) {fCellAt:Addr} {fdCellAt:FuncData} (CCellAt:D7 P w K mg base "_law_cell_at" 1 ["_law_script", "_law_k"] (D2 K M7) fCellAt fdCellAt)
  (len:∀ ds Q,P8 ds Q -> ds.length = 2) (rd:∀ ds Q,P8 ds Q -> AQ (EP Q) (i5 3 ds)):y4 P w K mg base Q9 2 f fd ["_law_script", "_law_k"] (D2 K P8):=
 gE (cl:=[.bor,.bor,.bor]) F wX rfl len (fun cdv A outer s0 H E hr=>(Eh rfl (B8 (i:=2) wX.nd rfl (Or.inl rfl) (j9 CCellAt (hr.mono (by decide)) (by rfl) (e9 (d9 0 (pv 0) rfl) (e9 (d9 1 (pv 1) rfl) i3 rfl) rfl) rfl) rfl)
   (p8 (U1 (i9 (PU.D3 (d9 2 (pv 2) rfl)) (i9 (PU.D3 (d9 2 (pv 2) rfl)) (i9 (O3 e7 (d9 1 (pv 1) rfl)) C0 rfl) rfl) rfl) rfl) rfl))) rd
theorem jE:o4 ["_law_feed_here", "_law_many", "_law_digit", "_law_number_here"] ["_law_feed_here", "_law_many"] (g6 iY):=⟨rfl,rfl,rfl,by decide +kernel,rfl,by decide +kernel,by decide +kernel⟩
theorem BV {f:Addr} {fd:FuncData} (F:X1 K "_law_take" "_law_take" iY f fd)
  (len:∀ ds Q,p9 ds Q -> ds.length = 2) (rd:∀ ds Q,p9 ds Q -> Bb (EM Q) (i5 4 ds)):y4 P w K mg base Q9 1 f fd ["_law_feed_here", "_law_many"] (bI K p9):=
 EB (cl:=[.bor,.bor,.bor]) F jE rfl len (fun cdv A outer s0 H E hr=>(Hq rfl (kW 0 (pv 0) rfl (PU.m (B0 (j5 (j6 hr) (d9 0 (pv 0) rfl) e7 (fun _ _=>rfl)) e7)) (PU.n e7 rfl) (fun p p2=>U3 p (fX (pv 0) p2 set_list)))
   (D8 (L5.m (cw.pt (pV (FF (j5 (j6 hr) (d9 0 (pv 0) rfl) e7 (fun _ _=>rfl)) (V2 e7 e7) (p3 _)) (jy (mX (j5 (j6 hr) (d9 0 (pv 0) rfl) e7 (fun _ _=>rfl)) e7 (p3 _)))))) (AX rfl (B8 (i:=2) jE.nd rfl (Or.inl rfl) (G9 (j5 (j6 hr) (d9 0 (pv 0) rfl) e7 (fun _ _=>rfl)) (d9 1 (pv 1) rfl)) rfl)
   (kW 0 (pv 0) rfl (PU.m (cj (j5 (j6 hr) (d9 0 (pv 0) rfl) e7 (fun _ _=>rfl)) (d9 1 (pv 1) rfl))) (PU.n e7 rfl) (fun p p2=>U3 p (fX (pv 0) p2 set_list)))
   (p8 (PU.D3 (d9 2 (pv 2) rfl)) rfl)) A2)
   (B8 (i:=3) jE.nd rfl (Or.inl rfl) (B0 (O3 (G9 (j5 (j6 hr) (d9 0 (pv 0) rfl) e7 (fun _ _=>rfl)) e7) e7) (O3 e7 (j5 (j6 hr) (d9 0 (pv 0) rfl) e7 (fun _ _=>rfl)))) rfl)
   (B8 (i:=3) jE.nd rfl (Or.inl rfl) (G9 (B0 (B0 (d9 3 (pv 3) rfl) (O3 (O3 (j5 (j6 hr) (d9 0 (pv 0) rfl) e7 (fun _ _=>rfl)) (j5 (j6 hr) (d9 0 (pv 0) rfl) e7 (fun _ _=>rfl))) e7)) e7) e7) rfl)
   (p8 (G9 (cj (G9 (O3 (d9 3 (pv 3) rfl) (B0 (G9 (d9 3 (pv 3) rfl) e7) e7)) e7) e7) (d9 1 (pv 1) rfl)) rfl))) rd
theorem rq:o4 ["_law_feed_here", "_law_way"] ["_law_feed_here"] (g6 cM):=⟨rfl,rfl,rfl,by decide +kernel,rfl,by decide +kernel,by decide +kernel⟩
theorem yN {f:Addr} {fd:FuncData} (F:X1 K "_law_begin" "_law_begin" cM f fd) {fTake:Addr} {fdTake:FuncData} (CTake:D7 P w K mg base "_law_take" 1 ["_law_feed_here", "_law_many"] (bI K p9) fTake fdTake)
  (len:∀ ds Q,I0 ds Q -> ds.length = 1) (rd:∀ ds Q,I0 ds Q -> uX (EM Q) (i5 2 ds)):y4 P w K mg base Q9 2 f fd ["_law_feed_here"] (bI K I0):=
 EB (cl:=[.bor]) F rq rfl len (fun cdv A outer s0 H E hr=>(vX rfl (D5 (i:=1) rq.nd rfl (Or.inl rfl) (j7 0 (pv 0) rfl CTake (hr.mono (by decide)) (by rfl) (o9 (PU.n e7 rfl) o7 rfl)) rfl)
   (D8 (L5.m (kT (d9 1 (pv 1) rfl) e7 (p3 _))) (P9 rfl (cy (J8 (PU.n e7 rfl) (PM.n (eK (PU.n (d9 1 (pv 1) rfl) rfl) (PM.n (j7 0 (pv 0) rfl CTake (hr.mono (by decide)) (by rfl) (o9 (PU.n e7 rfl) o7 rfl)))))))) A2)
   (D8 (L5.m (jK hr (d9 1 (pv 1) rfl) e7 (p3 _))) (P9 rfl (cy (J8 (PU.n e7 rfl) (PM.n (j7 0 (pv 0) rfl CTake (hr.mono (by decide)) (by rfl) (o9 (PU.n (V2 e7 e7) rfl) o7 rfl)))))) A2)
   (cy (J8 (PM.n (eK (PM.n (J8 (PU.n e7 rfl) (PM.n (j7 0 (pv 0) rfl CTake (hr.mono (by decide)) (by rfl) (o9 (PU.n (V2 e7 e7) rfl) o7 rfl))))) (PU.n (V2 e7 e7) rfl))) (PM.n (j7 0 (pv 0) rfl CTake (hr.mono (by decide)) (by rfl) (o9 (PU.n (V2 e7 e7) rfl) o7 rfl))))))) rd
theorem lM:o4 ["_law_feed_here", "_law_way"] ["_law_feed_here"] (g6 av):=⟨rfl,rfl,rfl,by decide +kernel,rfl,by decide +kernel,by decide +kernel⟩
theorem uZ {f:Addr} {fd:FuncData} (F:X1 K "_law_number" "_law_number" av f fd) {fTake:Addr} {fdTake:FuncData} (CTake:D7 P w K mg base "_law_take" 1 ["_law_feed_here", "_law_many"] (bI K p9) fTake fdTake) {fBegin:Addr} {fdBegin:FuncData} (CBegin:D7 P w K mg base "_law_begin" 2 ["_law_feed_here"] (bI K I0) fBegin fdBegin)
  (len:∀ ds Q,G8 ds Q -> ds.length = 1) (rd:∀ ds Q,G8 ds Q -> qi (EM Q) (i5 2 ds)):y4 P w K mg base Q9 3 f fd ["_law_feed_here"] (bI K G8):=
 EB (cl:=[.bor]) F lM rfl len (fun cdv A outer s0 H E hr=>(vX rfl (D5 (i:=1) lM.nd rfl (Or.inl rfl) (j7 0 (pv 0) rfl CTake (hr.mono (by decide)) (by rfl) (o9 (PU.n e7 rfl) o7 rfl)) rfl)
   (D8 (L5.m (kT (d9 1 (pv 1) rfl) e7 (p3 _))) (P9 rfl (cy (j7 0 (pv 0) rfl CTake (hr.mono (by decide)) (by rfl) (o9 (PU.n e7 rfl) o7 rfl)))) A2)
   (D8 (L5.m (kT (d9 1 (pv 1) rfl) e7 (p3 _))) (P9 rfl (cy (j7 0 (pv 0) rfl CBegin (hr.mono (by decide)) (by rfl) o7))) A2)
   (cy (BO (PU.n (K8 (V2 e7 e7) e7) rfl) (PM.n (j7 0 (pv 0) rfl CTake (hr.mono (by decide)) (by rfl) (o9 (PU.n e7 rfl) o7 rfl))))))) rd
theorem G2:o4 ["_law_feed_here", "_law_many", "_law_letters", "_law_first", "_law_names_here", "_law_size", "_law_base", "_law_at", "_law_other", "_law_longer", "_law_k", "_law_some", "_law_word"] ["_law_feed_here", "_law_many"] (g6 V5):=⟨rfl,rfl,rfl,by decide +kernel,rfl,by decide +kernel,by decide +kernel⟩
theorem ya:(["_law_k", "_law_letters", "_law_first"]:List Str).Nodup:=by decide +kernel
theorem ym:(["_law_k", "_law_feed_here"]:List Str).Nodup:=by decide +kernel
theorem uO:(["_law_one", "_law_letters"]:List Str).Nodup:=by decide +kernel
theorem AD {f:Addr} {fd:FuncData} (F:X1 K "_law_names" "_law_names" V5 f fd) {fTake:Addr} {fdTake:FuncData} (CTake:D7 P w K mg base "_law_take" 1 ["_law_feed_here", "_law_many"] (bI K p9) fTake fdTake) (hint:mg "int" = none) (hlist:mg "list" = none) (hrange:mg "range" = none)
  (len:∀ ds Q,ai ds Q -> ds.length = 2) (rd:∀ ds Q,ai ds Q -> xT (EM Q) (i5 13 ds)):y4 P w K mg base Q9 2 f fd ["_law_feed_here", "_law_many"] (bI K ai):=
 EB (cl:=[.bor,.bor,.bor,.own,.bor,.bor,.bor,.bor,.bor,.bor,.own,.bor]) F G2 rfl len (fun cdv A outer s0 H E hr=>(Im rfl (B8 (i:=2) G2.nd rfl (Or.inr rfl) C6 rfl)
   (D5 (i:=3) G2.nd rfl (Or.inr rfl) (j7 0 (pv 0) rfl CTake (hr.mono (by decide)) (by rfl) (o9 (PU.n e7 rfl) o7 rfl)) rfl)
   (D8 (pX hr (PM.n (j7 0 (pv 0) rfl CTake (hr.mono (by decide)) (by rfl) (o9 (PU.n e7 rfl) o7 rfl))) (PU.n e7 rfl) (p3 _)) (P9 rfl (kE (i:=4) (XN:=["_law_feed_here", "_law_many", "_law_letters", "_law_first", "_law_names_here", "_law_size", "_law_base", "_law_at", "_law_other", "_law_longer", "_law_k", "_law_some", "_law_word"]) (N:=["_law_k", "_law_letters", "_law_first"]) (XS:=g6 V5) (cap:=[none,some 2,some 3]) G2.nd rfl rfl rfl (by decide +kernel) rfl rfl rfl rfl (G6 (by rfl) hrange (d9 1 (pv 1) rfl) rfl (fun pa=>C7 (by rfl) hrange pa)) (fun _ _ _ _=>(o5 (j3 (i:=0) ya rfl (Or.inl rfl)) rfl)) (fun _ _ _ _=>R5) (fun _ _ _ _=>(O3 (j5 (j6 hr) (d9 1 (pv 1) rfl) (G9 (B0 (d9 2 (pv 2) rfl) (d9 0 (pv 0) rfl)) e7) (fun _ _=>rfl)) (B0 e7 (cj (d9 0 (pv 0) rfl) e7)))))) (Hv rfl (D5 (i:=5) G2.nd rfl (Or.inl rfl) (J8 (PU.n e7 rfl) (PM.n (j7 0 (pv 0) rfl CTake (hr.mono (by decide)) (by rfl) (o9 (PU.n e7 rfl) o7 rfl)))) rfl)
   (vT (i:=6) (XN:=["_law_feed_here", "_law_many", "_law_letters", "_law_first", "_law_names_here", "_law_size", "_law_base", "_law_at", "_law_other", "_law_longer", "_law_k", "_law_some", "_law_word"]) (N:=["_law_k", "_law_feed_here"]) (XS:=g6 V5) (cap:=[none,some 0]) 1 0 G2.nd rfl rfl rfl rfl rfl rfl (by decide +kernel) rfl rfl rfl rfl (eP.m (G6 (by rfl) hrange (d9 5 (pv 5) rfl) rfl (fun pa=>C7 (by rfl) hrange pa)) rfl) (fun _ _ _ _=>(o5 (j3 (i:=0) ym rfl (Or.inl rfl)) rfl)) (fun _ _ _ _=>qt) (fun _ _ _ _=>(j7 1 (pv 1) rfl CTake (hr.mono (by decide)) (by rfl) (o9 (PU.n e7 rfl) o7 rfl))))
   (D5 (i:=7) G2.nd rfl (Or.inl rfl) (j7 0 (pv 0) rfl CTake (hr.mono (by decide)) (by rfl) (o9 (PU.n (d9 5 (pv 5) rfl) rfl) o7 rfl)) rfl)
   (D5 (i:=8) G2.nd rfl (Or.inl rfl) (DV (PM.n (J8 (PU.n (B0 (d9 7 (pv 7) rfl) e7) rfl) (PM.n (j7 0 (pv 0) rfl CTake (hr.mono (by decide)) (by rfl) (o9 (PU.n (K8 (d9 5 (pv 5) rfl) e7) rfl) o7 rfl))))) (PU.n (d9 5 (pv 5) rfl) rfl)) rfl)
   (D5 (i:=9) G2.nd rfl (Or.inl rfl) (eK (PM.n (j7 0 (pv 0) rfl CTake (hr.mono (by decide)) (by rfl) (o9 (PU.n e7 rfl) o7 rfl))) (PU.n (C3 tX Ce (by rfl) hint PyProof.Rows.boot_int (e9 (Bj (d9 5 (pv 5) rfl) e7 (p3 _)) i3 rfl)) rfl)) rfl)
   (B8 (i:=4) G2.nd rfl (Or.inl rfl) (U1 C0 rfl) rfl)
   (S5 (eP.m (G6 (by rfl) hrange (d9 1 (pv 1) rfl) rfl (fun pa=>C7 (by rfl) hrange pa)) rfl) (o5 (j3 (i:=10) G2.nd rfl (Or.inl rfl)) rfl)
    (vX rfl (B8 (i:=11) G2.nd rfl (Or.inl rfl) (C3 W7 oY (by rfl) hlist PyProof.Rows.boot_list (e9 (d9 6 (pv 6) rfl) i3 rfl)) rfl)
   (kW 11 (pv 11) rfl (PU.m (G9 (B0 (j5 (j6 hr) (d9 6 (pv 6) rfl) (d9 7 (pv 7) rfl) (fun _ _=>rfl)) (d9 10 (pv 10) rfl)) e7)) (PU.n (d9 7 (pv 7) rfl) rfl) (fun p p2=>U3 p (fX (pv 11) p2 set_list)))
   (kW 11 (pv 11) rfl (PU.m (G9 (B0 (j5 (j6 hr) (d9 6 (pv 6) rfl) (d9 8 (pv 8) rfl) (fun _ _=>rfl)) (cj (d9 10 (pv 10) rfl) e7)) e7)) (PU.n (d9 8 (pv 8) rfl) rfl) (fun p p2=>U3 p (fX (pv 11) p2 set_list)))
   (bf (PM.n (L7 (r:=O7) 4 (pv 4) rfl (PU.m (B0 (zZ C6 (ff (XN:=["_law_feed_here", "_law_many", "_law_letters", "_law_first", "_law_names_here", "_law_size", "_law_base", "_law_at", "_law_other", "_law_longer", "_law_k", "_law_some", "_law_word"]) (N:=["_law_one", "_law_letters"]) (XS:=g6 V5) (cap:=[none,some 2]) (by decide +kernel) rfl rfl rfl rfl (Q4 (d9 11 (pv 11) rfl)) (fun _ _ _ _=>(o5 (j3 (i:=0) uO rfl (Or.inl rfl)) rfl)) (fun _ _ _ _=>R5) (fun _ _ _ _=>(PU.D3 (j5 (j6 hr) (d9 1 (pv 1) rfl) (d9 0 (pv 0) rfl) (fun _ _=>rfl))))) rfl (fun po pa=>cW PySem.F.plainAttrs_str PySem.F.slot_str_join PySem.F.type_str_join zM po pa)) (O3 (j5 (j6 hr) (d9 2 (pv 2) rfl) (d9 3 (pv 3) rfl) (fun _ _=>rfl)) (O3 (d9 9 (pv 9) rfl) (G9 (d9 10 (pv 10) rfl) e7))))) rfl (fun pa=>cW PySem.F.plainAttrs_list PySem.F.slot_list_append PySem.F.type_list_append J3 (pv 4) pa))))) (fun a b c=>M6 PassesOwn.never rfl a b c))))
   (D5 (i:=12) G2.nd rfl (Or.inl rfl) (PN.D3 (Y6 (j6 hr) (PU.n (U1 (i9 C6 (i9 C6 (i9 C6 (i9 C6 (i9 C6 (i9 C6 (i9 C6 (i9 C6 (i9 C6 (i9 C6 (i9 C6 C0 rfl) rfl) rfl) rfl) rfl) rfl) rfl) rfl) rfl) rfl) rfl) rfl) rfl) (PM.n (j7 0 (pv 0) rfl CTake (hr.mono (by decide)) (by rfl) (o9 (PU.n e7 rfl) o7 rfl))) (fun _ _=>rfl))) rfl)
   (D8 (L5.m (cw.pt (pV (cA hr (d9 12 (pv 12) rfl) C6 (p3 _)) (jy (jc (j6 hr) (d9 12 (pv 12) rfl) (d9 4 (pv 4) rfl) rfl))))) (P9 rfl (kW 4 (pv 4) rfl (PU.m (PU.D3 (d9 12 (pv 12) rfl))) (PM.n (j7 0 (pv 0) rfl CTake (hr.mono (by decide)) (by rfl) (o9 (PU.n (d9 1 (pv 1) rfl) rfl) o7 rfl))) (fun p p2=>U3 p (fX (pv 4) p2 set_list)))) A2)
   (kl 4 (pv 4) (by decide) rfl))) rd
theorem W6:o4 ["_law_feed_here", "_law_many", "_law_some", "_law_times", "_law_k"] ["_law_feed_here"] (g6 U5):=⟨rfl,rfl,rfl,by decide +kernel,rfl,by decide +kernel,by decide +kernel⟩
theorem wI:(["_law_one", "_law_some"]:List Str).Nodup:=by decide +kernel
theorem uJ:(["_law_one", "_law_times"]:List Str).Nodup:=by decide +kernel
theorem yC:(["_law_k", "_law_some", "_law_times", "_law_many"]:List Str).Nodup:=by decide +kernel
theorem yM {f:Addr} {fd:FuncData} (F:X1 K "_law_steps" "_law_steps" U5 f fd) {fTake:Addr} {fdTake:FuncData} (CTake:D7 P w K mg base "_law_take" 1 ["_law_feed_here", "_law_many"] (bI K p9) fTake fdTake) {fBegin:Addr} {fdBegin:FuncData} (CBegin:D7 P w K mg base "_law_begin" 2 ["_law_feed_here"] (bI K I0) fBegin fdBegin) (hrange:mg "range" = none) (htuple:mg "tuple" = none)
  (len:∀ ds Q,af ds Q -> ds.length = 1) (rd:∀ ds Q,af ds Q -> yB (EM Q) (i5 5 ds)):y4 P w K mg base Q9 3 f fd ["_law_feed_here"] (bI K af):=
 EB (cl:=[.bor,.own,.own,.bor]) F W6 rfl len (fun cdv A outer s0 H E hr=>(Hv rfl (D5 (i:=1) W6.nd rfl (Or.inr rfl) (J8 (PU.n e7 rfl) (PM.n (j7 0 (pv 0) rfl CTake (hr.mono (by decide)) (by rfl) (o9 (PU.n e7 rfl) o7 rfl)))) rfl)
   (D5 (i:=2) W6.nd rfl (Or.inr rfl) (oA (B7 (j7 0 (pv 0) rfl CBegin (hr.mono (by decide)) (by rfl) o7) bb rfl) rfl) rfl)
   (D5 (i:=3) W6.nd rfl (Or.inr rfl) (oA (B7 (j7 0 (pv 0) rfl CBegin (hr.mono (by decide)) (by rfl) o7) bb rfl) rfl) rfl)
   (S5 (eP.m (G6 (by rfl) hrange (K8 (d9 1 (pv 1) rfl) e7) rfl (fun pa=>C7 (by rfl) hrange pa)) rfl) (o5 (j3 (i:=4) W6.nd rfl (Or.inl rfl)) rfl)
    (Eh rfl (bf (PM.n (L7 (r:=O7) 2 (pv 2) rfl (J8 (PM.n (PU.m (PU.D3 (j5 (j6 hr) (d9 2 (pv 2) rfl) (cO e7) (fun _ _=>rfl))))) (PM.n (j7 0 (pv 0) rfl CBegin (hr.mono (by decide)) (by rfl) o7))) rfl (fun pa=>cW PySem.F.plainAttrs_list PySem.F.slot_list_append PySem.F.type_list_append J3 (pv 2) pa))))
   (bf (PM.n (L7 (r:=O7) 3 (pv 3) rfl (J8 (PM.n (PU.m (PU.D3 (j5 (j6 hr) (d9 3 (pv 3) rfl) (cO e7) (fun _ _=>rfl))))) (PM.n (j7 0 (pv 0) rfl CBegin (hr.mono (by decide)) (by rfl) o7))) rfl (fun pa=>cW PySem.F.plainAttrs_list PySem.F.slot_list_append PySem.F.type_list_append J3 (pv 3) pa))))) (fun a b c=>M6 PassesOwn.never rfl a b c))
   (D8 (pX hr (PM.n (j7 0 (pv 0) rfl CTake (hr.mono (by decide)) (by rfl) (o9 (PU.n e7 rfl) o7 rfl))) (PU.n e7 rfl) (p3 _)) (P9 rfl (B8 (i:=2) W6.nd rfl (Or.inr rfl) (ff (XN:=["_law_feed_here", "_law_many", "_law_some", "_law_times", "_law_k"]) (N:=["_law_one", "_law_some"]) (XS:=g6 U5) (cap:=[none,some 2]) (by decide +kernel) rfl rfl rfl rfl (Q4 (d9 2 (pv 2) rfl)) (fun _ _ _ _=>(o5 (j3 (i:=0) wI rfl (Or.inl rfl)) rfl)) (fun _ _ _ _=>R5) (fun _ _ _ _=>(B0 (K8 (K8 (V2 e7 e7) e7) (j5 (j6 hr) (d9 1 (pv 1) rfl) (cO e7) (fun _ _=>rfl))) (d9 0 (pv 0) rfl)))) rfl)) A2)
   (D8 (pX hr (PM.n (j7 0 (pv 0) rfl CTake (hr.mono (by decide)) (by rfl) (o9 (PU.n e7 rfl) o7 rfl))) (PU.n e7 rfl) (p3 _)) (P9 rfl (B8 (i:=3) W6.nd rfl (Or.inr rfl) (ff (XN:=["_law_feed_here", "_law_many", "_law_some", "_law_times", "_law_k"]) (N:=["_law_one", "_law_times"]) (XS:=g6 U5) (cap:=[none,some 3]) (by decide +kernel) rfl rfl rfl rfl (Q4 (d9 3 (pv 3) rfl)) (fun _ _ _ _=>(o5 (j3 (i:=0) uJ rfl (Or.inl rfl)) rfl)) (fun _ _ _ _=>R5) (fun _ _ _ _=>(B0 (K8 (K8 (V2 e7 e7) e7) (j5 (j6 hr) (d9 1 (pv 1) rfl) (cO e7) (fun _ _=>rfl))) (d9 0 (pv 0) rfl)))) rfl)) A2)
   (p8 (C3 y7 O5 (by rfl) htuple PyProof.Rows.boot_tuple (e9 (ff (XN:=["_law_feed_here", "_law_many", "_law_some", "_law_times", "_law_k"]) (N:=["_law_k", "_law_some", "_law_times", "_law_many"]) (XS:=g6 U5) (cap:=[none,some 2,some 3,some 1]) (by decide +kernel) rfl rfl rfl rfl (G6 (by rfl) hrange (d9 1 (pv 1) rfl) rfl (fun pa=>C7 (by rfl) hrange pa)) (fun _ _ _ _=>(o5 (j3 (i:=0) yC rfl (Or.inl rfl)) rfl)) (fun _ _ _ _=>R5) (fun _ _ _ _=>(L6 (i9 (PU.D3 (j5 (j6 hr) (d9 1 (pv 1) rfl) (d9 0 (pv 0) rfl) (fun _ _=>rfl))) (i9 (PU.D3 (j5 (j6 hr) (d9 2 (pv 2) rfl) (K8 (K8 (d9 3 (pv 3) rfl) e7) (d9 0 (pv 0) rfl)) (fun _ _=>rfl))) C0 rfl) rfl) rfl))) i3 rfl)) rfl))) rd
theorem K7:o4 ["_law_script", "_law_names_here", "_law_many", "_law_guards_here", "_law_depths", "_law_k", "_law_feed_here", "_law_some", "_law_way", "_law_under"] ["_law_script", "_law_names_here", "_law_many"] (g6 V7):=⟨rfl,rfl,rfl,by decide +kernel,rfl,by decide +kernel,by decide +kernel⟩
theorem tj:(["_law_guard", "_law_depths"]:List Str).Nodup:=by decide +kernel
theorem yx {f:Addr} {fd:FuncData} (F:X1 K "_law_guards" "_law_guards" V7 f fd) {fFeed:Addr} {fdFeed:FuncData} (CFeed:D7 P w K mg base "_law_feed" 2 ["_law_script", "_law_k"] (D2 K P8) fFeed fdFeed) {fTake:Addr} {fdTake:FuncData} (CTake:D7 P w K mg base "_law_take" 1 ["_law_feed_here", "_law_many"] (bI K p9) fTake fdTake) {fNumber:Addr} {fdNumber:FuncData} (CNumber:D7 P w K mg base "_law_number" 3 ["_law_feed_here"] (bI K G8) fNumber fdNumber) {fSteps:Addr} {fdSteps:FuncData} (CSteps:D7 P w K mg base "_law_steps" 3 ["_law_feed_here"] (bI K af) fSteps fdSteps) (hlen:mg "len" = none) (hrange:mg "range" = none)
  (len:∀ ds Q,R3 ds Q -> ds.length = 3) (rd:∀ ds Q,R3 ds Q -> rL (EP Q) (i5 10 ds)):y4 P w K mg base Q9 4 f fd ["_law_script", "_law_names_here", "_law_many"] (D2 K R3):=
 gE (cl:=[.bor,.bor,.bor,.own,.own,.bor,.own,.bor,.bor,.bor]) F K7 rfl len (fun cdv A outer s0 H E hr=>(vX rfl (B8 (i:=3) K7.nd rfl (Or.inl rfl) (U1 C0 rfl) rfl)
   (B8 (i:=4) K7.nd rfl (Or.inr rfl) yW rfl)
   (S5 (eP.m (G6 (by rfl) hrange (d9 2 (pv 2) rfl) rfl (fun pa=>C7 (by rfl) hrange pa)) rfl) (o5 (j3 (i:=5) K7.nd rfl (Or.inl rfl)) rfl)
    (Hv rfl (B8 (i:=6) K7.nd rfl (Or.inl rfl) (j9 CFeed (hr.mono (by decide)) (by rfl) (e9 (d9 0 (pv 0) rfl) (e9 (B0 e7 (d9 5 (pv 5) rfl)) i3 rfl) rfl) rfl) rfl)
   (kE (i:=7) (XN:=["_law_script", "_law_names_here", "_law_many", "_law_guards_here", "_law_depths", "_law_k", "_law_feed_here", "_law_some", "_law_way", "_law_under"]) (N:=["_law_guard", "_law_depths"]) (XS:=g6 V7) (cap:=[none,some 4]) K7.nd rfl rfl rfl (by decide +kernel) rfl rfl rfl rfl (Q4 (d9 3 (pv 3) rfl)) (fun _ _ _ _=>(o5 (j3 (i:=0) tj rfl (Or.inl rfl)) rfl)) (fun _ _ _ _=>(Ci (kT (j5 (j6 hr) (d9 1 (pv 1) rfl) (j5 (j6 hr) (d9 0 (pv 0) rfl) e7 (fun _ _=>rfl)) (fun _ _=>rfl)) e7 (p3 _)))) (fun _ _ _ _=>(PU.D3 (j5 (j6 hr) (d9 0 (pv 0) rfl) e7 (fun _ _=>rfl)))))
   (D5 (i:=8) K7.nd rfl (Or.inl rfl) (j7 6 (pv 6) rfl CTake (hr.mono (by decide)) (by rfl) (o9 (PU.n e7 rfl) o7 rfl)) rfl)
   (B8 (i:=9) K7.nd rfl (Or.inl rfl) fD rfl)
   (D8 (L5.m (cw.pt (pV (mX (d9 8 (pv 8) rfl) e7 (p3 _)) (jy (mX (o8 A9 O2 (by rfl) hlen PySem.boot_len (e9 (d9 7 (pv 7) rfl) i3 rfl)) e7 (p3 _)))))) (P9 rfl (D5 (i:=9) K7.nd rfl (Or.inl rfl) (PN.D3 (Y6 (j6 hr) (PM.n (oA (B7 (PU.m (PU.D3 (j5 (j6 hr) (d9 7 (pv 7) rfl) (cO e7) (fun _ _=>rfl)))) (B7 (PU.m (PU.D3 (j5 (j6 hr) (d9 7 (pv 7) rfl) (cO e7) (fun _ _=>rfl)))) (B7 (PN.D3 (Y6 (j6 hr) (PU.n (d9 7 (pv 7) rfl) rfl) (PM.n (j7 6 (pv 6) rfl CTake (hr.mono (by decide)) (by rfl) (o9 (PU.n (o8 A9 O2 (by rfl) hlen PySem.boot_len (e9 (d9 7 (pv 7) rfl) i3 rfl)) rfl) o7 rfl))) (fun _ _=>rfl))) bb rfl) rfl) rfl) rfl)) (PU.n (K8 (d9 8 (pv 8) rfl) e7) rfl) (fun _ _=>rfl))) rfl)) A2)
   (BD (j6 hr) 4 (pv 4) rfl (PU.n (B0 e7 (wo (j6 hr) (d9 4 (pv 4) rfl) (d9 9 (pv 9) rfl) e7 ⟨rfl,rfl,rfl,rfl⟩)) rfl) (PU.n (j5 (j6 hr) (d9 1 (pv 1) rfl) (d9 5 (pv 5) rfl) (fun _ _=>rfl)) rfl))
   (bf (PM.n (L7 (r:=O7) 3 (pv 3) rfl (oM (B7 (PU.m (PU.D3 (j5 (j6 hr) (d9 1 (pv 1) rfl) (d9 5 (pv 5) rfl) (fun _ _=>rfl)))) (B7 (PU.m (PU.D3 (d9 9 (pv 9) rfl))) (B7 (j7 6 (pv 6) rfl CSteps (hr.mono (by decide)) (by rfl) o7) (B7 (j7 6 (pv 6) rfl CNumber (hr.mono (by decide)) (by rfl) o7) (B7 (j7 6 (pv 6) rfl CNumber (hr.mono (by decide)) (by rfl) o7) bb rfl) rfl) rfl) rfl) rfl) rfl) rfl (fun pa=>cW PySem.F.plainAttrs_list PySem.F.slot_list_append PySem.F.type_list_append J3 (pv 3) pa))))) (fun a b c=>M6 PassesOwn.never rfl a b c))
   (kl 3 (pv 3) (by decide) rfl))) rd
theorem aw:o4 ["_law_script", "_law_names_here", "_law_guards_here", "_law_loads_here", "_law_k", "_law_feed_here", "_law_at", "_law_course"] ["_law_script", "_law_names_here", "_law_guards_here"] (g6 aX):=⟨rfl,rfl,rfl,by decide +kernel,rfl,by decide +kernel,by decide +kernel⟩
theorem vm:(["_law_j", "_law_feed_here"]:List Str).Nodup:=by decide +kernel
theorem Aw {f:Addr} {fd:FuncData} (F:X1 K "_law_loads" "_law_loads" aX f fd) {fFeed:Addr} {fdFeed:FuncData} (CFeed:D7 P w K mg base "_law_feed" 2 ["_law_script", "_law_k"] (D2 K P8) fFeed fdFeed) {fTake:Addr} {fdTake:FuncData} (CTake:D7 P w K mg base "_law_take" 1 ["_law_feed_here", "_law_many"] (bI K p9) fTake fdTake) {fBegin:Addr} {fdBegin:FuncData} (CBegin:D7 P w K mg base "_law_begin" 2 ["_law_feed_here"] (bI K I0) fBegin fdBegin) {fNumber:Addr} {fdNumber:FuncData} (CNumber:D7 P w K mg base "_law_number" 3 ["_law_feed_here"] (bI K G8) fNumber fdNumber) (hlen:mg "len" = none) (hrange:mg "range" = none) (htuple:mg "tuple" = none)
  (len:∀ ds Q,Y4 ds Q -> ds.length = 3) (rd:∀ ds Q,Y4 ds Q -> yd (EP Q) (i5 8 ds)):y4 P w K mg base Q9 4 f fd ["_law_script", "_law_names_here", "_law_guards_here"] (D2 K Y4):=
 gE (cl:=[.bor,.bor,.bor,.own,.bor,.own,.bor,.bor]) F aw rfl len (fun cdv A outer s0 H E hr=>(AX rfl (B8 (i:=3) aw.nd rfl (Or.inl rfl) (U1 C0 rfl) rfl)
   (S5 (eP.m (G6 (by rfl) hrange (o8 A9 O2 (by rfl) hlen PySem.boot_len (e9 (d9 1 (pv 1) rfl) i3 rfl)) rfl (fun pa=>C7 (by rfl) hrange pa)) rfl) (o5 (j3 (i:=4) aw.nd rfl (Or.inl rfl)) rfl)
    (vX rfl (B8 (i:=5) aw.nd rfl (Or.inr rfl) (j9 CFeed (hr.mono (by decide)) (by rfl) (e9 (d9 0 (pv 0) rfl) (e9 (B0 e7 (d9 4 (pv 4) rfl)) i3 rfl) rfl) rfl) rfl)
   (D5 (i:=6) aw.nd rfl (Or.inl rfl) (PN.D3 (Y6 (j6 hr) (Y6 (j6 hr) (PU.n (d9 2 (pv 2) rfl) rfl) (PM.n (j7 5 (pv 5) rfl CTake (hr.mono (by decide)) (by rfl) (o9 (PU.n (o8 A9 O2 (by rfl) hlen PySem.boot_len (e9 (d9 2 (pv 2) rfl) i3 rfl)) rfl) o7 rfl))) (fun _ _=>rfl)) (PU.n e7 rfl) (fun _ _=>rfl))) rfl)
   (D5 (i:=7) aw.nd rfl (Or.inl rfl) (sX y7 O5 (by rfl) htuple PyProof.Rows.boot_tuple (o9 (PM.n (EN (XN:=["_law_script", "_law_names_here", "_law_guards_here", "_law_loads_here", "_law_k", "_law_feed_here", "_law_at", "_law_course"]) (N:=["_law_j", "_law_feed_here"]) (XS:=g6 aX) (cap:=[none,some 5]) 1 5 rfl rfl rfl (by decide +kernel) rfl rfl rfl rfl (sS (by rfl) hrange (PM.n (j7 5 (pv 5) rfl CTake (hr.mono (by decide)) (by rfl) (o9 (PU.n e7 rfl) o7 rfl))) rfl (fun pa=>C7 (by rfl) hrange pa)) (fun _ _ _ _=>(o5 (j3 (i:=0) vm rfl (Or.inl rfl)) rfl)) (fun _ _ _ _=>qt) (fun _ _ _ _=>(oM (B7 (j7 1 (pv 1) rfl CBegin (hr.mono (by decide)) (by rfl) o7) (B7 (j7 1 (pv 1) rfl CNumber (hr.mono (by decide)) (by rfl) o7) bb rfl) rfl) rfl)))) o7 rfl)) rfl)
   (bf (PM.n (L7 (r:=O7) 3 (pv 3) rfl (oM (B7 (PU.m (PU.D3 (j5 (j6 hr) (d9 1 (pv 1) rfl) (d9 4 (pv 4) rfl) (fun _ _=>rfl)))) (B7 (PU.m (PU.D3 (d9 6 (pv 6) rfl))) (B7 (PU.m (PU.D3 (d9 7 (pv 7) rfl))) (B7 (j7 5 (pv 5) rfl CNumber (hr.mono (by decide)) (by rfl) o7) (B7 (Bw hr (PM.n (j7 5 (pv 5) rfl CTake (hr.mono (by decide)) (by rfl) (o9 (PU.n e7 rfl) o7 rfl))) (PU.n e7 rfl) (p3 _)) bb rfl) rfl) rfl) rfl) rfl) rfl) rfl (fun pa=>cW PySem.F.plainAttrs_list PySem.F.slot_list_append PySem.F.type_list_append J3 (pv 3) pa))))) (fun a b c=>M6 PassesOwn.never rfl a b c))
   (kl 3 (pv 3) (by decide) rfl))) rd
theorem bx:o4 ["_law_script", "_law_feed_here", "_law_many", "_law_names_here", "_law_guards_here"] ["_law_script"] (g6 cq):=⟨rfl,rfl,rfl,by decide +kernel,rfl,by decide +kernel,by decide +kernel⟩
theorem As {f:Addr} {fd:FuncData} (F:X1 K "_law_board" "_law_board" cq f fd) {fFeed:Addr} {fdFeed:FuncData} (CFeed:D7 P w K mg base "_law_feed" 2 ["_law_script", "_law_k"] (D2 K P8) fFeed fdFeed) {fTake:Addr} {fdTake:FuncData} (CTake:D7 P w K mg base "_law_take" 1 ["_law_feed_here", "_law_many"] (bI K p9) fTake fdTake) {fNames:Addr} {fdNames:FuncData} (CNames:D7 P w K mg base "_law_names" 2 ["_law_feed_here", "_law_many"] (bI K ai) fNames fdNames) {fGuards:Addr} {fdGuards:FuncData} (CGuards:D7 P w K mg base "_law_guards" 4 ["_law_script", "_law_names_here", "_law_many"] (D2 K R3) fGuards fdGuards) {fLoads:Addr} {fdLoads:FuncData} (CLoads:D7 P w K mg base "_law_loads" 4 ["_law_script", "_law_names_here", "_law_guards_here"] (D2 K Y4) fLoads fdLoads) (htuple:mg "tuple" = none)
  (len:∀ ds Q,Z9 ds Q -> ds.length = 1) (rd:∀ ds Q,Z9 ds Q -> wW (EP Q) (i5 5 ds)):y4 P w K mg base Q9 5 f fd ["_law_script"] (D2 K Z9):=
 gE (cl:=[.bor,.own,.bor,.bor,.bor]) F bx rfl len (fun cdv A outer s0 H E hr=>(Hq rfl (B8 (i:=1) bx.nd rfl (Or.inl rfl) (j9 CFeed (hr.mono (by decide)) (by rfl) (e9 (d9 0 (pv 0) rfl) (e9 e7 i3 rfl) rfl) rfl) rfl)
   (D5 (i:=2) bx.nd rfl (Or.inl rfl) (J8 (PU.n e7 rfl) (PM.n (j7 1 (pv 1) rfl CTake (hr.mono (by decide)) (by rfl) (o9 (Y6 (j6 hr) (PU.n (U1 (i9 e7 (i9 e7 C0 rfl) rfl) rfl) rfl) (PM.n (j7 1 (pv 1) rfl CTake (hr.mono (by decide)) (by rfl) (o9 (PU.n e7 rfl) o7 rfl))) (fun _ _=>rfl)) o7 rfl)))) rfl)
   (D5 (i:=3) bx.nd rfl (Or.inl rfl) (uN CNames (hr.mono (by decide)) (by rfl) (PU.m (j9 CFeed (hr.mono (by decide)) (by rfl) (e9 (d9 0 (pv 0) rfl) (e9 e7 i3 rfl) rfl) rfl)) (B7 (J8 (PU.n (d9 2 (pv 2) rfl) rfl) (PM.n (j7 1 (pv 1) rfl CTake (hr.mono (by decide)) (by rfl) (o9 (Y6 (j6 hr) (PU.n (U1 (i9 e7 (i9 e7 C0 rfl) rfl) rfl) rfl) (PM.n (j7 1 (pv 1) rfl CTake (hr.mono (by decide)) (by rfl) (o9 (PU.n e7 rfl) o7 rfl))) (fun _ _=>rfl)) o7 rfl)))) bb rfl) rfl) rfl)
   (B8 (i:=4) bx.nd rfl (Or.inl rfl) (j9 CGuards (hr.mono (by decide)) (by rfl) (e9 (d9 0 (pv 0) rfl) (e9 (d9 3 (pv 3) rfl) (e9 (d9 2 (pv 2) rfl) i3 rfl) rfl) rfl) rfl) rfl)
   (p8 (L6 (i9 (C3 y7 O5 (by rfl) htuple PyProof.Rows.boot_tuple (e9 (d9 4 (pv 4) rfl) i3 rfl)) (i9 (C3 y7 O5 (by rfl) htuple PyProof.Rows.boot_tuple (e9 (j9 CLoads (hr.mono (by decide)) (by rfl) (e9 (d9 0 (pv 0) rfl) (e9 (wm (d9 3 (pv 3) rfl) (dZ (d9 2 (pv 2) rfl)) eh) (e9 (d9 4 (pv 4) rfl) i3 rfl) rfl) rfl) rfl) i3 rfl)) C0 rfl) rfl) rfl) rfl))) rd
theorem A7:o4 ["_law_script", "_law_feed_here", "_law_top", "_law_letters", "_law_base", "_law_names_here", "_law_curve", "_law_guards_here", "_law_k", "_law_under", "_law_loads_here"] ["_law_script"] (g6 G3):=⟨rfl,rfl,rfl,by decide +kernel,rfl,by decide +kernel,by decide +kernel⟩
theorem nZ:(["_law_k", "_law_base", "_law_letters"]:List Str).Nodup:=by decide +kernel
theorem mx:(["_law_k", "_law_top"]:List Str).Nodup:=by decide +kernel
theorem lF:(["_law_k", "_law_top", "_law_names_here"]:List Str).Nodup:=by decide +kernel
theorem pW {f:Addr} {fd:FuncData} (F:X1 K "_law_greatest" "_law_greatest" G3 f fd) {fFeed:Addr} {fdFeed:FuncData} (CFeed:D7 P w K mg base "_law_feed" 2 ["_law_script", "_law_k"] (D2 K P8) fFeed fdFeed) {fTake:Addr} {fdTake:FuncData} (CTake:D7 P w K mg base "_law_take" 1 ["_law_feed_here", "_law_many"] (bI K p9) fTake fdTake) (hrange:mg "range" = none) (htuple:mg "tuple" = none)
  (len:∀ ds Q,J6 ds Q -> ds.length = 1) (rd:∀ ds Q,J6 ds Q -> iG (EP Q) (i5 11 ds)):y4 P w K mg base Q9 3 f fd ["_law_script"] (D2 K J6):=
 gE (cl:=[.bor,.own,.bor,.bor,.bor,.bor,.bor,.own,.bor,.bor,.bor]) F A7 rfl len (fun cdv A outer s0 H E hr=>(HC rfl (B8 (i:=1) A7.nd rfl (Or.inl rfl) (j9 CFeed (hr.mono (by decide)) (by rfl) (e9 (d9 0 (pv 0) rfl) (e9 e7 i3 rfl) rfl) rfl) rfl)
   (B8 (i:=2) A7.nd rfl (Or.inr rfl) (K8 (V2 e7 e7) e7) rfl)
   (B8 (i:=3) A7.nd rfl (Or.inr rfl) C6 rfl)
   (D5 (i:=4) A7.nd rfl (Or.inr rfl) (eK (Y6 (j6 hr) (PU.n (d9 3 (pv 3) rfl) rfl) (PM.n (j7 1 (pv 1) rfl CTake (hr.mono (by decide)) (by rfl) (o9 (PU.n e7 rfl) o7 rfl))) (fun _ _=>rfl)) (PU.n e7 rfl)) rfl)
   (B8 (i:=5) A7.nd rfl (Or.inr rfl) (ff (XN:=["_law_script", "_law_feed_here", "_law_top", "_law_letters", "_law_base", "_law_names_here", "_law_curve", "_law_guards_here", "_law_k", "_law_under", "_law_loads_here"]) (N:=["_law_k", "_law_base", "_law_letters"]) (XS:=g6 G3) (cap:=[none,some 4,some 3]) (by decide +kernel) rfl rfl rfl rfl (G6 (by rfl) hrange e7 rfl (fun pa=>C7 (by rfl) hrange pa)) (fun _ _ _ _=>(o5 (j3 (i:=0) nZ rfl (Or.inl rfl)) rfl)) (fun _ _ _ _=>R5) (fun _ _ _ _=>(B0 (B0 (d9 1 (pv 1) rfl) (j5 (j6 hr) (d9 2 (pv 2) rfl) (cj (d9 0 (pv 0) rfl) e7) (fun _ _=>rfl))) (j5 (j6 hr) (d9 2 (pv 2) rfl) (G9 (d9 0 (pv 0) rfl) e7) (fun _ _=>rfl))))) rfl)
   (B8 (i:=6) A7.nd rfl (Or.inl rfl) (C3 y7 O5 (by rfl) htuple PyProof.Rows.boot_tuple (e9 (ff (XN:=["_law_script", "_law_feed_here", "_law_top", "_law_letters", "_law_base", "_law_names_here", "_law_curve", "_law_guards_here", "_law_k", "_law_under", "_law_loads_here"]) (N:=["_law_k", "_law_top"]) (XS:=g6 G3) (cap:=[none,some 2]) (by decide +kernel) rfl rfl rfl rfl (G6 (by rfl) hrange e7 rfl (fun pa=>C7 (by rfl) hrange pa)) (fun _ _ _ _=>(o5 (j3 (i:=0) mx rfl (Or.inl rfl)) rfl)) (fun _ _ _ _=>R5) (fun _ _ _ _=>(L6 (i9 (B0 (K8 (d9 1 (pv 1) rfl) e7) (d9 0 (pv 0) rfl)) (i9 (K8 (d9 1 (pv 1) rfl) (d9 0 (pv 0) rfl)) C0 rfl) rfl) rfl))) i3 rfl)) rfl)
   (B8 (i:=7) A7.nd rfl (Or.inl rfl) (U1 C0 rfl) rfl)
   (S5 (eP.m (G6 (by rfl) hrange e7 rfl (fun pa=>C7 (by rfl) hrange pa)) rfl) (o5 (j3 (i:=8) A7.nd rfl (Or.inl rfl)) rfl)
    (AX rfl (B8 (i:=9) A7.nd rfl (Or.inl rfl) fD rfl)
   (D8 (L5.m (mX (G9 (d9 8 (pv 8) rfl) e7) e7 (p3 _))) (P9 rfl (B8 (i:=9) A7.nd rfl (Or.inl rfl) (j5 (j6 hr) (d9 5 (pv 5) rfl) (K8 (d9 8 (pv 8) rfl) e7) (fun _ _=>rfl)) rfl)) A2)
   (bf (PM.n (L7 (r:=O7) 7 (pv 7) rfl (PU.m (L6 (i9 (PU.D3 (j5 (j6 hr) (d9 5 (pv 5) rfl) (d9 8 (pv 8) rfl) (fun _ _=>rfl))) (i9 (PU.D3 (d9 9 (pv 9) rfl)) (i9 (PU.D3 (d9 6 (pv 6) rfl)) (i9 (PU.D3 (d9 2 (pv 2) rfl)) (i9 (PU.D3 (d9 2 (pv 2) rfl)) C0 rfl) rfl) rfl) rfl) rfl) rfl)) rfl (fun pa=>cW PySem.F.plainAttrs_list PySem.F.slot_list_append PySem.F.type_list_append J3 (pv 7) pa))))) (fun a b c=>M6 PassesOwn.never rfl a b c))
   (kE (i:=10) (XN:=["_law_script", "_law_feed_here", "_law_top", "_law_letters", "_law_base", "_law_names_here", "_law_curve", "_law_guards_here", "_law_k", "_law_under", "_law_loads_here"]) (N:=["_law_k", "_law_top", "_law_names_here"]) (XS:=g6 G3) (cap:=[none,some 2,some 5]) A7.nd rfl rfl rfl (by decide +kernel) rfl rfl rfl rfl (xu (e9 e7 (e9 e7 i3 rfl) rfl) (fun pa=>tH (by rfl) hrange pa)) (fun _ _ _ _=>(o5 (j3 (i:=0) lF rfl (Or.inl rfl)) rfl)) (fun _ _ _ _=>R5) (fun _ _ _ _=>(L6 (i9 (PU.D3 (j5 (j6 hr) (d9 2 (pv 2) rfl) (d9 0 (pv 0) rfl) (fun _ _=>rfl))) (i9 (PU.D3 (j5 (j6 hr) (d9 2 (pv 2) rfl) (G9 (d9 0 (pv 0) rfl) e7) (fun _ _=>rfl))) (i9 (Ab (L6 (i9 (L6 (i9 (PU.D3 (d9 1 (pv 1) rfl)) (i9 (PU.D3 (d9 1 (pv 1) rfl)) C0 rfl) rfl) rfl) C0 rfl) rfl) e7) (i9 (PU.D3 (d9 1 (pv 1) rfl)) (i9 (Bx hr (G9 (d9 0 (pv 0) rfl) e7) e7 (p3 _)) C0 rfl) rfl) rfl) rfl) rfl) rfl)))
   (p8 (L6 (i9 (C3 y7 O5 (by rfl) htuple PyProof.Rows.boot_tuple (e9 (d9 7 (pv 7) rfl) i3 rfl)) (i9 (C3 y7 O5 (by rfl) htuple PyProof.Rows.boot_tuple (e9 (d9 10 (pv 10) rfl) i3 rfl)) C0 rfl) rfl) rfl) rfl))) rd
theorem kP:o4 ["_law_board_here", "e"] ["_law_board_here"] (g6 aA):=⟨rfl,rfl,rfl,by decide +kernel,rfl,by decide +kernel,by decide +kernel⟩
theorem xv {f:Addr} {fd:FuncData} (F:X1 K "_law_none" "_law_none" aA f fd) {fLooked:Addr} {fdLooked:FuncData} (CLooked:yz P w K mg base "looked" 7 ["thing"] (Bo Fo K mg K6) fLooked fdLooked) {cNoBoard:Addr} (bxNoBoard:PySem.W.mK K cNoBoard) (mNoBoard:mg "NoBoard" = some (.ref cNoBoard)) (unNoBoard_NoBoard:Under base cNoBoard cNoBoard true) (xfNoBoard_number:kS K cNoBoard "number") (xfNoBoard_word:kS K cNoBoard "word")
  (len:∀ ds Q,R0 ds Q -> ds.length = 1) (rd:∀ ds Q,R0 ds Q -> rG (EP Q) (i5 2 ds)):y4 P w K mg base Q9 8 f fd ["_law_board_here"] (D2 K R0):=
 gE (cl:=[.bor,.bor]) F kP rfl len (fun cdv A outer s0 H E hr=>(Eh rfl (CT CLooked (hr.mono (by decide)) (by rfl) (e9 (L6 (i9 (PU.D3 (j5 (j6 hr) (d9 0 (pv 0) rfl) e7 (fun _ _=>rfl))) (i9 (PU.D3 (j5 (j6 hr) (d9 0 (pv 0) rfl) e7 (fun _ _=>rfl))) (i9 (L6 C0 rfl) C0 rfl) rfl) rfl) rfl) i3 rfl) rfl rfl rfl (by rfl) mNoBoard mNoBoard unNoBoard_NoBoard kP.nd rfl rfl rfl
    (fun e dx oe hoe hod hov=>(P9 rfl (p8 (BK hr.units (L6 (i9 (ql (List.mem_append_right _ (List.mem_singleton.mpr rfl)) hoe hod hov bxNoBoard xfNoBoard_word (pv 1) rfl) (i9 (ql (List.mem_append_right _ (List.mem_singleton.mpr rfl)) hoe hod hov bxNoBoard xfNoBoard_number (pv 1) rfl) C0 rfl) rfl) rfl) (L6 (i9 C6 (i9 e7 C0 rfl) rfl) rfl) (p3 _)) rfl))))
   (p8 B9 rfl))) rd
theorem kG:o4 ["_law_script", "_law_board_here"] ["_law_script"] (g6 U7):=⟨rfl,rfl,rfl,by decide +kernel,rfl,by decide +kernel,by decide +kernel⟩
theorem zt {f:Addr} {fd:FuncData} (F:X1 K "law" "law" U7 f fd) {fLooked:Addr} {fdLooked:FuncData} (CLooked:yz P w K mg base "looked" 7 ["thing"] (Bo Fo K mg K6) fLooked fdLooked) {fCellAt:Addr} {fdCellAt:FuncData} (CCellAt:D7 P w K mg base "_law_cell_at" 1 ["_law_script", "_law_k"] (D2 K M7) fCellAt fdCellAt) {fBoard:Addr} {fdBoard:FuncData} (CBoard:D7 P w K mg base "_law_board" 5 ["_law_script"] (D2 K Z9) fBoard fdBoard) {fGreatest:Addr} {fdGreatest:FuncData} (CGreatest:D7 P w K mg base "_law_greatest" 3 ["_law_script"] (D2 K J6) fGreatest fdGreatest) {fNone12:Addr} {fdNone12:FuncData} (CNone12:D7 P w K mg base "_law_none" 8 ["_law_board_here"] (D2 K R0) fNone12 fdNone12) (hlist:mg "list" = none) (htuple:mg "tuple" = none)
  (len:∀ ds Q,bj ds Q -> ds.length = 1) (rd:∀ ds Q,bj ds Q -> vY (EP Q) (i5 2 ds)):y4 P w K mg base Q9 9 f fd ["_law_script"] (D2 K bj):=
 gE (cl:=[.bor,.bor]) F kG rfl len (fun cdv A outer s0 H E hr=>(vX rfl (B8 (i:=1) kG.nd rfl (Or.inl rfl) (j9 CBoard (hr.mono (by decide)) (by rfl) (e9 (d9 0 (pv 0) rfl) i3 rfl) rfl) rfl)
   (D8 (L5.m (jK hr (G9 (j9 CCellAt (hr.mono (by decide)) (by rfl) (e9 (d9 0 (pv 0) rfl) (e9 e7 i3 rfl) rfl) rfl) e7) e7 (p3 _))) (P9 rfl (B8 (i:=1) kG.nd rfl (Or.inl rfl) (j9 CGreatest (hr.mono (by decide)) (by rfl) (e9 (d9 0 (pv 0) rfl) i3 rfl) rfl) rfl)) A2)
   (D8 (L5.m (cw.pt (N1 (nA (om CLooked (hr.mono (by decide)) (by rfl) (e9 (d9 1 (pv 1) rfl) i3 rfl) rfl) B9 (p3 _)) (G4 (x6 (p5 (j9 CNone12 (hr.mono (by decide)) (by rfl) (e9 (d9 1 (pv 1) rfl) i3 rfl) rfl) (fun _=>rfl))))))) (P9 rfl (p8 B9 rfl)) A2)
   (p8 (pK (om CLooked (hr.mono (by decide)) (by rfl) (e9 (L6 (i9 (C3 y7 O5 (by rfl) htuple PyProof.Rows.boot_tuple (e9 (C3 W7 oY (by rfl) hlist PyProof.Rows.boot_list (e9 (j5 (j6 hr) (d9 1 (pv 1) rfl) e7 (fun _ _=>rfl)) i3 rfl)) i3 rfl)) (i9 (C3 y7 O5 (by rfl) htuple PyProof.Rows.boot_tuple (e9 (C3 W7 oY (by rfl) hlist PyProof.Rows.boot_list (e9 (j5 (j6 hr) (d9 1 (pv 1) rfl) e7 (fun _ _=>rfl)) i3 rfl)) i3 rfl)) C0 rfl) rfl) rfl) i3 rfl) rfl) B9 (p3 _)) rfl))) rd
end
end My
namespace My
open PySem L2 L3
local macro_rules | `(tactic| walk_at "w")=>`(tactic| conv=>whnf)
local macro_rules | `(tactic| walk_at "a")=>`(tactic| first | refine ⟨rfl,?_⟩ | refine ⟨_,rfl,?_⟩ | refine Br.yes rfl ?_ | refine Br.no rfl ?_ | refine ⟨(show (0:Int) < _ from by decide),?_⟩ | refine ⟨(show aO _ _ from ⟨by decide,by decide⟩),?_⟩ | refine ⟨(show gU _ _ from ⟨by decide,by decide,by decide⟩),?_⟩ | refine ⟨(show U6 _ _ from .inr ⟨by decide,by decide⟩),?_⟩ | refine ⟨(show U6 _ _ from .inl ⟨by decide,by decide⟩),?_⟩ | refine ⟨_,_,_,rfl,rfl,rfl,?_⟩ | refine ⟨_,fq _ _,?_⟩ | refine ⟨_,mU _ _ _,?_⟩ | refine ⟨_,_,rfl,rfl,?_⟩)
local macro_rules | `(tactic| walk_at "r")=>`(tactic| ((repeat ((conv=>whnf); (walk_at "a"))); (try (conv=>whnf))))
theorem sz {n:Nat} (h:n <= 100000):n <= sizeLine:=by rw [sizeLine_eq]; omega
theorem S9 {g:dA} {body:j2} {xs:List D} {T:W9} {ρ:Ev} (p:D -> Bool) (W:Ev -> Prop) (h0:W ρ)
  (step:∀ d ∈ xs,∀ ρ,W ρ -> ∀ N:Ev -> Prop,(p d = true -> ∀ ρ',W ρ' -> N ρ') -> (p d = false -> ∀ ρ',T.rt (.bl false) ρ') -> g d ρ fun ρ1=>body { nx:=N,rt:=T.rt,bk:=T.nx,ct:=N } ρ1)
  (no:xs.all p = false -> ∀ ρ',T.rt (.bl false) ρ') (yes:xs.all p = true -> ∀ ρ',W ρ' -> T.nx ρ'):DG g body xs T ρ:=by
 refine .of ⟨fun i ρ=>(xs.take i).all p = true /\ W ρ,⟨by simp,h0⟩,fun i d ρ he hW=>?_,fun ρ hW=>?_⟩
 ·refine step d (List.mem_of_getElem? he) ρ hW.2 _ (fun hp ρ' hw=>⟨?_,hw⟩) (fun hp=>no ?_)
  ·rw [List.take_add_one,he]
   simp [hW.1,hp]
  ·rw [List.all_eq_false]
   exact ⟨d,List.mem_of_getElem? he,by simp [hp]⟩
 ·have hW:(xs.take xs.length).all p = true /\ W ρ:=hW
  rw [List.take_length] at hW
  exact yes hW.1 ρ hW.2
theorem sZ (ds:List D) (Q:D -> Prop) (h:N2 ds Q):lY (EP Q) (i5 1 ds):=by
 obtain ⟨d,rfl,hk,q⟩:=h
 cases d <;> first | (simp [kn] at hk; done) | skip
 all_goals
  walk_at "r"
  exact q
theorem oC (ds:List D) (Q:D -> Prop) (h:u9 ds Q):ix (EP Q) (i5 1 ds):=by
 obtain ⟨d,rfl,hk,q⟩:=h
 refine ⟨d,rfl,hk,?_⟩
 cases d <;> first | (simp [kn] at hk; done) | skip
 case int i=>
  have q:Q (.bl (decide (0 <= i) && decide (i < 10 ^ 60))):=q
  walk_at "r"
  refine ⟨fun e=>?_,fun e=>?_⟩
  ·rw [e] at q
   exact q
  ·rw [e] at q
   exact q
 all_goals
  walk_at "r"
  exact q
theorem Dj {c:Nat}:(!decide (cs (⟨#[c]⟩:Str) < cs ("a" : Str))) = decide (97 <= c):=by
 have:(cs (⟨#[c]⟩:Str) < cs ("a" : Str)) ↔ c < 97:=by
  show ([c]:List Nat) < [97] ↔ c < 97
  constructor
  ·intro h
   rcases List.cons_lt_cons_iff.mp h with h | ⟨_,h⟩
   ·exact h
   ·exact absurd h (List.not_lt_nil _)
  ·exact fun h=>List.cons_lt_cons_iff.mpr (.inl h)
 by_cases h:c < 97
 ·rw [decide_eq_true (this.mpr h),decide_eq_false (by omega)]; rfl
 ·rw [decide_eq_false (fun z=>h (this.mp z)),decide_eq_true (by omega)]; rfl
theorem DB {c:Nat}:(!decide (cs ("z" : Str) < cs (⟨#[c]⟩:Str))) = decide (c <= 122):=by
 have:(cs ("z" : Str) < cs (⟨#[c]⟩:Str)) ↔ 122 < c:=by
  show ([122]:List Nat) < [c] ↔ 122 < c
  constructor
  ·intro h
   rcases List.cons_lt_cons_iff.mp h with h | ⟨_,h⟩
   ·exact h
   ·exact absurd h (List.not_lt_nil _)
  ·exact fun h=>List.cons_lt_cons_iff.mpr (.inl h)
 by_cases h:122 < c
 ·rw [decide_eq_true (this.mpr h),decide_eq_false (by omega)]; rfl
 ·rw [decide_eq_false (fun z=>h (this.mp z)),decide_eq_true (by omega)]; rfl
noncomputable def Hh:D -> Bool
 | .str x=>(cs x).all jk
 | _=>false
theorem qZ (x:Str):(sU x).all Hh = (cs x).all jk:=by
 unfold sU
 rw [List.all_map]
 congr 1
 funext c
 show ([c]:List Nat).all jk = _
 simp
theorem xD (ds:List D) (Q:D -> Prop) (h:G7 ds Q):qR (EP Q) (i5 2 ds):=by
 obtain ⟨d,rfl,hk,q⟩:=h
 cases d <;> first | (simp [kn] at hk; done) | skip
 case str x=>
  have hl:x.length <= 100000:=by simpa [kn] using hk
  have q:Q (.bl (decide (1 <= x.length) && decide (x.length <= 8) && (cs x).all jk)):=q
  have loop:(decide (1 <= x.length) && decide (x.length <= 8)) = true -> hZ (EP Q) [some (.str x),none]:=fun e=>by
   rw [e,Bool.true_and] at q
   walk_at "r"
   refine S9 Hh (fun ρ=>∃ v,ρ = [some (.str x),v]) ⟨none,rfl⟩ ?_ (fun e _=>?_) (fun e ρ' hw=>?_)
   ·rintro d hd ρ ⟨v,rfl⟩ N hN hF
    obtain ⟨c,hc,rfl⟩:=List.mem_map.mp hd
    have ec:Hh (.str ⟨#[c]⟩) = (decide (97 <= c) && decide (c <= 122)):=by
     show ([c]:List Nat).all jk = _
     simp [jk]
    rw [ec] at hN hF
    have e1:=Dj (c:=c)
    have e2:=DB (c:=c)
    walk_at "r"
    refine ⟨fun z=>?_,fun z=>?_⟩
    ·rw [e1] at z
     rw [z,Bool.true_and] at hN hF
     walk_at "r"
     rw [e2]
     refine ⟨fun y=>?_,fun y=>?_⟩
     ·exact hF (by simpa using y) []
     ·exact hN (by simpa using y) _ ⟨_,rfl⟩
    ·rw [e1] at z
     rw [z,Bool.false_and] at hN hF
     walk_at "r"
     exact hF rfl []
   ·rw [qZ] at e
    rw [e] at q
    exact q
   ·rw [qZ] at e
    rw [e] at q
    exact q
  have len1:decide ((1:Int) <= (x.length:Int)) = decide (1 <= x.length):=by
   by_cases h:1 <= x.length
   ·rw [decide_eq_true h,decide_eq_true (by omega)]
   ·rw [decide_eq_false h,decide_eq_false (by omega)]
  have len8:decide ((x.length:Int) <= 8) = decide (x.length <= 8):=by
   by_cases h:x.length <= 8
   ·rw [decide_eq_true h,decide_eq_true (by omega)]
   ·rw [decide_eq_false h,decide_eq_false (by omega)]
  walk_at "r"
  refine ⟨sz (by omega),?_⟩
  refine ⟨fun e=>?_,fun e=>?_⟩
  ·rw [len1] at e
   walk_at "r"
   rw [len8]
   refine ⟨fun z=>?_,fun z=>loop ?_⟩
   ·have z:decide (x.length <= 8) = false:=by simpa using z
    rw [z] at q
    have q:Q (.bl false):=by simpa using q
    exact q
   ·have z:decide (x.length <= 8) = true:=by simpa using z
    rw [e,z]; rfl
  ·rw [len1] at e
   walk_at "r"
   rw [e] at q
   exact q
 all_goals
  walk_at "r"
  exact q
theorem sv (ds:List D) (Q:D -> Prop) (h:M9 ds Q):nc (EP Q) (i5 2 ds):=by
 obtain ⟨a,b,c,d,rfl,q⟩:=h
 walk_at "r"
 refine ⟨fun e=>?_,fun e=>?_⟩
 ·walk_at "r"
  rw [e] at q
  exact q
 ·rw [e] at q
  exact q
theorem kX {xs:List D} {p:D -> Bool} (h:xs.length = 2):∃ a b,xs = [a,b] /\ xs.all p = (p a && p b):=by
 match xs,h with
 | [a,b],_=>exact ⟨a,b,rfl,by simp⟩
theorem Q5 {d:D} (h:E9 d = true):∃ i,d = .int i /\ 0 <= i /\ i < 10 ^ 60:=by
 cases d <;> first | (cases h; done) | skip
 rename_i i
 have h:(decide (0 <= i) && decide (i < 10 ^ 60)) = true:=h
 rw [Bool.and_eq_true] at h
 exact ⟨i,rfl,of_decide_eq_true h.1,of_decide_eq_true h.2⟩
theorem zF {Q:Bool -> Prop} {d:D} {ρ:Ev} {i:Nat} (hi:ρ[i]? = some (some d)) (hk:kn d = true) (q:Q (!posB d)):jm (K5 (N4 (u3 u9 (g9 (e8 i) j4)))) (uT (p6 (N6 false) (e8 i) (uC (.int 0)))) ρ Q:=by
 have var:∀ K:D -> Prop,K d -> e8 i ρ K:=fun K k=>by unfold e8; rw [hi]; exact k
 refine var _ ⟨d,rfl,hk,?_⟩
 by_cases h:E9 d = true
 ·obtain ⟨j,rfl,_,_⟩:=Q5 h
  rw [h]
  have e:posB (.int j) = !decide (j = 0):=by
   show (E9 (.int j) && !decide (j = 0)) = _
   rw [h]; rfl
  rw [e,Bool.not_not] at q
  refine Br.no rfl (var _ ?_)
  exact q
 ·have h:E9 d = false:=by simpa using h
  rw [h]
  have e:posB d = false:=by show (E9 d && _) = false; rw [h]; rfl
  rw [e] at q
  exact Br.yes rfl q
theorem wV (ds:List D) (Q:D -> Prop) (h:Q6 ds Q):qB (EP Q) (i5 2 ds):=by
 obtain ⟨d,rfl,hk,q⟩:=h
 cases d <;> first | (simp [kn] at hk; done) | skip
 case tup xs=>
  have hks:∀ x ∈ xs,kn x = true:=M8 (by simpa [kn] using hk)
  walk_at "r"
  refine ⟨fun e=>?_,fun e=>?_⟩
  ·have e:¬ (xs.length:Int) = 2:=by simpa [ng] using e
   have z:R1 (.tup xs) = false:=by
    match xs,e with
    | [],_=>rfl
    | [_],_=>rfl
    | [_,_],e=>exact absurd rfl e
    | _ :: _ :: _ :: _,_=>rfl
   rw [z] at q
   exact q
  ·have e:(xs.length:Int) = 2:=by simpa [ng] using e
   obtain ⟨a,b,rfl,ea⟩:=kX (p:=posB) (by omega:xs.length = 2)
   have q:Q (.bl ([a,b].all posB)):=by rw [ea]; exact q
   walk_at "r"
   refine S9 posB (fun ρ=>∃ v,ρ = [some (.tup [a,b]),v]) ⟨none,rfl⟩ ?_ (fun e _=>?_) (fun e ρ' hw=>?_)
   ·rintro d hd ρ ⟨v,rfl⟩ N hN hF
    refine ⟨rfl,?_⟩
    show W0 _ [some (.tup [a,b]),some d]
    unfold W0 X3 tP
    refine zF (d:=d) rfl (hks d hd) ?_
    cases hp:posB d
    ·exact Br.yes rfl (hF hp [])
    ·exact Br.no rfl (hN hp _ ⟨_,rfl⟩)
   ·rw [e] at q; exact q
   ·rw [e] at q; exact q
 all_goals
  walk_at "r"
  exact q
theorem Z1 {d:D} (h:R1 d = true):∃ a b:Int,d = .tup [.int a,.int b] /\ num a /\ num b /\ a ≠ 0 /\ b ≠ 0:=by
 unfold R1 at h
 split at h
 ·rename_i a b
  rw [Bool.and_eq_true] at h
  have p:∀ {d:D},posB d = true -> ∃ i,d = .int i /\ num i /\ i ≠ 0:=fun {d} hd=>by
   unfold posB at hd
   rw [Bool.and_eq_true] at hd
   obtain ⟨i,rfl,h0,h1⟩:=Q5 hd.1
   exact ⟨i,rfl,⟨h0,h1⟩,by simpa using hd.2⟩
  obtain ⟨i,rfl,n1,z1⟩:=p h.1
  obtain ⟨j,rfl,n2,z2⟩:=p h.2
  exact ⟨i,j,rfl,n1,n2,z1,z2⟩
 ·cases h
theorem eZ {xs:List D} (h:xs.all R1 = true):y8 xs = true:=T1 fun x hx=>by
 obtain ⟨a,b,rfl,_⟩:=Z1 (List.all_eq_true.mp h x hx)
 rfl
noncomputable def Cf:D -> Bool
 | .tup [a,b]=>CD a b
 | _=>false
theorem iJ:∀ xs:List D,R4 xs = (cN xs xs.tail).all Cf
 | []=>rfl
 | [x]=>rfl
 | x :: y :: r=>by
  show (CD x y && R4 (y :: r)) = _
  rw [iJ (y :: r)]
  rfl
theorem Fx (xs:List D):cutD xs (some 1) none = xs.tail:=by
 unfold cutD HT.D1
 cases xs with
 | nil=>rfl
 | cons x r=>
  have h:¬ ((1:Int) < 0):=by decide
  simp only [h,if_false]
  simp
theorem sy (ds:List D) (Q:D -> Prop) (h:N0 ds Q):nK (EP Q) (i5 3 ds):=by
 obtain ⟨d,rfl,hk,q⟩:=h
 cases d <;> first | (simp [kn] at hk; done) | skip
 case tup xs=>
  have hks:∀ x ∈ xs,kn x = true:=M8 (by simpa [kn] using hk)
  have q:Q (.bl (decide (1 <= xs.length) && decide (xs.length <= 5) && xs.all R1 && R4 xs)):=q
  have two:xs.all R1 = true -> Q (.bl (R4 xs)) -> ∀ v1:Option D,fU (EP Q) [some (.tup xs),v1,none]:=fun hs qc v1=>by
   refine ⟨eZ hs,xs,cutD xs (some 1) none,rfl,rfl,eZ hs,?_,?_⟩
   ·rw [Fx]
    exact T1 fun x hx=>by
     obtain ⟨a,b,rfl,_⟩:=Z1 (List.all_eq_true.mp hs x (List.mem_of_mem_tail hx))
     rfl
   ·rw [Fx]
    rw [iJ] at qc
    refine S9 Cf (fun ρ=>∃ v1 v2,ρ = [some (.tup xs),v1,v2]) ⟨v1,none,rfl⟩ ?_ (fun e _=>?_) (fun e ρ' hw=>?_)
    ·rintro d hd ρ ⟨v1,v2,rfl⟩ N hN hF
     obtain ⟨i,hi⟩:=List.getElem?_of_mem hd
     obtain ⟨x,y,ex,ey,rfl⟩:=fQ hi
     obtain ⟨a,b,rfl,_⟩:=Z1 (List.all_eq_true.mp hs x (List.mem_of_getElem? ex))
     obtain ⟨c,d,rfl,_⟩:=Z1 (List.all_eq_true.mp hs y (List.mem_of_mem_tail (List.mem_of_getElem? ey)))
     have ef:Cf (.tup [.tup [.int a,.int b],.tup [.int c,.int d]]) = (decide (a < c) && decide (d < b)):=rfl
     rw [ef] at hN hF
     walk_at "r"
     refine ⟨a,b,c,d,rfl,?_⟩
     cases hp:(decide (a < c) && decide (d < b))
     ·exact Br.yes rfl (hF hp [])
     ·exact Br.no rfl (hN hp _ ⟨_,_,rfl⟩)
    ·rw [e] at qc; exact qc
    ·rw [e] at qc; exact qc
  have one:Q (.bl (xs.all R1 && R4 xs)) -> fG (EP Q) [some (.tup xs),none,none]:=fun qc=>by
   walk_at "r"
   refine S9 R1 (fun ρ=>∃ v,ρ = [some (.tup xs),v,none]) ⟨none,rfl⟩ ?_ (fun e _=>?_) (fun e ρ' hw=>?_)
   ·rintro d hd ρ ⟨v,rfl⟩ N hN hF
    walk_at "r"
    refine ⟨hks d hd,?_⟩
    cases hp:R1 d
    ·exact Br.yes rfl (hF hp [])
    ·exact Br.no rfl (hN hp _ ⟨_,rfl⟩)
   ·rw [e] at qc; exact qc
   ·obtain ⟨v,rfl⟩:=hw
    rw [e] at qc
    exact two e qc v
  have len1:decide ((1:Int) <= (xs.length:Int)) = decide (1 <= xs.length):=by
   by_cases h:1 <= xs.length
   ·rw [decide_eq_true h,decide_eq_true (by omega)]
   ·rw [decide_eq_false h,decide_eq_false (by omega)]
  have len5:decide ((xs.length:Int) <= 5) = decide (xs.length <= 5):=by
   by_cases h:xs.length <= 5
   ·rw [decide_eq_true h,decide_eq_true (by omega)]
   ·rw [decide_eq_false h,decide_eq_false (by omega)]
  walk_at "r"
  refine ⟨fun e=>?_,fun e=>?_⟩
  ·rw [len1] at e
   rw [e,Bool.true_and] at q
   walk_at "r"
   rw [len5]
   refine ⟨fun z=>?_,fun z=>one ?_⟩
   ·have z:decide (xs.length <= 5) = false:=by simpa using z
    rw [z] at q
    exact q
   ·have z:decide (xs.length <= 5) = true:=by simpa using z
    rw [z,Bool.true_and] at q
    exact q
  ·rw [len1] at e
   rw [e] at q
   walk_at "r"
   exact q
 all_goals
  walk_at "r"
  exact q
theorem Ac (xs:List D):(∃ a b,xs = [a,b]) \/ (¬ (xs.length:Int) = 2 /\ gM (.tup xs) = false /\ R1 (.tup xs) = false):=by
 match xs with
 | []=>exact .inr ⟨by simp,rfl,rfl⟩
 | [_]=>exact .inr ⟨by simp,rfl,rfl⟩
 | [a,b]=>exact .inl ⟨a,b,rfl⟩
 | _ :: _ :: _ :: r=>exact .inr ⟨by simp only [List.length_cons]; omega,rfl,rfl⟩
theorem qJ (xs:List D):(∃ a b c d e,xs = [a,b,c,d,e]) \/ (¬ (xs.length:Int) = 5 /\ V9 (.tup xs) = false /\ dg (.tup xs) = false):=by
 match xs with
 | []=>exact .inr ⟨by simp,rfl,rfl⟩
 | [_]=>exact .inr ⟨by simp,rfl,rfl⟩
 | [_,_]=>exact .inr ⟨by simp,rfl,rfl⟩
 | [_,_,_]=>exact .inr ⟨by simp,rfl,rfl⟩
 | [_,_,_,_]=>exact .inr ⟨by simp,rfl,rfl⟩
 | [a,b,c,d,e]=>exact .inl ⟨a,b,c,d,e,rfl⟩
 | _ :: _ :: _ :: _ :: _ :: _ :: r=>exact .inr ⟨by simp only [List.length_cons]; omega,rfl,rfl⟩
theorem qa (ds:List D) (Q:D -> Prop) (h:J0 ds Q):iZ (EP Q) (i5 4 ds):=by
 obtain ⟨d,rfl,hk,q⟩:=h
 cases d <;> first | (simp [kn] at hk; done) | skip
 case tup xs=>
  have hks:∀ x ∈ xs,kn x = true:=M8 (by simpa [kn] using hk)
  have q:Q (.bl (decide (xs.length <= 4) && xs.all gM)):=q
  have one:Q (.bl (xs.all gM)) -> df (EP Q) [some (.tup xs),none,none,none]:=fun qc=>by
   walk_at "r"
   refine S9 gM (fun ρ=>∃ v1 v2 v3,ρ = [some (.tup xs),v1,v2,v3]) ⟨none,none,none,rfl⟩ ?_ (fun e _=>?_) (fun e ρ' hw=>?_)
   ·rintro d hd ρ ⟨v1,v2,v3,rfl⟩ N hN hF
    have hkd:=hks d hd
    cases d <;> first | (simp [kn] at hkd; done) | skip
    case tup ys=>
     have hky:∀ x ∈ ys,kn x = true:=M8 (by simpa [kn] using hkd)
     rcases Ac ys with ⟨a,b,rfl⟩ | ⟨ne,z,_⟩
     ·have es:gM (.tup [a,b]) = (posB a && E9 b):=rfl
      rw [es] at hN hF
      walk_at "r"
      refine ⟨hky a (by simp),?_⟩
      by_cases h:E9 a = true
      ·obtain ⟨j,rfl,_,_⟩:=Q5 h
       have e:posB (.int j) = !decide (j = 0):=by
        show (E9 (.int j) && !decide (j = 0)) = _
        rw [h]; rfl
       rw [e] at hN hF
       rw [h]
       refine Br.no rfl ?_
       show Br (decide (j = 0)) _ _
       cases hj:decide (j = 0)
       ·rw [hj] at hN hF
        refine Br.no rfl ⟨b,rfl,hky b (by simp),?_⟩
        cases hb:E9 b
        ·rw [hb] at hF
         exact Br.yes rfl (hF rfl [])
        ·rw [hb] at hN
         exact Br.no rfl (hN rfl _ ⟨_,_,_,rfl⟩)
       ·rw [hj] at hF
        exact Br.yes rfl (Br.yes rfl (hF rfl []))
      ·have h:E9 a = false:=by simpa using h
       have e:posB a = false:=by show (E9 a && _) = false; rw [h]; rfl
       rw [e] at hF
       rw [h]
       exact Br.yes rfl (Br.yes rfl (hF rfl []))
     ·walk_at "r"
      refine ⟨fun e=>hF z [],fun e=>?_⟩
      exact absurd (by simpa [ng] using e) ne
    all_goals
     walk_at "r"
     exact hF rfl []
   ·rw [e] at qc; exact qc
   ·rw [e] at qc; exact qc
  have len4:decide ((4:Int) < (xs.length:Int)) = !decide (xs.length <= 4):=by
   by_cases h:xs.length <= 4
   ·rw [decide_eq_true h,decide_eq_false (by omega)]; rfl
   ·rw [decide_eq_false h,decide_eq_true (by omega)]; rfl
  walk_at "r"
  rw [len4]
  refine ⟨fun e=>?_,fun e=>one ?_⟩
  ·have e:decide (xs.length <= 4) = false:=by simpa using e
   rw [e] at q
   exact q
  ·have e:decide (xs.length <= 4) = true:=by simpa using e
   rw [e,Bool.true_and] at q
   exact q
 all_goals
  walk_at "r"
  exact q
theorem sY (ds:List D) (Q:D -> Prop) (h:N3 ds Q):og (EP Q) (i5 6 ds):=by
 obtain ⟨d,rfl,hk,q⟩:=h
 cases d <;> first | (simp [kn] at hk; done) | skip
 case tup xs=>
  have hks:∀ x ∈ xs,kn x = true:=M8 (by simpa [kn] using hk)
  rcases qJ xs with ⟨n,u,c,de,wa,rfl⟩ | ⟨ne,z,_⟩
  ·have q:Q (.bl (B4 n && (bW u || B4 u) && W3 c && E9 de && E9 wa)):=q
   have fin:Q (.bl (W3 c && E9 de && E9 wa)) -> fK (EP Q) [some (.tup [n,u,c,de,wa]),some n,some u,some c,some de,some wa]:=fun q=>by
    walk_at "r"
    refine ⟨hks c (by simp),?_⟩
    cases h1:W3 c
    ·rw [h1] at q
     exact Br.no rfl q
    ·rw [h1,Bool.true_and] at q
     refine Br.yes rfl ⟨de,rfl,hks de (by simp),?_⟩
     cases h2:E9 de
     ·rw [h2] at q
      exact Br.no rfl q
     ·rw [h2,Bool.true_and] at q
      exact Br.yes rfl ⟨wa,rfl,hks wa (by simp),q⟩
   walk_at "r"
   refine ⟨hks n (by simp),?_⟩
   cases h1:B4 n
   ·rw [h1] at q
    refine Br.yes rfl ?_
    walk_at "r"
    exact q
   ·rw [h1,Bool.true_and] at q
    refine Br.no rfl ?_
    walk_at "w"
    cases h2:bW u
    ·refine Br.no rfl ?_
     rw [h2,Bool.false_or] at q
     refine ⟨u,rfl,hks u (by simp),?_⟩
     cases h3:B4 u
     ·rw [h3] at q
      exact Br.yes rfl q
     ·rw [h3,Bool.true_and] at q
      exact Br.no rfl (fin q)
    ·refine Br.yes rfl ?_
     rw [h2,Bool.true_or,Bool.true_and] at q
     exact Br.no rfl (fin q)
  ·rw [z] at q
   walk_at "r"
   refine ⟨fun e=>q,fun e=>?_⟩
   exact absurd (by simpa [ng] using e) ne
 all_goals
  walk_at "r"
  exact q
theorem uW (ds:List D) (Q:D -> Prop) (h:Q8 ds Q):qI (EP Q) (i5 6 ds):=by
 obtain ⟨d,rfl,hk,q⟩:=h
 cases d <;> first | (simp [kn] at hk; done) | skip
 case tup xs=>
  have hks:∀ x ∈ xs,kn x = true:=M8 (by simpa [kn] using hk)
  rcases qJ xs with ⟨n,u,c,la,on,rfl⟩ | ⟨ne,_,z⟩
  ·have q:Q (.bl (B4 n && B4 u && W5 c && E9 la && (aM on true || aM on false))):=q
   have fin:Q (.bl (W5 c && E9 la && (aM on true || aM on false))) -> iQ (EP Q) [some (.tup [n,u,c,la,on]),some n,some u,some c,some la,some on]:=fun q=>by
    walk_at "r"
    refine ⟨hks c (by simp),?_⟩
    cases h1:W5 c
    ·rw [h1] at q
     exact Br.no rfl q
    ·rw [h1,Bool.true_and] at q
     refine Br.yes rfl ⟨la,rfl,hks la (by simp),?_⟩
     cases h2:E9 la
     ·rw [h2] at q
      exact Br.no rfl q
     ·rw [h2,Bool.true_and] at q
      refine Br.yes rfl ?_
      show Br (aM on true) _ _
      cases h3:aM on true
      ·rw [h3,Bool.false_or] at q
       exact Br.no rfl q
      ·rw [h3,Bool.true_or] at q
       exact Br.yes rfl q
   walk_at "r"
   refine ⟨hks n (by simp),?_⟩
   cases h1:B4 n
   ·rw [h1] at q
    refine Br.yes rfl ?_
    walk_at "r"
    exact q
   ·rw [h1,Bool.true_and] at q
    refine Br.no rfl ⟨u,rfl,hks u (by simp),?_⟩
    cases h3:B4 u
    ·rw [h3] at q
     exact Br.yes rfl q
    ·rw [h3,Bool.true_and] at q
     exact Br.no rfl (fin q)
  ·rw [z] at q
   walk_at "r"
   refine ⟨fun e=>q,fun e=>?_⟩
   exact absurd (by simpa [ng] using e) ne
 all_goals
  walk_at "r"
  exact q
end My
namespace My
open PySem L2 L3
end My
namespace My
open PySem L2 L3
local macro_rules | `(tactic| walk_at "w")=>`(tactic| conv=>whnf)
local macro_rules | `(tactic| walk_at "a")=>`(tactic| first | refine ⟨rfl,?_⟩ | refine ⟨_,rfl,?_⟩ | refine Br.yes rfl ?_ | refine Br.no rfl ?_ | refine ⟨(show (0:Int) < _ from by decide),?_⟩ | refine ⟨(show aO _ _ from ⟨by decide,by decide⟩),?_⟩ | refine ⟨(show gU _ _ from ⟨by decide,by decide,by decide⟩),?_⟩ | refine ⟨(show U6 _ _ from .inr ⟨by decide,by decide⟩),?_⟩ | refine ⟨(show U6 _ _ from .inl ⟨by decide,by decide⟩),?_⟩ | refine ⟨_,_,_,rfl,rfl,rfl,?_⟩ | refine ⟨_,fq _ _,?_⟩ | refine ⟨_,mU _ _ _,?_⟩ | refine ⟨_,_,rfl,rfl,?_⟩)
local macro_rules | `(tactic| walk_at "r")=>`(tactic| ((repeat ((conv=>whnf); (walk_at "a"))); (try (conv=>whnf))))
theorem aC (x:Str):∀ ys:List Str,inD (.str x) (ys.map D.str) = decide (x ∈ ys)
 | []=>rfl
 | y :: ys=>by
  have ih:=aC x ys
  unfold inD at ih ⊢
  rw [List.map_cons,List.any_cons,ih]
  show (decide (y = x) || decide (x ∈ ys)) = _
  by_cases h:y = x
  ·subst h; simp
  ·have h2:¬ x = y:=fun z=>h z.symm
   simp [h,h2]
theorem P6:∀ ys:List Str,(ys.map D.str).all Z2 = true
 | []=>rfl
 | y :: ys=>by
  rw [List.map_cons,List.all_cons,P6 ys]
  rfl
theorem sQ (ds:List D) (Q:D -> Prop) (h:C8 ds Q):lO (EP Q) (i5 1 ds):=by
 obtain ⟨d,xs,rfl,hs,hl,hk,q⟩:=h
 have body:xs.length < sizeLine /\ kd (g1 0) bT (G1 (x5 (e8 0) (uC (.int 0)))) (Z3 [none] [some d]) xs [] fun ds=>(EP Q).rt (.lst ds) [some d]:=by
  refine ⟨y3 (by omega),?_⟩
  have e:xs = xs.map id:=by simp
  rw [e]
  refine U4 (F:=id) (f:=fun d=>.str (R9 d)) xs [] (fun a ha K R kk=>?_) ?_
  ·obtain ⟨x,r,rfl⟩:=hk a ha
   walk_at "r"
   exact kk
  ·have e2:xs.map (fun d=>D.str (R9 d)) = (xs.map R9).map D.str:=by rw [List.map_map]; rfl
   rw [List.nil_append,e2]
   exact q
 rcases hs with rfl | rfl
 ·exact body
 ·exact body
theorem qK:∀ {gs:List Gd} {g:Gd},(gs.map (·.nm)).Nodup -> g ∈ gs -> gs.find? (fun h=>decide (h.nm = g.nm)) = some g
 | [],_,_,h=>by cases h
 | a :: as,g,h,hg=>by
  rw [List.map_cons] at h
  obtain ⟨h1,h2⟩:=List.nodup_cons.mp h
  rw [List.find?_cons]
  rcases List.mem_cons.mp hg with e | e
  ·subst e; rw [decide_eq_true rfl]
  ·have ne:¬ a.nm = g.nm:=fun z=>h1 (z ▸ List.mem_map.mpr ⟨g,e,rfl⟩)
   rw [decide_eq_false ne]
   exact qK h2 e
theorem oK {gs:List Gd} {g:Gd} (h:(gs.map (·.nm)).Nodup) (hg:g ∈ gs):AL gs g.nm = g.un:=by
 unfold AL
 rw [qK h hg]
def yg (gs:List Gd) (dp:Nat -> Nat) (n:Nat) (y:Str):Prop:=∃ (j:Nat) (g:Gd),gs[j]? = some g /\ g.nm = y /\ 1 <= dp j /\ dp j <= n
def qf (gs:List Gd) (dp:Nat -> Nat):Prop:=∀ i g,gs[i]? = some g -> 1 <= dp i /\ dp i <= 8 /\ (g.un = none -> dp i = 1) /\ ∀ y,g.un = some y -> ∃ j gj,j < i /\ gs[j]? = some gj /\ gj.nm = y /\ dp i = dp j + 1
theorem yg.next {gs:List Gd} {dp:Nat -> Nat} {n:Nat} {y z:Str} (h:qf gs dp) (hx:(gs.map (·.nm)).Nodup) (d:yg gs dp (n + 1) y) (e:AL gs y = some z):yg gs dp n z:=by
 obtain ⟨j,g,h1,rfl,h3,h4⟩:=d
 rw [oK hx (List.mem_of_getElem? h1)] at e
 obtain ⟨_,_,_,a⟩:=h j g h1
 obtain ⟨j',gj,_,b2,b3,b4⟩:=a z e
 exact ⟨j',gj,b2,b3,(h j' gj b2).1,by omega⟩
theorem Av (ds:List D) (Q:D -> Prop) (h:aj ds Q):xS (EP Q) (i5 5 ds):=by
 obtain ⟨d,gs,x,rfl,hs,gk,⟨g0,hg0,e0⟩,q⟩:=h
 obtain ⟨dp,ud⟩:=gk.un
 have ud:qf gs dp:=ud
 have hl:=gk.len
 have hx:=gk.nd
 have rest:∀ kds:List (Key × D),(∀ g ∈ gs,C5 kds (.inr g.nm) = some (uD g.un)) -> lR (EP Q) [some d,some (.str x),some (.dic kds),none,none]:=fun kds hv=>by
  walk_at "r"
  refine ⟨fun m ρ=>∃ (acc:List Str) (cur:Option Str) (v3:Option D),ρ = [some d,some (uD cur),some (.dic kds),v3,some (gC acc)] /\ acc ++ ups gs m cur = ups gs 8 (some x) /\ acc.length <= 8 - m /\ m <= 8 /\ (∀ y,cur = some y -> yg gs dp m y),⟨8,[],some x,none,rfl,rfl,Nat.zero_le _,Nat.le_refl _,fun y hy=>?_⟩,?_⟩
  ·cases hy
   obtain ⟨j,hj⟩:=List.getElem?_of_mem hg0
   obtain ⟨a1,a2,_⟩:=ud j g0 hj
   exact ⟨j,g0,hj,e0,a1,a2⟩
  ·rintro m ρ ⟨acc,cur,v3,rfl,hup,ha,hm,hd⟩
   cases cur with
   | none=>
    walk_at "r"
    have e:ups gs m none = []:=by cases m <;> rfl
    rw [e,List.append_nil] at hup
    rw [<- hup] at q
    exact q
   | some y=>
    have dy:=hd y rfl
    have hm0:∃ m',m = m' + 1:=by
     obtain ⟨_,_,_,_,h1,h2⟩:=dy
     exact ⟨m - 1,by omega⟩
    obtain ⟨m',rfl⟩:=hm0
    have hg:∃ g ∈ gs,g.nm = y:=by
     obtain ⟨j,g,h1,h2,_⟩:=dy
     exact ⟨g,List.mem_of_getElem? h1,h2⟩
    obtain ⟨g,hgm,rfl⟩:=hg
    have hun:=oK hx hgm
    walk_at "r"
    refine ⟨by rw [List.length_map]; exact y3 (by omega),?_⟩
    refine ⟨_,_,rfl,hv g hgm,rfl,?_⟩
    refine ⟨m',Nat.lt_succ_self _,acc ++ [g.nm],g.un,v3,?_,?_,?_,by omega,fun z hz=>dy.next ud hx (hun.trans hz)⟩
    ·unfold gC
     rw [List.map_append]
     rfl
    ·rw [List.append_assoc,<- hun]
     exact hup
    ·rw [List.length_append,List.length_singleton]; omega
 rcases hs with rfl | rfl
 all_goals
  refine ⟨by rw [List.length_map]; exact y3 (by omega),?_⟩
  refine xp (k:=fun g:Gd=>.inr g.nm) (v:=fun g:Gd=>uD g.un) gs [] (fun g hg K R kk=>?_) ⟨rfl,?_⟩
  ·obtain ⟨n,u,cv,de,wa⟩:=g
   have kk:K (.inr n) (uD u):=kk
   have iU:D3 (uD u) = true:=pF u
   walk_at "r"
   exact ⟨iU,kk⟩
  ·refine rest _ fun g hg=>lB (k:=fun g:Gd=>(.inr g.nm:Key)) (v:=fun g:Gd=>uD g.un) gs [] ?_ g hg
   have e:gs.map (fun g:Gd=>(.inr g.nm:Key)) = (gs.map (·.nm)).map (fun y=>(.inr y:Key)):=by rw [List.map_map]; rfl
   rw [e,List.Nodup,List.pairwise_map]
   exact hx.imp fun h z=>h (Sum.inr.inj z)
theorem vh (gs:List Gd):(gs.map gD).map R9 = gs.map (·.nm):=by rw [List.map_map]; rfl
theorem jw (gs:List Gd):∀ x ∈ gs.map gD,pj x:=fun x hx=>by
 obtain ⟨g,_,rfl⟩:=List.mem_map.mp hx
 exact ⟨_,_,rfl⟩
theorem FK (gs:List Ld):(gs.map lD).map R9 = gs.map (·.nm):=by rw [List.map_map]; rfl
theorem fV {d:D} (h:V9 d = true):∃ (n:Str) (u:Option Str) (c de wa:D),d = .tup [.str n,uD u,c,de,wa]:=by
 unfold V9 at h
 split at h
 ·rename_i n u c de wa
  simp only [Bool.and_eq_true,Bool.or_eq_true] at h
  obtain ⟨⟨⟨⟨h1,h2⟩,_⟩,_⟩,_⟩:=h
  cases n <;> first | cases h1 | skip
  rcases h2 with h2 | h2
  ·cases u <;> first | cases h2 | skip
   exact ⟨_,none,_,_,_,rfl⟩
  ·cases u <;> first | cases h2 | skip
   exact ⟨_,some _,_,_,_,rfl⟩
 ·cases h
theorem iy {d:D} (h:dg d = true):∃ (n a:Str) (c la on:D),d = .tup [.str n,.str a,c,la,on]:=by
 unfold dg at h
 split at h
 ·rename_i n u c de wa
  simp only [Bool.and_eq_true,Bool.or_eq_true] at h
  obtain ⟨⟨⟨⟨h1,h2⟩,_⟩,_⟩,_⟩:=h
  cases n <;> first | cases h1 | skip
  cases u <;> first | cases h2 | skip
  exact ⟨_,_,_,_,_,rfl⟩
 ·cases h
theorem nS (ds:List D) (Q:D -> Prop) (h:E8 ds Q):gc (EP Q) (i5 3 ds):=by
 obtain ⟨q0,gs,d,rfl,hs,gk,hk,q⟩:=h
 have hl:=gk.len
 have nl:(gs.map gD).length <= 100:=by rw [List.length_map]; omega
 refine ⟨d,rfl,hk,?_⟩
 by_cases hg:V9 d = true
 ·obtain ⟨n,u,c,de,wa,rfl⟩:=fV hg
  rw [hg]
  unfold aR at q
  rw [hg,Bool.true_and] at q
  have q:Q (.bl (!decide (n ∈ gs.map (·.nm)) && (match u with | some y=>decide (y ∈ gs.map (·.nm)) && decide ((ups gs 8 (some y)).length <= 7) | none=>true))):=by
   cases u with
   | none=>
    have q:Q (.bl (!decide (n ∈ gs.map (·.nm)))):=q
    rw [Bool.and_true]; exact q
   | some y=>
    have q:Q (.bl (!decide (n ∈ gs.map (·.nm)) && decide (y ∈ gs.map (·.nm)) && decide ((ups gs 8 (some y)).length <= 7))):=q
    rw [Bool.and_assoc] at q; exact q
  refine Br.no rfl ?_
  refine ⟨_,fq _ _,?_⟩
  refine ⟨q0,gs.map gD,rfl,hs,nl,jw gs,?_⟩
  rw [vh]
  refine ⟨rfl,_,rfl,P6 _,?_⟩
  rw [aC]
  show Br (decide (n ∈ gs.map (·.nm))) _ _
  by_cases hn:n ∈ gs.map (·.nm)
  ·rw [decide_eq_true hn]
   refine Br.yes rfl ?_
   rw [decide_eq_true hn] at q
   exact q
  ·rw [decide_eq_false hn]
   refine Br.no rfl ?_
   rw [decide_eq_false hn] at q
   refine ⟨_,mU _ _ _,rfl,?_⟩
   cases u with
   | none=>
    walk_at "r"
    exact q
   | some y=>
    have q:Q (.bl (decide (y ∈ gs.map (·.nm)) && decide ((ups gs 8 (some y)).length <= 7))):=q
    refine Br.no rfl ?_
    refine ⟨q0,gs.map gD,rfl,hs,nl,jw gs,?_⟩
    rw [vh]
    refine ⟨rfl,_,rfl,P6 _,?_⟩
    have ei:inD (uD (some y)) (List.map D.str (List.map (fun x=>x.nm) gs)) = decide (y ∈ gs.map (·.nm)):=aC y _
    rw [ei]
    show Br (decide (y ∈ gs.map (·.nm))) _ _
    by_cases hy:y ∈ gs.map (·.nm)
    ·rw [decide_eq_true hy] at q ⊢
     refine Br.yes rfl ⟨q0,gs,y,rfl,hs,gk,by simpa using hy,?_⟩
     rw [Bool.true_and] at q
     show Q (.bl (decide (((ups gs 8 (some y)).map D.str).length <= (7:Int))))
     have e:decide ((((ups gs 8 (some y)).map D.str).length:Int) <= (7:Int)) = decide ((ups gs 8 (some y)).length <= 7):=by
      rw [List.length_map]
      by_cases h:(ups gs 8 (some y)).length <= 7
      ·rw [decide_eq_true h,decide_eq_true (by omega)]
      ·rw [decide_eq_false h,decide_eq_false (by omega)]
     rw [e]
     exact q
    ·rw [decide_eq_false hy] at q ⊢
     exact Br.no rfl q
 ·have hg:V9 d = false:=by simpa using hg
  rw [hg]
  unfold aR at q
  rw [hg,Bool.false_and] at q
  exact Br.yes rfl (Br.yes rfl q)
theorem pC (ds:List D) (Q:D -> Prop) (h:J5 ds Q):jf (EP Q) (i5 3 ds):=by
 obtain ⟨q0,xs,p0,ys,d,rfl,hs,ht,hl,hm,hx,hy,hk,q⟩:=h
 refine ⟨d,rfl,hk,?_⟩
 by_cases hg:dg d = true
 ·obtain ⟨n,a,c,la,on,rfl⟩:=iy hg
  rw [hg]
  unfold aP at q
  rw [hg,Bool.true_and] at q
  have q:Q (.bl (decide (a ∈ xs.map R9) && !decide (n ∈ xs.map R9) && !decide (n ∈ ys.map R9))):=q
  refine Br.no rfl ?_
  refine ⟨_,mU _ _ _,?_⟩
  refine ⟨q0,xs,rfl,hs,hl,hx,?_⟩
  refine ⟨rfl,_,rfl,P6 _,?_⟩
  rw [aC]
  show Br (!decide (a ∈ xs.map R9)) _ _
  by_cases ha:a ∈ xs.map R9
  ·rw [decide_eq_true ha] at q ⊢
   refine Br.no rfl ?_
   rw [Bool.true_and] at q
   refine ⟨_,fq _ _,?_⟩
   refine ⟨q0,xs,rfl,hs,hl,hx,?_⟩
   refine ⟨rfl,_,rfl,P6 _,?_⟩
   rw [aC]
   show Br (!decide (n ∈ xs.map R9)) _ _
   by_cases hn:n ∈ xs.map R9
   ·rw [decide_eq_true hn] at q ⊢
    exact Br.no rfl q
   ·rw [decide_eq_false hn] at q ⊢
    refine Br.yes rfl ⟨_,fq _ _,?_⟩
    refine ⟨p0,ys,rfl,ht,hm,hy,?_⟩
    refine ⟨rfl,_,rfl,P6 _,?_⟩
    rw [aC]
    exact q
  ·rw [decide_eq_false ha] at q ⊢
   exact Br.yes rfl q
 ·have hg:dg d = false:=by simpa using hg
  rw [hg]
  unfold aP at q
  rw [hg,Bool.false_and] at q
  exact Br.yes rfl (Br.yes rfl q)
end My
namespace My
open PySem L2 L3
local macro_rules | `(tactic| walk_at "w")=>`(tactic| conv=>whnf)
local macro_rules | `(tactic| walk_at "a")=>`(tactic| first | refine ⟨rfl,?_⟩ | refine ⟨_,rfl,?_⟩ | refine Br.yes rfl ?_ | refine Br.no rfl ?_ | refine ⟨(show (0:Int) < _ from by decide),?_⟩ | refine ⟨(show aO _ _ from ⟨by decide,by decide⟩),?_⟩ | refine ⟨(show gU _ _ from ⟨by decide,by decide,by decide⟩),?_⟩ | refine ⟨(show U6 _ _ from .inr ⟨by decide,by decide⟩),?_⟩ | refine ⟨(show U6 _ _ from .inl ⟨by decide,by decide⟩),?_⟩ | refine ⟨_,_,_,rfl,rfl,rfl,?_⟩ | refine ⟨_,fq _ _,?_⟩ | refine ⟨_,mU _ _ _,?_⟩ | refine ⟨_,_,rfl,rfl,?_⟩)
local macro_rules | `(tactic| walk_at "r")=>`(tactic| ((repeat ((conv=>whnf); (walk_at "a"))); (try (conv=>whnf))))
local macro_rules | `(tactic| walk_at "a")=>`(tactic| first | refine ⟨_,atI2 _ _ _ _,?_⟩ | refine ⟨_,atI3 _ _ _ _ _,?_⟩ | refine ⟨_,atI4 _ _ _ _ _ _,?_⟩)
end My
namespace My
open PySem L2 L3
local macro_rules | `(tactic| walk_at "w")=>`(tactic| conv=>whnf)
local macro_rules | `(tactic| walk_at "a")=>`(tactic| first | refine ⟨rfl,?_⟩ | refine ⟨_,rfl,?_⟩ | refine Br.yes rfl ?_ | refine Br.no rfl ?_ | refine ⟨(show (0:Int) < _ from by decide),?_⟩ | refine ⟨(show aO _ _ from ⟨by decide,by decide⟩),?_⟩ | refine ⟨(show gU _ _ from ⟨by decide,by decide,by decide⟩),?_⟩ | refine ⟨(show U6 _ _ from .inr ⟨by decide,by decide⟩),?_⟩ | refine ⟨(show U6 _ _ from .inl ⟨by decide,by decide⟩),?_⟩ | refine ⟨_,_,_,rfl,rfl,rfl,?_⟩ | refine ⟨_,fq _ _,?_⟩ | refine ⟨_,mU _ _ _,?_⟩ | refine ⟨_,_,rfl,rfl,?_⟩)
local macro_rules | `(tactic| walk_at "r")=>`(tactic| ((repeat ((conv=>whnf); (walk_at "a"))); (try (conv=>whnf))))
theorem bO {n:Int} (h:num n):E9 (.int n) = true:=by
 show (decide (0 <= n) && decide (n < 10 ^ 60)) = true
 rw [decide_eq_true h.1,decide_eq_true h.2]; rfl
theorem jj {n:Int} (h:1 <= n /\ n < 10 ^ 60):posB (.int n) = true:=by
 show (E9 (.int n) && !decide (n = 0)) = true
 rw [bO ⟨by omega,h.2⟩,decide_eq_false (by omega)]; rfl
theorem bZ {x:Str} (h:nm 8 x):B4 (.str x) = true:=by
 have ll:(cs x).length = x.length:=Array.length_toList
 have h1:=h.1
 have h2:=h.2.1
 show (decide (1 <= x.length) && decide (x.length <= 8) && (cs x).all jk) = true
 rw [decide_eq_true (show 1 <= x.length by rw [<- ll]; exact h1),decide_eq_true (show x.length <= 8 by rw [<- ll]; exact h2)]
 refine List.all_eq_true.mpr fun c hc=>?_
 have:=h.2.2 c hc
 unfold jk
 simp; exact this
theorem nz:∀ {ps:List Pr},(ps.Pairwise fun p q=>p.1 < q.1 /\ q.2 < p.2) -> R4 (ps.map pr) = true
 | [],_=>rfl
 | [_],_=>rfl
 | p :: q :: r,h=>by
  obtain ⟨h1,h2⟩:=List.pairwise_cons.mp h
  have:=h1 q List.mem_cons_self
  show ((decide (p.1 < q.1) && decide (q.2 < p.2)) && R4 ((q :: r).map pr)) = true
  rw [nz h2,decide_eq_true this.1,decide_eq_true this.2]; rfl
theorem yt {ps:List Pr} (h:gh ps):W3 (cm ps) = true:=by
 show (decide (1 <= (ps.map pr).length) && decide ((ps.map pr).length <= 5) && (ps.map pr).all R1 && R4 (ps.map pr)) = true
 rw [List.length_map,decide_eq_true h.1,decide_eq_true h.2.1,nz h.2.2.2]
 have:(ps.map pr).all R1 = true:=List.all_eq_true.mpr fun d hd=>by
  obtain ⟨p,hp,rfl⟩:=List.mem_map.mp hd
  have:=h.2.2.1 p hp
  show (posB (.int p.1) && posB (.int p.2)) = true
  rw [jj ⟨this.1,this.2.1⟩,jj ⟨this.2.2.1,this.2.2.2⟩]; rfl
 rw [this]; rfl
theorem D9.guard {b:Bd} (h:D9 b) {g:Gd} (hg:g ∈ b.gs):V9 (gD g) = true:=by
 have t:=h.gt g hg
 have c:=h.cv g hg
 obtain ⟨x,u,cv,de,wa⟩:=g
 show (B4 (.str x) && (bW (uD u) || B4 (uD u)) && W3 (cm cv) && E9 (.int de) && E9 (.int wa)) = true
 rw [bZ t.nm,yt c,bO t.de,bO t.wa]
 cases u with
 | none=>rfl
 | some y=>
  show (true && (false || B4 (.str y)) && true && true && true) = true
  rw [bZ (t.un y rfl)]; rfl
theorem D9.load {b:Bd} (h:D9 b) {l:Ld} (hl:l ∈ b.ls):dg (lD l) = true:=by
 have t:=h.lt l hl
 have c4:=h.cs4 l hl
 have cc:=h.cs l hl
 obtain ⟨x,y,cv,la,on⟩:=l
 show (B4 (.str x) && B4 (.str y) && (decide ((cv.map pr).length <= 4) && (cv.map pr).all gM) && E9 (.int la) && (aM (.bl on) true || aM (.bl on) false)) = true
 have:(cv.map pr).all gM = true:=List.all_eq_true.mpr fun d hd=>by
  obtain ⟨p,hp,rfl⟩:=List.mem_map.mp hd
  have:=cc p hp
  show (posB (.int p.1) && E9 (.int p.2)) = true
  rw [jj ⟨this.1,this.2.1⟩,bO this.2.2]; rfl
 rw [bZ t.nm,bZ t.at_,List.length_map,decide_eq_true c4,this,bO t.la]
 cases on <;> rfl
theorem D9.GW {b:Bd} (h:D9 b) (i:Nat):jo (b.gs.take i):=by
 refine ⟨by rw [List.length_take]; have:=h.g16; omega,?_,?_⟩
 ·rw [List.map_take]
  exact (List.nodup_append.mp h.nd).1.sublist (List.take_sublist _ _)
 ·obtain ⟨dp,hd⟩:=h.un
  refine ⟨dp,fun k g hk=>?_⟩
  have hki:k < i:=by
   have:=(List.getElem?_eq_some_iff.mp hk).1
   rw [List.length_take] at this; omega
  rw [List.getElem?_take_of_lt hki] at hk
  obtain ⟨a,b',c,d⟩:=hd k g hk
  refine ⟨a,b',c,fun y hy=>?_⟩
  obtain ⟨j,gj,hj,e,n,f⟩:=d y hy
  exact ⟨j,gj,hj,by rw [List.getElem?_take_of_lt (by omega)]; exact e,n,f⟩
theorem rJ {gs:List Gd} {dp:Nat -> Nat} (h:qf gs dp) (hx:(gs.map (·.nm)).Nodup):∀ (n m:Nat) (y:Str),yg gs dp n y -> (ups gs m (some y)).length <= n
 | 0,m,y,d=>by obtain ⟨j,g,_,_,a,b⟩:=d; omega
 | n + 1,0,y,d=>Nat.zero_le _
 | n + 1,m + 1,y,d=>by
  show (ups gs m (AL gs y)).length + 1 <= n + 1
  cases e:AL gs y with
  | none=>cases m <;> exact Nat.succ_le_succ (Nat.zero_le _)
  | some z=>exact Nat.succ_le_succ (rJ h hx n m z (d.next h hx e))
theorem wH (ps:List Pr):kn (cm ps) = true:=by
 show gF (ps.map pr) = true
 induction ps with
 | nil=>rfl
 | cons p ps ih=>show (true && (true && true) && gF (ps.map pr)) = true; rw [ih]; rfl
theorem qU {x:Str} (h:nm 8 x):decide (x.length <= 100000) = true:=by
 have:=BI h
 exact decide_eq_true (by omega)
theorem GT.kn {g:Gd} (h:GT g):kn (gD g) = true:=by
 obtain ⟨x,u,cv,de,wa⟩:=g
 show (decide (x.length <= 100000) && (My.kn (uD u) && (My.kn (cm cv) && (true && (true && true))))) = true
 rw [qU h.nm,wH]
 cases u with
 | none=>rfl
 | some y=>show (true && (decide (y.length <= 100000) && (true && true))) = true; rw [qU (h.un y rfl)]; rfl
theorem LT.kn {g:Ld} (h:LT g):kn (lD g) = true:=by
 obtain ⟨x,u,cv,de,wa⟩:=g
 show (decide (x.length <= 100000) && (decide (u.length <= 100000) && (My.kn (cm cv) && (true && (true && true))))) = true
 rw [qU h.nm,qU h.at_,wH]; rfl
theorem D9.HI {b:Bd} (h:D9 b) {i:Nat} {g:Gd} (hi:b.gs[i]? = some g):aR (b.gs.take i) (gD g) = true:=by
 have hg:=List.mem_of_getElem? hi
 have hG:=h.guard hg
 have nd:(b.gs.map (·.nm)).Nodup:=(List.nodup_append.mp h.nd).1
 obtain ⟨dp,hd⟩:=h.un
 have gk:=h.GW i
 have hd0:qf b.gs dp:=hd
 have hdt:qf (b.gs.take i) dp:=fun k g hk=>by
  have hki:k < i:=by
   have:=(List.getElem?_eq_some_iff.mp hk).1
   rw [List.length_take] at this; omega
  rw [List.getElem?_take_of_lt hki] at hk
  obtain ⟨a,b',c,d⟩:=hd k g hk
  refine ⟨a,b',c,fun y hy=>?_⟩
  obtain ⟨j,gj,hj,e,n,f⟩:=d y hy
  exact ⟨j,gj,hj,by rw [List.getElem?_take_of_lt (by omega)]; exact e,n,f⟩
 have new:decide (g.nm ∈ (b.gs.take i).map (·.nm)) = false:=decide_eq_false fun z=>by
  rw [List.map_take] at z
  obtain ⟨k,hk⟩:=List.getElem?_of_mem z
  have hki:k < i:=by
   have:=(List.getElem?_eq_some_iff.mp hk).1
   rw [List.length_take] at this; omega
  rw [List.getElem?_take_of_lt hki] at hk
  have hii:(b.gs.map (·.nm))[i]? = some g.nm:=by rw [List.getElem?_map,hi]; rfl
  have:=(List.getElem?_inj (List.getElem?_eq_some_iff.mp hk).1 nd).mp (hk.trans hii.symm)
  omega
 obtain ⟨_,d8,_,du⟩:=hd i g hi
 obtain ⟨x,u,cv,de,wa⟩:=g
 unfold aR
 rw [hG]
 cases u with
 | none=>
  show (!decide (x ∈ (b.gs.take i).map (·.nm))) = true
  have new:decide (x ∈ (b.gs.take i).map (·.nm)) = false:=new
  rw [new]; rfl
 | some y=>
  show (!decide (x ∈ (b.gs.take i).map (·.nm)) && decide (y ∈ (b.gs.take i).map (·.nm)) && decide ((ups (b.gs.take i) 8 (some y)).length <= 7)) = true
  have new:decide (x ∈ (b.gs.take i).map (·.nm)) = false:=new
  obtain ⟨j,gj,hj,e,rfl,f⟩:=du y rfl
  have et:(b.gs.take i)[j]? = some gj:=by rw [List.getElem?_take_of_lt hj]; exact e
  have dj:=hd j gj e
  have up:(ups (b.gs.take i) 8 (some gj.nm)).length <= 7:=rJ hdt gk.nd 7 8 gj.nm ⟨j,gj,et,rfl,dj.1,by omega⟩
  rw [new,decide_eq_true (List.mem_map.mpr ⟨gj,List.mem_of_getElem? et,rfl⟩),decide_eq_true up]; rfl
theorem D9.GN {b:Bd} (h:D9 b) {i:Nat} {l:Ld} (hi:b.ls[i]? = some l):aP ((b.gs.map gD).map R9) (((b.ls.take i).map lD).map R9) (lD l) = true:=by
 have hl:=List.mem_of_getElem? hi
 have hG:=h.load hl
 rw [vh,FK]
 obtain ⟨n1,n2,n3⟩:=List.nodup_append.mp h.nd
 have new:decide (l.nm ∈ (b.ls.take i).map (·.nm)) = false:=decide_eq_false fun z=>by
  rw [List.map_take] at z
  obtain ⟨k,hk⟩:=List.getElem?_of_mem z
  have hki:k < i:=by
   have:=(List.getElem?_eq_some_iff.mp hk).1
   rw [List.length_take] at this; omega
  rw [List.getElem?_take_of_lt hki] at hk
  have hii:(b.ls.map (·.nm))[i]? = some l.nm:=by rw [List.getElem?_map,hi]; rfl
  have:=(List.getElem?_inj (List.getElem?_eq_some_iff.mp hk).1 n2).mp (hk.trans hii.symm)
  omega
 have new2:decide (l.nm ∈ b.gs.map (·.nm)) = false:=decide_eq_false fun z=>n3 l.nm z l.nm (List.mem_map.mpr ⟨l,hl,rfl⟩) rfl
 have at_:decide (l.at_ ∈ b.gs.map (·.nm)) = true:=decide_eq_true (by
  obtain ⟨g,hg,e⟩:=h.at_ l hl
  exact List.mem_map.mpr ⟨g,hg,e⟩)
 obtain ⟨x,y,cv,la,on⟩:=l
 unfold aP
 rw [hG]
 show (decide (y ∈ b.gs.map (·.nm)) && !decide (x ∈ b.gs.map (·.nm)) && !decide (x ∈ (b.ls.take i).map (·.nm))) = true
 have new:decide (x ∈ (b.ls.take i).map (·.nm)) = false:=new
 have new2:decide (x ∈ b.gs.map (·.nm)) = false:=new2
 have at_:decide (y ∈ b.gs.map (·.nm)) = true:=at_
 rw [new,new2,at_]; rfl
theorem Q1:∀ (xs:List D) (k:Nat),(dU k xs).length = xs.length
 | [],_=>rfl
 | x :: xs,k=>by show (dU (k + 1) xs).length + 1 = xs.length + 1; rw [Q1 xs]
noncomputable def DT:D -> Bool
 | .tup _=>true
 | _=>false
theorem rD {d:D} (h:DT d = true):∃ xs,d = .tup xs:=by
 cases d <;> first | exact ⟨_,rfl⟩ | cases h
theorem lQ (ds:List D) (Q:D -> Prop) (h:E7 ds Q):gq (EP Q) (i5 2 ds):=by
 obtain ⟨d,rfl,hk,q⟩:=h
 cases d <;> first | (simp [kn] at hk; done) | skip
 case tup xs=>
  have hks:∀ x ∈ xs,kn x = true:=M8 (by simpa [kn] using hk)
  walk_at "r"
  refine ⟨fun e=>?_,fun e=>?_⟩
  ·have e:¬ (xs.length:Int) = 2:=by simpa [ng] using e
   have z:gz (.tup xs) = false:=by
    match xs,e with
    | [],_=>rfl
    | [a],_=>cases a <;> rfl
    | [_,_],e=>exact absurd rfl e
    | a :: b :: _ :: _,_=>cases a <;> first | rfl | (cases b <;> rfl)
   rw [z] at q
   exact q
  ·have e:(xs.length:Int) = 2:=by simpa [ng] using e
   obtain ⟨a,b,rfl,ea⟩:=kX (p:=DT) (by omega:xs.length = 2)
   walk_at "r"
   refine S9 DT (fun ρ=>∃ v,ρ = [some (.tup [a,b]),v]) ⟨none,rfl⟩ ?_ (fun e _=>?_) (fun e ρ' hw=>?_)
   ·rintro d hd ρ ⟨v,rfl⟩ N hN hF
    have hkd:=hks d hd
    cases d <;> first | (simp [kn] at hkd; done) | skip
    case tup ys=>
     walk_at "r"
     exact hN rfl _ ⟨_,rfl⟩
    all_goals
     walk_at "r"
     exact hF rfl []
   ·have z:gz (.tup [a,b]) = false:=by
     rw [ea] at e
     cases a <;> cases b <;> first | rfl | cases e
    rw [z] at q
    exact q
   ·obtain ⟨v,rfl⟩:=hw
    rw [ea,Bool.and_eq_true] at e
    obtain ⟨e1,e2⟩:=e
    obtain ⟨gs,rfl⟩:=rD e1
    obtain ⟨ls,rfl⟩:=rD e2
    have q:Q (.bl (decide (1 <= gs.length) && decide (gs.length <= 16) && decide (ls.length <= 24))):=q
    walk_at "r"
    by_cases a1:1 <= gs.length
    ·refine Br.yes (decide_eq_true (by omega)) ?_
     walk_at "r"
     by_cases a2:gs.length <= 16
     ·refine ⟨fun _=>?_,fun e=>absurd (of_decide_eq_false e) (by omega)⟩
      walk_at "r"
      have e3:decide ((ls.length:Int) <= 24) = decide (ls.length <= 24):=decide_eq_decide.mpr (by omega)
      show Q (.bl (decide ((ls.length:Int) <= 24)))
      rw [e3]
      rw [decide_eq_true a1,decide_eq_true a2] at q
      exact q
     ·refine ⟨fun e=>absurd (of_decide_eq_true e) (by omega),fun _=>?_⟩
      rw [decide_eq_true a1,decide_eq_false a2] at q
      exact q
    ·refine Br.no (decide_eq_false (by omega)) ?_
     rw [decide_eq_false a1] at q
     exact Br.no rfl q
 all_goals
  walk_at "r"
  exact q
theorem vL {d:D} (h:gz d = false):lb d = some (("board" : Str),(0:Int)):=by
 unfold lb
 split
 ·rw [h]; rfl
 ·rfl
theorem Ao {d:D} (h:gz d = true):∃ gs ls,d = .tup [.tup gs,.tup ls] /\ gs.length <= 16 /\ ls.length <= 24:=by
 unfold gz at h
 split at h
 ·rw [Bool.and_eq_true,Bool.and_eq_true] at h
  exact ⟨_,_,rfl,of_decide_eq_true h.1.2,of_decide_eq_true h.2⟩
 ·cases h
theorem AU (xs:List D) (i:Nat) (h:i <= xs.length):cutD xs none (some (i:Int)) = xs.take i:=by
 have h2:HT.D1 xs.length xs.length (some (i:Int)) = i:=by
  show (if (i:Int) < 0 then ((i:Int) + (xs.length:Int)).toNat else min (i:Int).toNat xs.length) = i
  rw [if_neg (by omega)]
  show min i xs.length = i
  omega
 unfold cutD
 rw [h2]
 simp [HT.D1]
theorem qe {p:D -> Bool} (hp:∀ d,p d = true -> ∃ a b:Int,d = .tup [.int a,.int b]):∀ {xs:List D},xs.all p = true -> xs = (xs.map yH).map pr
 | [],_=>rfl
 | x :: xs,h=>by
  rw [List.all_cons,Bool.and_eq_true] at h
  obtain ⟨a,b,rfl⟩:=hp x h.1
  rw [List.map_cons,List.map_cons,<- qe hp h.2]
  rfl
theorem zD (d:D) (h:gM d = true):∃ a b:Int,d = .tup [.int a,.int b]:=by
 unfold gM at h
 split at h
 ·rename_i a b
  rw [Bool.and_eq_true] at h
  unfold posB at h
  rw [Bool.and_eq_true] at h
  obtain ⟨i,rfl,_⟩:=Q5 h.1.1
  obtain ⟨j,rfl,_⟩:=Q5 h.2
  exact ⟨i,j,rfl⟩
 ·cases h
theorem zl {xs ys:List Str} {x:D} (h:aP xs ys x = true):pj x /\ D3 x = true:=by
 unfold aP at h
 rw [Bool.and_eq_true] at h
 obtain ⟨n,a,c,la,on,rfl⟩:=iy h.1
 refine ⟨⟨n,_,rfl⟩,?_⟩
 have h1:(B4 (.str n) && B4 (.str a) && W5 c && E9 la && (aM on true || aM on false)) = true:=h.1
 simp only [Bool.and_eq_true] at h1
 obtain ⟨⟨⟨_,hc⟩,hl⟩,ho⟩:=h1
 obtain ⟨i,rfl,_⟩:=Q5 hl
 unfold W5 at hc
 split at hc
 ·rename_i ps
  rw [Bool.and_eq_true] at hc
  rw [qe zD hc.2]
  show (true && (true && (D3 (cm (ps.map yH)) && (true && (D3 on && true))))) = true
  rw [eF]
  cases on <;> first | rfl | (simp [aM] at ho; done)
 ·cases hc
theorem yG {d:D} (h:V9 d = true):d = gD (dG d):=by
 obtain ⟨n,u,c,de,wa,rfl⟩:=fV h
 have h1:(B4 (.str n) && (bW (uD u) || B4 (uD u)) && W3 c && E9 de && E9 wa) = true:=h
 simp only [Bool.and_eq_true] at h1
 obtain ⟨⟨⟨_,hc⟩,hl⟩,ho⟩:=h1
 obtain ⟨i,rfl,_⟩:=Q5 hl
 obtain ⟨j,rfl,_⟩:=Q5 ho
 unfold W3 at hc
 split at hc
 ·rename_i ps
  simp only [Bool.and_eq_true] at hc
  have e:=qe (fun d hd=>by obtain ⟨a,b,e,_⟩:=Z1 hd; exact ⟨a,b,e⟩) hc.1.2
  have eu:uD (Ec (uD u)) = uD u:=by cases u <;> rfl
  show D.tup [.str n,uD u,.tup ps,.int i,.int j] = D.tup [.str n,uD (Ec (uD u)),.tup ((ps.map yH).map pr),.int i,.int j]
  rw [eu,<- e]
 ·cases hc
theorem xf {gs:List Gd} {dp:Nat -> Nat} (h:qf gs dp) (hx:(gs.map (·.nm)).Nodup):∀ (n m j:Nat) (g:Gd),gs[j]? = some g -> dp j = n -> n <= m -> (ups gs m (some g.nm)).length = n
 | 0,m,j,g,hj,e,_=>by have:=(h j g hj).1; omega
 | n + 1,0,j,g,hj,e,hm=>by omega
 | n + 1,m + 1,j,g,hj,e,hm=>by
  have fe:AL gs g.nm = g.un:=oK hx (List.mem_of_getElem? hj)
  show (ups gs m (AL gs g.nm)).length + 1 = n + 1
  rw [fe]
  obtain ⟨_,_,t,u⟩:=h j g hj
  cases eu:g.un with
  | none=>
   have:=t eu
   have e0:n = 0:=by omega
   subst e0
   cases m <;> rfl
  | some y=>
   obtain ⟨k,gk,_,hk,rfl,ed⟩:=u y eu
   rw [xf h hx n m k gk hk (by omega) (by omega)]
theorem qL {gs:List Gd} {g:Gd} {k:Nat} (gk:jo gs) (hl:gs.length < 16) (new:g.nm ∉ gs.map (·.nm)) {dp:Nat -> Nat} (hd:qf gs dp) (k1:1 <= k) (k8:k <= 8) (t:g.un = none -> k = 1) (u:∀ y,g.un = some y -> ∃ j gj,gs[j]? = some gj /\ gj.nm = y /\ k = dp j + 1):jo (gs ++ [g]):=by
 refine ⟨by simp; omega,?_,fun i=>if i < gs.length then dp i else k,fun i g' hi=>?_⟩
 ·rw [List.map_append,List.nodup_append]
  refine ⟨gk.nd,by simp,fun a ha b hb e=>?_⟩
  have:b = g.nm:=by simpa using hb
  subst e
  exact new (this ▸ ha)
 ·by_cases h:i < gs.length
  ·rw [List.getElem?_append_left h] at hi
   obtain ⟨a,b,c,d⟩:=hd i g' hi
   dsimp only
   rw [if_pos h]
   refine ⟨a,b,c,fun y hy=>?_⟩
   obtain ⟨j,gj,hj,e,n,f⟩:=d y hy
   exact ⟨j,gj,hj,by rw [List.getElem?_append_left (by omega)]; exact e,n,by rw [if_pos (by omega)]; exact f⟩
  ·have h2:=(List.getElem?_eq_some_iff.mp hi).1
   rw [List.length_append,List.length_singleton] at h2
   have ei:i = gs.length:=by omega
   subst ei
   rw [List.getElem?_append_right (Nat.le_refl _),Nat.sub_self] at hi
   cases hi
   dsimp only
   rw [if_neg h]
   refine ⟨k1,k8,t,fun y hy=>?_⟩
   obtain ⟨j,gj,e,n,f⟩:=u y hy
   have jl:=(List.getElem?_eq_some_iff.mp e).1
   exact ⟨j,gj,jl,by rw [List.getElem?_append_left jl]; exact e,n,by rw [if_pos jl]; exact f⟩
theorem vD {gs:List Gd} {x:D} (hf:aR gs x = true) (gk:jo gs) (hl:gs.length < 16):x = gD (dG x) /\ jo (gs ++ [dG x]):=by
 have hf0:=hf
 unfold aR at hf0
 rw [Bool.and_eq_true] at hf0
 have ex:=yG hf0.1
 refine ⟨ex,?_⟩
 generalize dG x = g at ex
 subst ex
 have hf1:=hf0.2
 obtain ⟨dp,hd⟩:=gk.un
 obtain ⟨n,u,cv,de,wa⟩:=g
 cases u with
 | none=>
  have hf1:(!decide (n ∈ gs.map (·.nm))) = true:=hf1
  exact qL (k:=1) gk hl (by simpa using hf1) hd (Nat.le_refl _) (by decide) (fun _=>rfl) (fun y hy=>by cases hy)
 | some y=>
  have hf1:(!decide (n ∈ gs.map (·.nm)) && decide (y ∈ gs.map (·.nm)) && decide ((ups gs 8 (some y)).length <= 7)) = true:=hf1
  rw [Bool.and_eq_true,Bool.and_eq_true] at hf1
  obtain ⟨⟨h1,h2⟩,h3⟩:=hf1
  have h1:n ∉ gs.map (·.nm):=fun z=>by rw [decide_eq_true z] at h1; cases h1
  have h2:=of_decide_eq_true h2
  have h3:=of_decide_eq_true h3
  obtain ⟨gy,hg,rfl⟩:=List.mem_map.mp h2
  obtain ⟨j,hj⟩:=List.getElem?_of_mem hg
  obtain ⟨a,b,_,_⟩:=hd j gy hj
  have e:=xf hd gk.nd (dp j) 8 j gy hj rfl b
  exact qL (k:=dp j + 1) gk hl h1 hd (by omega) (by omega) (fun z=>by cases z) (fun y hy=>by cases hy; exact ⟨j,gy,hj,rfl,rfl⟩)
theorem uU (ds:List D) (Q:D -> Prop) (W:Str -> List V -> Prop) (h:K6 ds Q W):qr W (EP Q) (i5 6 ds):=by
 obtain ⟨d,rfl,hk,q⟩:=h
 refine ⟨d,rfl,hk,?_⟩
 cases ho:gz d with
 | false=>
  rw [vL ho] at q
  exact Br.yes rfl ⟨rfl,rfl,rfl,q⟩
 | true=>
  refine Br.no rfl ?_
  obtain ⟨xs,ys,rfl,hx,hy⟩:=Ao ho
  have hk:(gF xs && (gF ys && true)) = true:=hk
  rw [Bool.and_eq_true,Bool.and_eq_true] at hk
  have kx:=M8 hk.1
  have ky:=M8 hk.2.1
  have q:(match (match X4 [] xs with
   | some i=>some (("guard" : Str),(i:Int))
   | none=>match W2 (xs.map R9) [] ys with
    | some i=>some ("load",(i:Int))
    | none=>none) with
   | none=>Q (.bl true)
   | some (w,i)=>W "NoBoard" [.str w,.int i]):=by
   have e:lb (.tup [.tup xs,.tup ys]) = (match X4 [] xs with
    | some i=>some (("guard" : Str),(i:Int))
    | none=>match W2 (xs.map R9) [] ys with
     | some i=>some ("load",(i:Int))
     | none=>none):=by
    show (bif gz _ then _ else _) = _
    rw [ho]; rfl
   rw [e] at q
   exact q
  walk_at "r"
  have g0:jo []:=⟨Nat.zero_le _,List.nodup_nil,fun _=>1,fun i g hg=>by cases hg⟩
  refine .of ⟨fun i ρ=>∃ gs v3 v4,ρ = [some (.tup [.tup xs,.tup ys]),some (.tup xs),some (.tup ys),v3,v4,none] /\ gs.length = i /\ xs.take i = gs.map gD /\ jo gs /\ X4 gs (xs.drop i) = X4 [] xs,⟨[],none,none,rfl,rfl,rfl,g0,rfl⟩,?_,?_⟩
  ·rintro i e ρ he ⟨gs,v3,v4,rfl,rfl,ht,gk,hb⟩
   obtain ⟨x,hi,rfl⟩:=L3.bH he
   rw [Nat.zero_add]
   have il:=(List.getElem?_eq_some_iff.mp hi).1
   have ec:=AU xs gs.length (Nat.le_of_lt il)
   have hd:xs.drop gs.length = x :: xs.drop (gs.length + 1):=by
    rw [List.drop_eq_getElem_cons il]
    rw [List.getElem?_eq_getElem il] at hi
    cases hi; rfl
   rw [hd] at hb
   have hb:(bif aR gs x then X4 (gs ++ [dG x]) (xs.drop (gs.length + 1)) else some gs.length) = X4 [] xs:=hb
   refine ⟨rfl,rfl,?_⟩
   show bM W _ [some (.tup [.tup xs,.tup ys]),some (.tup xs),some (.tup ys),some (.int (gs.length:Int)),some x,none]
   have im:y8 (cutD xs none (some (gs.length:Int))) = true:=by rw [ec,ht]; exact eD gs
   refine ⟨im,_,gs,x,rfl,.inl (by rw [ec,ht]),gk,kx x (List.mem_of_getElem? hi),?_⟩
   cases hf:aR gs x with
   | false=>
    rw [hf] at hb
    have hb:some gs.length = X4 [] xs:=hb
    rw [<- hb] at q
    exact Br.yes rfl ⟨rfl,rfl,rfl,q⟩
   | true=>
    rw [hf] at hb
    obtain ⟨ex,gk2⟩:=vD hf gk (by omega)
    refine Br.no rfl ⟨gs ++ [dG x],_,_,rfl,by simp,?_,gk2,hb⟩
    rw [List.take_add_one,hi,ht,List.map_append]
    exact congrArg (fun z=>gs.map gD ++ [z]) ex
  ·rintro ρ ⟨gs,v3,v4,rfl,hn,ht,gk,hb⟩
   rw [L3.Q1,List.take_length] at ht
   rw [L3.Q1,List.drop_length] at hb
   have hb:none = X4 [] xs:=by rw [<- hb]; cases gs <;> rfl
   rw [<- hb] at q
   have q:(match (match W2 (xs.map R9) [] ys with
    | some i=>some (("load" : Str),(i:Int))
    | none=>none) with
    | none=>Q (.bl true)
    | some (w,i)=>W "NoBoard" [.str w,.int i]):=q
   have hxs:∀ x ∈ xs,pj x:=by rw [ht]; exact jw _
   have main:DG (gT (u6 (g1 3) (u6 (g1 5) X2))) (U9 W) (dU 0 ys) { nx:=ij W (EP Q),rt:=(EP Q).rt } [some (.tup [.tup xs,.tup ys]),some (.tup xs),some (.tup ys),v3,v4,none]:=by
    refine .of ⟨fun i ρ=>∃ v3 v4 v5,ρ = [some (.tup [.tup xs,.tup ys]),some (.tup xs),some (.tup ys),v3,v4,v5] /\ (∀ y ∈ ys.take i,pj y /\ D3 y = true) /\ W2 (xs.map R9) ((ys.take i).map R9) (ys.drop i) = W2 (xs.map R9) [] ys,⟨v3,v4,none,rfl,by simp,rfl⟩,?_,?_⟩
    ·rintro i e ρ he ⟨v3,v4,v5,rfl,hh,hb⟩
     obtain ⟨x,hi,rfl⟩:=L3.bH he
     rw [Nat.zero_add]
     have il:=(List.getElem?_eq_some_iff.mp hi).1
     have ec:=AU ys i (Nat.le_of_lt il)
     have hd:ys.drop i = x :: ys.drop (i + 1):=by
      rw [List.drop_eq_getElem_cons il]
      rw [List.getElem?_eq_getElem il] at hi
      cases hi; rfl
     rw [hd] at hb
     have hb:(bif aP (xs.map R9) ((ys.take i).map R9) x then W2 (xs.map R9) ((ys.take i).map R9 ++ [R9 x]) (ys.drop (i + 1)) else some ((ys.take i).map R9).length) = W2 (xs.map R9) [] ys:=hb
     refine ⟨rfl,rfl,?_⟩
     show U9 W _ [some (.tup [.tup xs,.tup ys]),some (.tup xs),some (.tup ys),some (.int (i:Int)),v4,some x]
     have im:y8 (cutD ys none (some (i:Int))) = true:=by rw [ec]; exact T1 fun y hy=>(hh y hy).2
     have len:(ys.take i).length = i:=by rw [List.length_take]; omega
     refine ⟨im,_,xs,_,ys.take i,x,rfl,.inl rfl,.inl (by rw [ec]),by omega,by omega,hxs,fun y hy=>(hh y hy).1,ky x (List.mem_of_getElem? hi),?_⟩
     cases hf:aP (xs.map R9) ((ys.take i).map R9) x with
     | false=>
      rw [hf,List.length_map,len] at hb
      have hb:some i = W2 (xs.map R9) [] ys:=hb
      rw [<- hb] at q
      exact Br.yes rfl ⟨rfl,rfl,rfl,q⟩
     | true=>
      rw [hf] at hb
      have et:ys.take (i + 1) = ys.take i ++ [x]:=by rw [List.take_add_one,hi]; rfl
      refine Br.no rfl ⟨_,_,_,rfl,fun y hy=>?_,?_⟩
      ·rw [et,List.mem_append,List.mem_singleton] at hy
       rcases hy with hy | rfl
       ·exact hh y hy
       ·exact zl hf
      ·rw [et,List.map_append]
       exact hb
    ·rintro ρ ⟨v3,v4,v5,rfl,_,hb⟩
     rw [L3.Q1,List.drop_length] at hb
     have hb:none = W2 (xs.map R9) [] ys:=by rw [<- hb]; rfl
     rw [<- hb] at q
     exact q
   exact main
end My
namespace My
open PySem L2 L3
local macro_rules | `(tactic| walk_at "w")=>`(tactic| conv=>whnf)
local macro_rules | `(tactic| walk_at "a")=>`(tactic| first | refine ⟨rfl,?_⟩ | refine ⟨_,rfl,?_⟩ | refine ⟨(show (0:Int) < _ from by decide),?_⟩ | refine ⟨(show aO _ _ from ⟨by decide,by decide⟩),?_⟩ | refine ⟨(show gU _ _ from ⟨by decide,by decide,by decide⟩),?_⟩ | refine ⟨(show U6 _ _ from .inr ⟨by decide,by decide⟩),?_⟩ | refine ⟨(show U6 _ _ from .inl ⟨by decide,by decide⟩),?_⟩ | refine ⟨_,_,_,rfl,rfl,rfl,?_⟩ | refine ⟨_,fq _ _,?_⟩ | refine ⟨_,_,rfl,rfl,?_⟩)
local macro_rules | `(tactic| walk_at "r")=>`(tactic| ((repeat ((conv=>whnf); (walk_at "a"))); (try (conv=>whnf))))
theorem wY (ds:List D) (Q:D -> Prop) (h:M7 ds Q):qv { nx:=fun _=>Q .non,rt:=fun d _=>Q d } (i5 2 ds):=by
 obtain ⟨d,ns,k,rfl,hs,h0,q⟩:=h
 rcases hs with rfl | rfl
 all_goals
  walk_at "r"
  refine ⟨fun e=>?_,fun e=>q 0⟩
  have e':=of_decide_eq_true e
  obtain ⟨x,_,_,hx⟩:=K3 (f:=D.int) h0 (by simpa using e')
  exact ⟨_,hx,rfl,q x⟩
theorem Dq (ds:List D) (Q:D -> Prop) (h:P8 ds Q):AQ { nx:=fun _=>Q .non,rt:=fun d _=>Q d } (i5 3 ds):=by
 obtain ⟨d,ns,k,rfl,hs,h0,h1,q⟩:=h
 refine ⟨d,ns,k,rfl,hs,h0,fun c=>?_⟩
 walk_at "r"
 exact q c
theorem CS (ds:List D) (Q:D -> D -> Prop) (h:p9 ds Q):Bb { nx:=fun ρ=>e8 0 ρ fun l=>Q .non l,rt:=fun d ρ=>e8 0 ρ fun l=>Q d l } (i5 4 ds):=by
 obtain ⟨c,d,k,n,rfl,h0,h1,h2,h3,q⟩:=h
 walk_at "r"
 refine ⟨fun e1=>?a,fun e1=>Br.no rfl ?c⟩
 case' a=>
  walk_at "r"
  refine ⟨fun e2=>?t,fun e2=>?b⟩
 case t=>
  walk_at "r"
  refine ⟨h2,?_⟩
  walk_at "r"
  refine ⟨⟨h2,Gi h3 h2⟩,?_⟩
  walk_at "r"
  exact q _ _ (Int.emod_nonneg _ (by omega)) (Int.emod_lt_of_pos _ h2)
 all_goals
  walk_at "r"
  refine ⟨.inl ⟨by omega,by omega⟩,?_⟩
  walk_at "r"
  have z0:=Int.emod_nonneg ((c % 2147483629 * 48271 + 7919 * (k + 1) + (k + 1) * (k + 1) * 69621 + 11) % 2147483647) (show (65521:Int) ≠ 0 by decide)
  have z1:=Int.emod_lt_of_pos ((c % 2147483629 * 48271 + 7919 * (k + 1) + (k + 1) * (k + 1) * 69621 + 11) % 2147483647) (show (0:Int) < 65521 by decide)
  refine ⟨.inr ⟨by omega,by omega⟩,?_⟩
  walk_at "r"
  refine ⟨h2,?_⟩
  walk_at "r"
  exact q _ _ (Int.emod_nonneg _ (by omega)) (Int.emod_lt_of_pos _ h2)
theorem zC (ds:List D) (Q:D -> D -> Prop) (h:I0 ds Q):uX { nx:=fun ρ=>e8 0 ρ fun l=>Q .non l,rt:=fun d ρ=>e8 0 ρ fun l=>Q d l } (i5 2 ds):=by
 obtain ⟨c,d,k,rfl,h0,h1,q⟩:=h
 walk_at "r"
 refine ⟨c,d,k,4,rfl,h0,by omega,by decide,by decide,fun w d1 w0 w1=>?_⟩
 walk_at "r"
 refine ⟨fun e=>?_,fun e=>?_⟩
 ·have e:=of_decide_eq_true e
  walk_at "r"
  refine ⟨c,d1,k + 1,4,rfl,by omega,by omega,by decide,by decide,fun r d2 r0 r1=>?_⟩
  walk_at "r"
  refine ⟨.inl ⟨by omega,by omega⟩,?_⟩
  walk_at "r"
  have:w = 0 \/ w = 1:=by omega
  rcases this with rfl | rfl
  ·exact q _ _ _ (by omega) (by omega) (by omega) (by omega)
  ·exact q _ _ _ (by omega) (by omega) (by omega) (by omega)
 ·walk_at "r"
  refine ⟨fun e=>?_,fun e=>?_⟩
  ·walk_at "r"
   refine ⟨c,d1,k + 1,_,rfl,by omega,by omega,by decide,by decide,fun r d2 r0 r1=>?_⟩
   walk_at "r"
   have r1:r < 1000000:=r1
   exact q _ _ _ (by omega) (by omega) (by omega) (by omega)
  ·walk_at "r"
   refine ⟨c,d1,k + 1,_,rfl,by omega,by omega,by decide,by decide,fun r d2 r0 r1=>?_⟩
   have r1:r < 1000000000:=r1
   walk_at "r"
   refine ⟨.inl ⟨by omega,by omega⟩,?_⟩
   walk_at "r"
   refine ⟨c,d2,k + 1 + 1,_,rfl,by omega,by omega,by decide,by decide,fun r2 d3 r20 r21=>?_⟩
   walk_at "r"
   have r21:r2 < 10 ^ 40:=r21
   have e49:((10:Int) ^ (Int.toNat 49)) = 10 ^ 49:=rfl
   refine q _ _ _ ?_ ?_ (by omega) (by omega)
   ·rw [e49]; omega
   ·rw [e49]; omega
theorem vU (ds:List D) (Q:D -> D -> Prop) (h:G8 ds Q):qi { nx:=fun ρ=>e8 0 ρ fun l=>Q .non l,rt:=fun d ρ=>e8 0 ρ fun l=>Q d l } (i5 2 ds):=by
 obtain ⟨c,d,k,rfl,h0,h1,q⟩:=h
 walk_at "r"
 refine ⟨c,d,k,5,rfl,h0,by omega,by decide,by decide,fun w d1 w0 w1=>?_⟩
 walk_at "r"
 refine ⟨fun e=>?_,fun e=>?_⟩
 ·walk_at "r"
  refine ⟨c,d1,k + 1,4,rfl,by omega,by omega,by decide,by decide,fun r d2 r0 r1=>?_⟩
  walk_at "r"
  exact q _ _ _ (by omega) (by omega) (by omega) (by omega)
 ·walk_at "r"
  refine ⟨fun e=>?_,fun e=>?_⟩
  ·walk_at "r"
   refine ⟨c,d1,k + 1,rfl,by omega,by omega,fun r d2 k2 r0 r1 k0 k1=>?_⟩
   walk_at "r"
   exact q _ _ _ (by omega) (by omega) (by omega) (by omega)
  ·walk_at "r"
   refine ⟨c,d1,k + 1,3,rfl,by omega,by omega,by decide,by decide,fun r d2 r0 r1=>?_⟩
   walk_at "r"
   have e60:((10:Int) ^ (Int.toNat 60)) = 10 ^ 60:=rfl
   refine q _ _ _ ?_ ?_ (by omega) (by omega)
   ·rw [e60]; omega
   ·rw [e60]; omega
theorem cu {i:Int} (h0:0 <= i) (h1:i < 26):∃ c,P1 iI.cps.toList i = some c:=by
 have hl:iI.cps.toList.length = 26:=by decide +kernel
 have hi:i.toNat < iI.cps.toList.length:=by omega
 refine ⟨iI.cps.toList[i.toNat],?_⟩
 unfold P1 kc
 rw [if_pos h0,hl,if_pos (by omega)]
 exact List.getElem?_eq_getElem hi
theorem aH:iI.length <= sizeLine:=by decide +kernel
theorem jB (c:Nat):(⟨#[c]⟩:Str).length = 1:=rfl
theorem xq {z:Str} {n:Int} (hz:z.length = 1) (h0:0 <= n) (hn:n <= 4):MulOk z n:=by
 have h:n = 0 \/ n = 1 \/ n = 2 \/ n = 3 \/ n = 4:=by omega
 unfold MulOk
 rw [hz]
 rcases h with rfl | rfl | rfl | rfl | rfl
 all_goals decide
theorem EL {z:Str} {n:Int} (hz:z.length = 1) (h0:0 <= n) (hn:n <= 1):(Txt.mul z n).length <= 1:=by
 have h:n = 0 \/ n = 1:=by omega
 rcases h with rfl | rfl
 ·exact Nat.zero_le _
 ·have e:Txt.mul z 1 = z:=by
   unfold Txt.mul
   rw [if_neg (by decide),if_pos (by rfl)]
  rw [e,hz]
  exact Nat.le_refl _
theorem Cy {x:Str} {xs:List Str} (h:inD (.str x) (xs.map D.str) = false):x ∉ xs:=fun hx=>by
 unfold inD at h
 rw [List.any_eq_false] at h
 have:=h (.str x) (List.mem_map.mpr ⟨x,hx,rfl⟩)
 exact this (beq_self_eq_true x)
theorem names5 {Q:D -> D -> Prop} {c d k m:Int} {xs:List Str} {x:Str} {v2 v3 v5 v6 v7 v8 v9 v10 v11:Option D} (hw:x = "" \/ nm 8 x) (hx:(xs.length:Int) = m) (h1:1 <= m) (h2:m <= 100) (k0:0 <= k) (k1:k <= 10 ^ 8) (hnd:xs.Nodup) (hnm:∀ x ∈ xs,nm 8 x) (q:∀ (xs:List Str) (d' k':Int),xs.length = m -> xs.Nodup -> (∀ x ∈ xs,nm 8 x) -> Q (gC xs) (feed c d' k')):nH (EM Q) [some (feed c d k),some (.int m),v2,v3,some (gC xs),v5,v6,v7,v8,v9,v10,v11,some (.str x)]:=by
 have fl:(xs.map D.str).all Z2 = true:=by
  rw [List.all_eq_true]
  intro y hy
  obtain ⟨z,_,rfl⟩:=List.mem_map.mp hy
  rfl
 walk_at "r"
 refine ⟨fun e1=>?_,fun e1=>Br.no rfl (q xs d k hx hnd hnm)⟩
 walk_at "r"
 refine ⟨fl,?_⟩
 walk_at "r"
 refine ⟨fun e2=>?_,fun e2=>q xs d k hx hnd hnm⟩
 walk_at "r"
 refine ⟨c,d,k,m,rfl,k0,by omega,by omega,by omega,fun r d1 r0 r1=>?_⟩
 walk_at "r"
 refine ⟨r.toNat,?_,?_⟩
 ·unfold kc
  rw [if_pos r0,List.length_map,if_pos (by omega)]
 ·have e:(xs.map D.str).set r.toNat (.str x) = (xs.set r.toNat x).map D.str:=by rw [List.map_set]
  walk_at "r"
  rw [e]
  refine q _ _ _ (by rw [List.length_set]; exact hx) (ja _ hnd (Cy ?_)) fun y hy=>?_
  ·cases hb:inD (D.str x) (List.map D.str xs) with
   | false=>rfl
   | true=>rw [hb] at e2; exact absurd e2 (by decide)
  ·rcases List.mem_or_eq_of_mem_set hy with w | w
   ·exact hnm y w
   ·rw [w]
    rcases hw with hw | hw
    ·rw [hw] at e1; exact absurd e1 (by decide)
    ·exact hw
theorem wB:∀ x ∈ (["guard", "load", "on", "off", "board", "map", "least", "", "", "", ""]:List Str),x = "" \/ nm 8 x:=by decide +kernel
theorem names4 {Q:D -> D -> Prop} {c d k m:Int} {xs:List Str} {v2 v3 v5 v6 v7 v8 v9 v10 v11 v12:Option D} (hx:(xs.length:Int) = m) (h1:1 <= m) (h2:m <= 100) (k0:0 <= k) (k1:k <= 10 ^ 7) (hnd:xs.Nodup) (hnm:∀ x ∈ xs,nm 8 x) (q:∀ (xs:List Str) (d' k':Int),xs.length = m -> xs.Nodup -> (∀ x ∈ xs,nm 8 x) -> Q (gC xs) (feed c d' k')):mO (EM Q) [some (feed c d k),some (.int m),v2,v3,some (gC xs),v5,v6,v7,v8,v9,v10,v11,v12]:=by
 walk_at "r"
 refine ⟨c,d,k,11,rfl,k0,by omega,by decide,by decide,fun r d1 r0 r1=>?_⟩
 obtain ⟨x,hxm,_,hx2⟩:=K3 (f:=D.str) (xs:=["guard", "load", "on", "off", "board", "map", "least", "", "", "", ""]) (i:=r) r0 r1
 refine ⟨_,hx2,rfl,rfl,?_⟩
 refine names5 ?_ hx h1 h2 (by omega) (by omega) hnd hnm q
 exact wB x hxm
theorem zb (ds:List D) (Q:D -> D -> Prop) (h:ai ds Q):xT (EM Q) (i5 13 ds):=by
 obtain ⟨c,d,k,m,rfl,h0,h1,hm1,hm2,q⟩:=h
 walk_at "r"
 refine ⟨c,d,k,26,rfl,h0,by omega,by decide,by decide,fun f d1 f0 f1=>?_⟩
 walk_at "r"
 refine ⟨c,d1,k + 1,5,rfl,by omega,by omega,by decide,by decide,fun r d2 r0 r1=>?_⟩
 walk_at "r"
 refine ⟨fun e=>?_,fun e=>?_⟩
 ·walk_at "r"
  refine ⟨⟨by omega,by omega⟩,?_⟩
  refine ⟨by rw [x4,List.length_map,List.length_range]; exact y3 (by omega),?_⟩
  refine U4 (f:=fun (i:Nat)=>.str (Txt.mul ⟨#[(P1 iI.cps.toList ((f + (0 + (i:Int))) % 26)).getD 0]⟩ (1 + (0 + (i:Int)) / 26))) (List.range m.toNat) [] (fun i hi K R kk=>?_) ?_
  ·have hi:=List.mem_range.mp hi
   obtain ⟨ch,hch⟩:=cu (i:=(f + (0 + (i:Int))) % 26) (Int.emod_nonneg _ (by decide)) (Int.emod_lt_of_pos _ (by decide))
   rw [hch] at kk
   walk_at "r"
   refine Br.yes rfl ?_
   walk_at "r"
   refine ⟨aH,ch,hch,?_⟩
   walk_at "r"
   refine ⟨xq rfl (by omega) (by omega),?_⟩
   exact kk
  ·have e:(List.range m.toNat).map (fun (i:Nat)=>D.str (Txt.mul ⟨#[(P1 iI.cps.toList ((f + (0 + (i:Int))) % 26)).getD 0]⟩ (1 + (0 + (i:Int)) / 26))) = ((List.range m.toNat).map fun (i:Nat)=>Txt.mul ⟨#[(P1 iI.cps.toList ((f + (0 + (i:Int))) % 26)).getD 0]⟩ (1 + (0 + (i:Int)) / 26)).map D.str:=by rw [List.map_map]; rfl
   rw [List.nil_append,e]
   refine ⟨rfl,?_⟩
   refine names4 (by rw [List.length_map,List.length_range]; omega) hm1 hm2 (by omega) (by omega) (N9 (nameA f) _ fun i j hi hj=>sG (by omega) (by omega)) (fun x hx=>?_) q
   obtain ⟨i,hi,rfl⟩:=List.mem_map.mp hx
   have hi:=List.mem_range.mp hi
   exact xg (i:=i) (by omega) (by omega)
 ·walk_at "r"
  refine ⟨c,d2,k + 1 + 1,7,rfl,by omega,by omega,by decide,by decide,fun sz d3 s0 s1=>?_⟩
  walk_at "r"
  refine ⟨⟨by omega,by omega⟩,?_⟩
  refine ⟨by rw [x4,List.length_map,List.length_range]; exact y3 (by omega),?_⟩
  walk_at "r"
  refine .of ⟨fun n acc ρ=>∃ (d':Int) (bs:List Int),ρ = [some (feed c d' (k + 1 + 1 + 1 + n)),some (.int m),some (.str iI),some (.int f),none,some (.int (2 + sz)),none,none,none,none,none,none,none] /\ acc = bs.map D.int /\ bs.length = n /\ ∀ b ∈ bs,0 <= b /\ b < 26,⟨d3,[],?_,rfl,rfl,fun b hb=>(by cases hb)⟩,?_,?_⟩
  ·have:k + 1 + 1 + 1 + ((0:Nat):Int) = k + 1 + 1 + 1:=by omega
   rw [this]
   rfl
  ·rintro n y acc ρ hy ⟨d',bs,rfl,rfl,hbl,hb⟩
   have hn:n < 8:=by
    have:=(List.getElem?_eq_some_iff.mp hy).1
    rw [x4,List.length_map,List.length_range] at this
    omega
   walk_at "r"
   refine Br.yes rfl ?_
   walk_at "r"
   refine ⟨c,d',_,26,rfl,by omega,by omega,by decide,by decide,fun b d4 b0 b1=>?_⟩
   walk_at "r"
   refine ⟨d4,bs ++ [b],?_,by rw [List.map_append]; rfl,by simp [hbl],fun z hz=>?_⟩
   ·have:k + 1 + 1 + 1 + ((n + 1:Nat):Int) = k + 1 + 1 + 1 + (n:Int) + 1:=by omega
    rw [this]
    rfl
   ·rcases List.mem_append.mp hz with w | w
    ·exact hb z w
    ·rw [List.mem_singleton.mp w]; exact ⟨b0,b1⟩
  ·rintro acc ρ ⟨d',bs,rfl,rfl,hbl,hb⟩
   rw [x4,List.length_map,List.length_range] at hbl ⊢
   have hbl:(bs.length:Int) = 2 + sz:=by omega
   walk_at "r"
   refine ⟨c,d',_,_,rfl,by omega,by omega,by omega,by omega,fun a d5 a0 a1=>?_⟩
   walk_at "r"
   refine ⟨c,d5,_,_,rfl,by omega,by omega,by omega,by omega,fun a2 d6 a20 a21=>?_⟩
   walk_at "r"
   refine ⟨show (0:Int) < 2 + sz by omega,?_⟩
   have o0:=Int.emod_nonneg (a + 1 + a2) (show 2 + sz ≠ 0 by omega)
   have o1:=Int.emod_lt_of_pos (a + 1 + a2) (show 0 < 2 + sz by omega)
   walk_at "r"
   refine ⟨c,d6,_,2,rfl,by omega,by omega,by decide,by decide,fun lo d7 lo0 lo1=>?_⟩
   walk_at "r"
   refine ⟨.inl ⟨by omega,by omega⟩,?_⟩
   have lg:∀ b:Bool,0 <= lo * (if b then 1 else 0) /\ lo * (if b then 1 else 0) <= 1:=fun b=>by cases b <;> simp <;> omega
   obtain ⟨lg0,lg1⟩:=lg (decide (2 + sz < 8))
   obtain ⟨b1,_,_,hb1⟩:=K3 (f:=D.int) (xs:=bs) (i:=a) a0 (by omega)
   obtain ⟨b2,_,_,hb2⟩:=K3 (f:=D.int) (xs:=bs) (i:=(a + 1 + a2) % (2 + sz)) o0 (by omega)
   have ao:=xN (n:=2 + sz) a0 (by omega) a20 (by omega)
   have lgs:2 + sz + lo * (if decide (2 + sz < 8) = true then 1 else 0) <= 8:=by
    by_cases h8:2 + sz < 8
    ·omega
    ·rw [decide_eq_false h8]
     show 2 + sz + lo * 0 <= 8
     omega
   walk_at "r"
   refine ⟨⟨by omega,by omega⟩,?_⟩
   walk_at "w"
   refine .of ⟨fun i ρ=>∃ (xs:List Str) (v10 v11:Option D),ρ = [some (feed c d7 (k + 1 + 1 + 1 + ((2 + sz).toNat:Int) + 1 + 1 + 1)),some (.int m),some (.str iI),some (.int f),some (gC xs),some (.int (2 + sz)),some (nums bs),some (.int a),some (.int ((a + 1 + a2) % (2 + sz))),some (.int (lo * (if decide (2 + sz < 8) = true then 1 else 0))),v10,v11,none] /\ xs = (List.range i).map (dn bs a ((a + 1 + a2) % (2 + sz)) b1 b2 f (lo * (if decide (2 + sz < 8) = true then 1 else 0))),⟨[],none,none,rfl,rfl⟩,?_,?_⟩
   ·rintro i y ρ hy ⟨xs,v10,v11,rfl,hxs⟩
    have hxl:xs.length = i:=by rw [hxs,List.length_map,List.length_range]
    have hi:i < 100:=by
     have:=(List.getElem?_eq_some_iff.mp hy).1
     rw [x4,List.length_map,List.length_range] at this
     omega
    rw [x4] at hy
    obtain ⟨i',ei',rfl⟩:=get_map hy
    have ei:i' = i:=by
     have:=(List.getElem?_eq_some_iff.mp ei').2
     rw [List.getElem_range] at this
     exact this.symm
    subst ei
    generalize (a + 1 + a2) % (2 + sz) = O at o0 o1 hb2 hxs
    generalize lo * (if decide (2 + sz < 8) = true then 1 else 0) = L at lg0 lg1 hxs
    walk_at "r"
    refine ⟨wK bs,?_⟩
    walk_at "r"
    refine ⟨_,hb1,?_⟩
    walk_at "r"
    refine ⟨a.toNat,by unfold kc; rw [if_pos a0,List.length_map,if_pos (by omega)],?_⟩
    walk_at "r"
    refine ⟨_,hb2,?_⟩
    walk_at "r"
    refine ⟨O.toNat,by unfold kc; rw [if_pos o0,List.length_set,List.length_map,if_pos (by omega)],?_⟩
    have e1:((bs.map D.int).set a.toNat (.int ((b1 + (0 + (i':Int))) % 26))).set O.toNat (.int ((b2 + (0 + (i':Int)) / 26) % 26)) = ((bs.set a.toNat ((b1 + (0 + (i':Int))) % 26)).set O.toNat ((b2 + (0 + (i':Int)) / 26) % 26)).map D.int:=by rw [List.map_set,List.map_set]
    have hbb:∀ b ∈ (bs.set a.toNat ((b1 + (0 + (i':Int))) % 26)).set O.toNat ((b2 + (0 + (i':Int)) / 26) % 26),0 <= b /\ b < 26:=fun b hb'=>by
     rcases List.mem_or_eq_of_mem_set hb' with w | w
     ·rcases List.mem_or_eq_of_mem_set w with w | w
      ·exact hb b w
      ·rw [w]; exact ⟨Int.emod_nonneg _ (by decide),Int.emod_lt_of_pos _ (by decide)⟩
     ·rw [w]; exact ⟨Int.emod_nonneg _ (by decide),Int.emod_lt_of_pos _ (by decide)⟩
    have hbl2:((bs.set a.toNat ((b1 + (0 + (i':Int))) % 26)).set O.toNat ((b2 + (0 + (i':Int)) / 26) % 26)).length = bs.length:=by rw [List.length_set,List.length_set]
    walk_at "r"
    dsimp only
    rw [e1]
    generalize hBB:(bs.set a.toNat ((b1 + (0 + (i':Int))) % 26)).set O.toNat ((b2 + (0 + (i':Int)) / 26) % 26) = BB at hbb hbl2
    refine ⟨by rw [List.length_map,hbl2]; exact y3 (by omega),?_⟩
    refine U4 (f:=fun (b:Int)=>.str ⟨#[(P1 iI.cps.toList b).getD 0]⟩) BB [] (fun b hb' K R kk=>?_) ?_
    ·obtain ⟨ch,hch⟩:=cu (hbb b hb').1 (hbb b hb').2
     rw [hch] at kk
     walk_at "r"
     refine Br.yes rfl ?_
     walk_at "r"
     refine ⟨aH,ch,hch,rfl,kk⟩
    ·have e2:BB.map (fun (b:Int)=>D.str ⟨#[(P1 iI.cps.toList b).getD 0]⟩) = (BB.map fun (b:Int)=>(⟨#[(P1 iI.cps.toList b).getD 0]⟩:Str)).map D.str:=by rw [List.map_map]; rfl
     have e3:((BB.map fun (b:Int)=>(⟨#[(P1 iI.cps.toList b).getD 0]⟩:Str)).map (·.length)).sum = BB.length:=by
      clear hBB e1 hbb hbl2 e2
      induction BB with
      | nil=>rfl
      | cons b B ih=>rw [List.map_cons,List.map_cons,List.sum_cons,ih,List.length_cons]; show 1 + B.length = _; omega
     rw [List.nil_append]
     refine ⟨"",_,BB.map fun (b:Int)=>(⟨#[(P1 iI.cps.toList b).getD 0]⟩:Str),rfl,rfl,e2,?_,?_⟩
     ·rw [e3,List.length_map]
      show BB.length + BB.length * 0 <= _
      omega
     ·have e4:(Txt.join "" (BB.map fun (b:Int)=>(⟨#[(P1 iI.cps.toList b).getD 0]⟩:Str))).length <= 8:=by
       have:=size_glued "" (BB.map fun (b:Int)=>(⟨#[(P1 iI.cps.toList b).getD 0]⟩:Str))
       unfold Txt.join
       rw [this,e3]
       show BB.length + _ * 0 <= 8
       omega
      generalize hJ:Txt.join "" (BB.map fun (b:Int)=>(⟨#[(P1 iI.cps.toList b).getD 0]⟩:Str)) = J at e4
      obtain ⟨ch,hch⟩:=cu f0 f1
      walk_at "r"
      refine ⟨aH,ch,hch,?_⟩
      walk_at "r"
      refine ⟨.inl ⟨by omega,by omega⟩,?_⟩
      have p0:=Int.emod_nonneg (0 + (i':Int)) (show (2:Int) ≠ 0 by decide)
      have p1:=Int.emod_lt_of_pos (0 + (i':Int)) (show (0:Int) < 2 by decide)
      have L01:L = 0 \/ L = 1:=by omega
      have n0:0 <= L * ((0 + (i':Int)) % 2) /\ L * ((0 + (i':Int)) % 2) <= 1:=by rcases L01 with rfl | rfl <;> omega
      walk_at "r"
      refine ⟨xq rfl n0.1 (by omega),?_⟩
      have ml:=EL (z:=⟨#[ch]⟩) rfl n0.1 n0.2
      walk_at "r"
      refine ⟨by rw [sizeLine_eq]; omega,?_⟩
      walk_at "r"
      refine ⟨by rw [List.length_map]; exact y3 (by omega),?_⟩
      refine ⟨xs ++ [J ++ Txt.mul ⟨#[ch]⟩ (L * ((0 + (i':Int)) % 2))],some (.int (0 + (i':Int))),some (.lst (BB.map D.int)),?_,?_⟩
      ·unfold gC
       rw [List.map_append]
       rfl
      ·have en:dn bs a O b1 b2 f L i' = J ++ Txt.mul ⟨#[ch]⟩ (L * ((0 + (i':Int)) % 2)):=by
        unfold dn dO
        rw [hBB]
        have ef:bJ f = ch:=by unfold bJ; rw [hch]; rfl
        rw [ef]
        exact congrArg (· ++ _) hJ
       rw [List.range_succ,List.map_append,<- hxs,List.map_singleton,en]
   ·rintro ρ ⟨xs,v10,v11,rfl,hxs⟩
    rw [x4,List.length_map,List.length_range] at hxs
    have hxl:xs.length = m.toNat:=by rw [hxs,List.length_map,List.length_range]
    refine names4 (by omega) hm1 hm2 (by omega) (by omega) ?_ (fun x hx=>?_) q
    ·rw [hxs]
     exact N9 _ _ fun i j hi hj=>ur (by omega) (by omega) lg0 lg1 a0 (by omega) o0 (by omega) ao hb
    ·rw [hxs] at hx
     obtain ⟨i,hi,rfl⟩:=List.mem_map.mp hx
     exact uI lg0 lg1 f0 f1 hb (by omega) (by omega)
theorem iL {Q:List D -> Prop} {ρ0:Ev} {xs:List Int} {z:Int} (q:Q ((xs.map fun x=>z + x).map D.int)) {te:TU} (h:∀ x ∈ xs,∀ (K:D -> Prop) (R:Prop),K (.int (z + x)) -> g1 0 (.int x) ρ0 fun ρ1=>bT ρ1 fun b=>Br b (te ρ1 K) R):kd (g1 0) bT te ρ0 (xs.map D.int) [] Q:=by
 refine U4 (f:=fun x=>.int (z + x)) xs [] h ?_
 rw [List.nil_append]
 rwa [List.map_map] at q
def Up (b:Int) (xs:List Int):Prop:=xs.Pairwise (· < ·) /\ ∀ x ∈ xs,1 <= x /\ x <= b
theorem ee {xs:List Int} {b:Int} (h:Up b xs) (h0:0 < xs.length):∃ l,l ∈ xs /\ (∀ x ∈ xs,x <= l) /\ P1 (xs.map D.int) (-1) = some (.int l):=by
 refine ⟨xs[xs.length - 1],List.getElem_mem (by omega),fun x hx=>?_,?_⟩
 ·obtain ⟨i,hi,rfl⟩:=List.getElem_of_mem hx
  by_cases e:i = xs.length - 1
  ·subst e; exact Int.le_refl _
  ·exact Int.le_of_lt (List.pairwise_iff_getElem.mp h.1 i (xs.length - 1) hi (by omega) (by omega))
 ·unfold P1 kc
  have h1:¬ (0:Int) <= -1:=by decide
  have h2:-((xs.map D.int).length:Int) <= -1:=by rw [List.length_map]; omega
  have h3:((-1:Int) + ((xs.map D.int).length:Int)).toNat = xs.length - 1:=by rw [List.length_map]; omega
  rw [if_neg h1,if_pos h2,h3]
  show (xs.map D.int)[xs.length - 1]? = _
  rw [List.getElem?_map,List.getElem?_eq_getElem (by omega)]
  rfl
theorem Up.mono {xs:List Int} {b b':Int} (h:Up b xs) (hb:b <= b'):Up b' xs:=⟨h.1,fun x hx=>⟨(h.2 x hx).1,by have:=(h.2 x hx).2; omega⟩⟩
theorem Up.snoc {xs:List Int} {b l u:Int} (h:Up b xs) (hm:l ∈ xs) (hl:∀ x ∈ xs,x <= l) (u0:1 <= u) (u1:u < 10 ^ 59):Up (b + 10 ^ 59) (xs ++ [l + u]):=by
 refine ⟨List.pairwise_append.mpr ⟨h.1,List.pairwise_singleton _ _,fun x hx y hy=>?_⟩,fun x hx=>?_⟩
 ·rw [List.mem_singleton.mp hy]
  have:=hl x hx
  omega
 ·have:=h.2 l hm
  rcases List.mem_append.mp hx with w | w
  ·have:=h.2 x w; omega
  ·rw [List.mem_singleton.mp w]; omega
theorem Up.lift {xs:List Int} {b l z:Int} (h:Up b xs) (hm:l ∈ xs) (hl:∀ x ∈ xs,x <= l) (hb:b <= 10 ^ 60 - 1) (hz:z = 10 ^ 60 - 1 - l):Up (10 ^ 60 - 1) (xs.map fun x=>z + x):=by
 refine ⟨List.pairwise_map.mpr (h.1.imp fun h=>by omega),fun y hy=>?_⟩
 obtain ⟨x,hx,rfl⟩:=List.mem_map.mp hy
 have:=h.2 l hm
 have:=h.2 x hx
 have:=hl x hx
 omega
noncomputable def steps (m:Nat) (xs ys:List Int):List Pr:=(List.range m).map fun (k:Nat)=>(xs.getD k 0,ys.getD (m - 1 - k) 0)
theorem wL {m:Nat} {xs ys:List Int} (hx:xs.length = m) (hy:ys.length = m) (h1:1 <= m) (h5:m <= 5) (ux:Up (10 ^ 60 - 1) xs) (uy:Up (10 ^ 60 - 1) ys):gh (steps m xs ys):=by
 have gx:∀ k,k < m -> xs.getD k 0 ∈ xs:=fun k hk=>by rw [List.getD_eq_getElem?_getD,List.getElem?_eq_getElem (by omega)]; exact List.getElem_mem _
 have gy:∀ k,k < m -> ys.getD k 0 ∈ ys:=fun k hk=>by rw [List.getD_eq_getElem?_getD,List.getElem?_eq_getElem (by omega)]; exact List.getElem_mem _
 have lx:∀ i j,i < j -> j < m -> xs.getD i 0 < xs.getD j 0:=fun i j hij hj=>by
  rw [List.getD_eq_getElem?_getD,List.getD_eq_getElem?_getD,List.getElem?_eq_getElem (by omega),List.getElem?_eq_getElem (by omega)]
  exact List.pairwise_iff_getElem.mp ux.1 i j (by omega) (by omega) hij
 have ly:∀ i j,i < j -> j < m -> ys.getD i 0 < ys.getD j 0:=fun i j hij hj=>by
  rw [List.getD_eq_getElem?_getD,List.getD_eq_getElem?_getD,List.getElem?_eq_getElem (by omega),List.getElem?_eq_getElem (by omega)]
  exact List.pairwise_iff_getElem.mp uy.1 i j (by omega) (by omega) hij
 unfold steps
 refine ⟨by rw [List.length_map,List.length_range]; exact h1,by rw [List.length_map,List.length_range]; exact h5,fun p hp=>?_,?_⟩
 ·obtain ⟨k,hk,rfl⟩:=List.mem_map.mp hp
  have hk:=List.mem_range.mp hk
  have a:=ux.2 _ (gx k hk)
  have b:=uy.2 _ (gy (m - 1 - k) (by omega))
  exact ⟨a.1,by have:=a.2; omega,b.1,by have:=b.2; omega⟩
 ·rw [List.pairwise_map]
  refine List.Pairwise.imp_of_mem ?_ (List.pairwise_lt_range (n:=m))
  intro i j hi hj hij
  have hi:=List.mem_range.mp hi
  have hj:=List.mem_range.mp hj
  exact ⟨lx i j hij hj,ly _ _ (by omega) (by omega)⟩
theorem rf {Q:D -> D -> Prop} {c d k:Int} {m:Int} {xs ys:List Int} {v:Option D} (hx:(xs.length:Int) = m) (hy:(ys.length:Int) = m) (h1:1 <= m) (h5:m <= 5) (ux:Up (10 ^ 60 - 1) xs) (uy:Up (10 ^ 60 - 1) ys) (q:∀ ps,gh ps -> Q (cm ps) (feed c d k)):nV (EM Q) [some (feed c d k),some (.int m),some (nums xs),some (nums ys),v]:=by
 walk_at "r"
 refine ⟨⟨by omega,by omega⟩,?_⟩
 refine ⟨by rw [x4,List.length_map,List.length_range]; exact y3 (by omega),?_⟩
 refine U4 (f:=fun (k:Nat)=>.tup [.int (xs.getD k 0),.int (ys.getD (m.toNat - 1 - k) 0)]) (List.range m.toNat) [] (fun k hk K R kk=>?_) ?_
 ·have hk:=List.mem_range.mp hk
  have a1:P1 (xs.map D.int) (0 + (k:Int)) = some (.int (xs.getD k 0)):=by
   obtain ⟨x,_,e1,e2⟩:=K3 (f:=D.int) (xs:=xs) (i:=0 + (k:Int)) (by omega) (by omega)
   rw [e2]
   have e3:(0 + (k:Int)).toNat = k:=by omega
   rw [e3] at e1
   rw [List.getD_eq_getElem?_getD,e1]; rfl
  have a2:P1 (ys.map D.int) (m - 1 - (0 + (k:Int))) = some (.int (ys.getD (m.toNat - 1 - k) 0)):=by
   obtain ⟨x,_,e1,e2⟩:=K3 (f:=D.int) (xs:=ys) (i:=m - 1 - (0 + (k:Int))) (by omega) (by omega)
   rw [e2]
   have e3:(m - 1 - (0 + (k:Int))).toNat = m.toNat - 1 - k:=by omega
   rw [e3] at e1
   rw [List.getD_eq_getElem?_getD,e1]; rfl
  walk_at "r"
  refine Br.yes rfl ?_
  walk_at "r"
  refine ⟨_,a1,?_⟩
  walk_at "r"
  refine ⟨_,a2,?_⟩
  walk_at "r"
  exact kk
 ·walk_at "r"
  have im:∀ l:List Nat,y8 (l.map fun (k:Nat)=>D.tup [.int (xs.getD k 0),.int (ys.getD (m.toNat - 1 - k) 0)]) = true:=fun l=>T1 fun x hx=>by
   obtain ⟨k,_,rfl⟩:=List.mem_map.mp hx
   rfl
  refine ⟨im _,?_⟩
  have e:(List.range m.toNat).map (fun (k:Nat)=>D.tup [.int (xs.getD k 0),.int (ys.getD (m.toNat - 1 - k) 0)]) = (steps m.toNat xs ys).map pr:=by unfold steps; rw [List.map_map]; rfl
  rw [List.nil_append,e]
  exact q _ (wL (by omega) (by omega) (by omega) (by omega) ux uy)
theorem qk {Q:D -> D -> Prop} {c d k:Int} {m:Int} {xs ys:List Int} {v:Option D} (hx:(xs.length:Int) = m) (hy:(ys.length:Int) = m) (h1:1 <= m) (h5:m <= 5) (k0:0 <= k) (k1:k <= 10 ^ 8) (ux:Up (10 ^ 60 - 1) xs) (uy:Up (10 ^ 60 - 1) ys) (q:∀ ps d',gh ps -> Q (cm ps) (feed c d' (k + 1))):nE (EM Q) [some (feed c d k),some (.int m),some (nums xs),some (nums ys),v]:=by
 walk_at "r"
 refine ⟨c,d,k,4,rfl,k0,by omega,by decide,by decide,fun r d1 r0 r1=>?_⟩
 walk_at "r"
 refine ⟨fun e=>?_,fun e=>rf hx hy h1 h5 ux uy fun cv hc=>q cv _ hc⟩
 walk_at "r"
 obtain ⟨l,hlm,hlx,hl⟩:=ee uy (by omega)
 refine ⟨by rw [List.length_map]; exact y3 (by omega),?_⟩
 refine iL (z:=10 ^ (Int.toNat 60) - 1 - l) ?_ fun x hx K R kk=>?_
 ·walk_at "r"
  exact rf hx (by rw [List.length_map]; exact hy) h1 h5 ux (uy.lift hlm hlx (Int.le_refl _) rfl) fun cv hc=>q cv _ hc
 ·walk_at "r"
  refine Br.yes rfl ?_
  walk_at "r"
  refine ⟨_,hl,?_⟩
  walk_at "r"
  exact kk
theorem zW {Q:D -> D -> Prop} {c d k:Int} {m:Int} {xs ys:List Int} {v:Option D} (hx:(xs.length:Int) = m) (hy:(ys.length:Int) = m) (h1:1 <= m) (h5:m <= 5) (k0:0 <= k) (k1:k <= 10 ^ 7) (ux:Up (10 ^ 60 - 1) xs) (uy:Up (10 ^ 60 - 1) ys) (q:∀ ps d',gh ps -> Q (cm ps) (feed c d' (k + 1 + 1))):nF (EM Q) [some (feed c d k),some (.int m),some (nums xs),some (nums ys),v]:=by
 walk_at "r"
 refine ⟨c,d,k,4,rfl,k0,by omega,by decide,by decide,fun r d1 r0 r1=>?_⟩
 walk_at "r"
 refine ⟨fun e=>?_,fun e=>qk hx hy h1 h5 (by omega) (by omega) ux uy fun cv d' hc=>q cv d' hc⟩
 walk_at "r"
 obtain ⟨l,hlm,hlx,hl⟩:=ee ux (by omega)
 refine ⟨by rw [List.length_map]; exact y3 (by omega),?_⟩
 refine iL (z:=10 ^ (Int.toNat 60) - 1 - l) ?_ fun x hx K R kk=>?_
 ·walk_at "r"
  exact qk (by rw [List.length_map]; exact hx) hy h1 h5 (by omega) (by omega) (ux.lift hlm hlx (Int.le_refl _) rfl) uy fun cv d' hc=>q cv d' hc
 ·walk_at "r"
  refine Br.yes rfl ?_
  walk_at "r"
  refine ⟨_,hl,?_⟩
  walk_at "r"
  exact kk
theorem Am (ds:List D) (Q:D -> D -> Prop) (h:af ds Q):yB (EM Q) (i5 5 ds):=by
 obtain ⟨c,d,k,rfl,h0,h1,q⟩:=h
 walk_at "r"
 refine ⟨c,d,k,5,rfl,h0,by omega,by decide,by decide,fun r d1 r0 r1=>?_⟩
 walk_at "r"
 refine ⟨c,d1,k + 1,rfl,by omega,by omega,fun x d2 k2 x0 x1 k20 k21=>?_⟩
 walk_at "r"
 refine ⟨c,d2,k2,rfl,by omega,by omega,fun y d3 k3 y0 y1 k30 k31=>?_⟩
 walk_at "r"
 refine ⟨⟨by omega,by omega⟩,?_⟩
 walk_at "w"
 refine .of ⟨fun i ρ=>∃ d' k' xs ys v,ρ = [some (feed c d' k'),some (.int (1 + r)),some (nums xs),some (nums ys),v] /\ xs.length = i + 1 /\ ys.length = i + 1 /\ k <= k' /\ k' <= k + 7 + 6 * i /\ Up ((i + 1:Nat) * 10 ^ 59) xs /\ Up ((i + 1:Nat) * 10 ^ 59) ys,⟨_,_,[x],[y],_,rfl,rfl,rfl,by omega,by omega,⟨List.pairwise_singleton _ _,fun v hv=>by rw [List.mem_singleton.mp hv]; omega⟩,⟨List.pairwise_singleton _ _,fun v hv=>by rw [List.mem_singleton.mp hv]; omega⟩⟩,?_,?_⟩
 ·rintro i e ρ he ⟨d',k',xs,ys,v,rfl,lx,ly,k4,k5,ux,uy⟩
  have hi:i < 4:=by
   have:=(List.getElem?_eq_some_iff.mp he).1
   rw [x4,List.length_map,List.length_range] at this
   omega
  obtain ⟨lx',lxm,lxl,hlx⟩:=ee ux (by omega)
  obtain ⟨ly',lym,lyl,hly⟩:=ee uy (by omega)
  walk_at "r"
  refine ⟨_,hlx,?_⟩
  walk_at "r"
  refine ⟨c,d',k',rfl,by omega,by omega,fun u d6 k6 u0 u1 k60 k61=>?_⟩
  walk_at "r"
  refine ⟨by rw [List.length_map]; exact y3 (by omega),?_⟩
  walk_at "r"
  refine ⟨_,hly,?_⟩
  walk_at "r"
  refine ⟨c,d6,k6,rfl,by omega,by omega,fun u2 d7 k7 u20 u21 k70 k71=>?_⟩
  walk_at "r"
  refine ⟨by rw [List.length_map]; exact y3 (by omega),?_⟩
  refine ⟨d7,k7,xs ++ [lx' + u],ys ++ [ly' + u2],some e,?_,by simp [lx],by simp [ly],by omega,by omega,(ux.snoc lxm lxl u0 u1).mono (by omega),(uy.snoc lym lyl u20 u21).mono (by omega)⟩
  unfold nums
  rw [List.map_append,List.map_append]
  rfl
 ·rintro ρ ⟨d',k',xs,ys,v,rfl,lx,ly,k4,k5,ux,uy⟩
  rw [x4,List.length_map,List.length_range] at lx ly k5 ux uy
  exact zW (by omega) (by omega) (by omega) (by omega) (by omega) (by omega) (ux.mono (by omega)) (uy.mono (by omega)) fun cv d'' hc=>q cv d'' _ hc (by omega) (by omega)
def HP (gs:List Rw) (es:List Nat) (kvs:List (Key × D)):Prop:=(∀ (j:Nat) (g:Rw) (e:Nat),gs[j]? = some g -> es[j]? = some e -> C5 kvs (.inr g.1) = some (.int e)) /\ kvs.length <= gs.length
theorem xK {T:W9} {d:D} {u:Option Str} {en:Nat} {xs:List Str} {m c d' k' z:Int} {gs:List Rw} {kvs:List (Key × D)} {x:Str} {v7 v8:Option D} (h1:u = none -> en = 1) (h2:∀ y,u = some y -> ∃ f:Nat,C5 kvs (.inr y) = some (.int f) /\ en = f + 1) (hxi:P1 (xs.map D.str) z = some (.str x)) (k0:0 <= k') (k1:k' <= 10 ^ 5) (hk:kvs.length <= 16) (hl:gs.length <= 16)
  (hT:∀ (cv:List Pr) (n1 n2 d2 k2:Int),gh cv -> 0 <= n1 /\ n1 < 10 ^ 60 -> 0 <= n2 /\ n2 < 10 ^ 60 -> T.nx [some d,some (gC xs),some (.int m),some (.lst (gs.map row ++ [row (x,[uD u,cm cv,.int n1,.int n2])])),some (.dic (putD kvs (.inr x) (.int en))),some (.int z),some (feed c d2 k2),v7,v8,some (uD u)]) :
  O4 T [some d,some (gC xs),some (.int m),some (.lst (gs.map row)),some (.dic kvs),some (.int z),some (feed c d' k'),v7,v8,some (uD u)]:=by
 have rest:∀ n:Int,n = en -> V0 T [some d,some (gC xs),some (.int m),some (.lst (gs.map row)),some (.dic (putD kvs (.inr x) (.int n))),some (.int z),some (feed c d' k'),v7,v8,some (uD u)]:=fun n hn=>by
  subst hn
  have iu:D3 (uD u) = true:=by cases u <;> rfl
  generalize hU:uD u = U at hT iu
  walk_at "r"
  refine ⟨_,hxi,?_⟩
  walk_at "r"
  refine ⟨iu,?_⟩
  walk_at "r"
  refine ⟨c,d',k',rfl,k0,by omega,fun cv d2 k2 ic k20 k21=>?_⟩
  walk_at "r"
  refine ⟨c,d2,k2,rfl,by omega,by omega,fun n1 d3 k3 n10 n11 k30 k31=>?_⟩
  walk_at "r"
  refine ⟨c,d3,k3,rfl,by omega,by omega,fun n2 d4 k4 n20 n21 k40 k41=>?_⟩
  walk_at "r"
  refine ⟨by rw [List.length_map]; exact y3 (by omega),?_⟩
  exact hT cv n1 n2 d4 k4 ic ⟨n10,n11⟩ ⟨n20,n21⟩
 have put:∀ n:Int,n = en -> ∃ k,cG (.str x) = some k /\ kvs.length < sizeLine /\ V0 T [some d,some (gC xs),some (.int m),some (.lst (gs.map row)),some (.dic (putD kvs k (.int n))),some (.int z),some (feed c d' k'),v7,v8,some (uD u)]:=fun n hn=>
  ⟨.inr x,rfl,y3 (by omega),rest n hn⟩
 cases u with
 | none=>
  have:=h1 rfl
  walk_at "r"
  refine ⟨_,hxi,?_⟩
  walk_at "w"
  exact put _ (by omega)
 | some y=>
  obtain ⟨f,hf,ef⟩:=h2 y rfl
  have hn:(C5 kvs (.inr y)).getD (.int 0) = .int f:=by rw [hf]; rfl
  walk_at "r"
  rw [hn]
  walk_at "r"
  refine ⟨_,hxi,?_⟩
  walk_at "w"
  exact put _ (by omega)
theorem uY (ds:List D) (Q:D -> Prop) (h:R3 ds Q):rL (EP Q) (i5 10 ds):=by
 obtain ⟨d,ns,xs,m,rfl,hs,hm1,hm2,hm3,hnd,q⟩:=h
 walk_at "r"
 refine ⟨⟨by omega,by omega⟩,?_⟩
 walk_at "w"
 refine .of ⟨fun i ρ=>∃ (gs:List Rw) (es:List Nat) (kvs:List (Key × D)) (v5 v6 v7 v8 v9:Option D),ρ = [some d,some (gC xs),some (.int m),some (.lst (gs.map row)),some (.dic kvs),v5,v6,v7,v8,v9] /\ gs.length = i /\ yX xs gs es /\ HP gs es kvs,⟨[],[],[],_,_,_,_,_,rfl,rfl,⟨rfl,fun i g hg=>(by simp at hg)⟩,⟨fun j g e hg=>(by simp at hg),Nat.le_refl _⟩⟩,?_,?_⟩
 ·rintro i e ρ he ⟨gs,es,kvs,v5,v6,v7,v8,v9,rfl,hl,gk,dp⟩
  have hi:(i:Int) < m:=by
   have:=(List.getElem?_eq_some_iff.mp he).1
   rw [x4,List.length_map,List.length_range] at this
   omega
  rw [x4] at he
  obtain ⟨i',ei',rfl⟩:=get_map he
  have ei:i' = i:=by
   rw [List.getElem?_range (by omega)] at ei'
   cases ei'; rfl
  subst ei
  obtain ⟨x,_,hxg,hxi⟩:=K3 (f:=D.str) (xs:=xs) (i:=0 + (i':Int)) (by omega) (by omega)
  have e0:(0 + (i':Int)).toNat = i':=by omega
  rw [e0] at hxg
  have known:∀ g ∈ gs,∃ (j:Nat) (f:Nat),gs[j]? = some g /\ es[j]? = some f /\ 1 <= f /\ C5 kvs (.inr g.1) = some (.int f):=fun g hg=>by
   obtain ⟨j,hj⟩:=List.getElem?_of_mem hg
   obtain ⟨u,e,cv,n1,n2,a⟩:=gk.2 j g hj
   exact ⟨j,e,hj,a.dep,a.ge,dp.1 j g e hj a.dep⟩
  have hkl:kvs.length <= 16:=by have:=dp.2; omega
  walk_at "r"
  refine ⟨d,ns,_,rfl,hs,by omega,by omega,fun c=>?_⟩
  walk_at "r"
  refine ⟨by rw [List.length_map]; exact y3 (by omega),?_⟩
  refine cx (f:=fun g:Rw=>.str g.1) (fun g=>match C5 kvs (.inr g.1) with | some (.int n)=>decide (n < 8) | _=>false) gs [] (fun g hg K R k1 k2=>?_) ?_
  ·obtain ⟨_,n,_,_,_,hn⟩:=known g hg
   simp only [hn] at k1 k2
   walk_at "r"
   refine ⟨.inr g.1,.int n,rfl,hn,?_⟩
   walk_at "r"
   refine ⟨fun e=>?_,fun e=>k2 e⟩
   walk_at "r"
   exact k1 e
  ·generalize hus:(gs.filter _) = us
   have lus:us.length <= gs.length:=by rw [<- hus]; exact List.length_filter_le _ _
   have mus:∀ g ∈ us,∃ (j:Nat) (f:Nat),gs[j]? = some g /\ es[j]? = some f /\ 1 <= f /\ f < 8 /\ C5 kvs (.inr g.1) = some (.int f):=fun g hg=>by
    rw [<- hus] at hg
    obtain ⟨m1,m2⟩:=List.mem_filter.mp hg
    obtain ⟨j,f,a1,a2,a3,a4⟩:=known g m1
    rw [a4] at m2
    have m3:=of_decide_eq_true m2
    exact ⟨j,f,a1,a2,a3,by omega,a4⟩
   have eus:([] ++ us.map fun g:Rw=>D.str g.1) = us.map fun g:Rw=>D.str g.1:=rfl
   rw [eus]
   walk_at "r"
   refine ⟨c,c,_,4,rfl,by omega,by omega,by decide,by decide,fun w d1 w0 w1=>?_⟩
   have fin:∀ (u:Option Str) (en:Nat) (d2 k2:Int),(u = none -> en = 1) -> (∀ y,u = some y -> ∃ (j f:Nat) (gj:Rw),gs[j]? = some gj /\ gj.1 = y /\ es[j]? = some f /\ en = f + 1) -> 1 <= en -> en <= 8 -> 0 <= k2 -> k2 <= 10 ^ 5 -> ∀ T:W9,T.nx = (fun ρ=>∃ (gs:List Rw) (es:List Nat) (kvs:List (Key × D)) (v5 v6 v7 v8 v9:Option D),ρ = [some d,some (gC xs),some (.int m),some (.lst (gs.map row)),some (.dic kvs),v5,v6,v7,v8,v9] /\ gs.length = i' + 1 /\ yX xs gs es /\ HP gs es kvs) ->
     O4 T [some d,some (gC xs),some (.int m),some (.lst (gs.map row)),some (.dic kvs),some (.int (0 + (i':Int))),some (feed c d2 k2),some (.lst (us.map fun g:Rw=>D.str g.1)),some (.int w),some (uD u)]:=fun u en d2 k2 hu1 hu2 en1 en2 k0 k1 T hT=>
    xK hu1 (fun y hy=>let ⟨j,f,gj,b1,b2,b3,b4⟩:=hu2 y hy; ⟨f,by rw [<- b2]; exact dp.1 j gj f b1 b3,b4⟩) hxi k0 k1 hkl (by omega) fun cv n1 n2 d3 k3 ic r1 r2=>by
    rw [hT]
    refine ⟨gs ++ [(x,[uD u,cm cv,.int n1,.int n2])],es ++ [en],putD kvs (.inr x) (.int en),some (.int (0 + (i':Int))),some (feed c d3 k3),some (.lst (us.map fun g:Rw=>D.str g.1)),some (.int w),some (uD u),?_,by simp [hl],?_,fun j g e hj hej=>?_,?_⟩
    ·rw [List.map_append]; rfl
    ·refine gk.snoc (u:=u) (cv:=cv) (n1:=n1) (n2:=n2) ⟨by rw [hl]; exact hxg,rfl,ic,r1,r2,?_,hu1,fun y hy=>?_,en1,en2⟩
     ·rw [<- gk.1,List.getElem?_append_right (Nat.le_refl _),Nat.sub_self]; rfl
     ·obtain ⟨j,f,gj,b1,b2,b3,b4⟩:=hu2 y hy
      have bl:=(List.getElem?_eq_some_iff.mp b1).1
      exact ⟨j,f,gj,bl,by rw [List.getElem?_append_left bl]; exact b1,b2,by rw [List.getElem?_append_left (by rw [gk.1]; exact bl)]; exact b3,b4⟩
    ·rw [fW]
     by_cases hjl:j < gs.length
     ·rw [List.getElem?_append_left hjl] at hj
      rw [List.getElem?_append_left (by rw [gk.1]; exact hjl)] at hej
      obtain ⟨_,_,_,_,_,a⟩:=gk.2 j g hj
      have ne:¬ ((Sum.inr g.1:Key) = .inr x):=fun z=>by
       have z2:g.1 = x:=Sum.inr.inj z
       have:=(List.getElem?_inj (i:=j) (j:=i') (by omega) hnd).mp (by rw [a.name,hxg,z2])
       omega
      rw [if_neg ne]
      exact dp.1 j g e hj hej
     ·have hj2:=(List.getElem?_eq_some_iff.mp hj).1
      rw [List.length_append,List.length_singleton] at hj2
      have ej:j = gs.length:=by omega
      subst ej
      rw [List.getElem?_append_right (Nat.le_refl _),Nat.sub_self] at hj
      rw [<- gk.1,List.getElem?_append_right (Nat.le_refl _),Nat.sub_self] at hej
      cases hj
      cases hej
      exact if_pos rfl
    ·have:=wd kvs (.inr x) (.int en)
     have:=dp.2
     rw [List.length_append,List.length_singleton]
     omega
   have fin0:∀ (d2 k2:Int),0 <= k2 -> k2 <= 10 ^ 5 -> ∀ T:W9,T.nx = _ -> O4 T _:=fun d2 k2=>fin none 1 d2 k2 (fun _=>rfl) (fun y z=>nomatch z) (Nat.le_refl _) (by decide)
   walk_at "r"
   refine ⟨fun e1=>?a,fun e1=>Br.no rfl (fin0 _ _ (by omega) (by omega) _ rfl)⟩
   case' a=>
    walk_at "r"
    refine ⟨fun e2=>?t,fun e2=>fin0 _ _ (by omega) (by omega) _ rfl⟩
   have u0:0 < us.length:=by
    have e3:=of_decide_eq_true e2
    rw [List.length_map] at e3
    omega
   have wp:=of_decide_eq_true e1
   obtain ⟨la,hlm,hla⟩:=oi (f:=fun g:Rw=>D.str g.1) (xs:=us) u0
   walk_at "r"
   refine ⟨_,hla,?_⟩
   walk_at "r"
   refine ⟨_,hla,?_⟩
   walk_at "r"
   refine ⟨c,d1,_,_,rfl,by omega,by omega,by rw [List.length_map]; omega,by rw [List.length_map]; omega,fun r2 d2 r20 r21=>?_⟩
   rw [List.length_map] at r21
   obtain ⟨gr,hgm,_,hgr⟩:=K3 (f:=fun g:Rw=>D.str g.1) (xs:=us) (i:=r2) r20 r21
   walk_at "r"
   refine ⟨_,hgr,?_⟩
   walk_at "r"
   have pick:∃ g ∈ us,P1 [D.str la.1,D.str la.1,D.str gr.1] (w - 1) = some (.str g.1):=by
    have:w = 1 \/ w = 2 \/ w = 3:=by omega
    rcases this with rfl | rfl | rfl
    ·exact ⟨_,hlm,rfl⟩
    ·exact ⟨_,hlm,rfl⟩
    ·exact ⟨_,hgm,rfl⟩
   obtain ⟨g,hgu,hy⟩:=pick
   obtain ⟨j,f,b1,b2,b3,b4,b5⟩:=mus g hgu
   refine ⟨_,hy,rfl,rfl,?_⟩
   exact fin (some g.1) (f + 1) d2 (100 * (2 + (0 + (i':Int))) + 1 + 1) (fun z=>nomatch z) (fun y z=>⟨j,f,g,b1,Option.some.inj z,b2,rfl⟩) (by omega) (by omega) (by omega) (by omega) _ rfl
 ·rintro ρ ⟨gs,es,kvs,v5,v6,v7,v8,v9,rfl,hl,gk,dp⟩
  walk_at "r"
  rw [x4,List.length_map,List.length_range] at hl
  exact q gs es (by omega) gk
theorem zU (ds:List D) (Q:D -> Prop) (h:Y4 ds Q):yd (EP Q) (i5 8 ds):=by
 obtain ⟨d,ns,xs,gs,rfl,hs,hx,hg0,hg,ig,q⟩:=h
 walk_at "r"
 refine ⟨⟨by rw [List.length_map]; omega,by rw [List.length_map]; omega⟩,?_⟩
 walk_at "w"
 refine .of ⟨fun i ρ=>∃ (ls:List Rw) (v4 v5 v6 v7:Option D),ρ = [some d,some (gC xs),some (.lst (gs.map row)),some (.lst (ls.map row)),v4,v5,v6,v7] /\ ls.length = i /\ (∀ j l,ls[j]? = some l -> ∃ y ps n b,Ee xs gs j l y ps n b),⟨[],_,_,_,_,rfl,rfl,fun j l hj=>(by simp at hj)⟩,?_,?_⟩
 ·rintro i e ρ he ⟨ls,v4,v5,v6,v7,rfl,hl,il⟩
  have hi:i < xs.length:=by
   have:=(List.getElem?_eq_some_iff.mp he).1
   rw [x4,List.length_map,List.length_range,List.length_map] at this
   omega
  rw [x4] at he
  obtain ⟨i',ei',rfl⟩:=get_map he
  have ei:i' = i:=by
   rw [List.getElem?_range (by rw [List.length_map]; omega)] at ei'
   cases ei'; rfl
  subst ei
  obtain ⟨x,_,hxg,hxi⟩:=K3 (f:=D.str) (xs:=xs) (i:=0 + (i':Int)) (by omega) (by omega)
  have e0:(0 + (i':Int)).toNat = i':=by omega
  rw [e0] at hxg
  walk_at "r"
  refine ⟨d,ns,_,rfl,hs,by omega,by omega,fun c=>?_⟩
  walk_at "r"
  refine ⟨c,c,_,_,rfl,by omega,by omega,by rw [List.length_map]; omega,by rw [List.length_map]; omega,fun r d1 r0 r1=>?_⟩
  rw [List.length_map] at r1
  obtain ⟨gr,hgr,_,hgi⟩:=K3 (f:=row) (xs:=gs) (i:=r) r0 r1
  walk_at "r"
  refine ⟨_,hgi,?_⟩
  walk_at "r"
  refine ⟨c,d1,_,5,rfl,by omega,by omega,by decide,by decide,fun r2 d2 r20 r21=>?_⟩
  walk_at "r"
  refine ⟨⟨by omega,by omega⟩,?_⟩
  refine ⟨by rw [x4,List.length_map,List.length_range]; exact y3 (by omega),?_⟩
  walk_at "r"
  refine .of ⟨fun n acc ρ=>∃ (d' k':Int) (u7:Option D) (ps:List Pr),ρ = [some d,some (gC xs),some (.lst (gs.map row)),some (.lst (ls.map row)),some (.int (0 + (i':Int))),some (feed c d' k'),some (.str gr.1),u7] /\ 0 <= k' /\ k' <= 10 ^ 4 + 7 * n /\ acc = ps.map pr /\ ps.length = n /\ ∀ p ∈ ps,Cq p,⟨_,_,_,[],rfl,by omega,by omega,rfl,rfl,fun p hp=>(by cases hp)⟩,?_,?_⟩
  ·rintro n y acc ρ hy ⟨d',k',u7,ps,rfl,k0,k1,rfl,hpl,hps⟩
   have hn:n < 5:=by
    have:=(List.getElem?_eq_some_iff.mp hy).1
    rw [x4,List.length_map,List.length_range] at this
    omega
   walk_at "r"
   refine Br.yes rfl ?_
   walk_at "r"
   refine ⟨c,d',k',rfl,k0,by omega,fun b d3 k3 b0 b1 k30 k31=>?_⟩
   walk_at "r"
   refine ⟨c,d3,k3,rfl,by omega,by omega,fun b2 d4 k4 b20 b21 k40 k41=>?_⟩
   walk_at "r"
   refine ⟨d4,k4,_,ps ++ [(b,b2)],rfl,by omega,by omega,by rw [List.map_append]; rfl,by simp [hpl],fun p hp=>?_⟩
   rcases List.mem_append.mp hp with z | z
   ·exact hps p z
   ·rw [List.mem_singleton.mp z]; exact ⟨b0,b1,b20,b21⟩
  ·rintro acc ρ ⟨d',k',u7,ps,rfl,k0,k1,rfl,hpl,hps⟩
   rw [x4,List.length_map,List.length_range] at k1 hpl
   have ia:=X9 ps
   walk_at "r"
   refine ⟨ia,?_⟩
   walk_at "r"
   refine ⟨_,hxi,?_⟩
   walk_at "r"
   refine ⟨ia,?_⟩
   walk_at "r"
   refine ⟨c,d',k',rfl,k0,by omega,fun n1 d5 k5 n10 n11 k50 k51=>?_⟩
   walk_at "r"
   refine ⟨c,d5,k5,2,rfl,by omega,by omega,by decide,by decide,fun n2 d6 n20 n21=>?_⟩
   walk_at "r"
   refine ⟨by rw [List.length_map]; exact y3 (by omega),?_⟩
   refine ⟨ls ++ [(x,[.str gr.1,cm ps,.int n1,.bl (decide (n2 = 1))])],some (.int (0 + (i':Int))),some (feed c d6 (k5 + 1)),some (.str gr.1),some (cm ps),?_,by simp [hl],fun j l hj=>?_⟩
   ·rw [List.map_append]; rfl
   ·by_cases hjl:j < ls.length
    ·rw [List.getElem?_append_left hjl] at hj
     exact il j l hj
    ·have hj2:=(List.getElem?_eq_some_iff.mp hj).1
     rw [List.length_append,List.length_singleton] at hj2
     have ej:j = ls.length:=by omega
     subst ej
     rw [List.getElem?_append_right (Nat.le_refl _),Nat.sub_self] at hj
     cases hj
     exact ⟨gr.1,ps,n1,_,by rw [hl]; exact hxg,rfl,⟨gr,hgr,rfl⟩,by omega,hps,n10,n11⟩
 ·rintro ρ ⟨ls,v4,v5,v6,v7,rfl,hl,il⟩
  walk_at "r"
  rw [x4,List.length_map,List.length_range,List.length_map] at hl
  exact q ls ⟨by omega,il⟩
theorem zP (ds:List D) (Q:D -> Prop) (h:Z9 ds Q):wW { nx:=fun _=>Q .non,rt:=fun d _=>Q d } (i5 5 ds):=by
 obtain ⟨d,ns,rfl,hs,q⟩:=h
 walk_at "r"
 refine ⟨d,ns,0,rfl,hs,by decide,by decide,fun c=>?_⟩
 walk_at "r"
 refine ⟨c,c,100 * 0,2,rfl,by decide,by decide,by decide,by decide,fun r d1 r0 r1=>?_⟩
 have hr:r = 0 \/ r = 1:=by omega
 have pick:∃ m:Int,(m = 4 \/ m = 16) /\ P1 [D.int 4,D.int 16] r = some (.int m):=by
  rcases hr with rfl | rfl
  ·exact ⟨4,.inl rfl,rfl⟩
  ·exact ⟨16,.inr rfl,rfl⟩
 obtain ⟨m,hm,pm⟩:=pick
 walk_at "r"
 refine ⟨_,pm,?_⟩
 walk_at "r"
 refine ⟨c,d1,100 * 0 + 1,m,rfl,by decide,by decide,by omega,by omega,fun r2 d2 r20 r21=>?_⟩
 walk_at "r"
 refine ⟨d,ns,1,rfl,hs,by decide,by decide,fun c'=>?_⟩
 walk_at "r"
 refine ⟨c,d2,100 * 0 + 1 + 1,2,rfl,by decide,by decide,by decide,by decide,fun r3 d3 r30 r31=>?_⟩
 have hr3:r3 = 0 \/ r3 = 1:=by omega
 have pick3:∃ m:Int,(m = 6 \/ m = 25) /\ P1 [D.int 6,D.int 25] r3 = some (.int m):=by
  rcases hr3 with rfl | rfl
  ·exact ⟨6,.inl rfl,rfl⟩
  ·exact ⟨25,.inr rfl,rfl⟩
 obtain ⟨m3,hm3,pm3⟩:=pick3
 walk_at "r"
 refine ⟨_,pm3,?_⟩
 walk_at "r"
 refine ⟨c,d3,100 * 0 + 1 + 1 + 1,m3,rfl,by decide,by decide,by omega,by omega,fun r4 d4 r40 r41=>?_⟩
 walk_at "r"
 refine ⟨c',c',100 * 1,1 + r2 + r4,rfl,by decide,by decide,by omega,by omega,fun xs d5 k5 hx hnd hnm=>?_⟩
 walk_at "r"
 refine ⟨d,ns,xs,1 + r2,rfl,hs,by omega,by omega,by omega,hnd,fun gs es hg gk=>?_⟩
 walk_at "r"
 refine ⟨iW gk.y8,?_⟩
 walk_at "r"
 refine ⟨uP xs,?_⟩
 have cut:cutD (xs.map D.str) (some (1 + r2)) none = (xs.drop (1 + r2).toNat).map D.str:=by
  unfold cutD HT.D1
  simp only [List.length_map]
  have h1:¬ (1 + r2 < 0):=by omega
  simp only [h1,if_false]
  rw [<- List.map_drop,<- List.map_take]
  have h2:min (1 + r2).toNat xs.length = (1 + r2).toNat:=by omega
  simp [h2]
  try (rw [List.take_of_length_le (by simp)])
 rw [cut]
 walk_at "r"
 refine ⟨d,ns,xs.drop (1 + r2).toNat,gs,rfl,hs,by rw [List.length_drop]; omega,by omega,by omega,gk.y8,fun ls lk=>?_⟩
 walk_at "r"
 refine ⟨iW lk.y8,?_⟩
 walk_at "r"
 obtain ⟨b,hb,e⟩:=Gk gk lk (by omega) (by omega) (by omega) (by rw [List.length_drop]; omega) (by congr 1; omega) hnd hnm
 have:=q b hb
 rw [<- e] at this
 exact this
end My
namespace My
open PySem L2 L3
local macro_rules | `(tactic| walk_at "w")=>`(tactic| conv=>whnf)
local macro_rules | `(tactic| walk_at "a")=>`(tactic| first | refine ⟨rfl,?_⟩ | refine ⟨_,rfl,?_⟩ | refine Br.yes rfl ?_ | refine Br.no rfl ?_ | refine ⟨(show (0:Int) < _ from by decide),?_⟩ | refine ⟨(show aO _ _ from ⟨by decide,by decide⟩),?_⟩ | refine ⟨(show gU _ _ from ⟨by decide,by decide,by decide⟩),?_⟩ | refine ⟨(show U6 _ _ from .inr ⟨by decide,by decide⟩),?_⟩ | refine ⟨(show U6 _ _ from .inl ⟨by decide,by decide⟩),?_⟩ | refine ⟨_,_,_,rfl,rfl,rfl,?_⟩ | refine ⟨_,fq _ _,?_⟩ | refine ⟨_,mU _ _ _,?_⟩ | refine ⟨_,_,rfl,rfl,?_⟩)
local macro_rules | `(tactic| walk_at "r")=>`(tactic| ((repeat ((conv=>whnf); (walk_at "a"))); (try (conv=>whnf))))
theorem FP (g:Gd):dG (gD g) = g:=by
 obtain ⟨n,u,cv,de,wa⟩:=g
 show (⟨n,Ec (uD u),(cv.map pr).map yH,de,wa⟩:Gd) = _
 rw [ji]
 cases u <;> rfl
theorem D9.X4 {b:Bd} (h:D9 b):∀ (n i:Nat),b.gs.length - i = n -> My.X4 (b.gs.take i) ((b.gs.drop i).map gD) = none
 | 0,i,e=>by rw [List.drop_eq_nil_of_le (by omega)]; unfold My.X4; rfl
 | n + 1,i,e=>by
  have il:i < b.gs.length:=by omega
  have hi:=List.getElem?_eq_getElem il
  rw [List.drop_eq_getElem_cons il,List.map_cons]
  unfold My.X4
  rw [h.HI hi,FP]
  have et:b.gs.take (i + 1) = b.gs.take i ++ [b.gs[i]]:=by rw [List.take_add_one,hi]; rfl
  rw [<- et]
  exact h.X4 n (i + 1) (by omega)
theorem D9.W2 {b:Bd} (h:D9 b):∀ (n i:Nat),b.ls.length - i = n -> My.W2 ((b.gs.map gD).map R9) (((b.ls.take i).map lD).map R9) ((b.ls.drop i).map lD) = none
 | 0,i,e=>by rw [List.drop_eq_nil_of_le (by omega)]; unfold My.W2; rfl
 | n + 1,i,e=>by
  have il:i < b.ls.length:=by omega
  have hi:=List.getElem?_eq_getElem il
  rw [List.drop_eq_getElem_cons il,List.map_cons]
  unfold My.W2
  rw [h.GN hi]
  have et:((b.ls.take (i + 1)).map lD).map R9 = ((b.ls.take i).map lD).map R9 ++ [R9 (lD b.ls[i])]:=by rw [List.take_add_one,hi,List.map_append,List.map_append]; rfl
  rw [<- et]
  exact h.W2 n (i + 1) (by omega)
theorem D9.out {b:Bd} (h:D9 b):gz (bD b) = true:=by
 show (decide (1 <= (b.gs.map gD).length) && decide ((b.gs.map gD).length <= 16) && decide ((b.ls.map lD).length <= 24)) = true
 rw [List.length_map,List.length_map,decide_eq_true h.g1,decide_eq_true h.g16,decide_eq_true h.l24]; rfl
theorem D9.look {b:Bd} (h:D9 b):lb (bD b) = none:=by
 have e1:=h.X4 _ 0 rfl
 have e2:=h.W2 _ 0 rfl
 show (bif gz (bD b) then (match My.X4 [] (b.gs.map gD) with
  | some i=>some (("guard" : Str),(i:Int))
  | none=>match My.W2 ((b.gs.map gD).map R9) [] (b.ls.map lD) with
   | some i=>some (("load" : Str),(i:Int))
   | none=>none) else some (("board" : Str),(0:Int))) = none
 rw [h.out]
 have e1:My.X4 [] (b.gs.map gD) = none:=e1
 have e2:My.W2 ((b.gs.map gD).map R9) [] (b.ls.map lD) = none:=e2
 rw [e1,e2]; rfl
theorem kz {α:Type} {f:α -> D}:∀ {as:List α},(∀ a ∈ as,kn (f a) = true) -> gF (as.map f) = true
 | [],_=>rfl
 | a :: as,h=>by
  show (kn (f a) && gF (as.map f)) = true
  rw [h a List.mem_cons_self,kz fun x hx=>h x (List.mem_cons_of_mem _ hx)]; rfl
theorem D9.gF {b:Bd} (h:D9 b):My.gF (b.gs.map gD) = true /\ My.gF (b.ls.map lD) = true:=⟨kz fun g hg=>(h.gt g hg).kn,kz fun l hl=>(h.lt l hl).kn⟩
theorem D9.kn {b:Bd} (h:D9 b):My.kn (bD b) = true:=by
 show (My.gF (b.gs.map gD) && (My.gF (b.ls.map lD) && true)) = true
 rw [h.gF.1,h.gF.2]; rfl
theorem xC (ds:List D) (Q:D -> Prop) (h:R0 ds Q):rG (EP Q) (i5 2 ds):=by
 obtain ⟨b,rfl,hb,q⟩:=h
 refine ⟨_,fq _ _,eD b.gs,?_⟩
 walk_at "r"
 refine ⟨jF b.ls,.tup [.tup (b.gs.map gD),.tup (b.ls.map lD),.tup []],rfl,?_,?_⟩
 ·show (My.gF (b.gs.map gD) && (My.gF (b.ls.map lD) && (true && true))) = true
  rw [hb.gF.1,hb.gF.2]; rfl
 ·refine ⟨rfl,rfl,fun e dx=>?_⟩
  refine ⟨_,_,rfl,rfl,rfl,?_⟩
  refine ⟨_,_,rfl,rfl,rfl,?_⟩
  walk_at "r"
  have ok:xx (.tup [.str "board",.int 0]):=⟨rfl,by decide +kernel,by decide +kernel⟩
  refine ⟨ok,ok,?_⟩
  have e:PyData.eqv (pyd (.tup [.str "board",.int 0])) (pyd (.tup [.str "board",.int 0])) = true:=by decide +kernel
  show Q (.bl (ng false (PyData.eqv (pyd (.tup [.str "board",.int 0])) (pyd (.tup [.str "board",.int 0])))))
  rw [e]
  exact q
theorem qo {Q:D -> Prop} {d:D} {b:Bd} (hb:D9 b) (q:Q (.bl true)):kY (EP Q) [some d,some (bD b)]:=by
 have lk:=hb.look
 refine ⟨bD b,rfl,hb.kn,?_⟩
 rw [lk]
 refine Br.no rfl ⟨b,rfl,hb,?_⟩
 refine Br.no rfl ?_
 walk_at "r"
 refine ⟨eD b.gs,_,_,rfl,rfl,eD b.gs,?_⟩
 refine ⟨_,mU _ _ _,?_⟩
 refine ⟨_,_,rfl,rfl,jF b.ls,?_⟩
 refine ⟨_,_,rfl,rfl,jF b.ls,bD b,rfl,hb.kn,?_⟩
 rw [lk]
 exact q
theorem zQ (ds:List D) (Q:D -> Prop) (h:bj ds Q):vY (EP Q) (i5 2 ds):=by
 obtain ⟨d,ns,rfl,hs,hl,q⟩:=h
 refine ⟨d,ns,rfl,hs,fun b hb=>⟨rfl,?_⟩⟩
 show kH (EP Q) [some d,some (bD b)]
 refine ⟨d,ns,42,rfl,hs,by decide,fun c=>?_⟩
 walk_at "r"
 refine ⟨fun _=>?_,fun _=>qo hb q⟩
 exact ⟨d,ns,rfl,hs,fun b' hb'=>⟨rfl,qo hb' q⟩⟩
noncomputable def fh:Int:=10 ^ 60 - 1
noncomputable def nG (c:Nat) (k:Int):Str:=Txt.mul ⟨#[c]⟩ 6 ++ ⟨#[bJ (k / 8)]⟩ ++ ⟨#[bJ (k % 8)]⟩
theorem yf (c:Nat) (k:Int):(nG c k).cps.toList = [c,c,c,c,c,c,bJ (k / 8),bJ (k % 8)]:=by
 unfold nG
 rw [jJ,jJ]
 rfl
theorem Dx {c:Nat} {i j:Int} (i0:0 <= i) (i1:i < 40) (j0:0 <= j) (j1:j < 40) (h:nG c i = nG c j):i = j:=by
 have e:=congrArg (fun x:Str=>x.cps.toList) h
 simp only [yf] at e
 injection e with _ e
 injection e with _ e
 injection e with _ e
 injection e with _ e
 injection e with _ e
 injection e with _ e
 injection e with e1 e
 injection e with e2 _
 have q1:=er (by omega) (by omega) (by omega) (by omega) e1
 have q2:=er (by omega) (by omega) (by omega) (by omega) e2
 omega
theorem AG {c:Nat} {k:Int} (hc:97 <= c /\ c <= 122) (k0:0 <= k) (k1:k < 40):nm 8 (nG c k):=by
 unfold nm
 rw [yf]
 have a:=cD (i:=k / 8) (by omega) (by omega)
 have b:=cD (i:=k % 8) (by omega) (by omega)
 refine ⟨by show 1 <= 8; decide,Nat.le_refl 8,fun x hx=>?_⟩
 simp only [List.mem_cons,List.not_mem_nil,or_false] at hx
 rcases hx with rfl | rfl | rfl | rfl | rfl | rfl | rfl | rfl <;> assumption
noncomputable def Cb:List Pr:=(List.range 5).map fun (k:Nat)=>(fh - 4 + (0 + (k:Int)),fh - (0 + (k:Int)))
theorem CV:gh Cb:=by unfold gh; decide +kernel
noncomputable def xm (c:Nat) (k:Nat):Option Str:=bif decide ((0 + (k:Int)) % 8 > 0) then some (nG c (0 + (k:Int) - 1)) else none
noncomputable def gG (c:Nat) (k:Nat):Gd:=⟨nG c (0 + (k:Int)),xm c k,Cb,fh,fh⟩
noncomputable def lG (c:Nat) (k:Nat):Ld:=⟨nG c (16 + (k:Int)),nG c ((16 + (k:Int)) % 16),List.replicate 4 (fh,fh),fh,decide ((16 + (k:Int)) % 2 = 1)⟩
noncomputable def bG (c:Nat):Bd:=⟨(List.range 16).map (gG c),(List.range 24).map (lG c)⟩
theorem Bz:1 <= fh /\ fh < 10 ^ 60:=by decide +kernel
theorem EV {c:Nat} (hc:97 <= c /\ c <= 122):D9 (bG c):=by
 have gm:∀ g ∈ (bG c).gs,∃ k:Nat,k < 16 /\ g = gG c k:=fun g hg=>by
  obtain ⟨k,hk,rfl⟩:=List.mem_map.mp hg
  exact ⟨k,List.mem_range.mp hk,rfl⟩
 have lm:∀ l ∈ (bG c).ls,∃ k:Nat,k < 24 /\ l = lG c k:=fun g hg=>by
  obtain ⟨k,hk,rfl⟩:=List.mem_map.mp hg
  exact ⟨k,List.mem_range.mp hk,rfl⟩
 have tp:=Bz
 refine ⟨by show 1 <= ((List.range 16).map (gG c)).length; simp,by show ((List.range 16).map (gG c)).length <= 16; simp,by show ((List.range 24).map (lG c)).length <= 24; simp,?_,fun g hg=>?_,fun l hl=>?_,fun g hg=>?_,fun g hg=>?_,fun g hg=>?_,?_,fun l hl=>?_,fun l hl=>?_,fun l hl=>?_,fun l hl=>?_⟩
 ·have e:((bG c).gs.map (·.nm) ++ (bG c).ls.map (·.nm)) = (List.range 40).map fun k:Nat=>nG c (0 + (k:Int)):=by
   show ((List.range 16).map (gG c)).map (·.nm) ++ ((List.range 24).map (lG c)).map (·.nm) = _
   rw [List.map_map,List.map_map,show (40:Nat) = 16 + 24 from rfl,List.range_add,List.map_append,List.map_map]
   refine (List.append_cancel_left_eq _ _ _).mpr ?_
   refine List.map_congr_left fun k _=>?_
   show nG c (16 + (k:Int)) = nG c (0 + ((16 + k:Nat):Int))
   congr 1
   omega
  rw [e]
  exact N9 _ _ fun i j hi hj h=>by
   have:=Dx (by omega) (by omega) (by omega) (by omega) h
   omega
 ·obtain ⟨k,hk,rfl⟩:=gm g hg
  exact AG hc (by omega) (by omega)
 ·obtain ⟨k,hk,rfl⟩:=lm l hl
  exact AG hc (by omega) (by omega)
 ·obtain ⟨k,hk,rfl⟩:=gm g hg
  exact CV
 ·obtain ⟨k,hk,rfl⟩:=gm g hg
  exact ⟨by show 0 <= fh; omega,tp.2⟩
 ·obtain ⟨k,hk,rfl⟩:=gm g hg
  exact ⟨by show 0 <= fh; omega,tp.2⟩
 ·refine ⟨fun i=>i % 8 + 1,fun i g hi=>?_⟩
  have hl:=(List.getElem?_eq_some_iff.mp hi).1
  have hl:i < 16:=by simpa [bG] using hl
  have eg:gG c i = g:=by
   have:((List.range 16).map (gG c))[i]? = some (gG c i):=by rw [List.getElem?_map,List.getElem?_range hl]; rfl
   exact Option.some.inj (this.symm.trans hi)
  subst eg
  refine ⟨by show 1 <= i % 8 + 1; omega,by show i % 8 + 1 <= 8; omega,fun z=>?_,fun y hy=>?_⟩
  ·have z:xm c i = none:=z
   unfold xm at z
   by_cases h:(0 + (i:Int)) % 8 > 0
   ·rw [decide_eq_true h] at z; cases z
   ·show i % 8 + 1 = 1; omega
  ·have z:xm c i = some y:=hy
   unfold xm at z
   by_cases h:(0 + (i:Int)) % 8 > 0
   ·rw [decide_eq_true h] at z
    cases z
    refine ⟨i - 1,gG c (i - 1),by omega,?_,?_,by show i % 8 + 1 = (i - 1) % 8 + 1 + 1; omega⟩
    ·show ((List.range 16).map (gG c))[i - 1]? = _
     rw [List.getElem?_map,List.getElem?_range (by omega)]; rfl
    ·show nG c (0 + ((i - 1:Nat):Int)) = nG c (0 + (i:Int) - 1)
     congr 1
     omega
   ·rw [decide_eq_false h] at z; cases z
 ·obtain ⟨k,hk,rfl⟩:=lm l hl
  exact Nat.le_refl 4
 ·obtain ⟨k,hk,rfl⟩:=lm l hl
  intro p hp
  rw [List.eq_of_mem_replicate (show p ∈ List.replicate 4 (fh,fh) from hp)]
  exact ⟨tp.1,tp.2,by show 0 <= fh; omega,tp.2⟩
 ·obtain ⟨k,hk,rfl⟩:=lm l hl
  exact ⟨by show 0 <= fh; omega,tp.2⟩
 ·obtain ⟨k,hk,rfl⟩:=lm l hl
  refine ⟨gG c ((16 + k) % 16),List.mem_map.mpr ⟨_,List.mem_range.mpr (by omega),rfl⟩,?_⟩
  show nG c (0 + (((16 + k) % 16:Nat):Int)) = nG c ((16 + (k:Int)) % 16)
  congr 1
  omega
theorem rj {c:Nat} {k:Int} (k0:0 <= k) (k1:k < 40):P1 ((List.range 40).map fun (k:Nat)=>D.str (nG c (0 + (k:Int)))) k = some (.str (nG c k)):=by
 obtain ⟨x,_,hx,hi⟩:=K3 (f:=fun (k:Nat)=>D.str (nG c (0 + (k:Int)))) (xs:=List.range 40) (i:=k) k0 (by rw [List.length_range]; omega)
 rw [List.getElem?_range (by omega)] at hx
 cases hx
 rw [hi]
 congr 3
 omega
noncomputable def vH (c:Nat):D:=.lst ((List.range 40).map fun (k:Nat)=>D.str (nG c (0 + (k:Int))))
theorem oW {Q:D -> Prop} {c:Nat} {v0 v1 v2 v3 v4 v5 v6 v8 v9:Option D} (hc:97 <= c /\ c <= 122) (q:∀ b:Bd,D9 b -> Q (bD b)):br (EP Q) [v0,v1,v2,v3,v4,v5,v6,some (.lst ((bG c).gs.map gD)),v8,v9,some (.lst ((bG c).ls.map lD))]:=by
 walk_at "r"
 exact q _ (EV hc)
theorem se {Q:D -> Prop} {c:Nat} {v0 v1 v3 v4 v6 v8 v9:Option D} (hc:97 <= c /\ c <= 122) (q:∀ b:Bd,D9 b -> Q (bD b)):cZ (EP Q) [v0,v1,some (.int fh),v3,v4,some (vH c),v6,some (.lst ((bG c).gs.map gD)),v8,v9,none]:=by
 refine ⟨16,40,rfl,⟨by decide,by decide,by decide,by decide⟩,?_,?_⟩
 ·exact y3 (by decide)
 refine U4 (F:=fun (k:Nat)=>D.int (16 + (k:Int))) (f:=fun k:Nat=>lD (lG c k)) (List.range 24) [] (fun k hk K R z=>?_) ?_
 ·have hk:=List.mem_range.mp hk
  refine ⟨rfl,Br.yes rfl ?_⟩
  refine ⟨_,rj (by omega) (by omega),rfl,?_⟩
  refine ⟨(show (0:Int) < 16 by decide),?_⟩
  refine ⟨_,rj (Int.emod_nonneg _ (by decide)) (by have:=Int.emod_lt_of_pos (16 + (k:Int)) (show (0:Int) < 16 by decide); omega),rfl,?_⟩
  walk_at "r"
  refine ⟨by decide,by decide,(fun z=>nomatch z),by decide,?_⟩
  walk_at "r"
  exact z
 ·refine ⟨rfl,?_⟩
  rw [List.nil_append]
  have e:(List.range 24).map (fun k:Nat=>lD (lG c k)) = (bG c).ls.map lD:=by
   show _ = ((List.range 24).map (lG c)).map lD
   rw [List.map_map]; rfl
  rw [e]
  exact oW hc q
theorem si {Q:D -> Prop} {c:Nat} {v0 v1 v3 v4:Option D} (hc:97 <= c /\ c <= 122) (q:∀ b:Bd,D9 b -> Q (bD b)):dc (EP Q) [v0,v1,some (.int fh),v3,v4,some (vH c),some (cm Cb),some (.lst []),none,none,none]:=by
 refine ⟨⟨by decide,by decide⟩,.of ⟨fun i ρ=>∃ v8 v9:Option D,ρ = [v0,v1,some (.int fh),v3,v4,some (vH c),some (cm Cb),some (.lst (((List.range i).map (gG c)).map gD)),v8,v9,none],⟨none,none,rfl⟩,?_,?_⟩⟩
 ·rintro i e ρ he ⟨v8,v9,rfl⟩
  obtain ⟨k,hk,rfl⟩:=get_map he
  have hi:i < 16:=by have:=(List.getElem?_eq_some_iff.mp hk).1; simpa using this
  have hk:(List.range 16)[i]? = some k:=hk
  rw [List.getElem?_range hi] at hk
  cases hk
  have fin:∀ {T:W9} (hT:T.nx = fun ρ=>∃ v8 v9:Option D,ρ = [v0,v1,some (.int fh),v3,v4,some (vH c),some (cm Cb),some (.lst (((List.range (i + 1)).map (gG c)).map gD)),v8,v9,none]) (u:D) (hu:uD (xm c i) = u),Y0 T [v0,v1,some (.int fh),v3,v4,some (vH c),some (cm Cb),some (.lst (((List.range i).map (gG c)).map gD)),some (.int (0 + (i:Int))),some u,none]:=fun hT u hu=>by
   subst hu
   walk_at "r"
   refine ⟨_,rj (by omega) (by omega),rfl,?_⟩
   walk_at "r"
   refine ⟨pF _,?_⟩
   walk_at "r"
   refine ⟨by rw [List.length_map,List.length_map,List.length_range]; exact y3 (by omega),?_⟩
   rw [hT]
   refine ⟨some (.int (0 + (i:Int))),some (uD (xm c i)),?_⟩
   rw [List.range_succ,List.map_append,List.map_append]
   rfl
  refine ⟨rfl,rfl,?_⟩
  refine ⟨(show (0:Int) < 8 by decide),?_⟩
  refine ⟨fun h=>?_,fun h=>?_⟩
  ·have h':(0 + (i:Int)) % 8 > 0:=of_decide_eq_true h
   refine ⟨_,rj (k:=0 + (i:Int) - 1) (by omega) (by omega),rfl,?_⟩
   have e:uD (xm c i) = .str (nG c (0 + (i:Int) - 1)):=by unfold xm; rw [show decide ((0 + (i:Int)) % 8 > 0) = true from h]; rfl
   exact fin rfl _ e
  ·have e:uD (xm c i) = .non:=by unfold xm; rw [show decide ((0 + (i:Int)) % 8 > 0) = false from h]; rfl
   exact fin rfl _ e
 ·rintro ρ ⟨v8,v9,rfl⟩
  exact se hc q
theorem sf {Q:D -> Prop} {c:Nat} {v0 v1:Option D} (hc:97 <= c /\ c <= 122) (q:∀ b:Bd,D9 b -> Q (bD b)):dz (EP Q) [v0,v1,some (.int fh),some (.str iI),some (.str (Txt.mul ⟨#[c]⟩ 6)),none,none,none,none,none,none]:=by
 refine ⟨⟨by decide,by decide⟩,y3 (by decide),?_⟩
 refine U4 (F:=fun (k:Nat)=>D.int (0 + (k:Int))) (f:=fun (k:Nat)=>D.str (nG c (0 + (k:Int)))) (List.range 40) [] (fun k hk K R z=>?_) ?_
 ·have hk:=List.mem_range.mp hk
  refine ⟨rfl,Br.yes rfl ?_⟩
  obtain ⟨c1,h1⟩:=cu (i:=(0 + (k:Int)) / 8) (by omega) (by omega)
  obtain ⟨c2,h2⟩:=cu (i:=(0 + (k:Int)) % 8) (by omega) (by omega)
  have z:K (.str (Txt.mul ⟨#[c]⟩ 6 ++ ⟨#[c1]⟩ ++ ⟨#[c2]⟩)):=by
   unfold nG bJ at z
   rw [h1,h2] at z
   exact z
  have l6:(Txt.mul (⟨#[c]⟩:Str) 6).length = 6:=rfl
  have l7:(Txt.mul (⟨#[c]⟩:Str) 6 ++ ⟨#[c1]⟩).length = 7:=rfl
  walk_at "r"
  refine ⟨aH,c1,h1,?_⟩
  refine ⟨by rw [l6,jB,sizeLine_eq]; decide,?_⟩
  walk_at "r"
  refine ⟨aH,c2,h2,?_⟩
  refine ⟨by rw [l7,jB,sizeLine_eq]; decide,z⟩
 ·refine ⟨rfl,?_⟩
  refine ⟨⟨by decide,by decide⟩,y3 (by decide),?_⟩
  refine U4 (F:=fun (k:Nat)=>D.int (0 + (k:Int))) (f:=fun (k:Nat)=>pr (fh - 4 + (0 + (k:Int)),fh - (0 + (k:Int)))) (List.range 5) [] (fun k hk K R z=>?_) ?_
  ·exact ⟨rfl,Br.yes rfl z⟩
  ·walk_at "w"
   refine ⟨_,_,rfl,rfl,X9 Cb,rfl,rfl,?_⟩
   exact si hc q
theorem BH (c:Nat):MulOk ⟨#[c]⟩ 6:=by
 unfold MulOk
 rw [jB]
 decide
theorem oE (ds:List D) (Q:D -> Prop) (h:J6 ds Q):iG (EP Q) (i5 11 ds):=by
 obtain ⟨d,ns,rfl,hs,q⟩:=h
 refine ⟨d,ns,43,rfl,hs,by decide,by decide,fun c=>⟨rfl,?_⟩⟩
 refine ⟨⟨by decide,by decide,by decide⟩,rfl,rfl,?_⟩
 refine ⟨c,c,_,26,rfl,by decide,by decide,by decide,by decide,fun r d' r0 r1=>?_⟩
 obtain ⟨ch,hch⟩:=cu r0 r1
 refine ⟨aH,ch,hch,BH _,rfl,?_⟩
 have e:bJ r = ch:=by unfold bJ; rw [hch]; rfl
 exact sf (e ▸ cD r0 r1) q
end My
namespace My
open PySem L2 L3
def qE (K:PySem.W.Frag):Sp:=fun vs H Q _=>∃ (a:Addr) (ns:List Int),vs = [.ref a] /\ S3 K H a (ns.map V.int) /\ ns.length <= 63 /\ ∀ H',Q (.bl true) H'
theorem P5 {K:PySem.W.Frag} {H:Hp}:∀ ns:List Int,n8 K H (ns.map V.int) (ns.map D.int) []
 | []=>.nil
 | n :: ns=>n8.cons (A:=[]) (B:=[]) .int (P5 ns)
theorem CA {K:PySem.W.Frag} (vs:List V) (H:Hp) (Q:VK) (E:XK) (h:qE K vs H Q E):D2 K bj vs H Q E:=by
 obtain ⟨a,ns,rfl,hS,hl,k⟩:=h
 have fin:∀ (d:D) (A:List Addr),AF d ns -> Rep K H (.ref a) d A -> D2 K bj [.ref a] H Q E:=fun d A hd r=>
  ⟨[d],A ++ [],fun r=>r = .bl true,.cons r .nil,⟨d,ns,rfl,hd,hl,rfl⟩,fun r v H' B e _ rv _ _=>by
   subst e
   cases N8 rv
   exact k H'⟩
 rcases hS with (h | ⟨o,h⟩) | h
 ·exact fin _ _ (.inr rfl) (.lst h (P5 ns))
 ·exact fin _ _ (.inl rfl) (.frz (.inl ⟨o,h⟩) (P5 ns))
 ·exact fin _ _ (.inl rfl) (.frz (.inr h) (P5 ns))
theorem pH (ds:List D) (Q:D -> Prop) (h:N2 ds Q):ds.length = 1:=by
 obtain ⟨_,rfl,_⟩:=h
 rfl
theorem lq (ds:List D) (Q:D -> Prop) (h:u9 ds Q):ds.length = 1:=by
 obtain ⟨_,rfl,_⟩:=h
 rfl
theorem uo (ds:List D) (Q:D -> Prop) (h:G7 ds Q):ds.length = 1:=by
 obtain ⟨_,rfl,_⟩:=h
 rfl
theorem sD (ds:List D) (Q:D -> Prop) (h:Q6 ds Q):ds.length = 1:=by
 obtain ⟨_,rfl,_⟩:=h
 rfl
theorem pD (ds:List D) (Q:D -> Prop) (h:M9 ds Q):ds.length = 2:=by
 obtain ⟨_,_,_,_,rfl,_⟩:=h
 rfl
theorem pY (ds:List D) (Q:D -> Prop) (h:N0 ds Q):ds.length = 1:=by
 obtain ⟨_,rfl,_⟩:=h
 rfl
theorem jn (ds:List D) (Q:D -> Prop) (h:E7 ds Q):ds.length = 1:=by
 obtain ⟨_,rfl,_⟩:=h
 rfl
theorem oJ (ds:List D) (Q:D -> Prop) (h:N3 ds Q):ds.length = 1:=by
 obtain ⟨_,rfl,_⟩:=h
 rfl
theorem pQ (ds:List D) (Q:D -> Prop) (h:C8 ds Q):ds.length = 1:=by
 obtain ⟨_,_,rfl,_⟩:=h
 rfl
theorem uM (ds:List D) (Q:D -> Prop) (h:aj ds Q):ds.length = 2:=by
 obtain ⟨_,_,_,rfl,_⟩:=h
 rfl
theorem km (ds:List D) (Q:D -> Prop) (h:E8 ds Q):ds.length = 2:=by
 obtain ⟨_,_,_,rfl,_⟩:=h
 rfl
theorem mR (ds:List D) (Q:D -> Prop) (h:J0 ds Q):ds.length = 1:=by
 obtain ⟨_,rfl,_⟩:=h
 rfl
theorem uq (ds:List D) (Q:D -> Prop) (h:Q8 ds Q):ds.length = 1:=by
 obtain ⟨_,rfl,_⟩:=h
 rfl
theorem nO (ds:List D) (Q:D -> Prop) (h:J5 ds Q):ds.length = 3:=by
 obtain ⟨_,_,_,_,_,rfl,_⟩:=h
 rfl
theorem rM (ds:List D) (Q:D -> Prop) (W:Str -> List V -> Prop) (h:K6 ds Q W):ds.length = 1:=by
 obtain ⟨_,rfl,_⟩:=h
 rfl
theorem sh (ds:List D) (Q:D -> Prop) (h:M7 ds Q):ds.length = 2:=by
 obtain ⟨_,_,_,rfl,_⟩:=h
 rfl
theorem yV (ds:List D) (Q:D -> Prop) (h:P8 ds Q):ds.length = 2:=by
 obtain ⟨_,_,_,rfl,_⟩:=h
 rfl
theorem zG (ds:List D) (Q:D -> D -> Prop) (h:p9 ds Q):ds.length = 2:=by
 obtain ⟨_,_,_,_,rfl,_⟩:=h
 rfl
theorem vc (ds:List D) (Q:D -> D -> Prop) (h:I0 ds Q):ds.length = 1:=by
 obtain ⟨_,_,_,rfl,_⟩:=h
 rfl
theorem sJ (ds:List D) (Q:D -> D -> Prop) (h:G8 ds Q):ds.length = 1:=by
 obtain ⟨_,_,_,rfl,_⟩:=h
 rfl
theorem xV (ds:List D) (Q:D -> D -> Prop) (h:ai ds Q):ds.length = 2:=by
 obtain ⟨_,_,_,_,rfl,_⟩:=h
 rfl
theorem yA (ds:List D) (Q:D -> D -> Prop) (h:af ds Q):ds.length = 1:=by
 obtain ⟨_,_,_,rfl,_⟩:=h
 rfl
theorem uv (ds:List D) (Q:D -> Prop) (h:R3 ds Q):ds.length = 3:=by
 obtain ⟨_,_,_,_,rfl,_⟩:=h
 rfl
theorem xM (ds:List D) (Q:D -> Prop) (h:Y4 ds Q):ds.length = 3:=by
 obtain ⟨_,_,_,_,rfl,_⟩:=h
 rfl
theorem wZ (ds:List D) (Q:D -> Prop) (h:Z9 ds Q):ds.length = 1:=by
 obtain ⟨_,_,rfl,_⟩:=h
 rfl
theorem nL (ds:List D) (Q:D -> Prop) (h:J6 ds Q):ds.length = 1:=by
 obtain ⟨_,_,rfl,_⟩:=h
 rfl
theorem uf (ds:List D) (Q:D -> Prop) (h:R0 ds Q):ds.length = 1:=by
 obtain ⟨_,rfl,_⟩:=h
 rfl
theorem vn (ds:List D) (Q:D -> Prop) (h:bj ds Q):ds.length = 1:=by
 obtain ⟨_,_,rfl,_⟩:=h
 rfl
theorem pB:o4 ["self", "word", "number"] ["self", "word", "number"] (g6 (inClass (top 13) 0)):=⟨rfl,rfl,rfl,by decide +kernel,rfl,by decide +kernel,by decide +kernel⟩
theorem all_mk {l:PySem.W.OpenLaw} {w:World} {K:PySem.W.Frag} {h:Heap} {mg:Str -> Option Value} {fa f1 f2 f3 f4 f5 f6 f7 f8 f9 f10 f11 f12 f13 f14 f15 f16 f17 f18 f19 f20 f21 f22 f23 f24 f25 f26 f27 f28:Addr} (X:K.In h) (G:h.Ns mainGlobals mg) (hfa:mg "law" = some (.ref fa))
  {od1 an1 od2 an2 od3 an3 od4 an4 od5 an5 od6 an6 od7 an7 od8 an8 od9 an9 od10 an10 od11 an11 od12 an12 od13 an13 od14 an14 od15 an15 od16 an16 od17 an17 od18 an18 od19 an19 od20 an20 od21 an21 od22 an22 od23 an23 od24 an24 od25 an25 od26 an26 od27 an27 od28 an28:Option Addr} {sl1 sl2 sl3 sl4 sl5 sl6 sl7 sl8 sl9 sl10 sl11 sl12 sl13 sl14 sl15 sl16 sl17 sl18 sl19 sl20 sl21 sl22 sl23 sl24 sl25 sl26 sl27 sl28:Array (Option Value)} {oc1 kV1 dc1 pm1 cd1 ct1 oc2 kV2 dc2 pm2 cd2 ct2 oc3 kV3 Hm pm3 cd3 ct3 oc4 kV4 dc4 pm4 cd4 ct4 oc5 kV5 dc5 pm5 cd5 ct5 oc6 kV6 dc6 pm6 cd6 ct6 oc7 kV7 dc7 pm7 cd7 ct7 oc8 kV8 dc8 pm8 cd8 ct8 oc9 kV9 dc9 pm9 cd9 ct9 oc10 kV10 dc10 pm10 cd10 ct10 oc11 kV11 dc11 pm11 cd11 ct11 oc12 kV12 dc12 pm12 cd12 ct12 oc13 kV13 dc13 pm13 cd13 ct13 oc14 kV14 dc14 pm14 cd14 ct14 oc15 kV15 dc15 pm15 cd15 ct15 oc16 kV16 dc16 pm16 cd16 ct16 oc17 kV17 dc17 pm17 cd17 ct17 oc18 kV18 dc18 pm18 cd18 ct18 oc19 kV19 dc19 pm19 cd19 ct19 oc20 kV20 dc20 pm20 cd20 ct20 oc21 kV21 dc21 pm21 cd21 ct21 oc22 kV22 dc22 pm22 cd22 ct22 oc23 kV23 dc23 pm23 cd23 ct23 oc24 kV24 dc24 pm24 cd24 ct24 oc25 kV25 dc25 pm25 cd25 ct25 oc26 kV26 dc26 pm26 cd26 ct26 oc27 kV27 dc27 pm27 cd27 ct27 oc28 kV28 dc28 pm28 cd28 ct28:Value}
  (a1:PySem.W.nsIn K mainGlobals "is_whole" = some (some (.ref f1)))
  (l1:K.lookup f1 = some ⟨oc1,od1,.func (PySem.W.fnOf "is_whole" "is_whole" (o6 T8) (j8 T8) (g6 T8) .none kV1 dc1 pm1 an1 cd1 ct1),sl1⟩) (c1:PySem.W.codeIn K cd1 "is_whole" = true) (k1:PySem.W.keepIn K (.ref f1) = true)
  (a2:PySem.W.nsIn K mainGlobals "is_number" = some (some (.ref f2)))
  (l2:K.lookup f2 = some ⟨oc2,od2,.func (PySem.W.fnOf "is_number" "is_number" (o6 O9) (j8 O9) (g6 O9) .none kV2 dc2 pm2 an2 cd2 ct2),sl2⟩) (c2:PySem.W.codeIn K cd2 "is_number" = true) (k2:PySem.W.keepIn K (.ref f2) = true)
  (a3:PySem.W.nsIn K mainGlobals "is_name" = some (some (.ref f3)))
  (l3:K.lookup f3 = some ⟨oc3,od3,.func (PySem.W.fnOf "is_name" "is_name" (o6 aK) (j8 aK) (g6 aK) .none kV3 Hm pm3 an3 cd3 ct3),sl3⟩) (c3:PySem.W.codeIn K cd3 "is_name" = true) (k3:PySem.W.keepIn K (.ref f3) = true)
  (a4:PySem.W.nsIn K mainGlobals "is_step" = some (some (.ref f4)))
  (l4:K.lookup f4 = some ⟨oc4,od4,.func (PySem.W.fnOf "is_step" "is_step" (o6 aF) (j8 aF) (g6 aF) .none kV4 dc4 pm4 an4 cd4 ct4),sl4⟩) (c4:PySem.W.codeIn K cd4 "is_step" = true) (k4:PySem.W.keepIn K (.ref f4) = true)
  (a5:PySem.W.nsIn K mainGlobals "follows" = some (some (.ref f5)))
  (l5:K.lookup f5 = some ⟨oc5,od5,.func (PySem.W.fnOf "follows" "follows" (o6 T6) (j8 T6) (g6 T6) .none kV5 dc5 pm5 an5 cd5 ct5),sl5⟩) (c5:PySem.W.codeIn K cd5 "follows" = true) (k5:PySem.W.keepIn K (.ref f5) = true)
  (a6:PySem.W.nsIn K mainGlobals "is_curve" = some (some (.ref f6)))
  (l6:K.lookup f6 = some ⟨oc6,od6,.func (PySem.W.fnOf "is_curve" "is_curve" (o6 S4) (j8 S4) (g6 S4) .none kV6 dc6 pm6 an6 cd6 ct6),sl6⟩) (c6:PySem.W.codeIn K cd6 "is_curve" = true) (k6:PySem.W.keepIn K (.ref f6) = true)
  (a7:PySem.W.nsIn K mainGlobals "is_outline" = some (some (.ref f7)))
  (l7:K.lookup f7 = some ⟨oc7,od7,.func (PySem.W.fnOf "is_outline" "is_outline" (o6 M3) (j8 M3) (g6 M3) .none kV7 dc7 pm7 an7 cd7 ct7),sl7⟩) (c7:PySem.W.codeIn K cd7 "is_outline" = true) (k7:PySem.W.keepIn K (.ref f7) = true)
  (a8:PySem.W.nsIn K mainGlobals "is_guard" = some (some (.ref f8)))
  (l8:K.lookup f8 = some ⟨oc8,od8,.func (PySem.W.fnOf "is_guard" "is_guard" (o6 S7) (j8 S7) (g6 S7) .none kV8 dc8 pm8 an8 cd8 ct8),sl8⟩) (c8:PySem.W.codeIn K cd8 "is_guard" = true) (k8:PySem.W.keepIn K (.ref f8) = true)
  (a9:PySem.W.nsIn K mainGlobals "names_of" = some (some (.ref f9)))
  (l9:K.lookup f9 = some ⟨oc9,od9,.func (PySem.W.fnOf "names_of" "names_of" (o6 Q0) (j8 Q0) (g6 Q0) .none kV9 dc9 pm9 an9 cd9 ct9),sl9⟩) (c9:PySem.W.codeIn K cd9 "names_of" = true) (k9:PySem.W.keepIn K (.ref f9) = true)
  (a10:PySem.W.nsIn K mainGlobals "climb" = some (some (.ref f10)))
  (l10:K.lookup f10 = some ⟨oc10,od10,.func (PySem.W.fnOf "climb" "climb" (o6 ba) (j8 ba) (g6 ba) .none kV10 dc10 pm10 an10 cd10 ct10),sl10⟩) (c10:PySem.W.codeIn K cd10 "climb" = true) (k10:PySem.W.keepIn K (.ref f10) = true)
  (a11:PySem.W.nsIn K mainGlobals "guard_fits" = some (some (.ref f11)))
  (l11:K.lookup f11 = some ⟨oc11,od11,.func (PySem.W.fnOf "guard_fits" "guard_fits" (o6 L8) (j8 L8) (g6 L8) .none kV11 dc11 pm11 an11 cd11 ct11),sl11⟩) (c11:PySem.W.codeIn K cd11 "guard_fits" = true) (k11:PySem.W.keepIn K (.ref f11) = true)
  (a12:PySem.W.nsIn K mainGlobals "is_course" = some (some (.ref f12)))
  (l12:K.lookup f12 = some ⟨oc12,od12,.func (PySem.W.fnOf "is_course" "is_course" (o6 P0) (j8 P0) (g6 P0) .none kV12 dc12 pm12 an12 cd12 ct12),sl12⟩) (c12:PySem.W.codeIn K cd12 "is_course" = true) (k12:PySem.W.keepIn K (.ref f12) = true)
  (a13:PySem.W.nsIn K mainGlobals "is_load" = some (some (.ref f13)))
  (l13:K.lookup f13 = some ⟨oc13,od13,.func (PySem.W.fnOf "is_load" "is_load" (o6 aE) (j8 aE) (g6 aE) .none kV13 dc13 pm13 an13 cd13 ct13),sl13⟩) (c13:PySem.W.codeIn K cd13 "is_load" = true) (k13:PySem.W.keepIn K (.ref f13) = true)
  (a14:PySem.W.nsIn K mainGlobals "load_fits" = some (some (.ref f14)))
  (l14:K.lookup f14 = some ⟨oc14,od14,.func (PySem.W.fnOf "load_fits" "load_fits" (o6 P7) (j8 P7) (g6 P7) .none kV14 dc14 pm14 an14 cd14 ct14),sl14⟩) (c14:PySem.W.codeIn K cd14 "load_fits" = true) (k14:PySem.W.keepIn K (.ref f14) = true)
  (a15:PySem.W.nsIn K mainGlobals "looked" = some (some (.ref f15)))
  (l15:K.lookup f15 = some ⟨oc15,od15,.func (PySem.W.fnOf "looked" "looked" (o6 aJ) (j8 aJ) (g6 aJ) .none kV15 dc15 pm15 an15 cd15 ct15),sl15⟩) (c15:PySem.W.codeIn K cd15 "looked" = true) (k15:PySem.W.keepIn K (.ref f15) = true)
  (a16:PySem.W.nsIn K mainGlobals "_law_cell_at" = some (some (.ref f16)))
  (l16:K.lookup f16 = some ⟨oc16,od16,.func (PySem.W.fnOf "_law_cell_at" "_law_cell_at" (o6 az) (j8 az) (g6 az) .none kV16 dc16 pm16 an16 cd16 ct16),sl16⟩) (c16:PySem.W.codeIn K cd16 "_law_cell_at" = true) (k16:PySem.W.keepIn K (.ref f16) = true)
  (a17:PySem.W.nsIn K mainGlobals "_law_feed" = some (some (.ref f17)))
  (l17:K.lookup f17 = some ⟨oc17,od17,.func (PySem.W.fnOf "_law_feed" "_law_feed" (o6 iF) (j8 iF) (g6 iF) .none kV17 dc17 pm17 an17 cd17 ct17),sl17⟩) (c17:PySem.W.codeIn K cd17 "_law_feed" = true) (k17:PySem.W.keepIn K (.ref f17) = true)
  (a18:PySem.W.nsIn K mainGlobals "_law_take" = some (some (.ref f18)))
  (l18:K.lookup f18 = some ⟨oc18,od18,.func (PySem.W.fnOf "_law_take" "_law_take" (o6 iY) (j8 iY) (g6 iY) .none kV18 dc18 pm18 an18 cd18 ct18),sl18⟩) (c18:PySem.W.codeIn K cd18 "_law_take" = true) (k18:PySem.W.keepIn K (.ref f18) = true)
  (a19:PySem.W.nsIn K mainGlobals "_law_begin" = some (some (.ref f19)))
  (l19:K.lookup f19 = some ⟨oc19,od19,.func (PySem.W.fnOf "_law_begin" "_law_begin" (o6 cM) (j8 cM) (g6 cM) .none kV19 dc19 pm19 an19 cd19 ct19),sl19⟩) (c19:PySem.W.codeIn K cd19 "_law_begin" = true) (k19:PySem.W.keepIn K (.ref f19) = true)
  (a20:PySem.W.nsIn K mainGlobals "_law_number" = some (some (.ref f20)))
  (l20:K.lookup f20 = some ⟨oc20,od20,.func (PySem.W.fnOf "_law_number" "_law_number" (o6 av) (j8 av) (g6 av) .none kV20 dc20 pm20 an20 cd20 ct20),sl20⟩) (c20:PySem.W.codeIn K cd20 "_law_number" = true) (k20:PySem.W.keepIn K (.ref f20) = true)
  (a21:PySem.W.nsIn K mainGlobals "_law_names" = some (some (.ref f21)))
  (l21:K.lookup f21 = some ⟨oc21,od21,.func (PySem.W.fnOf "_law_names" "_law_names" (o6 V5) (j8 V5) (g6 V5) .none kV21 dc21 pm21 an21 cd21 ct21),sl21⟩) (c21:PySem.W.codeIn K cd21 "_law_names" = true) (k21:PySem.W.keepIn K (.ref f21) = true)
  (a22:PySem.W.nsIn K mainGlobals "_law_steps" = some (some (.ref f22)))
  (l22:K.lookup f22 = some ⟨oc22,od22,.func (PySem.W.fnOf "_law_steps" "_law_steps" (o6 U5) (j8 U5) (g6 U5) .none kV22 dc22 pm22 an22 cd22 ct22),sl22⟩) (c22:PySem.W.codeIn K cd22 "_law_steps" = true) (k22:PySem.W.keepIn K (.ref f22) = true)
  (a23:PySem.W.nsIn K mainGlobals "_law_guards" = some (some (.ref f23)))
  (l23:K.lookup f23 = some ⟨oc23,od23,.func (PySem.W.fnOf "_law_guards" "_law_guards" (o6 V7) (j8 V7) (g6 V7) .none kV23 dc23 pm23 an23 cd23 ct23),sl23⟩) (c23:PySem.W.codeIn K cd23 "_law_guards" = true) (k23:PySem.W.keepIn K (.ref f23) = true)
  (a24:PySem.W.nsIn K mainGlobals "_law_loads" = some (some (.ref f24)))
  (l24:K.lookup f24 = some ⟨oc24,od24,.func (PySem.W.fnOf "_law_loads" "_law_loads" (o6 aX) (j8 aX) (g6 aX) .none kV24 dc24 pm24 an24 cd24 ct24),sl24⟩) (c24:PySem.W.codeIn K cd24 "_law_loads" = true) (k24:PySem.W.keepIn K (.ref f24) = true)
  (a25:PySem.W.nsIn K mainGlobals "_law_board" = some (some (.ref f25)))
  (l25:K.lookup f25 = some ⟨oc25,od25,.func (PySem.W.fnOf "_law_board" "_law_board" (o6 cq) (j8 cq) (g6 cq) .none kV25 dc25 pm25 an25 cd25 ct25),sl25⟩) (c25:PySem.W.codeIn K cd25 "_law_board" = true) (k25:PySem.W.keepIn K (.ref f25) = true)
  (a26:PySem.W.nsIn K mainGlobals "_law_greatest" = some (some (.ref f26)))
  (l26:K.lookup f26 = some ⟨oc26,od26,.func (PySem.W.fnOf "_law_greatest" "_law_greatest" (o6 G3) (j8 G3) (g6 G3) .none kV26 dc26 pm26 an26 cd26 ct26),sl26⟩) (c26:PySem.W.codeIn K cd26 "_law_greatest" = true) (k26:PySem.W.keepIn K (.ref f26) = true)
  (a27:PySem.W.nsIn K mainGlobals "_law_none" = some (some (.ref f27)))
  (l27:K.lookup f27 = some ⟨oc27,od27,.func (PySem.W.fnOf "_law_none" "_law_none" (o6 aA) (j8 aA) (g6 aA) .none kV27 dc27 pm27 an27 cd27 ct27),sl27⟩) (c27:PySem.W.codeIn K cd27 "_law_none" = true) (k27:PySem.W.keepIn K (.ref f27) = true)
  (a28:PySem.W.nsIn K mainGlobals "law" = some (some (.ref f28)))
  (l28:K.lookup f28 = some ⟨oc28,od28,.func (PySem.W.fnOf "law" "law" (o6 U7) (j8 U7) (g6 U7) .none kV28 dc28 pm28 an28 cd28 ct28),sl28⟩) (c28:PySem.W.codeIn K cd28 "law" = true) (k28:PySem.W.keepIn K (.ref f28) = true)
  {tkNUMBERS_END:Tok} (cNUMBERS_END:PySem.W.nsIn K mainGlobals "NUMBERS_END" = some (some (.int 1000000000000000000000000000000000000000000000000000000000000 tkNUMBERS_END)))
  {tkLONGEST_NAME:Tok} (cLONGEST_NAME:PySem.W.nsIn K mainGlobals "LONGEST_NAME" = some (some (.int 8 tkLONGEST_NAME)))
  {tkMOST_STEPS:Tok} (cMOST_STEPS:PySem.W.nsIn K mainGlobals "MOST_STEPS" = some (some (.int 5 tkMOST_STEPS)))
  {tkMOST_GUARDS:Tok} (cMOST_GUARDS:PySem.W.nsIn K mainGlobals "MOST_GUARDS" = some (some (.int 16 tkMOST_GUARDS)))
  {tkMOST_LOADS:Tok} (cMOST_LOADS:PySem.W.nsIn K mainGlobals "MOST_LOADS" = some (some (.int 24 tkMOST_LOADS)))
  {tkMOST_OVER:Tok} (cMOST_OVER:PySem.W.nsIn K mainGlobals "MOST_OVER" = some (some (.int 7 tkMOST_OVER)))
  {tkMOST_STRETCHES:Tok} (cMOST_STRETCHES:PySem.W.nsIn K mainGlobals "MOST_STRETCHES" = some (some (.int 4 tkMOST_STRETCHES)))
  {cNoBoard:Addr}
  (xaNoBoard:PySem.W.nsIn K mainGlobals "NoBoard" = some (some (.ref cNoBoard)))
  {fINoBoard:Addr} {odINoBoard anINoBoard:Option Addr} {slINoBoard:Array (Option Value)} {kVINoBoard dcINoBoard pmINoBoard cdINoBoard ctINoBoard:Value}
  (aINoBoard:PySem.W.findIn K (.ref cNoBoard) "__init__" = some (some (.ref fINoBoard)))
  (lINoBoard:K.lookup fINoBoard = some ⟨.type "function",odINoBoard,.func (PySem.W.fnOf "__init__" "NoBoard.__init__" (o6 (inClass (top 13) 0)) (j8 (inClass (top 13) 0)) (g6 (inClass (top 13) 0)) .none kVINoBoard dcINoBoard pmINoBoard anINoBoard cdINoBoard ctINoBoard),slINoBoard⟩) (cINoBoard:PySem.W.codeIn K cdINoBoard "NoBoard.__init__" = true) (kINoBoard:PySem.W.keepIn K (.ref fINoBoard) = true)
  (xfNoBoard:PySem.W.vI K cNoBoard ["word", "number"] = true)
  (xeNoBoard:PySem.W.fL K cNoBoard [.type "ValueError",.type "Exception",.type "BaseException",.type "object"] "ValueError.__new__" fINoBoard = true)
  (xbNoBoard_1:PySem.W.findIn K (.ref cNoBoard) "__getattribute__" = some (some (.builtin "BaseException.__getattribute__")))
  (xbNoBoard_2:PySem.W.findIn K (.ref cNoBoard) "__getattr__" = some none)
  (xbNoBoard_3:PySem.W.findIn K (.ref cNoBoard) "__class__" = some (some (.builtin "object.__class__")))
  (xbNoBoard_4:PySem.W.specialIn K (.builtin "object.__class__") "__get__" = some (some (.builtin "getset_descriptor.__get__")))
  (xbNoBoard_5:PySem.W.takesIn K (.builtin "object.__class__") = some true)
  (xbNoBoard_6:PySem.W.mroIn K cNoBoard (.type "object") = some true)
  (xbNoBoard_7:PySem.W.mroIn K cNoBoard (.type "BaseException") = some true)
  (z1:PySem.W.nsIn K mainGlobals "bool" = some none)
  (z2:PySem.W.nsIn K mainGlobals "int" = some none)
  (z3:PySem.W.nsIn K mainGlobals "isinstance" = some none)
  (z4:PySem.W.nsIn K mainGlobals "len" = some none)
  (z5:PySem.W.nsIn K mainGlobals "str" = some none)
  (z6:PySem.W.nsIn K mainGlobals "tuple" = some none)
  (z7:PySem.W.nsIn K mainGlobals "zip" = some none)
  (z8:PySem.W.nsIn K mainGlobals "enumerate" = some none)
  (z9:PySem.W.nsIn K mainGlobals "list" = some none)
  (z10:PySem.W.nsIn K mainGlobals "range" = some none) :
  ∃ fd:FuncData,(∀ (s:Shared) (v:Value),BindsTo s fd ⟨[v],[]⟩ [("_law_script",v)]) /\ ∀ base:Heap,K.In base -> base.Ns mainGlobals mg -> y4 l.prog w K mg base Q9 9 fa fd ["_law_script"] (qE K):=by
 have e:=hfa.symm.trans (PySem.W.mg_of X G a28)
 cases e
 have F1:=x3 (st:=T8) l1 c1 k1
 have b1:=F1.binds (ps:=["thing"]) fun _ _ _ _ _ _ us hl=>match us,hl with | [_],_=>rfl
 have m1:=PySem.W.mg_of X G a1
 have F2:=x3 (st:=O9) l2 c2 k2
 have b2:=F2.binds (ps:=["thing"]) fun _ _ _ _ _ _ us hl=>match us,hl with | [_],_=>rfl
 have m2:=PySem.W.mg_of X G a2
 have F3:=x3 (st:=aK) l3 c3 k3
 have b3:=F3.binds (ps:=["thing"]) fun _ _ _ _ _ _ us hl=>match us,hl with | [_],_=>rfl
 have m3:=PySem.W.mg_of X G a3
 have F4:=x3 (st:=aF) l4 c4 k4
 have b4:=F4.binds (ps:=["thing"]) fun _ _ _ _ _ _ us hl=>match us,hl with | [_],_=>rfl
 have m4:=PySem.W.mg_of X G a4
 have F5:=x3 (st:=T6) l5 c5 k5
 have b5:=F5.binds (ps:=["ahead", "step"]) fun _ _ _ _ _ _ us hl=>match us,hl with | [_,_],_=>rfl
 have m5:=PySem.W.mg_of X G a5
 have F6:=x3 (st:=S4) l6 c6 k6
 have b6:=F6.binds (ps:=["thing"]) fun _ _ _ _ _ _ us hl=>match us,hl with | [_],_=>rfl
 have m6:=PySem.W.mg_of X G a6
 have F7:=x3 (st:=M3) l7 c7 k7
 have b7:=F7.binds (ps:=["thing"]) fun _ _ _ _ _ _ us hl=>match us,hl with | [_],_=>rfl
 have m7:=PySem.W.mg_of X G a7
 have F8:=x3 (st:=S7) l8 c8 k8
 have b8:=F8.binds (ps:=["thing"]) fun _ _ _ _ _ _ us hl=>match us,hl with | [_],_=>rfl
 have m8:=PySem.W.mg_of X G a8
 have F9:=x3 (st:=Q0) l9 c9 k9
 have b9:=F9.binds (ps:=["rows"]) fun _ _ _ _ _ _ us hl=>match us,hl with | [_],_=>rfl
 have m9:=PySem.W.mg_of X G a9
 have F10:=x3 (st:=ba) l10 c10 k10
 have b10:=F10.binds (ps:=["guards", "name"]) fun _ _ _ _ _ _ us hl=>match us,hl with | [_,_],_=>rfl
 have m10:=PySem.W.mg_of X G a10
 have F11:=x3 (st:=L8) l11 c11 k11
 have b11:=F11.binds (ps:=["ahead", "thing"]) fun _ _ _ _ _ _ us hl=>match us,hl with | [_,_],_=>rfl
 have m11:=PySem.W.mg_of X G a11
 have F12:=x3 (st:=P0) l12 c12 k12
 have b12:=F12.binds (ps:=["thing"]) fun _ _ _ _ _ _ us hl=>match us,hl with | [_],_=>rfl
 have m12:=PySem.W.mg_of X G a12
 have F13:=x3 (st:=aE) l13 c13 k13
 have b13:=F13.binds (ps:=["thing"]) fun _ _ _ _ _ _ us hl=>match us,hl with | [_],_=>rfl
 have m13:=PySem.W.mg_of X G a13
 have F14:=x3 (st:=P7) l14 c14 k14
 have b14:=F14.binds (ps:=["guards", "ahead", "thing"]) fun _ _ _ _ _ _ us hl=>match us,hl with | [_,_,_],_=>rfl
 have m14:=PySem.W.mg_of X G a14
 have F15:=x3 (st:=aJ) l15 c15 k15
 have b15:=F15.binds (ps:=["thing"]) fun _ _ _ _ _ _ us hl=>match us,hl with | [_],_=>rfl
 have m15:=PySem.W.mg_of X G a15
 have F16:=x3 (st:=az) l16 c16 k16
 have b16:=F16.binds (ps:=["_law_script", "_law_k"]) fun _ _ _ _ _ _ us hl=>match us,hl with | [_,_],_=>rfl
 have m16:=PySem.W.mg_of X G a16
 have F17:=x3 (st:=iF) l17 c17 k17
 have b17:=F17.binds (ps:=["_law_script", "_law_k"]) fun _ _ _ _ _ _ us hl=>match us,hl with | [_,_],_=>rfl
 have m17:=PySem.W.mg_of X G a17
 have F18:=x3 (st:=iY) l18 c18 k18
 have b18:=F18.binds (ps:=["_law_feed_here", "_law_many"]) fun _ _ _ _ _ _ us hl=>match us,hl with | [_,_],_=>rfl
 have m18:=PySem.W.mg_of X G a18
 have F19:=x3 (st:=cM) l19 c19 k19
 have b19:=F19.binds (ps:=["_law_feed_here"]) fun _ _ _ _ _ _ us hl=>match us,hl with | [_],_=>rfl
 have m19:=PySem.W.mg_of X G a19
 have F20:=x3 (st:=av) l20 c20 k20
 have b20:=F20.binds (ps:=["_law_feed_here"]) fun _ _ _ _ _ _ us hl=>match us,hl with | [_],_=>rfl
 have m20:=PySem.W.mg_of X G a20
 have F21:=x3 (st:=V5) l21 c21 k21
 have b21:=F21.binds (ps:=["_law_feed_here", "_law_many"]) fun _ _ _ _ _ _ us hl=>match us,hl with | [_,_],_=>rfl
 have m21:=PySem.W.mg_of X G a21
 have F22:=x3 (st:=U5) l22 c22 k22
 have b22:=F22.binds (ps:=["_law_feed_here"]) fun _ _ _ _ _ _ us hl=>match us,hl with | [_],_=>rfl
 have m22:=PySem.W.mg_of X G a22
 have F23:=x3 (st:=V7) l23 c23 k23
 have b23:=F23.binds (ps:=["_law_script", "_law_names_here", "_law_many"]) fun _ _ _ _ _ _ us hl=>match us,hl with | [_,_,_],_=>rfl
 have m23:=PySem.W.mg_of X G a23
 have F24:=x3 (st:=aX) l24 c24 k24
 have b24:=F24.binds (ps:=["_law_script", "_law_names_here", "_law_guards_here"]) fun _ _ _ _ _ _ us hl=>match us,hl with | [_,_,_],_=>rfl
 have m24:=PySem.W.mg_of X G a24
 have F25:=x3 (st:=cq) l25 c25 k25
 have b25:=F25.binds (ps:=["_law_script"]) fun _ _ _ _ _ _ us hl=>match us,hl with | [_],_=>rfl
 have m25:=PySem.W.mg_of X G a25
 have F26:=x3 (st:=G3) l26 c26 k26
 have b26:=F26.binds (ps:=["_law_script"]) fun _ _ _ _ _ _ us hl=>match us,hl with | [_],_=>rfl
 have m26:=PySem.W.mg_of X G a26
 have F27:=x3 (st:=aA) l27 c27 k27
 have b27:=F27.binds (ps:=["_law_board_here"]) fun _ _ _ _ _ _ us hl=>match us,hl with | [_],_=>rfl
 have m27:=PySem.W.mg_of X G a27
 have F28:=x3 (st:=U7) l28 c28 k28
 have hgNUMBERS_END:mg "NUMBERS_END" = some (.int (10 ^ 60) tkNUMBERS_END):=by
  have e:((10 ^ 60):Int) = 1000000000000000000000000000000000000000000000000000000000000:=by decide
  rw [e]
  exact PySem.W.mg_of X G cNUMBERS_END
 have hgLONGEST_NAME:mg "LONGEST_NAME" = some (.int 8 tkLONGEST_NAME):=PySem.W.mg_of X G cLONGEST_NAME
 have hgMOST_STEPS:mg "MOST_STEPS" = some (.int 5 tkMOST_STEPS):=PySem.W.mg_of X G cMOST_STEPS
 have hgMOST_GUARDS:mg "MOST_GUARDS" = some (.int 16 tkMOST_GUARDS):=PySem.W.mg_of X G cMOST_GUARDS
 have hgMOST_LOADS:mg "MOST_LOADS" = some (.int 24 tkMOST_LOADS):=PySem.W.mg_of X G cMOST_LOADS
 have hgMOST_OVER:mg "MOST_OVER" = some (.int 7 tkMOST_OVER):=PySem.W.mg_of X G cMOST_OVER
 have hgMOST_STRETCHES:mg "MOST_STRETCHES" = some (.int 4 tkMOST_STRETCHES):=PySem.W.mg_of X G cMOST_STRETCHES
 have q1:=PySem.W.mg_none_of X G z1
 have q2:=PySem.W.mg_none_of X G z2
 have q3:=PySem.W.mg_none_of X G z3
 have q4:=PySem.W.mg_none_of X G z4
 have q5:=PySem.W.mg_none_of X G z5
 have q6:=PySem.W.mg_none_of X G z6
 have q7:=PySem.W.mg_none_of X G z7
 have q8:=PySem.W.mg_none_of X G z8
 have q9:=PySem.W.mg_none_of X G z9
 have q10:=PySem.W.mg_none_of X G z10
 have xmNoBoard:=PySem.W.mg_of X G xaNoBoard
 refine ⟨PySem.W.fnOf "law" "law" (o6 U7) (j8 U7) (g6 U7) .none kV28 dc28 pm28 an28 cd28 ct28,fun s v=>.of_eq rfl,fun base KB GB=>?_⟩
 have FINoBoard:=x3 (st:=inClass (top 13) 0) lINoBoard cINoBoard kINoBoard
 have bINoBoard:=FINoBoard.binds (ps:=["self", "word", "number"]) fun _ _ _ _ _ _ us hl=>match us,hl with | [_,_,_],_=>rfl
 have okINoBoard:y4 l.prog w K mg base Q9 1 fINoBoard _ ["self", "word", "number"] (Y8 cNoBoard (Fo "NoBoard")):=yE (k:=0) FINoBoard pB rfl (PySem.W.eE xfNoBoard (f := "word") (by decide)).1 (PySem.W.eE xfNoBoard (f := "number") (by decide)).1 (fun cdv A outer s H E=>(fY (rh (pv 0) (pv 1) rfl) (fY (rh (pv 0) (pv 2) rfl) qH)))
 have CIsWhole:D7 l.prog w K mg base "is_whole" 1 ["thing"] (D2 K N2) f1 _:=⟨rS F1  q1 q2 q3   pH sZ,m1,k1,b1⟩
 have CIsNumber:D7 l.prog w K mg base "is_number" 2 ["thing"] (D2 K u9) f2 _:=⟨oF F2 CIsWhole  hgNUMBERS_END  lq oC,m2,k2,b2⟩
 have CIsName:D7 l.prog w K mg base "is_name" 1 ["thing"] (D2 K G7) f3 _:=⟨xJ F3  q3 q4 q5 hgLONGEST_NAME  uo xD,m3,k3,b3⟩
 have CIsStep:D7 l.prog w K mg base "is_step" 3 ["thing"] (D2 K Q6) f4 _:=⟨xn F4 CIsNumber q3 q4 q6   sD wV,m4,k4,b4⟩
 have CFollows:D7 l.prog w K mg base "follows" 1 ["ahead", "step"] (D2 K M9) f5 _:=⟨tF F5     pD sv,m5,k5,b5⟩
 have CIsCurve:D7 l.prog w K mg base "is_curve" 4 ["thing"] (D2 K N0) f6 _:=⟨tU F6 CIsStep CFollows q3 q4 q6 q7 hgMOST_STEPS  pY sy,m6,k6,b6⟩
 have CIsOutline:D7 l.prog w K mg base "is_outline" 1 ["thing"] (D2 K E7) f7 _:=⟨kL F7  q3 q4 q6 hgMOST_GUARDS hgMOST_LOADS  jn lQ,m7,k7,b7⟩
 have CIsGuard:D7 l.prog w K mg base "is_guard" 5 ["thing"] (D2 K N3) f8 _:=⟨rZ F8 CIsNumber CIsName CIsCurve q3 q4 q6   oJ sY,m8,k8,b8⟩
 have CNamesOf:D7 l.prog w K mg base "names_of" 1 ["rows"] (D2 K C8) f9 _:=⟨sm F9     pQ sQ,m9,k9,b9⟩
 have CClimb:D7 l.prog w K mg base "climb" 1 ["guards", "name"] (D2 K aj) f10 _:=⟨Aq F10     uM Av,m10,k10,b10⟩
 have CGuardFits:D7 l.prog w K mg base "guard_fits" 6 ["ahead", "thing"] (D2 K E8) f11 _:=⟨nh F11 CIsGuard CNamesOf CClimb q4 hgMOST_OVER  km nS,m11,k11,b11⟩
 have CIsCourse:D7 l.prog w K mg base "is_course" 3 ["thing"] (D2 K J0) f12 _:=⟨pL F12 CIsNumber q3 q4 q6 hgMOST_STRETCHES  mR qa,m12,k12,b12⟩
 have CIsLoad:D7 l.prog w K mg base "is_load" 4 ["thing"] (D2 K Q8) f13 _:=⟨xZ F13 CIsNumber CIsName CIsCourse q3 q4 q6   uq uW,m13,k13,b13⟩
 have CLoadFits:D7 l.prog w K mg base "load_fits" 5 ["guards", "ahead", "thing"] (D2 K J5) f14 _:=⟨pU F14 CIsLoad CNamesOf    nO pC,m14,k14,b14⟩
 have CLooked:yz l.prog w K mg base "looked" 7 ["thing"] (Bo Fo K mg K6) f15 _:=⟨vQ F15 CIsOutline CGuardFits CLoadFits q8  (PySem.W.Dw KB GB xaNoBoard xeNoBoard lINoBoard rfl) okINoBoard bINoBoard rM uU,m15,k15,b15⟩
 have CCellAt:D7 l.prog w K mg base "_law_cell_at" 1 ["_law_script", "_law_k"] (D2 K M7) f16 _:=⟨vf F16  q4   sh wY,m16,k16,b16⟩
 have CFeed:D7 l.prog w K mg base "_law_feed" 2 ["_law_script", "_law_k"] (D2 K P8) f17 _:=⟨Dv F17 CCellAt    yV Dq,m17,k17,b17⟩
 have CTake:D7 l.prog w K mg base "_law_take" 1 ["_law_feed_here", "_law_many"] (bI K p9) f18 _:=⟨BV F18     zG CS,m18,k18,b18⟩
 have CBegin:D7 l.prog w K mg base "_law_begin" 2 ["_law_feed_here"] (bI K I0) f19 _:=⟨yN F19 CTake    vc zC,m19,k19,b19⟩
 have CNumber:D7 l.prog w K mg base "_law_number" 3 ["_law_feed_here"] (bI K G8) f20 _:=⟨uZ F20 CTake CBegin    sJ vU,m20,k20,b20⟩
 have CNames:D7 l.prog w K mg base "_law_names" 2 ["_law_feed_here", "_law_many"] (bI K ai) f21 _:=⟨AD F21 CTake q2 q9 q10   xV zb,m21,k21,b21⟩
 have CSteps:D7 l.prog w K mg base "_law_steps" 3 ["_law_feed_here"] (bI K af) f22 _:=⟨yM F22 CTake CBegin q10 q6   yA Am,m22,k22,b22⟩
 have CGuards:D7 l.prog w K mg base "_law_guards" 4 ["_law_script", "_law_names_here", "_law_many"] (D2 K R3) f23 _:=⟨yx F23 CFeed CTake CNumber CSteps q4 q10   uv uY,m23,k23,b23⟩
 have CLoads:D7 l.prog w K mg base "_law_loads" 4 ["_law_script", "_law_names_here", "_law_guards_here"] (D2 K Y4) f24 _:=⟨Aw F24 CFeed CTake CBegin CNumber q4 q10 q6   xM zU,m24,k24,b24⟩
 have CBoard:D7 l.prog w K mg base "_law_board" 5 ["_law_script"] (D2 K Z9) f25 _:=⟨As F25 CFeed CTake CNames CGuards CLoads q6   wZ zP,m25,k25,b25⟩
 have CGreatest:D7 l.prog w K mg base "_law_greatest" 3 ["_law_script"] (D2 K J6) f26 _:=⟨pW F26 CFeed CTake q10 q6   nL oE,m26,k26,b26⟩
 have CNone12:D7 l.prog w K mg base "_law_none" 8 ["_law_board_here"] (D2 K R0) f27 _:=⟨xv F27 CLooked   ⟨xbNoBoard_1,xbNoBoard_2,xbNoBoard_3,xbNoBoard_4,xbNoBoard_5,xbNoBoard_6,xbNoBoard_7⟩ xmNoBoard (PySem.W.kU KB xeNoBoard rfl) (PySem.W.eE xfNoBoard (by decide)).2 (PySem.W.eE xfNoBoard (by decide)).2 uf xC,m27,k27,b27⟩
 exact (zt F28 CLooked CCellAt CBoard CGreatest CNone12 q9 q6   vn zQ).imp CA
theorem walk {l:PySem.W.OpenLaw} {q:Program} {loose:List Str} {XP:(Str -> Option Value) -> Heap -> Prop} {YP:World -> Heap -> Prop} {d:DefRec} {K:Params -> PySem.W.Frag} (hn:l.most = some 63) (hdf:d.params.defaults = [])
  (hY:∀ (w:World) (h:Heap),YP w h -> (K w.params).In h)
  (F:∀ (w:World) (mg:Str -> Option Value) (fa:Addr) (h:Heap),(K w.params).In h -> h.Ns mainGlobals mg -> mg d.name = some (.ref fa) ->
   ∃ fd:FuncData,(∀ (s:Shared) (u:Value),BindsTo s fd ⟨[u],[]⟩ [("_law_script",u)]) /\ ∀ base:Heap,(K w.params).In base -> base.Ns mainGlobals mg -> y4 l.prog w (K w.params) mg base Q9 9 fa fd ["_law_script"] (qE (K w.params))) :
  PySem.W.WalkO q loose XP YP l.row.toRowW d [] (fun f vs=>PySem.call f vs):=
 L2.Ax (n:=63) (k:=9) (x := "_law_script") (CX:=fun _=>Q9) (sp:=fun w=>qE (K w.params)) hn (by decide) hdf ⟨rfl,by decide,by decide,rfl⟩ hY F (fun _ _ a ns hl _ hS=>⟨a,ns,rfl,hS,hl,fun _=>rfl⟩) fun _ _ _ _ _ z=>z
end My
open PySem PySem.W PyProof.Rows
set_option maxRecDepth 100000 in
set_option maxHeartbeats 0 in
theorem PySem.Challenge.cw_fuseboard_k12_boards_let_by_holds : PySem.Challenge.rw_fuseboard_k12_boards_let_by.Holds := by
 w_on; o_law; k_head; (case hw=>w_witness2)
 k_fill
 refine My.walk (l:=PySem.Challenge.rw_fuseboard_k12_boards_let_by) rfl rfl (fun w h Y=>PySem.W.kIn_of Y) ?F
 case F=>
  intro w mg fa h KX G hmg
  refine' My.all_mk KX G hmg ?a1 ?l1 ?c1 ?k1 ?a2 ?l2 ?c2 ?k2 ?a3 ?l3 ?c3 ?k3 ?a4 ?l4 ?c4 ?k4 ?a5 ?l5 ?c5 ?k5 ?a6 ?l6 ?c6 ?k6 ?a7 ?l7 ?c7 ?k7 ?a8 ?l8 ?c8 ?k8 ?a9 ?l9 ?c9 ?k9 ?a10 ?l10 ?c10 ?k10 ?a11 ?l11 ?c11 ?k11 ?a12 ?l12 ?c12 ?k12 ?a13 ?l13 ?c13 ?k13 ?a14 ?l14 ?c14 ?k14 ?a15 ?l15 ?c15 ?k15 ?a16 ?l16 ?c16 ?k16 ?a17 ?l17 ?c17 ?k17 ?a18 ?l18 ?c18 ?k18 ?a19 ?l19 ?c19 ?k19 ?a20 ?l20 ?c20 ?k20 ?a21 ?l21 ?c21 ?k21 ?a22 ?l22 ?c22 ?k22 ?a23 ?l23 ?c23 ?k23 ?a24 ?l24 ?c24 ?k24 ?a25 ?l25 ?c25 ?k25 ?a26 ?l26 ?c26 ?k26 ?a27 ?l27 ?c27 ?k27 ?a28 ?l28 ?c28 ?k28 ?cNUMBERS_END ?cLONGEST_NAME ?cMOST_STEPS ?cMOST_GUARDS ?cMOST_LOADS ?cMOST_OVER ?cMOST_STRETCHES ?xaNoBoard ?aINoBoard ?lINoBoard ?cINoBoard ?kINoBoard ?xfNoBoard ?xeNoBoard ?xbNoBoard_1 ?xbNoBoard_2 ?xbNoBoard_3 ?xbNoBoard_4 ?xbNoBoard_5 ?xbNoBoard_6 ?xbNoBoard_7 ?z1 ?z2 ?z3 ?z4 ?z5 ?z6 ?z7 ?z8 ?z9 ?z10
  (case a1=>k_is)
  (case l1=>k_is)
  (case c1=>k_is)
  (case k1=>k_is)
  (case a2=>k_is)
  (case l2=>k_is)
  (case c2=>k_is)
  (case k2=>k_is)
  (case a3=>k_is)
  (case l3=>k_is)
  (case c3=>k_is)
  (case k3=>k_is)
  (case a4=>k_is)
  (case l4=>k_is)
  (case c4=>k_is)
  (case k4=>k_is)
  (case a5=>k_is)
  (case l5=>k_is)
  (case c5=>k_is)
  (case k5=>k_is)
  (case a6=>k_is)
  (case l6=>k_is)
  (case c6=>k_is)
  (case k6=>k_is)
  (case a7=>k_is)
  (case l7=>k_is)
  (case c7=>k_is)
  (case k7=>k_is)
  (case a8=>k_is)
  (case l8=>k_is)
  (case c8=>k_is)
  (case k8=>k_is)
  (case a9=>k_is)
  (case l9=>k_is)
  (case c9=>k_is)
  (case k9=>k_is)
  (case a10=>k_is)
  (case l10=>k_is)
  (case c10=>k_is)
  (case k10=>k_is)
  (case a11=>k_is)
  (case l11=>k_is)
  (case c11=>k_is)
  (case k11=>k_is)
  (case a12=>k_is)
  (case l12=>k_is)
  (case c12=>k_is)
  (case k12=>k_is)
  (case a13=>k_is)
  (case l13=>k_is)
  (case c13=>k_is)
  (case k13=>k_is)
  (case a14=>k_is)
  (case l14=>k_is)
  (case c14=>k_is)
  (case k14=>k_is)
  (case a15=>k_is)
  (case l15=>k_is)
  (case c15=>k_is)
  (case k15=>k_is)
  (case a16=>k_is)
  (case l16=>k_is)
  (case c16=>k_is)
  (case k16=>k_is)
  (case a17=>k_is)
  (case l17=>k_is)
  (case c17=>k_is)
  (case k17=>k_is)
  (case a18=>k_is)
  (case l18=>k_is)
  (case c18=>k_is)
  (case k18=>k_is)
  (case a19=>k_is)
  (case l19=>k_is)
  (case c19=>k_is)
  (case k19=>k_is)
  (case a20=>k_is)
  (case l20=>k_is)
  (case c20=>k_is)
  (case k20=>k_is)
  (case a21=>k_is)
  (case l21=>k_is)
  (case c21=>k_is)
  (case k21=>k_is)
  (case a22=>k_is)
  (case l22=>k_is)
  (case c22=>k_is)
  (case k22=>k_is)
  (case a23=>k_is)
  (case l23=>k_is)
  (case c23=>k_is)
  (case k23=>k_is)
  (case a24=>k_is)
  (case l24=>k_is)
  (case c24=>k_is)
  (case k24=>k_is)
  (case a25=>k_is)
  (case l25=>k_is)
  (case c25=>k_is)
  (case k25=>k_is)
  (case a26=>k_is)
  (case l26=>k_is)
  (case c26=>k_is)
  (case k26=>k_is)
  (case a27=>k_is)
  (case l27=>k_is)
  (case c27=>k_is)
  (case k27=>k_is)
  (case a28=>k_is)
  (case l28=>k_is)
  (case c28=>k_is)
  (case k28=>k_is)
  (case cNUMBERS_END=>k_is)
  (case cLONGEST_NAME=>k_is)
  (case cMOST_STEPS=>k_is)
  (case cMOST_GUARDS=>k_is)
  (case cMOST_LOADS=>k_is)
  (case cMOST_OVER=>k_is)
  (case cMOST_STRETCHES=>k_is)
  (case xaNoBoard=>k_is)
  (case aINoBoard=>k_is)
  (case lINoBoard=>k_is)
  (case cINoBoard=>k_is)
  (case kINoBoard=>k_is)
  (case xfNoBoard=>kernel_rfl)
  (case xeNoBoard=>first | kernel_rfl | k_qdec | decide +kernel)
  (case xbNoBoard_1=>k_is)
  (case xbNoBoard_2=>k_is)
  (case xbNoBoard_3=>k_is)
  (case xbNoBoard_4=>k_is)
  (case xbNoBoard_5=>k_is)
  (case xbNoBoard_6=>k_is)
  (case xbNoBoard_7=>k_is)
  (case z1=>k_is)
  (case z2=>k_is)
  (case z3=>k_is)
  (case z4=>k_is)
  (case z5=>k_is)
  (case z6=>k_is)
  (case z7=>k_is)
  (case z8=>k_is)
  (case z9=>k_is)
  (case z10=>k_is)
#print axioms PySem.Challenge.cw_fuseboard_k12_boards_let_by_holds
