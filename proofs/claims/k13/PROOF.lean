import PyProof.Rows.All
import Wide.All
import OpenK.AllK
import Wide.FinOn
import Lean
import PyProof.EqAt
import PyProof.EqKinds
import PyProof.TupleCall
import PyProof.NeKinds
import PyProof.WalksEnum
import PyProof.EnumMake
import PyProof.ZipIter
import PyProof.Draws
import PyProof.DictIter
import PyProof.DictWalks
import PyProof.Rows.DictUnroll
import PyProof.DictCompW
import PyProof.ReprRoads
import PyProof.ReprLen
import PyProof.P3Eq
import PyProof.Rows.FStr
import PyProof.Rows.StrSplitAre
import PyProof.Rows.StrItems
import PyProof.Rows.FStrParts
import KE.KIntText
import PyProof.StrWalks
import PyProof.MeetsStr
import PyProof.StationsW
import PyProof.Rows.TopTwo
import PyProof.RulesAs
import PyProof.RulesDel
import PyProof.ExcArgs
import OpenK.KOwn
import KE.KRevIter
import PyProof.Rows.StrLen
import PyProof.SliceStr2
import PyProof.StrBlockI
import KE.KDictOf
import PyProof.AttrMissSeq
import KE.KRevSl
import PyProof.Rows.SetFrom
import PyProof.WalksMore
import PyProof.SetRoads
import KE.KEqDict
import PyProof.Rows.SumAny
import PyProof.InstStore
import PyProof.InstStoreFacts
import KE.KDictList
import PyProof.Rows.SortWalk
import PyProof.SetKind
import PyProof.MinMaxWalk
import PyProof.Rows.ReprOcc
import PyProof.StrLawsTight
import PySem.Challenge.RW_fuseboard_k13_bent_boards
set_option Elab.async false
set_option linter.all false
set_option genSizeOf false
set_option genSizeOfSpec false
set_option maxRecDepth 100000
abbrev QA:=List (PySem.Addr×PySem.Obj)
abbrev QB:=List (Option Nat)
abbrev QC:=List (PySem.Str×PySem.Addr)
abbrev QD:=List (PySem.Str×PySem.Value)
abbrev QE:=List PySem.Addr
abbrev QF:=List PySem.Str
abbrev QG:=List PySem.Value
abbrev QH:=List PySem.Expr
abbrev QI:=List Int
abbrev QJ:=List Nat
abbrev QK:=Array PySem.Value
abbrev QL:=PySem.Str->Option PySem.Value
abbrev QM:=List PySem.Stmt
abbrev QN:=PySem.Value->PySem.Shared->Prop
abbrev QO:=Nat->List PySem.Addr
abbrev QP:=PySem.W.Frag
abbrev QQ:=Option PySem.Value
abbrev QR:=Option Nat
abbrev cB:=@PySem.wpAny_bind
abbrev cC:=@List.length_map
abbrev dL:=@PySem.Heap.get?_push_of_some
abbrev eH:=@decide_eq_true
abbrev hD:=@Bool.and_eq_true
abbrev hH:=@PySem.wpAny_pure
abbrev hI:=@Nat.le_refl
abbrev hL:=@List.getElem?_eq_getElem
abbrev hW:=@List.length_append
abbrev iG:=@decide_eq_false
abbrev iL:=@List.mem_append_right
abbrev lN:=@Classical.choose_spec
abbrev nT:=@Bool.false_ne_true
abbrev og:=@PyProof.Rows.boot_isinstance
abbrev ol:=@List.mem_cons_of_mem
abbrev op:=@List.nodup_nil
abbrev oD:=@PySem.Heap.lt_size
abbrev pp:=@List.length_singleton
abbrev pu:=@List.mem_cons_self
abbrev qc:=@if_neg
abbrev qq:=@if_pos
abbrev qs:=@of_decide_eq_true
abbrev qy:=@PyProof.Rows.boot_tuple
abbrev qz:=@List.size_toArray
abbrev rc:=@List.mem_of_getElem?
abbrev re:=@Nat.lt_of_lt_of_le
abbrev ri:=@List.getElem?_append_left
abbrev rl:=@List.map_cons
abbrev rm:=@List.length_range
abbrev ro:=@PySem.Heap.get?_push_size
abbrev ry:=@PySem.boot_len
abbrev rz:=@List.getElem?_map
abbrev sd:=@List.mem_append_left
abbrev sf:=@List.getElem?_set_ne
abbrev sm:=@List.getElem?_set_self
abbrev sr:=@Nat.le_trans
abbrev sw:=@List.length_cons
abbrev sx:=@Nat.ne_of_lt
abbrev sK:=@List.append_nil
abbrev tt:=@Bool.true_and
abbrev tz:=@List.length_drop
abbrev tL:=@Option.some.inj
abbrev t4:=@Nat.le_of_ble_eq_true
abbrev t5:=@List.getElem?_append_right
abbrev t6:=@List.getElem?_cons_succ
abbrev t7:=@List.map_append
abbrev t8:=@List.getD_eq_getElem?_getD
abbrev t9:=@List.length_take
abbrev ud:=@PySem.W.mg_none_of
abbrev ut:=@List.lookup_cons
abbrev ux:=@PySem.wpAny_mono
abbrev uy:=@Int.emod_lt_of_pos
abbrev u7:=@PySem.wpAny_holding
abbrev u8:=@List.getElem?_of_mem
abbrev vr:=@PySem.PassesOwn.never
abbrev vu:=@PySem.Heap.get?_update_other
abbrev vv:=@List.map_map
abbrev v1:=@PySem.sizeLine_eq
abbrev v2:=@List.drop_eq_getElem_cons
abbrev v3:=@PySem.wpAny_field
abbrev v4:=@PySem.W.kia_one
abbrev v9:=@Int.emod_nonneg
abbrev wf:=@Nat.zero_le
abbrev wh:=@Ne.symm
abbrev wl:=@List.mem_of_mem_drop
abbrev wn:=@PySem.W.mg_of
abbrev wr:=@List.find?_cons
abbrev wv:=@congrArg
abbrev ww:=@List.getElem?_take_of_lt
abbrev wE:=@PySem.Heap.get?_update_self
abbrev wP:=@List.mem_of_mem_take
abbrev wS:=@PySem.wpAny_callSpecial?_slot
abbrev wT:=@PySem.F.excBase_ValueError
abbrev xz:=@List.replicate_succ
abbrev xL:=@List.nil_append
abbrev x2:=@List.mem_or_eq_of_mem_set
abbrev zi:=@PySem.wpAny_truthy_bool
abbrev z0:=@PySem.wpAny_newObj_type
abbrev At:=@PySem.Obj.data_mapFields
abbrev AC:=@PySem.F.plainAttrs_list
abbrev AT:=@PySem.Heap.size_push
abbrev A1:=@PyProof.Rows.boot_list
abbrev BB:=@List.not_mem_nil
abbrev Ch:=@of_decide_eq_false
abbrev Da:=@PySem.wpAny_call_entry
abbrev Db:=@List.length_set
abbrev Do:=@PySem.wpAny_seqItems
abbrev EQ:=@List.take_add_one
abbrev Fa:=@List.append_assoc
abbrev Fk:=@List.Sublist.refl
abbrev FM:=@PySem.Obj.isFreed_of_fields
abbrev FS:=@List.any_cons
abbrev Gc:=@List.all_cons
abbrev Gm:=@PyProof.Rows.slot_tuple_getitem
abbrev Go:=@PySem.mem_of_lookup
abbrev GM:=@Array.length_toList
abbrev Ix:=@PySem.wpAny_loadPart_at
abbrev IN:=@PySem.wpAny_standAt
abbrev IR:=@Nat.ne_of_gt
abbrev KM:=@Nat.lt_of_le_of_lt
abbrev Lb:=@List.sublist_cons_self
abbrev Lc:=@Bool.or_eq_true
abbrev Lf:=@Nat.lt_irrefl
abbrev Lm:=@List.length_replicate
abbrev L0:=@List.getElem?_eq_none
abbrev L1:=@PyProof.Rows.callWith_type1
abbrev No:=@List.flatten_cons
abbrev NE:=@PySem.wpAny_setField_rec
abbrev Oj:=@PySem.wpAny_passesOwn
abbrev Ol:=@Bool.false_and
abbrev Om:=@Nat.sub_self
abbrev On:=@List.drop_length
abbrev Oo:=@List.map_congr_left
abbrev Op:=@List.filterMap_cons
abbrev Oq:=@PySem.F.slot_tuple_iterator_next
abbrev Os:=@PyProof.Rows.boot_repr
abbrev Ot:=@List.take_of_length_le
abbrev Ou:=@PySem.wpAny_execs_nil
abbrev Ov:=@PySem.tupleKind_room_in1
abbrev Ow:=@PySem.F.slot_dict_get
abbrev Ox:=@Nat.succ_le_succ
abbrev Oy:=@List.getElem_mem
abbrev Oz:=@PySem.wpAny_loadPart
abbrev OA:=@PySem.wpAny_call
abbrev OB:=@if_true
abbrev OC:=@Nat.le_of_lt
abbrev OD:=@Nat.le_of_eq
abbrev OE:=@PySem.wpAny_attempt
abbrev OF:=@if_false
abbrev OG:=@PySem.codeAny_call_builtin
abbrev OH:=@PySem.Heap.get?_none_of_le
abbrev OI:=@Bool.false_eq_true
abbrev OJ:=@List.sublist_append_right
abbrev OK:=@PySem.wpAny_isSubtype_exc
abbrev OL:=@PySem.codeAny_mono
abbrev OM:=@PySem.F.args_tuple_add_2
abbrev ON:=@List.sublist_append_left
abbrev OO:=@PySem.wpAny_Call_Name_kw
abbrev OP:=@PySem.W.looks_findIn
abbrev OQ:=@PySem.F.entry_tuple_add
abbrev OR:=@PySem.F.args_dict_get_3
abbrev OS:=@Nat.zero_lt_succ
abbrev OT:=@List.take_length
abbrev OU:=@List.pairwise_singleton
abbrev OV:=@List.nil_sublist
abbrev OW:=@List.filter_cons
abbrev OX:=@PySem.F.slot_tuple_add
abbrev OY:=@PySem.F.entry_dict_get
abbrev OZ:=@PyProof.Rows.boot_bool
abbrev Pa:=@Nat.zero_add
abbrev Pb:=@List.drop_eq_nil_of_le
abbrev Pc:=@List.length_nil
abbrev Pd:=@List.foldl_cons
abbrev Pe:=@Bool.eq_iff_iff
abbrev Pf:=@PySem.wpAny_onRaise
abbrev Pg:=@PySem.wpAny_comprehension_free
abbrev Ph:=@PyProof.Rows.boot_int
abbrev Pj:=@Bool.and_assoc
abbrev Pk:=@PySem.wpAny_typeOf
abbrev Pl:=@PySem.W.looks_clsIn
abbrev Pm:=@List.getElem?_range
abbrev Pn:=@PySem.F.slot_zip_next
abbrev Pp:=@List.contains_cons
abbrev Pq:=@PySem.wpAny_updateSeq_pair
abbrev Ps:=@PySem.wpAny_setField
abbrev Pt:=@PySem.W.kitx_list
abbrev Pu:=@PySem.W.kitx_dict
abbrev Pv:=@Option.isSome_map
abbrev Pw:=@List.pairwise_map
abbrev Px:=@List.map_nil
abbrev Py:=@Int.toNat_natCast
abbrev Pz:=@PySem.Calls.evalArgs_plain
abbrev PB:=@Bool.or_true
abbrev PC:=@Option.bind_some
abbrev PD:=@Nat.le_add_right
abbrev PF:=@List.cons_append
abbrev PH:=@List.all_eq_true
abbrev PJ:=@PySem.Paired.length
abbrev PK:=@Nat.le_succ
abbrev PL:=@Int.le_refl
abbrev PP:=@PySem.wpAny_rule
abbrev PQ:=@Nat.not_lt_zero
abbrev PR:=@List.of_mem_zip
abbrev PV:=@List.forIn_cons
abbrev PX:=@PySem.Code.quiet_builtin
abbrev PY:=@PySem.Calls.spliced_cons
abbrev PZ:=@PySem.wpAny_pyIter_list
abbrev P3:=@PySem.wpAny_assign_Name
abbrev Qa:=@Bool.and_false
noncomputable section
namespace PySem.W.Fast
def tw8503216400084548654:=()
def tw9785119381700668477:=()
def tw13896780657875898067:=()
def tw3652103733539542737:=()
def tw15859783724809154287:=()
def tw5417897537960371348:=()
def tw8694872810776870078:=()
def tw1578001566120645641:=()
def tw5499313984233929645:=()
def tw3873173050463430838:=()
def tw13637975660182357122:=()
def tw5781623540441841489:=()
def tw8191968416883408047:=()
def tw15419315923545009410:=()
def tw9359005003330492888:=()
def tw16373284605933069963:=()
def tw8895403425911293797:=()
def tw17483800713258587759:=()
def tw14337383984971950248:=()
def tw15864307883563359866:=()
def tw5848873535310775581:=()
def tw11150501852267329856:=()
def tw1353956189301356177:=()
def tw5209948413219542517:=()
def tw255773307443792820:=()
def tw3602230836838724970:=()
def tw2767102526644429457:=()
def tw14050640407009006765:=()
def tw1575638449767548924:=()
def tw11615288263377909201:=()
def tw9014696157865585973:=()
def tw12687259650429083247:=()
def tw13061257008310146250:=()
def tw16246838970949869845:=()
def tw12259817080058329895:=()
def tw831994679022122287:=()
def tw13410180890387453190:=()
def tw11929255663363970764:=()
def tw9723639181033492962:=()
def tw7921294799158154438:=()
def tw16190597372221427555:=()
def tw10473958244220296760:=()
def tw17680611942427359907:=()
def tw7793009746771603731:=()
def tw6912639560394441796:=()
def tw7419396157474772964:=()
def tw6172182599321001635:=()
def tw13374748182227583187:=()
def tw639521664017099770:=()
def tw10107035830196173636:=()
def tw2731792484417547018:=()
def tw11145743695398136244:=()
def tw6351156492451422841:=()
def tw11504465234876629258:=()
def tw17116951898280151198:=()
def tw15999718822310451118:=()
def tw10891830085227333906:=()
def tw11435016001733062078:=()
def tw6658734399175161615:=()
def tw18290987644589109098:=()
def tw1392296333810458747:=()
def tw12417877206763711263:=()
def tw4389130984988063357:=()
def tw13124555136780447460:=()
def tw12551185117337714960:=()
def tw8601000372434503465:=()
def tw10723766947796815887:=()
def tw14212522983872616461:=()
def tw3823044258673597869:=()
def tw2044940074847249603:=()
def tw6421750108392356401:=()
def tw7095854502086877347:=()
def tw15749383316546616508:=()
def tw3445339152320341690:=()
def tw10097410150750148618:=()
def tw15408526658748874696:=()
def tw6143916596807067679:=()
def tw11806693736368737315:=()
def tw6857835113459933981:=()
def tw4646158853122562048:=()
def tw15097447951834280080:=()
def tw15861173599651126068:=()
def tw16103084236343264354:=()
def tw12493313317035356821:=()
def tw13673492526549111049:=()
def tw2047806770354721115:=()
def tw14314535521425161556:=()
def tw12693525859197490715:=()
def tw17785970823167555125:=()
def tw17400644930904178719:=()
def tw1476258503140777014:=()
def tw9827033151051261931:=()
def tw18248063521949368656:=()
def tw5129532397673957014:=()
def tw1139884513288839676:=()
def tw1872224826816478651:=()
def tw15595724764630562793:=()
def tw3775636784685900342:=()
def tw3661926425587157822:=()
def tw12487158090747123674:=()
def tw10432395226254794188:=()
def tw193384613652641695:=()
def tw12443101938539601902:=()
def tw11506194934839100829:=()
def tw6970343895841126875:=()
def tw4123833358850615733:=()
def tw11118328866692153138:=()
def tw3163430599249075991:=()
def tw15292576281131042392:=()
def tw7555213987172917762:=()
def tw609038674462060915:=()
def tw5766404186011731069:=()
def tw4650235831418065568:=()
def tw3873247425338441903:=()
def tw7338967141737661809:=()
def tw9021674660432210961:=()
def tw7401599907349091692:=()
def tw115532643757329374:=()
def tw5979872219938815575:=()
def tw14379299479112935666:=()
def tw2601551230880633899:=()
def tw8384048190988040902:=()
def tw6259116599980572348:=()
def tw3629376041196344271:=()
def tw12682828408371973733:=()
def tw2078932619747823486:=()
def tw12007909054344193940:=()
def tw4845226976310391535:=()
def tw6090244761014659518:=()
def tw9258491508278940005:=()
def tw3381068917834465868:=()
def tw7882921671533921104:=()
def tw5561325374757417818:=()
def tw254534143106883677:=()
def tw6155147946833025761:=()
def tw12014005112747591265:=()
def tw9079033064188968096:=()
def tw16539152392060699762:=()
def tw10733490975474111771:=()
def tw17215455885518690804:=()
def tw17467005674769268341:=()
def tw4334574098597497041:=()
def tw14711861666793235086:=()
def tw15735903227707362314:=()
def tw13582584186406129288:=()
def tw6084050086541751760:=()
def tw6456958282084034851:=()
def tw10088841771513730797:=()
def tw2423425234929806531:=()
def tw10925995892362145024:=()
def tw15202306273285730258:=()
def tw1378697584145750824:=()
def tw18284088155318344992:=()
def tw7254514136898094146:=()
def tw16686138592064965742:=()
def tw11742299636646717814:=()
def tw12754003353348216717:=()
def tw7958692415370201522:=()
def tw12012404595101196482:=()
def tw17531836156549919098:=()
def tw18059839775857144623:=()
def tw14070546258726784094:=()
def tw11797266534841919239:=()
def tw11731197192423805104:=()
def tw17687269161791470614:=()
def tw4304832317232091057:=()
def tw11781607592345527873:=()
def tw7487324741488014788:=()
def tw5398155819272520207:=()
def tw18196686986728273105:=()
def tw16877413789052170385:=()
def tw3114894176292832274:=()
def tw1492823876193445948:=()
def tw16981366268012325269:=()
def tw7404751323088423375:=()
def tw10532842239254119862:=()
def tw9628878891452942458:=()
def tw15780270610698131009:=()
def tw7237601782624386568:=()
def tw13050009532346494928:=()
def tw18059832530251441858:=()
def tw7260378447858285469:=()
def tw11400131838955971643:=()
def tw16748364096588746038:=()
def tw12515223969822755910:=()
def tw12369767227134196412:=()
def tw13010422550438047000:=()
def tw3438401961016238114:=()
def tw2673395633941187826:=()
def tw10776345329748114115:=()
def tw5261606039067254118:=()
def tw11609876108305407436:=()
def tw529180100774039576:=()
def tw8472797578687328248:=()
def tw13862758416347359682:=()
def tw11042802316238993887:=()
def tw11649803172526548080:=()
def tw17523215636830604935:=()
def tw15947529352988627331:=()
def tw3535241361869456757:=()
def tw3322355331658059386:=()
def tw5131507496849197526:=()
def tw11333506229443314477:=()
def tw4064998461287570990:=()
def tw7013416869947919012:=()
def tw18188555676929481733:=()
def tw16349442972644943962:=()
def tw17351683790209464422:=()
def tw17358521853914299832:=()
def tw12836008358829146669:=()
def tw9665435105044417943:=()
def tw12858072219193320171:=()
def tw18329318961084407419:=()
def tw6157303358258859461:=()
def tw18128626631014697683:=()
def tw14145743638309682456:=()
def tw9523558869855468272:=()
def tw16184379824532369938:=()
def tw13784226199873630739:=()
def tw6897235708257013:=()
def tw4326560081752222512:=()
def tw16709337342897998780:=()
def tw7423588562338980752:=()
def tw220107536932834392:=()
def tw7188915330861419516:=()
def tw18389814460604808396:=()
def tw7094723189480664852:=()
def tw11815067206262777827:=()
def tw6583363160723093342:=()
def tw15495750126732626725:=()
def tw7362910112972198846:=()
def tw12420000862752282621:=()
def tw4708147211704114101:=()
def tw16517257785353782146:=()
def tw7468184844200026286:=()
def tw7330629127365129332:=()
def tw4928041470617446191:=()
def tw13219364901049000504:=()
def tw4617390152823251706:=()
def tw17097224014396789831:=()
def tw13338915852519214825:=()
def tw9985379293664378671:=()
def tw4809871047955403928:=()
def tw14719059436641206877:=()
def tw13795136217554203441:=()
def tw18419619113988047064:=()
def tw2993862905958506433:=()
def tw6633819634530127377:=()
def tw3373301809496636185:=()
def tw15023627802595469842:=()
def tw11923090133720835312:=()
def tw4647204557855784711:=()
def tw2656990413502365074:=()
def tw7123620500012622994:=()
def tw2890255058045099934:=()
def tw8974969256893773877:=()
def tw1496550058313569643:=()
def tw3173503240193359371:=()
def tw15027695698984273859:=()
def tw1654450323398088368:=()
def tw5452706661693489829:=()
def tw16284949023791004853:=()
def tw9088094818855506187:=()
def tw17706800695050748917:=()
def tw5595647118588076488:=()
def tw16702216728394568854:=()
def tw2958209749555927918:=()
def tw17742499497200247664:=()
def tw1282098779572314396:=()
def tw10511292438019763109:=()
def tw1600874393385413340:=()
def tw828709001355518393:=()
def tw7610117996593420997:=()
def tw4245585653403725961:=()
def tw13503739580875648084:=()
def tw696183810658689450:=()
def tw6955272709770685680:=()
def tw2289994682141703222:=()
def tw617909910834237509:=()
def tw13226963657697898478:=()
def tw15903001668450350862:=()
def tw2970883945428747705:=()
def tw7705559526658043569:=()
def tw8239935586636128224:=()
def tw1740248676728845243:=()
def tw16136572857095814646:=()
def tw2393635951275047386:=()
def tw12663132005192821650:=()
def tw725007132333549594:=()
def tw9941571134857448349:=()
def tw9643042379074254659:=()
def tw2513558002380568291:=()
def tw2006472232801241379:=()
def tw17247413247988264053:=()
def tw14232588087586252392:=()
def tw9781322336244864737:=()
def tw6905040028597935082:=()
def tw8729386978659662383:=()
def tw18148778744043813859:=()
def tw3361040588086479797:=()
def tw12808212036765754722:=()
def tw7807143657032203727:=()
def tw9951674848524199589:=()
def tw17103126736383668619:=()
def tw15657651941464336162:=()
end PySem.W.Fast
namespace L2
open PySem PySem.Spec PyProof.Rows
abbrev Key:=Sum Int Str
def eK:Key->Value->Bool
 | .inl k,v=>Value.isInt k v
 | .inr x,v=>Value.isStrOf x v
def LN(w:World):Key->Int
 | .inl k=>hashInt k
 | .inr x=>hashStr w x
theorem u6:∀{k:Key} {v:Value},eK k v=true->(∃i t,k=Sum.inl i/\v=Value.int i t)\/(∃x t,k=Sum.inr x/\v=Value.str x t)
 | .inl i,v,h=>by
  obtain⟨t,e⟩:=Value.isInt_shape (k:=i) (v:=v) h;exact .inl ⟨i,t,rfl,e⟩
 | .inr x,v,h=>by
  obtain⟨t,e⟩:=Value.isStrOf_shape (x:=x) (v:=v) h;exact .inr ⟨x,t,rfl,e⟩
theorem yi(i:Int)(t:Tok):eK (.inl i) (.int i t)=true:=by simp[eK,Value.isInt]
theorem xJ(x:Str)(t:Tok):eK (.inr x) (.str x t)=true:=by simp[eK,Value.isStrOf]
theorem Jh(a b:Int):decide ((Sum.inl a:Key)=Sum.inl b)=(a == b):=by
 by_cases e:a=b
 ·subst e;simp
 ·have h:¬(Sum.inl a:Key)=Sum.inl b:=λq=>e (Sum.inl.inj q);rw[iG h];exact(beq_eq_false_iff_ne.mpr e).symm
theorem Ik(a b:Str):decide ((Sum.inr a:Key)=Sum.inr b)=decide (a=b):=by
 by_cases e:a=b
 ·subst e;simp
 ·have h:¬(Sum.inr a:Key)=Sum.inr b:=λq=>e (Sum.inr.inj q);rw[iG h,iG e]
theorem Jk(a:Int)(b:Str):decide ((Sum.inl a:Key)=Sum.inr b)=false:=iG (λq=>nomatch q)
theorem HB(a:Str)(b:Int):decide ((Sum.inr a:Key)=Sum.inl b)=false:=iG (λq=>nomatch q)
def x3(prog:Program)(w:World):PySem.KeyKind prog w Key where
 is:=eK
 hash:=LN w
 inj:=λv a b o g=>by
  rcases u6 o with⟨i,t,rfl,rfl⟩ | ⟨x,t,rfl,rfl⟩
  ·rcases u6 g with⟨j,u,rfl,e⟩ | ⟨y,u,rfl,e⟩
   ·injection e with c _;rw[c]
   ·exact nomatch e
  ·rcases u6 g with⟨j,u,rfl,e⟩ | ⟨y,u,rfl,e⟩
   ·exact nomatch e
   ·injection e with c _;rw[c]
 byValue:=λk v h=>by
  rcases u6 h with⟨i,t,rfl,rfl⟩ | ⟨x,t,rfl,rfl⟩<;>rfl
 pyHash:=λd h=>by
  rcases u6 d with⟨i,t,rfl,rfl⟩ | ⟨x,t,rfl,rfl⟩
  ·exact wpAny_pyHash_int h
  ·exact wpAny_pyHash_str h
 eqBool:=λl d h=>by
  rcases u6 l with⟨i,t,rfl,rfl⟩ | ⟨x,t,rfl,rfl⟩
  ·rcases u6 d with⟨j,u,rfl,rfl⟩ | ⟨y,u,rfl,rfl⟩
   ·rw[Jh] at h;exact wpAny_eqBool_int h
   ·rw[Jk] at h;exact SeqAt.EqAt.int_str i t y u _ _ _ _ h
  ·rcases u6 d with⟨j,u,rfl,rfl⟩ | ⟨y,u,rfl,rfl⟩
   ·rw[HB] at h;exact SeqAt.EqAt.str_int x t j u _ _ _ _ h
   ·rw[Ik] at h;exact wpAny_eqBool_str h
 «strs»:=λk x t v h=>by
  rcases u6 h with⟨i,u,rfl,e⟩ | ⟨y,u,rfl,e⟩
  ·exact nomatch e
  ·injection e with c _
   subst c;cases v<;>rfl
theorem nM(prog:Program)(w:World)(i:Int)(t:Tok):(x3 prog w).is (.inl i) (.int i t)=true:=yi i t
theorem qA(prog:Program)(w:World)(x:Str)(t:Tok):(x3 prog w).is (.inr x) (.str x t)=true:=xJ x t
theorem pZ{prog:Program}{w:World}{A:Around}{E:QN}{s:Shared}{Q:Int->Shared->Prop}(h:Q 0xFCA86420 { s with toks:=s.toks+1 }):wpAny (model prog w) A (pyHash .none) Q E s:=by
 have a:s.TypeIs .none "NoneType":=rfl;unfold pyHash;have b:[Value.none].any Value.onHeap=false:=rfl;refine cB ?_;rw[cRoomFor,qc (by rw[b];exact nT)];refine hH ?_;refine cB (wpAny_specialOf a F.slot_NoneType_hash.lookup ?_);show wpAny _ _ (if (some (Value.builtin "NoneType.__hash__") == some Value.none)=true then _ else _) Q E s;rw[qc (by rw[beq_builtin_none];exact nT)];refine cB (wpAny_specialOf a F.slot_NoneType_hash.lookup ?_);show wpAny _ _ (callSpecialIfBoundUnlessNone? .none "__hash__" _ >>= _) Q E s
 refine cB (wpAny_callSpecialIfBoundUnlessNone?_slot a F.slot_NoneType_hash
  (Da F.slot_NoneType_hash a F.entry_NoneType_hash
   (show wpAny _ _ (do ret (<-mkInt 0xFCA86420)) _ _ s from wpAny_ret_mkInt ?_) (F.args_NoneType_hash_1 _)))
 show wpAny _ _ (if (decide (-(2:Int)^63<=0xFCA86420)&&decide ((0xFCA86420:Int)<2^63))=true then _ else _) Q E _;rw[qq (by decide)];exact hH h
abbrev sv:=Option Key
def iK:sv->Value->Bool
 | some k,v=>eK k v
 | none,v=>v == .none
def Kb(w:World):sv->Int
 | some k=>LN w k
 | none=>0xFCA86420
theorem C6{v:Value}(h:iK none v=true):v=.none:=eq_of_beq h
def iN(prog:Program)(w:World):PySem.KeyKind prog w sv where
 is:=iK
 hash:=Kb w
 inj:=λv a b o l=>by
  cases a with
  | none=>
   cases b with
   | none=>rfl
   | some k=>
    have e:=C6 o;subst e;rcases u6 l with⟨i,t,rfl,e⟩ | ⟨x,t,rfl,e⟩<;>cases e
  | some k=>
   cases b with
   | none=>
    have e:=C6 l;subst e;rcases u6 o with⟨i,t,rfl,e⟩ | ⟨x,t,rfl,e⟩<;>cases e
   | some d=>rw[(x3 prog w).inj v k d o l]
 byValue:=λk v h=>by
  cases k with
  | none=>rw[C6 h];rfl
  | some k=>exact(x3 prog w).byValue k v h
 pyHash:=λ{A E s k v Q} c h=>by
  cases k with
  | none=>rw[C6 c];exact pZ h
  | some k=>exact(x3 prog w).pyHash c h
 eqBool:=λ{A E s a b u v Q} j c h=>by
  cases a with
  | none=>
   have e:=C6 j;subst e
   cases b with
   | none=>
    have e:=C6 c;subst e;exact SeqAt.EqAt.same _ _ _ _ _ (by simpa using h)
   | some k=>
    have g:Q false s:=by simpa using h
    rcases u6 c with⟨i,t,rfl,rfl⟩ | ⟨x,t,rfl,rfl⟩
    ·exact SeqAt.EqAt.none_int i t _ _ _ _ g
    ·exact SeqAt.EqAt.none_str x t _ _ _ _ g
  | some k=>
   cases b with
   | none=>
    have e:=C6 c;subst e;have g:Q false s:=by simpa using h
    rcases u6 j with⟨i,t,rfl,rfl⟩ | ⟨x,t,rfl,rfl⟩
    ·exact SeqAt.EqAt.int_none i t _ _ _ _ g
    ·exact SeqAt.EqAt.str_none x t _ _ _ _ g
   | some d=>
    refine(x3 prog w).eqBool j c ?_
    have e:decide ((some k:sv)=some d)=decide (k=d):=by
     by_cases e:k=d
     ·subst e;simp
     ·rw[iG e,iG λq=>e (tL q)]
    rwa [e] at h
 «strs»:=λk x t v h=>by
  cases k with
  | none=>cases C6 h
  | some k=>exact(x3 prog w).strs k x t v h
inductive V where
 | p7 | bl (b:Bool) | int (i:Int) | str (x:Str) | byt (b:Array UInt8) | flt (b:UInt64) | ref (a:Addr) | ty (n:String)
 deriving DecidableEq
def RelV:V->Value->Prop
 | .p7,u=>u=Value.none
 | .bl b,u=>u=Value.bool b
 | .int i,u=>∃t,u=Value.int i t
 | .str x,u=>∃t,u=Value.str x t
 | .byt b,u=>∃t,u=Value.bytes b t
 | .flt b,u=>∃t,u=Value.float b t
 | .ref a,u=>u=Value.ref a
 | .ty n,u=>u=Value.type n
abbrev Vals:List V->QG->Prop:=Paired RelV
theorem Vals.length{xs:List V}{a:QG}(r:Vals xs a):xs.length=a.length:=PJ r
theorem Vals.get:∀{xs:List V} {a:QG} {i:Nat} {x:V},Vals xs a->xs[i]?=some x->∃u,a[i]?=some u/\RelV x u
 | _,_,_,_,.nil,e=>by simp at e
 | _,_,0,_,.cons r _,e=>by simp at e;subst e;exact⟨_,rfl,r⟩
 | _,_,i+1,x,.cons _ t,e=>by
  obtain⟨u,c,b⟩:=Vals.get (i:=i) (x:=x) t (by simpa using e);exact⟨u,by simpa using c,b⟩
theorem Vals.set{x:V}{u:Value}(r:RelV x u):∀{xs:List V} {a:QG} (i:Nat),Vals xs a->Vals (xs.set i x) (a.set i u)
 | _,_,_,.nil=>.nil
 | _,_,0,.cons _ t=>.cons r t
 | _,_,i+1,.cons q t=>.cons q (Vals.set r i t)
theorem Vals.append:∀{xs a:List V} {c b:QG},Vals xs c->Vals a b->Vals (xs++a) (c++b)
 | _,_,_,_,.nil,s=>s
 | _,_,_,_,.cons r t,s=>.cons r (Vals.append t s)
theorem Vals.take:∀{xs:List V} {a:QG} (n:Nat),Vals xs a->Vals (xs.take n) (a.take n)
 | _,_,0,_=>.nil
 | _,_,_+1,.nil=>.nil
 | _,_,n+1,.cons r t=>.cons r (Vals.take n t)
theorem Vals.drop:∀{xs:List V} {a:QG} (n:Nat),Vals xs a->Vals (xs.drop n) (a.drop n)
 | _,_,0,r=>r
 | _,_,_+1,.nil=>.nil
 | _,_,n+1,.cons _ t=>Vals.drop n t
def ak:Option V->QQ->Prop
 | some v,some u=>RelV v u
 | none,none=>True
 | _,_=>False
def KV{a:Type}:List (a×V)->List (a×Value)->Prop:=Paired λ(p:a×V) (q:a×Value)=>p.1=q.1/\RelV p.2 q.2
def kV:Key->V
 | .inl i=>.int i
 | .inr x=>.str x
inductive HO where
 /-- a list -/
 | lst (xs:List V)
 /-- a tuple (never changes) -/
 | tup (xs:List V)
 /-- a dict whose keys are ints and texts;one whose keys are tuples of ints and texts (the empty one is both) -/
 | dK (kvs:List (Key×V)) | dE (kvs:List (Key×V)) (ep:Nat) | dN (kvs:List (sv×V)) | dT (kvs:List (List Key×V))
 /-- a set of ints: its members,its size -/
 | set (S:Key->Bool) (n:Nat)
 /-- an instance of the class at C,its dict at dx,its attributes -/
 | ins (C dx:Addr) (fs:List (Str×V))
 /-- the dict of the instance at x -/
 | own (x:Addr)
 /-- the dict of an exception -/
 | xd (fs:List (Str×V))
 /-- a bound method,f of x -/
 | met (f x:Addr)
 /-- a range object lo,lo+1,.. below hi -/
 | rng (lo hi:Int)
 /-- a thing that is known to the object (the script;a dict while a loop walks it): read,never written while it is so -/
 | frz (o:Obj) (u:HO)
 /-- a code object's table -/
 | tbl (ps:QK)
 /-- any other thing,by what is true of its one object (a def of one's own: SetO a S n:=HO.ext fun h=>..) -/
 | ext (φ:Heap->Prop)
abbrev Hp:=Addr->Option HO
def upd(H:Hp)(a:Addr)(o:HO):Hp:=λb=>if b=a then some o else H b
theorem g9{H:Hp}{a:Addr}{o:HO}:upd H a o a=some o:=by unfold upd;rw[qq rfl]
theorem i4{H:Hp}{a b:Addr}{o:HO}(h:b≠a):upd H a o b=H b:=by unfold upd;rw[qc h]
theorem cj{H:Hp}{a:Addr}{o u:HO}:upd (upd H a o) a u=upd H a u:=by
 funext b;unfold upd;split<;>rfl
theorem Ah{H:Hp}{a b:Addr}{o u:HO}(h:H a=some o)(h':H b=some u)(d:o≠u):a≠b:=by
 intro e;subst e;rw[h] at h';exact d (tL h')
theorem w5{H:Hp}{a b:Addr}{o:HO}(h:H a=some o)(h':H b=none):a≠b:=by
 intro e;subst e;rw[h] at h';cases h'
section
variable(P:Program)(w:World)
def u3(H:Hp)(h:Heap)(a:Addr):HO->Prop
 | .lst d=>d.length<=sizeLine/\∃(c:QG) (n:Nat),Vals d c/\h.get? a=some { cls:=.type "list",data:=.seq c.toArray n }
 | .tup d=>d.length<=sizeLine/\∃c:QG,Vals d c/\IsTup h a c.toArray
 | .dK b=>b.length<=sizeLine/\(a == sysModules)=false/\∃vs,KV b vs/\h.DictOf (x3 P w) a vs
 | .dE b j=>b.length<=sizeLine/\(a == sysModules)=false/\∃vs,KV b vs/\h.DictAt (x3 P w) a vs j
 | .dN b=>b.length<=sizeLine/\(a == sysModules)=false/\∃vs,KV b vs/\h.DictOf (iN P w) a vs
 | .dT b=>b.length<=sizeLine/\(a == sysModules)=false/\∃d:List (List Key×Addr×Value),
   Paired (λ(p:List Key×V) (q:List Key×Addr×Value)=>p.1=q.1/\H q.2.1=some (.tup (p.1.map kV))/\RelV p.2 q.2.2) b d /\
   ∃o y j,h.get? a=some o/\o.ExactDict/\o.data=.dict y j/\y.toList=d.map (entryOfKey (tupleKind (x3 P w)))/\(d.map (·.1)).Nodup
 | .set S n=>h.SetOf (x3 P w) a S n
 | .ins C g fs=>H g=some (.own a)/\fs.length<=1000/\g≠a/\h.get? a=some (PySem.W.instObj C g) /\
   ∃e,h.Ns1 g e/\(∀f,ak (fs.lookup f) (e f))/\PySem.Within e (fs.map (·.1))
 | .own _=>∃o,h.get? a=some o
 | .xd fs=>∃e,h.Ns1 a e/\∀f,ak (fs.lookup f) (e f)
 | .rng lo B=>∃t u v,h.get? a=some { cls:=.type "range",data:=.fields #[.int lo t,.int B u,.int 1 v] }
 | .frz o u=>h.get? a=some o/\u3 H h a u
 | .tbl z=>h.get? a=some { cls:=.none,data:=.fields z }
 | .met f x=>h.get? a=some (PySem.W.methodObj (.ref f) (.ref x))
 | .ext i=>i h/\(∃o,h.get? a=some o)/\∀r l:Heap,i r->(∀o,r.get? a=some o->l.get? a=some o)->i l
def R5(H:Hp)(h:Heap):Prop:=∀a o,H a=some o->u3 P w H h a o
end
section
variable{P:Program}{w:World}{H H':Hp}{h h':Heap}{a:Addr}{o:HO}
theorem u3.lt(x:u3 P w H h a o):a<h.objs.size:=by
 cases o with
 | lst c=>obtain⟨_,_,_,_,e⟩:=x;exact oD e
 | tup c=>obtain⟨_,_,_,p⟩:=x;exact p.lt
 | dK b=>obtain⟨_,_,_,_,o,_,_,e,_⟩:=x;exact oD e
 | dE b j=>obtain⟨_,_,_,_,o,_,e,_⟩:=x;exact oD e
 | dN b=>obtain⟨_,_,_,_,o,_,_,e,_⟩:=x;exact oD e
 | dT b=>obtain⟨_,_,_,_,o,_,_,e,_⟩:=x;exact oD e
 | set S n=>obtain⟨o,_,_,_,e,_⟩:=x;exact oD e
 | ins C l fs=>obtain⟨_,_,_,e,_⟩:=x;exact oD e
 | own y=>obtain⟨_,e⟩:=x;exact oD e
 | xd fs=>obtain⟨_,⟨_,_,_,e,_⟩,_⟩:=x;exact oD e
 | rng lo i=>obtain⟨_,_,_,e⟩:=x;exact oD e
 | frz ob u=>obtain⟨e,_⟩:=x;exact oD e
 | tbl g=>exact oD (show h.get? a=some _ from x)
 | met f y=>exact oD (show h.get? a=some _ from x)
 | ext d=>obtain⟨_,⟨_,e⟩,_⟩:=x;exact oD e
theorem Paired.IC{g e:Type}{F G:g->e->Prop}:∀{d:List g} {c:List e},Paired F d c->(∀a b,F a b->G a b)->Paired G d c
 | _,_,.nil,_=>.nil
 | _,_,.cons r t,f=>.cons (f _ _ r) (Paired.IC t f)
theorem u3.lS(x:u3 P w H h a o)(k:∀b u,(b=a\/H b=some (.own a))->h.get? b=some u->h'.get? b=some u)
  (M:∀b,H b=some (.own a)->H' b=some (.own a)) (J:∀b xs,H b=some (.tup xs)->H' b=some (.tup xs)):u3 P w H' h' a o:=by
 induction o with
 | lst xs=>obtain⟨z,l,n,r,e⟩:=x;exact⟨z,l,n,r,k _ _ (.inl rfl) e⟩
 | tup xs=>obtain⟨z,l,r,ob,e,c⟩:=x;exact⟨z,l,r,ob,k _ _ (.inl rfl) e,c⟩
 | dK j=>obtain⟨z,y,vs,r,ob,g,i,e,c⟩:=x;exact⟨z,y,vs,r,ob,g,i,k _ _ (.inl rfl) e,c⟩
 | dN j=>obtain⟨z,y,vs,r,ob,g,i,e,c⟩:=x;exact⟨z,y,vs,r,ob,g,i,k _ _ (.inl rfl) e,c⟩
 | dE j i=>obtain⟨z,y,vs,r,ob,g,e,c⟩:=x;exact⟨z,y,vs,r,ob,g,k _ _ (.inl rfl) e,c⟩
 | dT j=>
  obtain⟨z,y,xs,r,ob,g,i,e,c⟩:=x;exact⟨z,y,xs,Paired.IC r λp q z=>⟨z.1,J _ _ z.2.1,z.2.2⟩,ob,g,i,k _ _ (.inl rfl) e,c⟩
 | set S n=>obtain⟨ob,g,i,t,e,c⟩:=x;exact⟨ob,g,i,t,k _ _ (.inl rfl) e,c⟩
 | ins C T fs=>
  obtain⟨d,z,ne,e,E,⟨B,g,i,O,c⟩,r⟩:=x;exact⟨M _ d,z,ne,k _ _ (.inl rfl) e,E,⟨B,g,i,k _ _ (.inr d) O,c⟩,r⟩
 | own y=>obtain⟨ob,e⟩:=x;exact⟨ob,k _ _ (.inl rfl) e⟩
 | xd fs=>obtain⟨E,⟨B,g,i,e,c⟩,r⟩:=x;exact⟨E,⟨B,g,i,k _ _ (.inl rfl) e,c⟩,r⟩
 | rng lo R=>obtain⟨t,u,v,e⟩:=x;exact⟨t,u,v,k _ _ (.inl rfl) e⟩
 | frz ob u I=>obtain⟨e,q⟩:=x;exact⟨k _ _ (.inl rfl) e,I q⟩
 | tbl G=>
  have e:h.get? a=some { cls:=.none,data:=.fields G }:=x;show h'.get? a=some { cls:=.none,data:=.fields G };exact k a _ (.inl rfl) e
 | met f y=>
  have e:h.get? a=some (PySem.W.methodObj (.ref f) (.ref y)):=x;show h'.get? a=some (PySem.W.methodObj (.ref f) (.ref y));exact k a _ (.inl rfl) e
 | ext Q=>obtain⟨p,⟨o,e⟩,st⟩:=x;exact⟨st _ _ p λo q=>k _ _ (.inl rfl) q,⟨o,k _ _ (.inl rfl) e⟩,st⟩
theorem R5.lt(x:R5 P w H h)(e:H a=some o):a<h.objs.size:=(x a o e).lt
theorem R5.fresh(x:R5 P w H h)(e:h.objs.size<=a):H a=none:=by
 cases q:H a with
 | none=>rfl
 | some u=>exact absurd (re (x.lt q) e) (Lf _)
theorem R5.kept(x:R5 P w H h)(k:∀b u,h.get? b=some u->h'.get? b=some u):R5 P w H h':=λa o e=>
 (x a o e).lS (λb u _ q=>k b u q) (λ_ q=>q) λ_ _ q=>q
theorem R5.laid(x:R5 P w H h)(k:∀b u,h.get? b=some u->h'.get? b=some u)(i:h.objs.size<=a)(new:u3 P w (upd H a o) h' a o):R5 P w (upd H a o) h':=λb u e=>by
 have d:=x.fresh i
 by_cases g:b=a
 ·subst g;rw[g9] at e;cases e;exact new
 ·rw[i4 g] at e;exact(x b u e).lS (λc v _ q=>k c v q) (λc q=>by rw[i4 (w5 q d)];exact q) λc j q=>by rw[i4 (w5 q d)];exact q
end
def Dd(H:Hp)(a:Addr)(kvs:List (Key×V)):Prop:=H a=some (.dK kvs)\/∃b,H a=some (.dE kvs b)
theorem Dd.ok{P:Program}{w:World}{H:Hp}{h:Heap}{a:Addr}{kvs:List (Key×V)}(r:Dd H a kvs)(x:R5 P w H h):u3 P w H h a (.dK kvs):=by
 rcases r with r | ⟨c,r⟩
 ·exact x a _ r
 ·obtain⟨z,y,vs,b,d⟩:=(show u3 P w H h a (.dE kvs c) from x a _ r)
  exact⟨z,y,vs,b,d.dictOf⟩
def Rd(H:Hp)(a:Addr)(u:HO):Prop:=H a=some u\/∃o,H a=some (.frz o u)
theorem Rd.ok{P:Program}{w:World}{H:Hp}{h:Heap}{a:Addr}{u:HO}(r:Rd H a u)(x:R5 P w H h):u3 P w H h a u:=by
 rcases r with r | ⟨o,r⟩
 ·exact x a u r
 ·obtain⟨_,q⟩:=x a _ r;exact q
def cS:Option HO->Prop
 | some (.lst _)=>True
 | some (.dK _)=>True
 | some (.dE _ _)=>True
 | some (.dN _)=>True
 | some (.dT _)=>True
 | some (.set _ _)=>True
 | some (.ins _ _ _)=>True
 | some (.ext _)=>True
 | _=>False
theorem Dd.mut{H:Hp}{a:Addr}{kvs:List (Key×V)}(r:Dd H a kvs):cS (H a):=by
 rcases r with r | ⟨b,r⟩<;>(rw[r];exact True.intro)
section
variable{P:Program}{w:World}{H:Hp}{h h':Heap}{x e:Addr}{o':HO}
theorem R5.write(ok:R5 P w H h)(j:cS (H x))(C:e=x\/H e=some (.own x))(k:∀b u,b≠e->h.get? b=some u->h'.get? b=some u)(p:∃u,h'.get? e=some u)
  (new:u3 P w (upd H x o') h' x o'):R5 P w (upd H x o') h':=λb u q=>by
 have d:∀c y,H c=some (.own y)->c≠x:=λc y r z=>by subst z;rw[r] at j;exact j
 have g:∀c i,H c=some (.tup i)->c≠x:=λc i r z=>by subst z;rw[r] at j;exact j
 by_cases o:b=x
 ·subst o;rw[g9] at q;cases q;exact new
 ·rw[i4 o] at q
  by_cases a:b=e
  ·have B:H b=some (.own x):=by
    rcases C with z | z
    ·exact absurd (a.trans z) o
    ·rw[a];exact z
   rw[q] at B;cases B;obtain⟨v,E⟩:=p;exact⟨v,by rw[a];exact E⟩
  ·refine(ok b u q).lS (λc v l r=>k c v ?_ r) (λc r=>by rw[i4 (d c b r)];exact r) λc i r=>by rw[i4 (g c i r)];exact r
   rcases l with rfl | l
   ·exact a
   ·rintro rfl;rcases C with z | z
    ·exact d c b l z
    ·rw[l] at z;cases z;exact o rfl
end
structure Un(fs ex:QE)(H H':Hp)(h h':Heap):Prop where
 keep:∀b o,h.get? b=some o->H b=none->b∉fs->b∉ex->h'.get? b=some o
 slot:∀b o,h.get? b=some o->H b=none->b∈fs->b∉ex->∃sl,h'.get? b=some { o with slots:=sl }
 free:∀b o,h.get? b=some o->H b=none->b∉ex->H' b=none
 there:∀b o,h.get? b=some o->b∉ex->∃o',h'.get? b=some o'
 D5:∀b xs,H b=some (.tup xs)->H' b=some (.tup xs)
 frzs:∀b o u,H b=some (.frz o u)->H' b=some (.frz o u)
 tbls:∀b ps,H b=some (.tbl ps)->∃more,H' b=some (.tbl (ps++more))
 low:mainGlobals∉ex->(∃o,h.get? mainGlobals=some o)->H sysModules=none->H' sysModules=none
section
variable{fs fs' ex ex':QE}{H H1 H2:Hp}{h h1 h2 h':Heap}{a x e:Addr}{o:HO}
theorem Un.any(u:Un fs ex H H1 h h1){b:Addr}{ob:Obj}(q:h.get? b=some ob)(n:H b=none)(c:b∉ex):∃g,h1.get? b=some { ob with slots:=g }:=by
 by_cases d:b∈fs
 ·exact u.slot b ob q n d c
 ·exact⟨ob.slots,u.keep b ob q n d c⟩
theorem Un.trans(a:Un fs ex H H1 h h1)(b:Un fs ex H1 H2 h1 h2):Un fs ex H H2 h h2 where
 keep:=λc ob q n j d=>b.keep c ob (a.keep c ob q n j d) (a.free c ob q n d) j d
 slot:=λc ob q n j d=>by
  obtain⟨y,g⟩:=a.slot c ob q n j d;obtain⟨l,r⟩:=b.slot c _ g (a.free c ob q n d) j d;exact⟨l,r⟩
 free:=λc ob q n d=>by
  obtain⟨p,g⟩:=a.there c ob q d;exact b.free c p g (a.free c ob q n d) d
 there:=λc ob q d=>by
  obtain⟨p,g⟩:=a.there c ob q d;exact b.there c p g d
 D5:=λc i q=>b.D5 c i (a.D5 c i q)
 frzs:=λc ob i q=>b.frzs c ob i (a.frzs c ob i q)
 tbls:=λc u q=>by
  obtain⟨v,g⟩:=a.tbls c u q;obtain⟨m2,r⟩:=b.tbls c _ g;exact⟨v++m2,by rw[r,Array.append_assoc]⟩
 low:=λd ⟨o,q⟩ n=>b.low d (a.there _ o q d) (a.low d ⟨o,q⟩ n)
theorem Un.kept(k:∀b u,h.get? b=some u->h'.get? b=some u):Un fs ex H H h h':=
 ⟨λb ob q _ _ _=>k b ob q,λb ob q _ _ _=>⟨ob.slots,k b ob q⟩,λ_ _ _ n _=>n,λb ob q _=>⟨ob,k b ob q⟩,λ_ _ q=>q,λ_ _ _ q=>q,λ_ c q=>⟨#[],by rw[q];simp⟩,λ_ _ n=>n⟩
theorem Un.refl:Un fs ex H H h h:=Un.kept λ_ _ q=>q
theorem Un.laid(k:∀b u,h.get? b=some u->h'.get? b=some u)(d:h.objs.size<=a)(c:H a=none):Un fs ex H (upd H a o) h h' where
 keep:=λb u q _ _ _=>k b u q
 slot:=λb u q _ _ _=>⟨u.slots,k b u q⟩
 free:=λb u q n _=>by rw[i4 (sx (re (oD q) d))];exact n
 there:=λb u q _=>⟨u,k b u q⟩
 D5:=λb g q=>by rw[i4 (w5 q c)];exact q
 frzs:=λb u g q=>by rw[i4 (w5 q c)];exact q
 tbls:=λb i q=>⟨#[],by rw[i4 (w5 q c),q];simp⟩
 low:=λ_ ⟨_,q⟩ n=>by rw[i4 (sx (re (Nat.lt_trans (by decide) (oD q)) d))];exact n
theorem Un.write(d:cS (H x))(v:e=x\/H e=some (.own x))(k:∀b u,b≠e->h.get? b=some u->h'.get? b=some u)(j:∃u,h'.get? e=some u):Un fs ex H (upd H x o) h h':=by
 have g:∀b,H b=none->b≠x:=λb n z=>by subst z;rw[n] at d;exact d
 have l:∀b,H b=none->b≠e:=λb n z=>by
  subst z;rcases v with r | r
  ·exact g b n r
  ·rw[n] at r;cases r
 have i:∀b u,H b=some u->¬cS (some u)->b≠x:=λb u q nm z=>by subst z;rw[q] at d;exact nm d
 refine⟨λb u q n _ _=>k b u (l b n) q,λb u q n _ _=>⟨u.slots,k b u (l b n) q⟩,λb u q n _=>by rw[i4 (g b n)];exact n,λb u q _=>?_,
  λb p q=>by rw[i4 (i b _ q λz=>z)];exact q,λb u p q=>by rw[i4 (i b _ q λz=>z)];exact q,λb y q=>⟨#[],by rw[i4 (i b _ q λz=>z),q];simp⟩,λ_ _ n=>by rw[i4 (g _ n)];exact n⟩
 by_cases c:b=e
 ·subst c;exact j
 ·exact⟨u,k b u c q⟩
theorem Un.mono(u:Un fs ex H H1 h h1)(g:∀b∈fs,b∈fs')(d:∀b∈ex,b∈ex'):Un fs' ex' H H1 h h1:=
 ⟨λb ob q n i c=>u.keep b ob q n (λz=>i (g b z)) λz=>c (d b z),λ_ _ q n _ c=>u.any q n λz=>c (d _ z),λb ob q n c=>u.free b ob q n λz=>c (d b z),λb ob q c=>u.there b ob q λz=>c (d b z),u.D5,u.frzs,u.tbls,λc q n=>u.low (λz=>c (d _ z)) q n⟩
end
def cR(h:Heap)(H:Hp):QE:=(List.range h.objs.size).filter λa=>(H a).isSome
def mU(h:Heap)(H:Hp):Heap:=PySem.W.hideAll h (cR h H)
theorem wG(h:Heap)(H:Hp):(mU h H).objs.size=h.objs.size:=PySem.W.hideAll_size _ _
theorem CD{h:Heap}{H:Hp}{b:Addr}{o:Obj}(e:h.get? b=some o)(n:H b=none):(mU h H).get? b=some o:=
 PySem.W.hideAll_get _ e λa=>by
  have q:(H b).isSome=true:=(List.mem_filter.mp a).2;rw[n] at q;simp at q
theorem FL{h:Heap}{H:Hp}{b:Addr}{o:Obj}(e:(mU h H).get? b=some o):h.get? b=some o/\H b=none:=by
 have a:h.get? b=some o:=PySem.W.of_hideAll (cR h H) e;refine⟨a,?_⟩
 cases q:H b with
 | none=>rfl
 | some x=>
  have c:b∈cR h H:=List.mem_filter.mpr ⟨List.mem_range.mpr (oD a),by simp[q]⟩;have z:(mU h H).get? b=none:=PySem.W.hideAll_none (cR h H) c;rw[z] at e;cases e
structure Mod(K:QP)(mg:QL)(base:Heap):Prop where
 kin:K.In base
 glob:base.Ns mainGlobals mg
 blt:∃mb,base.Ns builtinsNs mb/\∀x:Str,x ≠ "__name__"->mb x=bootBuiltins x
 nolimit:base.NoLimit
structure Cx where
 prog:Program
 w:World
 K:QP
 mg:Str->QQ
 base:Heap
 A:Around
 N:QF
 s₀:Shared
 H₀:Hp
 env:Env
 outer:List Env
 stack:List Env
 ex:QE
 fn:Str->Bool
 calm:Bool
 pn:QA
 xe:Value->Shared->Prop
def W4(l:List Env):QE:=l.filterMap (·.frame)
abbrev Cx.fs(X:Cx):QE:=W4 X.outer
def Kl(a:Scope)(x:Str):Prop:=a.names.lookup x=some .local\/a.names.lookup x=some .cell\/a.names.lookup x=some .free
def Loc(a:Scope)(x:Str):Prop:=a.names.lookup x=some .local\/a.names.lookup x=some .cell
def Look(env:Env)(h:Heap)(m:QL)(x:Str)(u:Value):Prop:=
 (env.kindOf x=some .local/\m x=some u)\/((env.kindOf x=some .cell\/env.kindOf x=some .free)/\∃c,env.cells.lookup x=some c/\h.IsCell c (some u))
structure Cx.Ok(X:Cx):Prop where
 mod:Mod X.K X.mg X.base
 kind:X.env.scope.kind=.function
 glob:X.env.globals=mainGlobals
 blt:X.env.builtins=builtinsNs
 above:X.s₀.heap.objs.size<=X.env.locals
 inj:∀x y c,X.env.cells.lookup x=some c->X.env.cells.lookup y=some c->x=y
 has:∀x,(X.env.kindOf x=some .cell\/X.env.kindOf x=some .free)->∃c,X.env.cells.lookup x=some c
 cab:∀x c,X.fn x=true->X.env.cells.lookup x=some c->X.s₀.heap.objs.size<=c
 hd:X.calm=true->X.A.handled=none
 frames:X.A.frames=some X.stack
 stk:X.stack=X.outer\/(X.stack=X.env::X.outer/\X.env.frame=some X.env.locals)
 exf:∀b∈X.ex,b≠X.env.locals/\∀x c,X.env.cells.lookup x=some c->c≠b
 bs:∀b o,X.base.get? b=some o->X.s₀.heap.get? b=some o/\X.H₀ b=none
 bsz:X.base.objs.size<=X.s₀.heap.objs.size
 noex:∀b o,X.base.get? b=some o->b∉X.ex
 exfs:∀b∈X.ex,b∉X.fs
 dh:X.s₀.heap.FunFrames X.base X.outer
 frf:∀b∈X.fs,X.H₀ b=none
 sy:X.H₀ sysModules=none
structure Inv(X:Cx)(pins:QA)(σ:List (Option V))(H:Hp)(s:Shared):Prop where
 ok:X.Ok
 os:s.os=X.s₀.os
 bare:AllBare s.gens
 base:Un X.fs X.ex X.H₀ H X.s₀.heap s.heap
 loc:∃m,s.heap.Ns X.env.locals m/\∀(i:Nat) (x:Str) (v:V),X.N[i]?=some x->σ[i]?=some (some v)->Kl X.env.scope x->∃u,RelV v u/\Look X.env s.heap m x u
 cell:∀x c,X.env.cells.lookup x=some c->∃v,s.heap.IsCell c v
 free:H X.env.locals=none
 freeC:∀x c,X.env.cells.lookup x=some c->H c=none
 pin:∀p∈X.pn++pins,s.heap.get? p.1=some p.2/\H p.1=none/\p.1≠X.env.locals/\p.1∉X.fs/\∀v,p.2.data≠.cell v
 hok:R5 X.prog X.w H s.heap
 len:σ.length=X.N.length
section
variable{X:Cx}{pins:QA}{σ:List (Option V)}{H H':Hp}{s:Shared}{h':Heap}
theorem Cx.Ok.MG(ok:X.Ok){b:Addr}{o:Obj}(e:X.base.get? b=some o):b∉X.fs:=λa=>by
 have:=(ok.dh.mem a).1;rw[e] at this;cases this
theorem Inv.bs(I:Inv X pins σ H s):∀b o,X.base.get? b=some o->s.heap.get? b=some o/\H b=none:=λb o e=>
 ⟨I.base.keep b o (I.ok.bs b o e).1 (I.ok.bs b o e).2 (I.ok.MG e) (I.ok.noex b o e),I.base.free b o (I.ok.bs b o e).1 (I.ok.bs b o e).2 (I.ok.noex b o e)⟩
theorem Inv.bk(I:Inv X pins σ H s):∀b o,X.base.get? b=some o->s.heap.get? b=some o:=λb o e=>(I.bs b o e).1
theorem Inv.sys(I:Inv X pins σ H s):H sysModules=none:=by
 obtain⟨o,_,_,a,_⟩:=I.ok.mod.glob;exact I.base.low (I.ok.noex _ o a) ⟨o,(I.ok.bs _ o a).1⟩ I.ok.sy
theorem Inv.mod(I:Inv X pins σ H s):Mod X.K X.mg X.base:=I.ok.mod
theorem Inv.cU(I:Inv X pins σ H s):X.K.In s.heap:=I.ok.mod.kin.keeps I.bk
theorem Inv.lt(I:Inv X pins σ H s):X.env.locals<s.heap.objs.size:=let ⟨_,a,_⟩:=I.loc;a.lt
theorem Inv.sz(I:Inv X pins σ H s):X.s₀.heap.objs.size<=s.heap.objs.size:=sr I.ok.above (OC I.lt)
theorem Inv.Ng(I:Inv X pins σ H s){a:Addr}(h:s.heap.objs.size<=a):a∉X.fs:=λc=>by
 obtain⟨_,o,b,_⟩:=I.ok.dh.mem c;exact absurd (re (oD b) (sr I.sz h)) (Lf _)
theorem Inv.As(I:Inv X pins σ H s):∀x c,X.env.cells.lookup x=some c->c≠X.env.locals:=λx c e z=>by
 obtain⟨v,o,d,hd⟩:=I.cell x c e;obtain⟨m,⟨g,h,i,a,b,_⟩,_⟩:=I.loc;rw[z,a] at d;cases d;rw[b] at hd;cases hd
theorem Inv.dh(I:Inv X pins σ H s):s.heap.FunFrames X.base X.outer:=by
 have all:∀(l:List Env),(∀b∈W4 l,b∈X.fs)->X.s₀.heap.FunFrames X.base l->s.heap.FunFrames X.base l:=by
  intro l
  induction l with
  | nil=>intro _ _;trivial
  | cons env r h=>
   intro g q;obtain⟨u,⟨L,o,a,p,j,hd⟩,i⟩:=q;have d:L∈X.fs:=g L (by unfold W4;rw[Op,a];exact pu);obtain⟨v,e⟩:=I.base.slot L o j (I.ok.frf L d) d λz=>I.ok.exfs L z d;exact⟨u,⟨L,_,a,p,e,hd⟩,h (λb c=>g b (by unfold W4;rw[Op,a];exact ol _ c)) i⟩
 exact all X.outer (λ_ c=>c) I.ok.dh
theorem Inv.stack(I:Inv X pins σ H s):s.heap.FunFrames X.base X.stack:=by
 rcases I.ok.stk with e | ⟨e,b⟩
 ·rw[e];exact I.dh
 ·rw[e];obtain⟨m,a,_⟩:=I.loc;refine .cons (by rw[I.ok.kind];decide) b a ?_ I.dh;exact OH (sr I.ok.bsz I.ok.above)
theorem Inv.sg(I:Inv X pins σ H s):∀b∈W4 X.stack,b∈X.env.locals::X.fs:=λb a=>by
 rcases I.ok.stk with e | ⟨e,c⟩
 ·rw[e] at a;exact ol _ a
 ·rw[e] at a;unfold W4 at a;rw[Op,c] at a;exact a
theorem Inv.fA(I:Inv X pins σ H s):∀b∈W4 X.stack,H b=none:=λb a=>by
 rcases List.mem_cons.mp (I.sg b a) with e | a
 ·rw[e];exact I.free
 ·obtain⟨_,o,c,_⟩:=I.ok.dh.mem a;exact I.base.free b o c (I.ok.frf b a) λz=>I.ok.exfs b z a
theorem Inv.step{g':Array GenState}{t':Nat}{d':Drawn}{ch:QE}(I:Inv X pins σ H s)
  (h:∀b∈ch,(b∈X.ex\/X.s₀.heap.objs.size<=b)/\b≠X.env.locals/\(∀x c,X.env.cells.lookup x=some c->c≠b)/\∀p∈X.pn++pins,p.1≠b)
  (keep:∀b o,b≠X.env.locals->b∉X.fs->b∉ch->s.heap.get? b=some o->H b=none->h'.get? b=some o)
  (slot:∀b o,b≠X.env.locals->b∈X.fs->b∉ch->s.heap.get? b=some o->H b=none->∃Q,h'.get? b=some { o with slots:=Q }) (free:∀b o,b∉ch->s.heap.get? b=some o->H b=none->H' b=none)
  (there:∀b o,b∉ch->s.heap.get? b=some o->∃G,h'.get? b=some G)
  (D5:∀b xs,H b=some (.tup xs)->H' b=some (.tup xs)) (frzs:∀b o u,H b=some (.frz o u)->H' b=some (.frz o u)) (tbls:∀b ps,H b=some (.tbl ps)->∃more,H' b=some (.tbl (ps++more)))
  (low:H sysModules=none->H' sysModules=none) (ns:∀m,s.heap.Ns X.env.locals m->h'.Ns X.env.locals m) (hok:R5 X.prog X.w H' h') (hg:AllBare g') :
  Inv X pins σ H' { s with heap:=h',gens:=g',drawn:=d',toks:=t' }:=by
 have J:∀b o,X.s₀.heap.get? b=some o->b≠X.env.locals:=λb o e=>sx (re (oD e) I.ok.above)
 have y:∀b o,X.s₀.heap.get? b=some o->b∉X.ex->b∉ch:=λb o e a C=>by
  rcases(h b C).1 with z | z
  ·exact a z
  ·exact absurd (re (oD e) z) (Lf _)
 have j:∀x c,X.env.cells.lookup x=some c->∀v,s.heap.IsCell c v->h'.IsCell c v:=λx c e v ⟨o,E,hd⟩=>by
  have g:c∉ch:=λz=>(h c z).2.2.1 x c e rfl
  by_cases T:c∈X.fs
  ·obtain⟨Q,q⟩:=slot c o (I.As x c e) T g E (I.freeC x c e);exact⟨_,q,hd⟩
  ·exact⟨o,keep c o (I.As x c e) T g E (I.freeC x c e),hd⟩
 refine⟨I.ok,I.os,hg,⟨λb o e n C a=>?_,λb o e n C a=>?_,λb o e n a=>?_,λb o e a=>?_,λb xs e=>D5 b xs (I.base.D5 b xs e),λb o xs e=>frzs b o xs (I.base.frzs b o xs e),λb ps e=>?_,λa q n=>low (I.base.low a q n)⟩,?_,λx c e=>?_,?_,λx c e=>?_,λp S=>?_,hok,I.len⟩
 ·exact keep b o (J b o e) C (y b o e a) (I.base.keep b o e n C a) (I.base.free b o e n a)
 ·obtain⟨Q,B⟩:=I.base.slot b o e n C a;obtain⟨O,M⟩:=slot b _ (J b o e) C (y b o e a) B (I.base.free b o e n a);exact⟨O,M⟩
 ·obtain⟨G,B⟩:=I.base.there b o e a;exact free b G (y b o e a) B (I.base.free b o e n a)
 ·obtain⟨G,B⟩:=I.base.there b o e a;exact there b G (y b o e a) B
 ·obtain⟨U,B⟩:=I.base.tbls b ps e;obtain⟨m2,M⟩:=tbls b _ B;exact⟨U++m2,by rw[M,Array.append_assoc]⟩
 ·obtain⟨m,Y,hl⟩:=I.loc;refine⟨m,ns m Y,λi x v B M e3=>?_⟩;obtain⟨u,r,l⟩:=hl i x v B M e3;refine⟨u,r,?_⟩;rcases l with l | ⟨k,c,e,z⟩
  ·exact .inl l
  ·exact .inr ⟨k,c,e,j x c e _ z⟩
 ·obtain⟨v,z⟩:=I.cell x c e;exact⟨v,j x c e v z⟩
 ·obtain⟨m,⟨o,_,_,E,_⟩,_⟩:=I.loc;exact free _ o (λz=>(h _ z).2.1 rfl) E I.free
 ·obtain⟨v,o,E,hd⟩:=I.cell x c e;exact free c o (λz=>(h c z).2.2.1 x c e rfl) E (I.freeC x c e)
 ·obtain⟨e,n,ne,R,d⟩:=I.pin p S;have g:p.1∉ch:=λz=>(h p.1 z).2.2.2 p S rfl;exact⟨keep p.1 p.2 ne R g e n,free p.1 p.2 g e n,ne,R,d⟩
theorem Inv.un{t':Nat}(I:Inv X pins σ H s)(u:Un X.fs [] H H' s.heap h')(hok:R5 X.prog X.w H' h'):Inv X pins σ H' { s with heap:=h',toks:=t' }:=by
 obtain⟨m,⟨o,B,C,h,r⟩,_⟩:=id I.loc;obtain⟨v,p⟩:=u.any h I.free (by simp)
 exact I.step (g':=s.gens) (d':=s.drawn) (ch:=[]) (λ_ z=>nomatch z) (λb o _ c _ e n=>u.keep b o e n c (by simp)) (λb o _ c _ e n=>u.slot b o e n c (by simp)) (λb o _ e n=>u.free b o e n (by simp)) (λb o _ e=>u.there b o e (by simp)) u.D5 u.frzs u.tbls (λn=>let ⟨j,_,_,q,_⟩:=I.mod.glob;u.low (by simp) ⟨j,I.bk _ _ q⟩ n) (λy l=>by
  obtain⟨x,d,g,a,i⟩:=l;rw[h] at a;cases a;exact⟨_,d,g,p,i⟩) hok I.bare
theorem Inv.call{g':Array GenState}{t':Nat}{d':Drawn}{ch:QE}(I:Inv X pins σ H s)(u:Un (W4 X.stack) ch H H' s.heap h')(hok:R5 X.prog X.w H' h')(E:AllBare g')
  (a:∀b∈ch,(b∈X.ex\/X.s₀.heap.objs.size<=b)/\b≠X.env.locals/\(∀x c,X.env.cells.lookup x=some c->c≠b)/\∀p∈X.pn++pins,p.1≠b) :
  Inv X pins σ H' { s with heap:=h',gens:=g',drawn:=d',toks:=t' }:=by
 obtain⟨m,⟨o,Q,R,q,r⟩,_⟩:=id I.loc;obtain⟨J,h⟩:=u.any q I.free λz=>(a _ z).2.1 rfl
 exact I.step (ch:=ch) a (λb o h G d e n=>u.keep b o e n (λz=>(List.mem_cons.mp (I.sg b z)).elim h G) d) (λb o _ _ d e n=>u.any e n d) (λb o d e n=>u.free b o e n d) (λb o d e=>u.there b o e d) u.D5 u.frzs u.tbls (λn=>let ⟨B,_,_,i,_⟩:=I.mod.glob;u.low (λz=>(a _ z).1.elim (I.ok.noex _ _ i) λy=>absurd (re (oD i) I.ok.bsz) (Nat.not_lt.mpr y)) ⟨B,I.bk _ _ i⟩ n) (λO C=>by
  obtain⟨M,j,l,g,v⟩:=C;rw[q] at g;cases g;exact⟨_,j,l,h,v⟩) hok E
theorem Inv.turned{t':Nat}{it:Addr}(I:Inv X pins σ H s)(k:∀b o,b≠it->s.heap.get? b=some o->h'.get? b=some o)(i:H it=none)(g:it≠X.env.locals)
  (C:it∈X.ex\/X.s₀.heap.objs.size<=it) (B:∀x c,X.env.cells.lookup x=some c->c≠it) (y:∀p∈X.pn++pins,p.1≠it):Inv X pins σ H { s with heap:=h',toks:=t' }:=by
 have d:∀b u,H b=some u->b≠it:=λb u e z=>by rw[z,i] at e;cases e
 refine I.step (g':=s.gens) (d':=s.drawn) (ch:=[it]) (λb l=>?_) (λb o _ _ a e _=>k b o (λz=>a (by simp[z])) e) (λb o _ _ a e _=>⟨o.slots,k b o (λz=>a (by simp[z])) e⟩) (λ_ _ _ _ n=>n)
  (λb o a e=>⟨o,k b o (λz=>a (by simp[z])) e⟩) (λ_ _ e=>e) (λ_ _ _ e=>e) (λb J e=>⟨#[],by rw[e];simp⟩) (λn=>n) (λm j=>?_) (λb u e=>?_) I.bare
 ·have e:b=it:=by simpa using l
  subst e;exact⟨C,g,B,y⟩
 ·obtain⟨o,E,G,h,r⟩:=j;exact⟨o,E,G,k _ o (wh g) h,r⟩
 ·refine(I.hok b u e).lS (λc v a q=>k c v ?_ q) (λ_ q=>q) λ_ _ q=>q;rcases a with z | z
  ·rw[z];exact d b u e
  ·exact d c _ z
theorem Inv.tok(I:Inv X pins σ H s)(t:Nat):Inv X pins σ H { s with toks:=t }:=I.un (h':=s.heap) (t':=t) Un.refl I.hok
theorem Inv.kept{t':Nat}(I:Inv X pins σ H s)(k:∀b u,s.heap.get? b=some u->h'.get? b=some u):Inv X pins σ H { s with heap:=h',toks:=t' }:=I.un (Un.kept k) (I.hok.kept k)
theorem Inv.laid{a:Addr}{o:HO}{t':Nat}(I:Inv X pins σ H s)(k:∀b u,s.heap.get? b=some u->h'.get? b=some u)(c:s.heap.objs.size<=a)(new:u3 X.prog X.w (upd H a o) h' a o) :
  Inv X pins σ (upd H a o) { s with heap:=h',toks:=t' }:=I.un (Un.laid k c (I.hok.fresh c)) (I.hok.laid k c new)
theorem Inv.write{x e:Addr}{o:HO}{t':Nat}(I:Inv X pins σ H s)(c:cS (H x))(d:e=x\/H e=some (.own x))(k:∀b u,b≠e->s.heap.get? b=some u->h'.get? b=some u)(a:∃u,h'.get? e=some u)
  (new:u3 X.prog X.w (upd H x o) h' x o):Inv X pins σ (upd H x o) { s with heap:=h',toks:=t' }:=I.un (Un.write c d k a) (I.hok.write c d k a new)
theorem Inv.uL{a:QA}(I:Inv X pins σ H s)(h:∀p∈a,s.heap.get? p.1=some p.2/\H p.1=none/\p.1≠X.env.locals/\p.1∉X.fs/\∀v,p.2.data≠.cell v):Inv X a σ H s:=
 ⟨I.ok,I.os,I.bare,I.base,I.loc,I.cell,I.free,I.freeC,λp b=>(List.mem_append.mp b).elim (λz=>I.pin p (sd _ z)) (h p),I.hok,I.len⟩
theorem iW{N:QF}(c:N.Nodup){i j:Nat}{x:Str}(a:N[i]?=some x)(b:N[j]?=some x):i=j:=by
 obtain⟨h,e⟩:=List.getElem?_eq_some_iff.mp a;obtain⟨g,d⟩:=List.getElem?_eq_some_iff.mp b;exact(List.getElem_inj c).mp (e.trans d.symm)
theorem R8{M:Model}{A:Around}{E:QN}{i:Nat}{x:Str}{v:V}{u:Value}{Q:Unit->Shared->Prop}(I:Inv X pins σ H s)(hN:X.N.Nodup)(hi:X.N[i]?=some x)(G:Loc X.env.scope x)(r:RelV v u)
  (h:∀s',Inv X pins (σ.set i (some v)) H s'->(∃a,Heap.SameBut a s.heap s'.heap/\(a=X.env.locals\/X.env.cells.lookup x=some a))->Q () s') (hf:X.fn x=true\/X.env.scope.names.lookup x=some .local:=by first | exact .inl rfl | exact .inr rfl | assumption):wpAny M A (storeName X.env x u) Q E s:=by
 obtain⟨m,hn,hl⟩:=id I.loc;have a2:(X.env.scope.kind == .class||(X.env.scope.kind == .module&&X.env.locals != X.env.globals))=false:=by rw[I.ok.kind];rfl
 have S:i<σ.length:=by rw[I.len];exact(List.getElem?_eq_some_iff.mp hi).1
 have As:=I.As
 have l:∀{a:Addr} {h':Heap},(∃o,s.heap.get? a=some o/\H a=none)->Heap.SameBut a s.heap h'->R5 X.prog X.w H h':=λ{a h'} ha g b ob e=>by
  obtain⟨_,_,J⟩:=ha;refine(I.hok b ob e).lS (λc w' C q=>(g.2 c ?_).trans q) (λ_ q=>q) λ_ _ q=>q;rintro rfl;rcases C with rfl | C
  ·rw[J] at e;cases e
  ·rw[J] at C;cases C
 rcases G with R | R
 ·refine wpAny_storeName_local R hn (λh' a6 g=>?_) a2;obtain⟨oL,_,_,a5,_⟩:=id hn;refine h _ ⟨I.ok,I.os,I.bare,⟨λb o e n Y G=>?_,λb o e n Y G=>?_,I.base.free,λb o e G=>?_,I.base.D5,I.base.frzs,I.base.tbls,I.base.low⟩,⟨_,a6,λj y v' B O e3=>?_⟩,λy c e=>?_,I.free,I.freeC,λp hp=>?_,l ⟨oL,a5,I.free⟩ g,by simpa using I.len⟩ ⟨_,g,.inl rfl⟩
  ·exact(g.2 b (sx (re (oD e) I.ok.above))).trans (I.base.keep b o e n Y G)
  ·obtain⟨sl,B⟩:=I.base.slot b o e n Y G;exact⟨sl,(g.2 b (sx (re (oD e) I.ok.above))).trans B⟩
  ·obtain⟨o',B⟩:=I.base.there b o e G;exact⟨o',(g.2 b (sx (re (oD e) I.ok.above))).trans B⟩
  ·by_cases T:j=i
   ·subst T;rw[hi] at B;cases B;rw[sm S] at O;cases O;exact⟨u,r,.inl ⟨R,by simp⟩⟩
   ·rw[sf (wh T)] at O;obtain⟨u',r',q⟩:=hl j y v' B O e3;refine⟨u',r',?_⟩;rcases q with⟨k,e⟩ | ⟨k,c,e,z⟩
    ·refine .inl ⟨k,?_⟩;have:y≠x:=λe=>T (iW hN B (e▸hi));simp[this,e]
    ·exact .inr ⟨k,c,e,z.sameBut g (As y c e)⟩
  ·obtain⟨w',z⟩:=I.cell y c e;exact⟨w',z.sameBut g (As y c e)⟩
  ·obtain⟨e,n,ne,nf,d⟩:=I.pin p hp;exact⟨(g.2 p.1 ne).trans e,n,ne,nf,d⟩
 ·have U:X.fn x=true:=by
   rcases hf with z | z
   ·exact z
   ·rw[z] at R;cases R
  obtain⟨c,C⟩:=I.ok.has x (.inl R);obtain⟨w',z⟩:=I.cell x c C;refine wpAny_storeName_cell I.ok.kind R C z (λh' a4 g=>?_);obtain⟨oc,a1,a0⟩:=id z;refine h { s with heap:=h' } ⟨I.ok,I.os,I.bare,⟨λb o e n Y G=>?_,λb o e n Y G=>?_,I.base.free,λb o e G=>?_,I.base.D5,I.base.frzs,I.base.tbls,I.base.low⟩,⟨m,hn.sameBut g (wh (As x c C)),λj y v' B O e3=>?_⟩,λy c' e=>?_,I.free,I.freeC,λp hp=>?_,l ⟨oc,a1,I.freeC x c C⟩ g,by simpa using I.len⟩ ⟨c,g,.inr C⟩
  ·exact(g.2 b (sx (re (oD e) (I.ok.cab x c U C)))).trans (I.base.keep b o e n Y G)
  ·obtain⟨sl,B⟩:=I.base.slot b o e n Y G;exact⟨sl,(g.2 b (sx (re (oD e) (I.ok.cab x c U C)))).trans B⟩
  ·obtain⟨o',B⟩:=I.base.there b o e G;exact⟨o',(g.2 b (sx (re (oD e) (I.ok.cab x c U C)))).trans B⟩
  ·by_cases T:j=i
   ·subst T;rw[hi] at B;cases B;rw[sm S] at O;cases O;exact⟨u,r,.inr ⟨.inl R,c,C,a4⟩⟩
   ·rw[sf (wh T)] at O;obtain⟨u',r',q⟩:=hl j y v' B O e3;refine⟨u',r',?_⟩;rcases q with q | ⟨k,c',e,z'⟩
    ·exact .inl q
    ·refine .inr ⟨k,c',e,z'.sameBut g ?_⟩;rintro rfl;exact T (iW hN B (I.ok.inj _ _ _ e C▸hi))
  ·by_cases a3:c'=c
   ·subst a3;exact⟨_,a4⟩
   ·obtain⟨w2,z2⟩:=I.cell y c' e;exact⟨w2,z2.sameBut g a3⟩
  ·obtain⟨e,n,ne,nf,d⟩:=I.pin p hp;refine⟨(g.2 p.1 ?_).trans e,n,ne,nf,d⟩;intro q;rw[q,a1] at e;have q':oc=p.2:=tL e;exact d w' (by rw[<-q'];exact a0)
theorem qF{M:Model}{A:Around}{E:QN}{i:Nat}{x:Str}{v:V}{u:Value}{Q:Unit->Shared->Prop}(I:Inv X pins σ H s)(d:X.N.Nodup)(b:X.N[i]?=some x)(a:Loc X.env.scope x)(r:RelV v u)
  (h:∀s',Inv X pins (σ.set i (some v)) H s'->Q () s') (c:X.fn x=true\/X.env.scope.names.lookup x=some .local:=by first | exact .inl rfl | exact .inr rfl | assumption):wpAny M A (storeName X.env x u) Q E s:=
 R8 I d b a r (λs' e _=>h s' e) c
theorem Inv.kz{s':Shared}{ch:QE}(I:Inv X pins σ H s)(h:s'.os=s.os)(u:Un (W4 X.stack) ch H H' s.heap s'.heap)(hok:R5 X.prog X.w H' s'.heap)(i:AllBare s'.gens)
  (a:∀b∈ch,(b∈X.ex\/X.s₀.heap.objs.size<=b)/\b≠X.env.locals/\(∀x c,X.env.cells.lookup x=some c->c≠b)/\∀p∈X.pn++pins,p.1≠b):Inv X pins σ H' s':=by
 obtain⟨h',j,l,d,g⟩:=s';have e:g=s.os:=h;subst e;exact I.call (g':=j) (t':=d) (d':=l) u hok i a
end
abbrev XK:=Value->Option Addr->Hp->Prop
abbrev St:=List (Option V)
abbrev VK:=V->Hp->Prop
abbrev TE:=St->Hp->VK->Prop
abbrev TT:=St->Hp->(Bool->Hp->Prop)->Prop
abbrev TA:=St->Hp->(List V->Hp->Prop)->Prop
structure Ends where
 nx:St->Hp->Prop
 rt:VK
 bk:St->Hp->Prop:=λ_ _=>False
 ct:St->Hp->Prop:=λ_ _=>False
abbrev TS:=Ends->St->Hp->Prop
def EP(X:Cx)(pins:QA)(σ:St)(Q:VK)(u:Value)(s':Shared):Prop:=∃v a,Inv X pins σ a s'/\RelV v u/\Q v a
def TP(X:Cx)(pins:QA)(σ:St)(Q:Bool->Hp->Prop)(b:Bool)(s':Shared):Prop:=∃a,Inv X pins σ a s'/\Q b a
def AP(X:Cx)(pins:QA)(σ:St)(Q:List V->Hp->Prop)(b:QG)(s':Shared):Prop:=∃vs a,Inv X pins σ a s'/\Vals vs b/\Q vs a
def SP(X:Cx)(pins:QA)(D:Ends)(f:Flow)(s':Shared):Prop:=
 match f with
 | .next=>∃a b,Inv X pins a b s'/\D.nx a b
 | .brk=>∃a b,Inv X pins a b s'/\D.bk a b
 | .cont=>∃a b,Inv X pins a b s'/\D.ct a b
 | .ret u=>∃v a b,Inv X pins a b s'/\RelV v u/\D.rt v b
structure PE(X:Cx)(e:Expr)(t:TE) : Prop where
 of ::
 run :
 ∀(pins:QA) (s:Shared) (σ:St) (H:Hp) (Q:VK),Inv X pins σ H s->t σ H Q->wpAny (model X.prog X.w) X.A (eval e X.env) (EP X pins σ Q) X.xe s
instance {X:Cx} {e:Expr} {t:TE} : CoeFun (PE X e t) λ_=>
 ∀(pins:QA) (s:Shared) (σ:St) (H:Hp) (Q:VK),Inv X pins σ H s->t σ H Q->wpAny (model X.prog X.w) X.A (eval e X.env) (EP X pins σ Q) X.xe s:=⟨PE.run⟩
structure PT(X:Cx)(e:Expr)(t:TT) : Prop where
 of ::
 run :
 ∀(pins:QA) (s:Shared) (σ:St) (H:Hp) (Q:Bool->Hp->Prop),Inv X pins σ H s->t σ H Q->wpAny (model X.prog X.w) X.A (isTrue e X.env (eval e X.env)) (TP X pins σ Q) X.xe s
instance {X:Cx} {e:Expr} {t:TT} : CoeFun (PT X e t) λ_=>
 ∀(pins:QA) (s:Shared) (σ:St) (H:Hp) (Q:Bool->Hp->Prop),Inv X pins σ H s->t σ H Q->wpAny (model X.prog X.w) X.A (isTrue e X.env (eval e X.env)) (TP X pins σ Q) X.xe s:=⟨PT.run⟩
structure PW(X:Cx)(e:Expr)(t:TT) : Prop where
 of ::
 run :
 ∀(whole:Sem Value) (pins:QA) (s:Shared) (σ:St) (H:Hp) (Q:Bool->Hp->Prop),Inv X pins σ H s->t σ H Q->wpAny (model X.prog X.w) X.A (isTrue e X.env whole) (TP X pins σ Q) X.xe s
instance {X:Cx} {e:Expr} {t:TT} : CoeFun (PW X e t) λ_=>
 ∀(whole:Sem Value) (pins:QA) (s:Shared) (σ:St) (H:Hp) (Q:Bool->Hp->Prop),Inv X pins σ H s->t σ H Q->wpAny (model X.prog X.w) X.A (isTrue e X.env whole) (TP X pins σ Q) X.xe s:=⟨PW.run⟩
theorem PW.pt{X:Cx}{e:Expr}{t:TT}(h:PW X e t):PT X e t:=.of (h _)
structure PA(X:Cx)(es:QH)(t:TA) : Prop where
 of ::
 run :
 ∀(pos:Pos) (pins:QA) (s:Shared) (σ:St) (H:Hp) (Q:List V->Hp->Prop),Inv X pins σ H s->t σ H Q->wpAny (model X.prog X.w) X.A (spliced (backTo pos (starEach es X.env))) (AP X pins σ Q) X.xe s
instance {X:Cx} {es:QH} {t:TA} : CoeFun (PA X es t) λ_=>
 ∀(pos:Pos) (pins:QA) (s:Shared) (σ:St) (H:Hp) (Q:List V->Hp->Prop),Inv X pins σ H s->t σ H Q->wpAny (model X.prog X.w) X.A (spliced (backTo pos (starEach es X.env))) (AP X pins σ Q) X.xe s:=⟨PA.run⟩
structure PS(X:Cx)(st:Stmt)(t:TS) : Prop where
 of ::
 run :
 ∀(pins:QA) (s:Shared) (σ:St) (H:Hp) (D:Ends),Inv X pins σ H s->t D σ H->wpAny (model X.prog X.w) X.A (exec st X.env) (SP X pins D) X.xe s
instance {X:Cx} {st:Stmt} {t:TS} : CoeFun (PS X st t) λ_=>
 ∀(pins:QA) (s:Shared) (σ:St) (H:Hp) (D:Ends),Inv X pins σ H s->t D σ H->wpAny (model X.prog X.w) X.A (exec st X.env) (SP X pins D) X.xe s:=⟨PS.run⟩
structure mn(X:Cx)(st:QM)(t:TS) : Prop where
 of ::
 run :
 ∀(pins:QA) (s:Shared) (σ:St) (H:Hp) (D:Ends),Inv X pins σ H s->t D σ H->wpAny (model X.prog X.w) X.A (execs st X.env) (SP X pins D) X.xe s
instance {X:Cx} {st:QM} {t:TS} : CoeFun (mn X st t) λ_=>
 ∀(pins:QA) (s:Shared) (σ:St) (H:Hp) (D:Ends),Inv X pins σ H s->t D σ H->wpAny (model X.prog X.w) X.A (execs st X.env) (SP X pins D) X.xe s:=⟨mn.run⟩
theorem B4{b:Type}{t:Sem b}{Q c:b->Shared->Prop}{M:Model}{A:Around}{E:QN}{s:Shared}(h:wpAny M A t Q E s)(d:∀a s,Q a s->c a s):wpAny M A t c E s:=ux h d λ_ _ x=>x
section
variable{X:Cx}
def T9(i:Nat):TE:=λa H Q=>∃v,a[i]?=some (some v)/\Q v H
def tC(v:V):TE:=λ_ H Q=>Q v H
theorem Hm {i:Nat} {x:Str} {j:Pos} (E:X.N[i]?=some x) (y:Kl X.env.scope x) (hd:(x == ("__debug__" : Str))=false:=by decide) (o:(x == ("__classdict__" : Str))=false:=by decide):PE X (.Name x j) (T9 i):=by
 refine .of ?_;intro g s q H Q I h;obtain⟨v,e,h⟩:=h;obtain⟨m,z,C⟩:=I.loc;obtain⟨u,r,l⟩:=C i x v E e y;have d:EP X g q Q u s:=⟨v,H,I,r,h⟩
 rcases l with⟨b,B⟩ | ⟨b,c,p,a⟩
 ·exact wpAny_Name (wpAny_loadName_local I.ok.kind b z B d) hd
 ·rcases b with b | b
  ·exact wpAny_Name (wpAny_loadName_cell I.ok.kind b p a d) hd
  ·exact wpAny_Name (wpAny_loadName_free I.ok.kind b p a d o) hd
theorem JG{i j a}:PE X (.Constant (.int i) j a) (tC (.int i)):=.of <| λ_ _ _ H _ I h=>wpAny_Constant_int ⟨.int i,H,I.tok _,⟨_,rfl⟩,h⟩
theorem Gz{b j a}:PE X (.Constant (.bool b) j a) (tC (.bl b)):=.of <| λ_ _ _ H _ I h=>Constant_bool ⟨.bl b,H,I,rfl,h⟩
theorem Hv{j a}:PE X (.Constant .none j a) (tC .p7):=.of <| λ_ _ _ H _ I h=>Constant_none ⟨.p7,H,I,rfl,h⟩
theorem Jw{x j a}:PE X (.Constant (.str x) j a) (tC (.str x)):=.of <| λ_ _ _ H _ I h=>Calls.Constant_str ⟨.str x,H,I.tok _,⟨_,rfl⟩,h⟩
def Gl(X:Cx)(x:Str):Prop:=X.env.kindOf x=some .globalImplicit
theorem cA{E:QN}{pins:QA}{s:Shared}{σ:St}{H:Hp}{x:Str}{u:Value}{a:Pos}{Q:QN}(I:Inv X pins σ H s)(c:Gl X x)(b:X.mg x=some u)(h:Q u s)
  (hd:(x == ("__debug__" : Str))=false:=by decide):wpAny (model X.prog X.w) X.A (eval (.Name x a) X.env) Q E s:=
 Calls.Name_function_global I.ok.kind c (Calls.loadGlobal_global (by rw[I.ok.glob];exact I.mod.glob.keeps I.bk) b h) hd
theorem dR{E:QN}{pins:QA}{s:Shared}{σ:St}{H:Hp}{x:Str}{u:Value}{a:Pos}{Q:QN}(I:Inv X pins σ H s)(e:Gl X x)(d:X.mg x=none)(b:bootBuiltins x=some u)(h:Q u s)
  (c:x ≠ "__name__":=by decide) (hd:(x == ("__debug__" : Str))=false:=by decide):wpAny (model X.prog X.w) X.A (eval (.Name x a) X.env) Q E s:=by
 obtain⟨j,i,g⟩:=I.mod.blt;exact Calls.Name_function_global I.ok.kind e (Calls.loadGlobal_builtin (by rw[I.ok.glob];exact I.mod.glob.keeps I.bk) d (by rw[I.ok.blt];exact i.keeps I.bk) ((g x c).trans b) h) hd
theorem M7 {x:Str} {v:V} {u:Value} {a:Pos} (c:Gl X x) (b:X.mg x=some u) (r:RelV v u) (hd:(x == ("__debug__" : Str))=false:=by decide):PE X (.Name x a) (tC v):=.of <| 
 λ_ _ _ H _ I h=>cA I c b ⟨v,H,I,r,h⟩ hd
theorem x5 {x:Str} {v:V} {u:Value} {a:Pos} (e:Gl X x) (d:X.mg x=none) (b:bootBuiltins x=some u) (r:RelV v u) (c:x ≠ "__name__":=by decide) (hd:(x == ("__debug__" : Str))=false:=by decide):PE X (.Name x a) (tC v):=.of <| 
 λ_ _ _ H _ I h=>dR I e d b ⟨v,H,I,r,h⟩ c hd
variable{a b:Expr}{ta tb:TE}{pos:Pos}
variable{tA tB':TT}{rest:QH}
def MJ(t u:TT):TT:=λd H Q=>t d H λc e=>if c=true then u d e Q else Q false e
def Oa(t u:TT):TT:=λd H Q=>t d H λc e=>if c=true then Q true e else u d e Q
def Mw(t:TT):TT:=λd H Q=>t d H λc e=>Q (!c) e
theorem Gg(i:PT X a tA):PW X (.BoolOp .And [a] pos) tA:=by
 refine .of ?_;intro j d s g H Q I h;refine isTrue_and (B4 (i d s g H Q I h) λc l e=>?_)
 cases c with
 | true=>exact isTrue_and_nil e
 | false=>exact e
theorem HS(i:PT X a tA):PW X (.BoolOp .Or [a] pos) tA:=by
 refine .of ?_;intro j d s g H Q I h;refine isTrue_or (B4 (i d s g H Q I h) λc l e=>?_)
 cases c with
 | false=>exact isTrue_or_nil e
 | true=>exact e
theorem Jp(q:PT X a tA)(p:PW X (.BoolOp .And (b::rest) pos) tB'):PW X (.BoolOp .And (a::b::rest) pos) (MJ tA tB'):=by
 refine .of ?_;intro l d s e H Q I h;refine isTrue_and (B4 (q d s e H _ I h) λc o ⟨j,i,g⟩=>?_)
 cases c with
 | true=>exact p l d o e j Q i g
 | false=>exact⟨j,i,g⟩
theorem Lk(q:PT X a tA)(p:PW X (.BoolOp .Or (b::rest) pos) tB'):PW X (.BoolOp .Or (a::b::rest) pos) (Oa tA tB'):=by
 refine .of ?_;intro l d s e H Q I h;refine isTrue_or (B4 (q d s e H _ I h) λc o ⟨j,i,g⟩=>?_)
 cases c with
 | true=>exact⟨j,i,g⟩
 | false=>exact p l d o e j Q i g
theorem Iv(g:PT X a tA):PT X (.UnaryOp .Not a pos) (Mw tA):=by
 refine .of ?_;intro d s e H Q I h;exact isTrue_not (g d s e H (λc i=>Q (!c) i) I h)
def LU(ta tb:TE):TE:=λd H Q=>ta d H λx e=>∃c,x=.bl c/\if c=true then tb d e Q else Q (.bl false) e
def MM(ta tb:TE):TE:=λd H Q=>ta d H λx e=>∃c,x=.bl c/\if c=true then Q (.bl true) e else tb d e Q
def JX(ta:TE):TE:=λd H Q=>ta d H λx e=>∃c,x=.bl c/\Q (.bl (!c)) e
theorem Jd{e}{t:TE}(h:PE X a t):PE X (.BoolOp e [a] pos) t:=.of <| λc s d H Q I hw=>BoolOp_one (h c s d H Q I hw)
theorem HA(q:PE X a ta)(p:PE X (.BoolOp .And (b::rest) pos) tb):PE X (.BoolOp .And (a::b::rest) pos) (LU ta tb):=by
 refine .of ?_;intro d s g H Q I h;refine BoolOp_and (B4 (q d s g H _ I h) λv l ⟨x,j,i,o,e⟩=>?_);obtain⟨c,rfl,e⟩:=e;cases o;refine zi ?_
 cases c with
 | true=>exact p d l g j Q i e
 | false=>exact⟨.bl false,j,i,rfl,e⟩
theorem KL(q:PE X a ta)(p:PE X (.BoolOp .Or (b::rest) pos) tb):PE X (.BoolOp .Or (a::b::rest) pos) (MM ta tb):=by
 refine .of ?_;intro d s g H Q I h;refine BoolOp_or (B4 (q d s g H _ I h) λv l ⟨x,j,i,o,e⟩=>?_);obtain⟨c,rfl,e⟩:=e;cases o;refine zi ?_
 cases c with
 | false=>exact p d l g j Q i e
 | true=>exact⟨.bl true,j,i,rfl,e⟩
theorem Ir(j:PE X a ta):PE X (.UnaryOp .Not a pos) (JX ta):=by
 refine .of ?_;intro d s g H Q I h;refine UnaryOp_ (B4 (j d s g H _ I h) λv p ⟨x,o,l,i,e⟩=>?_);obtain⟨c,rfl,e⟩:=e;cases i;exact not_of (zi ⟨.bl (!c),o,l,rfl,e⟩)
end
def P7(K:QP)(H:Hp)(a:Addr)(xs:List V):Prop:=
 Rd H a (.lst xs) \/
  ∃(o:Obj) (b:QK) (n:Nat),K.lookup a=some o/\o.cls=.type "list" /\ o.dict=none/\o.data=.seq b n/\b.size<=sizeLine/\Vals xs b.toList
def T5(K:QP)(H:Hp)(a:Addr)(xs:List V):Prop:=
 Rd H a (.tup xs) \/
  ∃(o:Obj) (b:QK) (n:Nat),K.lookup a=some o/\o.cls=.type "tuple" /\ o.data=.seq b n/\b.size<=sizeLine/\Vals xs b.toList
def MK:Value->Option V
 | .none=>some .p7
 | .bool b=>some (.bl b)
 | .int i _=>some (.int i)
 | .str x _=>some (.str x)
 | .bytes b _=>some (.byt b)
 | .float b _=>some (.flt b)
 | .ref a=>some (.ref a)
 | .type n=>some (.ty n)
 | _=>none
theorem RelV.abs{x:V}{u:Value}(r:RelV x u):MK u=some x:=by
 cases x with
 | p7=>cases r;rfl
 | bl _=>cases r;rfl
 | int _=>obtain⟨t,rfl⟩:=r;rfl
 | str _=>obtain⟨t,rfl⟩:=r;rfl
 | byt _=>obtain⟨t,rfl⟩:=r;rfl
 | flt _=>obtain⟨t,rfl⟩:=r;rfl
 | ref _=>cases r;rfl
 | ty _=>cases r;rfl
theorem RelV.inj{x y:V}{u:Value}(r:RelV x u)(q:RelV y u):x=y:=tL (r.abs.symm.trans q.abs)
theorem Vals.inj:∀{xs a:List V} {b:QG},Vals xs b->Vals a b->xs=a
 | _,_,_,.nil,.nil=>rfl
 | _,_,_,.cons r t,.cons d c=>by rw[r.inj d,Vals.inj t c]
section
variable{X:Cx}{pins:QA}{σ:St}{H:Hp}{s:Shared}{a:Addr}{xs ys:List V}
theorem P7.of{K:QP}(h:H a=some (.lst xs)):P7 K H a xs:=.inl (.inl h)
theorem T5.of{K:QP}(h:H a=some (.tup xs)):T5 K H a xs:=.inl (.inl h)
theorem Inv.list(I:Inv X pins σ H s)(h:P7 X.K H a xs):∃its:QG,Vals xs its/\PlainL s.heap a its.toArray/\xs.length<=sizeLine:=by
 rcases h with h | ⟨o,its,n,c,d,hd,b,g,r⟩
 ·obtain⟨z,its,n,r,e⟩:=h.ok I.hok;exact⟨its,r,⟨_,n,e,rfl,rfl,rfl⟩,z⟩
 ·refine⟨its.toList,r,⟨o,n,I.cU a o c,d,hd,by simpa using b⟩,?_⟩;have e:=r.length;simp only[GM] at e;omega
theorem Inv.tuple(I:Inv X pins σ H s)(h:T5 X.K H a xs):∃its:QG,Vals xs its/\IsTup s.heap a its.toArray/\xs.length<=sizeLine:=by
 rcases h with h | ⟨o,its,n,c,d,b,g,r⟩
 ·obtain⟨z,its,r,p⟩:=h.ok I.hok;exact⟨its,r,p,z⟩
 ·refine⟨its.toList,r,⟨o,I.cU a o c,d,n,by simpa using b⟩,?_⟩;have e:=r.length;simp only[GM] at e;omega
theorem Inv.oW(I:Inv X pins σ H s)(h:P7 X.K H a xs)(h':P7 X.K H a ys):xs=ys:=by
 obtain⟨c,r,⟨o,n,e,_,_,d⟩,_⟩:=I.list h;obtain⟨b,j,⟨l,p,g,_,_,i⟩,_⟩:=I.list h';rw[e] at g;cases g;rw[d] at i
 injection i with d1 _
 have:c=b:=by simpa using congrArg Array.toList d1
 subst this;exact r.inj j
theorem Inv.cW(I:Inv X pins σ H s)(h:T5 X.K H a xs)(h':T5 X.K H a ys):xs=ys:=by
 obtain⟨c,r,⟨o,e,_,n,d⟩,_⟩:=I.tuple h;obtain⟨b,j,⟨l,g,_,p,i⟩,_⟩:=I.tuple h';rw[e] at g;cases g;rw[d] at i
 injection i with d1 _
 have:c=b:=by simpa using congrArg Array.toList d1
 subst this;exact r.inj j
end
abbrev Cx.Z1(X:Cx)(E:QN):Cx:={ X with xe:=E }
abbrev Cx.IQ(X:Cx):Cx:=X.Z1 λ_ _=>False
theorem Cx.Ok.Z1{X:Cx}(ok:X.Ok)(E:QN):(X.Z1 E).Ok:=
 ⟨ok.mod,ok.kind,ok.glob,ok.blt,ok.above,ok.inj,ok.has,ok.cab,ok.hd,ok.frames,ok.stk,ok.exf,ok.bs,ok.bsz,ok.noex,ok.exfs,ok.dh,ok.frf,ok.sy⟩
theorem Cx.Ok.ai{X:Cx}{E:QN}(ok:(X.Z1 E).Ok):X.Ok:=
 ⟨ok.mod,ok.kind,ok.glob,ok.blt,ok.above,ok.inj,ok.has,ok.cab,ok.hd,ok.frames,ok.stk,ok.exf,ok.bs,ok.bsz,ok.noex,ok.exfs,ok.dh,ok.frf,ok.sy⟩
section
variable{X:Cx}{pins:QA}{σ:St}{H:Hp}{s:Shared}{E:QN}
theorem Inv.Z1(I:Inv X pins σ H s)(E:QN):Inv (X.Z1 E) pins σ H s:=⟨I.ok.Z1 E,I.os,I.bare,I.base,I.loc,I.cell,I.free,I.freeC,I.pin,I.hok,I.len⟩
theorem Inv.ai(I:Inv (X.Z1 E) pins σ H s):Inv X pins σ H s:=⟨I.ok.ai,I.os,I.bare,I.base,I.loc,I.cell,I.free,I.freeC,I.pin,I.hok,I.len⟩
theorem SP.ai{D:Ends}{f:Flow}{s':Shared}(h:SP (X.Z1 E) pins D f s'):SP X pins D f s':=by
 cases f with
 | next=>obtain⟨a,b,I,q⟩:=h;exact⟨a,b,I.ai,q⟩
 | brk=>obtain⟨a,b,I,q⟩:=h;exact⟨a,b,I.ai,q⟩
 | cont=>obtain⟨a,b,I,q⟩:=h;exact⟨a,b,I.ai,q⟩
 | ret u=>obtain⟨v,a,b,I,r,q⟩:=h;exact⟨v,a,b,I.ai,r,q⟩
theorem mn.IQ{st:QM}{t:TS}(h:mn X.IQ st t):mn X st t:=.of <| λpins s σ H D I hw=>
 ux (h pins s σ H D (I.Z1 _) hw) (λ_ _ q=>q.ai) λ_ _ z=>False.elim z
end
section
variable{X:Cx}{st:Stmt}{rest:QM}{t u:TS}{e:Expr}{te:TE}{pos:Pos}
def Ct:TS:=λD a H=>D.nx a H
def yR(t u:TS):TS:=λD a H=>t { D with nx:=u D } a H
theorem vz:mn X [] Ct:=.of <| λ_ _ a H _ I h=>Ou ⟨a,H,I,h⟩
theorem iB(i:PS X st t)(g:mn X rest u):mn X (st::rest) (yR t u):=by
 refine .of ?_;intro a s c H D I h;refine wpAny_execs_cons (B4 (i a s c H { D with nx:=u D } I h) λf d q=>?_)
 cases f with
 | next=>
  obtain⟨b,l,j,q⟩:=q;exact g a d b l D j q
 | ret v=>exact q
 | brk=>exact q
 | cont=>exact q
theorem Fc(c:PS X st t):mn X [st] t:=by
 refine .of ?_;intro a s b H D I h;refine wpAny_execs_cons (B4 (c a s b H D I h) λf d q=>?_)
 cases f with
 | next=>exact Ou q
 | ret v=>exact q
 | brk=>exact q
 | cont=>exact q
theorem Inv.quiet{pins:QA}{σ:St}{H:Hp}{s:Shared}(I:Inv X pins σ H s):interactive X.env=false:=by simp[interactive,I.ok.kind]
def LC(te:TE):TS:=λD a H=>te a H λ_ b=>D.nx a b
theorem Fp(g:PE X e te)(d:swapsWith e none pos.line X.env=pure false:=by rfl):PS X (.Expr e pos) (LC te):=by
 refine .of ?_;intro a s b H D I h;exact wpAny_Expr_any (B4 (g a s b H _ I h) λv l ⟨x,j,i,o,c⟩=>⟨b,j,i,c⟩) I.quiet d
def MX(te:TE):TS:=λD a H=>te a H D.rt
theorem tI(g:PE X e te):PS X (.Return (some e) pos) (MX te):=by
 refine .of ?_;intro a s b H D I h;exact wpAny_Return_some (B4 (g a s b H _ I h) λv l ⟨x,j,i,c,d⟩=>⟨x,b,j,i,c,d⟩)
def MO(c:TT)(t u:TS):TS:=λD a H=>c a H λb d=>if b=true then t D a d else u D a d
theorem La{c:Expr}{a b:QM}{tc:TT}(q:PT X c tc)(v:mn X a t)(r:mn X b u):PS X (.If c a b pos) (MO tc t u):=by
 refine .of ?_;intro g s i H D I h;refine wpAny_If (B4 (q g s i H _ I h) λd j ⟨p,o,l⟩=>?_)
 cases d with
 | true=>exact v g j i p D o l
 | false=>exact r g j i p D o l
end
abbrev TG:=V->St->Hp->(St->Hp->Prop)->Prop
abbrev ET:=List V->St->Hp->(St->Hp->Prop)->Prop
structure PG(X:Cx)(target:Expr)(t:TG) : Prop where
 of ::
 run :
 ∀(pins:QA) (s:Shared) (σ:St) (H:Hp) (v:V) (u:Value) (Q:St->Hp->Prop),Inv X pins σ H s->RelV v u->t v σ H Q ->
  wpAny (model X.prog X.w) X.A (assign target X.env u) (λ_ s'=>∃σ' H',Inv X pins σ' H' s'/\Q σ' H') X.xe s
instance {X:Cx} {target:Expr} {t:TG} : CoeFun (PG X target t) λ_=>
 ∀(pins:QA) (s:Shared) (σ:St) (H:Hp) (v:V) (u:Value) (Q:St->Hp->Prop),Inv X pins σ H s->RelV v u->t v σ H Q ->
  wpAny (model X.prog X.w) X.A (assign target X.env u) (λ_ s'=>∃σ' H',Inv X pins σ' H' s'/\Q σ' H') X.xe s:=⟨PG.run⟩
structure Dy(X:Cx)(ts:QH)(t:ET) : Prop where
 of ::
 run :
 ∀(pins:QA) (s:Shared) (σ:St) (H:Hp) (vs:List V) (us:QG) (Q:St->Hp->Prop),Inv X pins σ H s->Vals vs us->t vs σ H Q ->
  wpAny (model X.prog X.w) X.A (assignInOrder ((assignEach ts X.env).map (·.2)) us) (λ_ s'=>∃σ' H',Inv X pins σ' H' s'/\Q σ' H') X.xe s
instance {X:Cx} {ts:QH} {t:ET} : CoeFun (Dy X ts t) λ_=>
 ∀(pins:QA) (s:Shared) (σ:St) (H:Hp) (vs:List V) (us:QG) (Q:St->Hp->Prop),Inv X pins σ H s->Vals vs us->t vs σ H Q ->
  wpAny (model X.prog X.w) X.A (assignInOrder ((assignEach ts X.env).map (·.2)) us) (λ_ s'=>∃σ' H',Inv X pins σ' H' s'/\Q σ' H') X.xe s:=⟨Dy.run⟩
abbrev JH:=V->V->V->Hp->(Hp->Prop)->Prop
def LJ(X:Cx)(t:JH):Prop:=
 ∀(a:QA) (s:Shared) (b:St) (H:Hp) (o i v:V) (c d u:Value) (Q:Hp->Prop),Inv X a b H s->RelV o c->RelV i d->RelV v u->t o i v H Q ->
  wpAny (model X.prog X.w) X.A (setItem c d u) (λ_ g=>∃e,Inv X a b e g/\Q e) X.xe s
section
variable{X:Cx}{pos:Pos}
def pR(i:Nat):TG:=λv a H Q=>Q (a.set i (some v)) H
theorem FU{i:Nat}{x:Str}(e:X.N.Nodup)(c:X.N[i]?=some x)(b:Loc X.env.scope x)(d:X.fn x=true\/X.env.scope.names.lookup x=some .local:=by first | exact .inl rfl | exact .inr rfl | assumption):PG X (.Name x pos) (pR i):=by
 refine .of ?_;intro a s j H v u Q I r h;exact P3 (qF I e c b r (λl g=>⟨_,H,g,h⟩) d)
def MN:ET:=λvs a H Q=>vs=[]/\Q a H
def Lp(t:TG)(u:ET):ET:=λvs b H Q=>∃v r,vs=v::r/\t v b H λa c=>u r a c Q
theorem DU:Dy X [] MN:=by
 refine .of ?_;intro a s b H vs c Q I r h;obtain⟨e,h⟩:=h;subst e;cases r;exact assignInOrder_nil ⟨b,H,I,h⟩
theorem Bq{e:Expr}{b:QH}{t:TG}{u:ET}(p:PG X e t)(o:Dy X b u)
  (l:(assignEach (e::b) X.env).map (·.2)=assign e X.env::(assignEach b X.env).map (·.2):=by rfl):Dy X (e::b) (Lp t u):=by
 refine .of ?_;intro a s d H vs B Q I r h;obtain⟨v,z,q,h⟩:=h;subst q
 cases r with
 | cons r i=>
  rw[l];refine assignInOrder_cons (B4 (p a s d H _ _ _ I r h) λ_ g ⟨c,y,x,j⟩=>?_);exact o a g c y _ _ Q x i j
def Ly(K:QP)(n:Nat)(t:ET):TG:=λv c H Q=>∃a b,v=.ref a/\T5 K H a b/\b.length=n/\t b c H Q
theorem X4{d:QH}{k:Nat}{t:ET}{n:Nat}(C:X.calm=true)(h:Dy X d t)
  (z:(assignEach d X.env).length=n:=by rfl) (g:(assignEach d X.env).findIdx? (·.1)=none:=by rfl):PG X (.Tuple d k pos) (Ly X.K n t):=by
 refine .of ?_;intro c s i H v u Q I r hw;obtain⟨a,l,G,y,B,hw⟩:=hw;subst G;cases r;obtain⟨p,j,x,M⟩:=I.tuple y;refine assign_Tuple_tuple (I.ok.hd C) x (by simp[z,<-B,j.length]) g λE q=>?_;have J:Inv X c i H { s with heap:=E }:=I.kept (t':=s.toks) λb o e=>q b o (sx (oD e)) e;exact h c _ i H l _ Q J (by simpa using j) hw
def ae(b c:TE)(t:JH):TG:=λv a H Q=>b a H λo g=>c a g λi e=>t o i v e λd=>Q a d
theorem gi{o i:Expr}{e g:TE}{t:JH}(G:PE X o e)(J:PE X i g)(E:LJ X t)
  (M:∀v,assign (.Subscript o i pos) X.env v=(do
   let b <-holding [v] (eval o X.env)
   let c <-holding [v,b] (eval i X.env)
   standAt pos
   holding [v,b,c] (setItem b c v)
   release [v,b,c] []):=by intro _;rfl):PG X (.Subscript o i pos) (ae e g t):=by
 refine .of ?_;intro a s d H v u Q I r h;rw[M];refine cB (u7 (B4 (G a s d H _ I h) λb l ⟨x,Y,S,q,C⟩=>?_));refine cB (u7 (B4 (J a l d Y _ S C) λc j ⟨y,U,R,p,B⟩=>?_));refine cB (IN (cB (u7 (B4 (E a j d U x y v b c u _ R q p r B) λ_ s3 ⟨T,O,z⟩=>?_))));exact wpAny_release ⟨d,T,O,z⟩
def xk(te:TE)(g:TG):TS:=λD a H=>te a H λx b=>g x a b D.nx
theorem X2{b e:Expr}{te:TE}{g:TG}(p:PE X e te)(o:PG X b g)(l:swapsWithSole [b] e pos.line X.env=pure false:=by rfl)(hw:swappedStores [b] e X.env=pure none:=by rfl)
  (r:(assignEach [b] X.env).map (·.2)=[assign b X.env]:=by rfl):PS X (.Assign [b] e pos) (xk te g):=by
 refine .of ?_;intro a s c H D I h;refine wpAny_Assign_stores (B4 (p a s c H _ I h) λv d ⟨x,y,u,i,j⟩=>?_) l hw;rw[r];exact B4 (o a d c y x v _ u i j) λ_ z q=>q
theorem Dl{i:Nat}{x:Str}{e:Expr}{te:TE}{a:Pos}(r:X.N.Nodup)(o:X.N[i]?=some x)(j:Loc X.env.scope x)(q:PE X e te)(l:swapsWith e (some (.Name x a)) pos.line X.env=pure false:=by rfl)(p:X.fn x=true\/X.env.scope.names.lookup x=some .local:=by first | exact .inl rfl | exact .inr rfl | assumption) :
  PS X (.Assign [.Name x a] e pos) (xk te (pR i)):=by
 refine .of ?_;intro b s c H D I h;refine wpAny_Assign_Name (B4 (q b s c H _ I h) λv E ⟨y,B,z,d,g⟩=>?_) l;exact qF z r o j d (λC u=>⟨_,B,u,g⟩) p
def Iu(c:TT)(i:TS):TS:=λD a H=>∃W:Nat->St->Hp->Prop,(∃m,W m a H)/\∀m a H,W m a H ->
 c a H λb g=>if b=true then ∃N:St->Hp->Prop,(∀d h,N d h->∃e,e<m/\W e d h)/\i { D with nx:=N,ct:=N,bk:=D.nx } a g else D.nx a g
theorem zp{c:Expr}{body:QM}{tc:TT}{y:TS}(z:PassesOwn (model X.prog X.w) X.A X.env X.xe)(Y:PT X c tc)(hb:mn X body y):PS X (.While c body [] pos) (Iu tc y):=by
 refine .of ?_;intro d s M H D I h;obtain⟨W,⟨U,Q⟩,i⟩:=h;refine wpAny_While (codeAny_whileLoop (λn T=>∃g J,Inv X d g J T/\W n g J) ?_ U ⟨M,H,I,Q⟩);rintro n S ⟨e,G,I1,O⟩;refine Oj z (B4 (Y d S e G _ I1 (i n e G O)) λb R ⟨E,C,o⟩=>?_)
 cases b with
 | true=>
  obtain⟨N,B,o⟩:=o;rw[qq rfl];refine Oj z (B4 (hb d R e E _ C o) λf s3 l=>?_)
  cases f with
  | next=>
   obtain⟨a,j,x,q⟩:=l;obtain⟨r,u,p⟩:=B a j q;exact⟨r,u,a,j,x,p⟩
  | cont=>
   obtain⟨a,j,x,q⟩:=l;obtain⟨r,u,p⟩:=B a j q;exact⟨r,u,a,j,x,p⟩
  | brk=>exact l
  | ret v=>exact l
 | false=>
  rw[qc nT];exact Ou ⟨e,E,C,o⟩
end
structure It where
 go:Nat->Hp->Prop
 yld:Nat->Hp->V->Hp->Prop
 stop:Nat->Hp->Prop
def T8(X:Cx)(pins:QA)(H:Hp)(b:Addr):Prop:=
 H b=none/\b≠X.env.locals/\b∉X.fs/\(b∈X.ex\/X.s₀.heap.objs.size<=b)/\(∀x c,X.env.cells.lookup x=some c->c≠b)/\∀p∈X.pn++pins,p.1≠b
theorem Inv.jd{X:Cx}{pins:QA}{σ:St}{H d:Hp}{s:Shared}{b:Addr}(I:Inv X pins σ H s)(a:s.heap.objs.size<=b)(h:d b=none):T8 X pins d b:=by
 refine⟨h,IR (re I.lt a),I.Ng a,.inr (sr I.sz a),λx c e z=>?_,λp g z=>?_⟩
 ·obtain⟨v,q⟩:=I.cell x c e;exact absurd (re q.lt (by rw[z];exact a)) (Lf _)
 ·exact absurd (re (oD (I.pin p g).1) (by rw[z];exact a)) (Lf _)
structure Turn(P:Program)(w:World)(K:QP)(tg:Expr)(J:It)(fp:QE)(it:Addr)(tn:Nat->Heap->Prop):Prop where
 mem:it∈fp
 obj:∀i h,tn i h->∀b∈fp,∃o,h.get? b=some o/\∀v,o.data≠.cell v
 keep:∀i h h',tn i h->(∀b∈fp,∀o,h.get? b=some o->h'.get? b=some o)->tn i h'
 item:∀(X:Cx),X.prog=P->X.w=w->X.K=K->X.calm=true->∀(i:Nat) (pins:QA) (s:Shared) (σ:St) (H:Hp) (E:QN),Inv X pins σ H s->(∀b∈fp,T8 X pins H b)->tn i s.heap->J.go i H ->
  wpAny (model P w) X.A (pyNext (.ref it)) (λr s1=>∃u,r=some u /\
   wpAny (model P w) X.A (letOwnedTupleGo tg (.ref it) u) (λ_ s2=>∃x H',Inv X pins σ H' s2/\RelV x u/\J.yld i H x H'/\tn (i+1) s2.heap/\∀b∈fp,H' b=none) E s1) E s
 done:∀(X:Cx),X.prog=P->X.w=w->X.K=K->X.calm=true->∀(i:Nat) (pins:QA) (s:Shared) (σ:St) (H:Hp) (E:QN),Inv X pins σ H s->(∀b∈fp,T8 X pins H b)->tn i s.heap->J.stop i H ->
  wpAny (model P w) X.A (pyNext (.ref it)) (λr s1=>r=none/\Inv X pins σ H s1) E s
 self:∀(A:Around) (i:Nat) (s:Shared) (Q:QN) (E:QN),tn i s.heap->Q (.ref it) s->wpAny (model P w) A (pyIter (.ref it)) Q E s
abbrev TI:=St->Hp->(It->Hp->Prop)->Prop
def MT(X:Cx)(pins:QA)(σ:St)(i:Expr)(R:It->Hp->Prop)(a:Value)(e:Shared):Prop:=
 ∃(g:Addr) (h:QE) (d:Nat->Heap->Prop) (J:It) (c:Hp),a=.ref g/\Inv X pins σ c e/\Turn X.prog X.w X.K i J h g d/\d 0 e.heap/\(∀b∈h,T8 X pins c b)/\R J c
structure PI(X:Cx)(tg iter:Expr)(wi:TI) : Prop where
 of ::
 run :
 ∀(pins:QA) (s:Shared) (σ:St) (H:Hp) (R:It->Hp->Prop),Inv X pins σ H s->wi σ H R ->
  wpAny (model X.prog X.w) X.A (eval iter X.env) (λv s1=>wpAny (model X.prog X.w) X.A (pyIter v) (MT X pins σ tg R) X.xe s1) X.xe s
instance {X:Cx} {tg iter:Expr} {wi:TI} : CoeFun (PI X tg iter wi) λ_=>
 ∀(pins:QA) (s:Shared) (σ:St) (H:Hp) (R:It->Hp->Prop),Inv X pins σ H s->wi σ H R ->
  wpAny (model X.prog X.w) X.A (eval iter X.env) (λv s1=>wpAny (model X.prog X.w) X.A (pyIter v) (MT X pins σ tg R) X.xe s1) X.xe s:=⟨PI.run⟩
theorem vh{M:Model}{A:Around}{E:QN}{s:Shared}{b:Expr}{it:Addr}{u:Value}{o:Obj}{n:String}{vs:QK}{Q:Unit->Shared->Prop}(c:s.heap.get? it=some o)(e:o.cls=.type n)(hd:o.data=.fields vs)
    (d:["enumerate","zip","dict_itemiterator","dict_reverseitemiterator","odict_iterator","itertools.zip_longest","itertools.pairwise"].contains n=false) (a:Q () s):wpAny M A (letOwnedTupleGo b (.ref it) u) Q E s:=by
  unfold letOwnedTupleGo
  cases b<;>first
    | exact hH a
    | (cases u<;>first
        | exact hH a
        | (refine cB (wpAny_load c ?_)
           rw[e,hd];show wpAny M A (if (["enumerate","zip","dict_itemiterator","dict_reverseitemiterator","odict_iterator","itertools.zip_longest","itertools.pairwise"].contains n&&vs[0]? == some (rawInt _))=true then _ else _) Q E s;rw[qc (by intro h;rw[d,Ol] at h;cases h)];exact hH a))
def Md(K:QP)(a:Addr):It:=
 ⟨λi H=>∃b x,P7 K H a b/\b[i]?=some x,λi H x c=>c=H/\∀b,P7 K H a b->b[i]?=some x,λi H=>∃b,P7 K H a b/\b.length<=i⟩
def Nd(K:QP)(a:Addr):It:=
 ⟨λi H=>∃b x,T5 K H a b/\b[i]?=some x,λi H x c=>c=H/\∀b,T5 K H a b->b[i]?=some x,λi H=>∃b,T5 K H a b/\b.length<=i⟩
def LX(lo:Int)(n:Nat):It:=⟨λi _=>i<n,λi H x a=>a=H/\x=.int (lo+i),λi _=>n<=i⟩
theorem yE{P:Program}{w:World}{K:QP}{tg:Expr}(a it:Addr):Turn P w K tg (Md K a) [it] it (λi h=>h.IsListIter it a i) where
 mem:=by simp
 obj:=λi h st b j=>by
  have e:b=it:=by simpa using j
  subst e;obtain⟨o,e,c,d⟩:=st;exact⟨o,e,λv z=>by rw[d] at z;cases z⟩
 keep:=λi h y st k=>st.at λo e=>k it (by simp) o e
 item:=by
  intro X M hw O hc i g s Y H E I r st J;subst M hw O;obtain⟨xs,x,q,G⟩:=J;obtain⟨C,B,p,hz⟩:=I.list q;obtain⟨u,hu,ru⟩:=B.get G;obtain⟨U,T,f2,S,R,Q⟩:=r it (by simp);refine wpAny_pyNext_list_item st p.isList (x:=u) (by simpa using hu) λy l sb=>?_;have I1:Inv X g Y H { s with heap:=y }:=I.turned (t':=s.toks) (λb o j e=>(sb.2 b j).trans e) U T S R Q;obtain⟨o,e,c,d⟩:=id l;exact⟨u,rfl,vh (s:={ s with heap:=y }) e c d (by decide) ⟨x,H,I1,ru,⟨rfl,λys hy=>by rw[I.oW hy q];exact G⟩,l,λb j=>(r b j).1⟩⟩
 done:=by
  intro X M hw O hc i g s Y H E I r st J;subst M hw O;obtain⟨xs,q,G⟩:=J;obtain⟨C,B,p,hz⟩:=I.list q;obtain⟨U,T,f2,S,R,Q⟩:=r it (by simp);have hl:=B.length;exact wpAny_pyNext_list_end (I.ok.hd hc) st p.isList (by simp;omega) λy eb=>⟨rfl,I.turned (t':=s.toks) (λb o j e=>eb b o j e) U T S R Q⟩
 self:=λ_ _ _ _ _ st h=>wpAny_pyIter_listiter st h
theorem sV{P:Program}{w:World}{K:QP}{tg:Expr}(a it:Addr):Turn P w K tg (Nd K a) [it] it (λi h=>h.IsTupleIter it a i) where
 mem:=by simp
 obj:=λi h st b l=>by
  have e:b=it:=by simpa using l
  subst e;obtain⟨o,e,c,d⟩:=st;exact⟨o,e,λv z=>by rw[d] at z;cases z⟩
 keep:=λi h B st k=>st.at λo e=>k it (by simp) o e
 item:=by
  intro X M hw O hc i g s Y H E I y st J;subst M hw O;obtain⟨xs,x,r,G⟩:=J;obtain⟨j,C,p,hz⟩:=I.tuple r;obtain⟨u,hu,ru⟩:=C.get G;obtain⟨U,T,f2,S,R,Q⟩:=y it (by simp);refine wpAny_pyNext_tuple_item st (show s.heap.IsTuple a j.toArray from p) (x:=u) (by simpa using hu) λB q sb=>?_;have I1:Inv X g Y H { s with heap:=B }:=I.turned (t':=s.toks) (λb o l e=>(sb.2 b l).trans e) U T S R Q;obtain⟨o,e,c,d⟩:=id q;exact⟨u,rfl,vh (s:={ s with heap:=B }) e c d (by decide) ⟨x,H,I1,ru,⟨rfl,λys hy=>by rw[I.cW hy r];exact G⟩,q,λb l=>(y b l).1⟩⟩
 done:=by
  intro X M hw O hc i g s Y H E I y st J;subst M hw O;obtain⟨xs,r,G⟩:=J;obtain⟨j,C,p,hz⟩:=I.tuple r;obtain⟨U,T,f2,S,R,Q⟩:=y it (by simp);have hl:=C.length;exact wpAny_pyNext_tuple_end (I.ok.hd hc) st (show s.heap.IsTuple a j.toArray from p) (by simp;omega) λB eb=>⟨rfl,I.turned (t':=s.toks) (λb o l e=>eb b o l e) U T S R Q⟩
 self:=λ_ _ _ _ _ st h=>wpAny_pyIter_tupleiter st h
theorem sW{P:Program}{w:World}{K:QP}{M:Expr}(it:Addr)(lo:Int)(n:Nat):Turn P w K M (LX lo n) [it] it (λi h=>IsRangeIter h it (lo+(i:Nat)*1) ((n:Int)-(i:Nat)) 1) where
 mem:=by simp
 obj:=λi h st b c=>by
  have e:b=it:=by simpa using c
  subst e
  exact⟨_,st,λv z=>by
   have J:Data.fields _=Data.cell v:=z;cases J⟩
 keep:=λi h j st k=>k it (by simp) _ st
 item:=by
  intro X q hw r p i a s G H E I g st l;subst q hw r;obtain⟨C,B,R,y,x,u⟩:=g it (by simp);have W:=Walks.range (prog:=X.prog) (w:=X.w) (I.ok.hd p) it lo 1 n;refine W.item i s _ _ l st λv j tk Q d O=>?_;obtain⟨t,rfl⟩:=Q;have T:Inv X a G H { s with heap:=j,toks:=tk }:=I.turned (λb o c e=>O b o (by simpa using c) e) C B y x u;refine⟨_,rfl,vh (s:={ s with heap:=j,toks:=tk }) (n:="range_iterator") d rfl rfl (by decide) ⟨.int (lo+i),H,T,⟨t,?_⟩,⟨rfl,rfl⟩,d,λb c=>(g b c).1⟩⟩;rw[Int.mul_one]
 done:=by
  intro X q hw r p i a s G H E I g st l;subst q hw r;obtain⟨C,B,R,y,x,u⟩:=g it (by simp);exact wpAny_pyNext_range_end (I.ok.hd p) st (by have:n<=i:=l;omega) λj S=>⟨rfl,I.turned (t':=s.toks) (λb o c e=>S b o c e) C B y x u⟩
 self:=λ_ _ _ _ _ st h=>wpAny_pyIter_rangeiter st h
section
variable{X:Cx}{tg:Expr}
theorem AD{pins:QA}{σ:St}{H:Hp}{s:Shared}{R:It->Hp->Prop}{E:QN}{lo a:Int}{t u v:Tok}{tk:Nat}(I:Inv X pins σ H s)(j:-(2^62)<=lo)(i:lo<2^62)(h:-(2^62)<=a)(g:a<2^62)
  (q:R (LX lo (a-lo).toNat) H):wpAny (model X.prog X.w) X.A (pyIter (.ref s.heap.objs.size)) (MT X pins σ tg R) E { s with heap:=s.heap.push { cls:=.type "range",data:=.fields #[.int lo t,.int a u,.int 1 v] },toks:=tk }:=by
 refine wpAny_pyIter_range (IsRange.new ..) (small_one j i h g) ?_;have c:Inv X pins σ H { s with heap:=s.heap.push { cls:=.type "range",data:=.fields #[.int lo t,.int a u,.int 1 v] },toks:=tk }:=I.kept λb o e=>dL _ e
 refine⟨(s.heap.push { cls:=.type "range",data:=.fields #[.int lo t,.int a u,.int 1 v] }).objs.size,[(s.heap.push { cls:=.type "range",data:=.fields #[.int lo t,.int a u,.int 1 v] }).objs.size],_,_,H,rfl,
  c.kept (t':=tk) λb o e=>dL _ e,sW _ lo (a-lo).toNat,?_,λb d=>?_,q⟩
 ·have p:lo+((0:Nat):Int)*1=lo:=by simp
  have l:(((a-lo).toNat:Nat):Int)-((0:Nat):Int)=Builtin.Range.rangeSize lo a 1:=by rw[rangeSize_one];split<;>omega
  show IsRangeIter _ _ (lo+((0:Nat):Int)*1) ((((a-lo).toNat:Nat):Int)-((0:Nat):Int)) 1;rw[p,l];exact ro _ rfl
 ·have e:b=(s.heap.push { cls:=.type "range",data:=.fields #[.int lo t,.int a u,.int 1 v] }).objs.size:=by simpa using d
  subst e;exact c.jd (hI _) (c.hok.fresh (hI _))
def Bi(b:TA):TI:=λa H R=>b a H λvs c=>∃j:Int,vs=[.int j]/\-(2^62)<=j/\j<2^62/\R (LX 0 j.toNat) c
theorem D6 {a:Expr} {g:TA} {p b:Pos} (y:Gl X "range") (x:X.mg "range"=none) (z:PA X [a] g) (v:starEach [a] X.env=[(false,eval a X.env)]:=by rfl):PI X tg (.Call (.Name "range" p) [a] [] b) (Bi g):=by
 refine .of ?_;intro c s i H R I h;refine Call_ (dR I y x boot_range (L1 (B4 (z b c s i H _ I h) λC E ⟨vs,G,B,o,d⟩=>?_) v rfl));obtain⟨j,e,d,u,q⟩:=d;subst e
 cases o with
 | cons r l=>
  cases l;obtain⟨t,rfl⟩:=r;exact call_range_1 (AD B (by omega) (by omega) d u (by simpa using q))
def Km(h:TI)(g:TG)(j:TS):TS:=λD a H=>h a H λJ o=>∃W:Nat->Nat->St->Hp->Prop,(∃m,W 0 m a o)/\∀i m a H,W i m a H ->
 (J.stop i H/\D.nx a H)\/(J.go i H/\∃N:St->Hp->Prop,(∀b c,N b c->∃e,e<m/\W (i+1) e b c)/\∀x c,J.yld i H x c->g x a c λd l=>j { D with nx:=N,ct:=N,bk:=D.nx } d l)
def dJ(a:QE)(h:Heap):QA:=a.filterMap λb=>(h.get? b).map λo=>(b,o)
theorem N5{a:QE}{h:Heap}{b:Addr}{o:Obj}(c:b∈a)(e:h.get? b=some o):(b,o)∈dJ a h:=List.mem_filterMap.mpr ⟨b,c,by rw[e];rfl⟩
theorem yy{a:QE}{h:Heap}{p:Addr×Obj}(c:p∈dJ a h):p.1∈a/\h.get? p.1=some p.2:=by
 obtain⟨b,d,e⟩:=List.mem_filterMap.mp c
 cases q:h.get? b with
 | none=>rw[q] at e;cases e
 | some o=>
  rw[q] at e;have g:(b,o)=p:=tL e;subst g;exact⟨d,q⟩
theorem Inv.pinned{pins:QA}{σ:St}{H:Hp}{s:Shared}{a:QE}(I:Inv X pins σ H s)(j:∀b∈a,T8 X pins H b)(i:∀b∈a,∃o,s.heap.get? b=some o/\∀v,o.data≠.cell v):Inv X (pins++dJ a s.heap) σ H s:=
 I.uL λp h=>(List.mem_append.mp h).elim (λz=>I.pin p (iL _ z)) λz=>by
  obtain⟨c,e⟩:=yy z;obtain⟨r,q,l,_⟩:=j p.1 c;obtain⟨o,g,d⟩:=i p.1 c;rw[e] at g;cases g;exact⟨e,r,q,l,d⟩
theorem Inv.af{pins pl:QA}{σ:St}{H:Hp}{s:Shared}(I:Inv X (pins++pl) σ H s):Inv X pins σ H s:=I.uL λp a=>I.pin p (iL _ (sd _ a))
theorem J8{q:Expr}{body:QM}{wi:TI}{g:TG}{tb:TS}{a2:Pos}(R:PassesOwn (model X.prog X.w) X.A X.env X.xe)(hc:X.calm=true)(hi:PI X tg q wi)(hg:PG X tg g)(y:mn X body tb)
  (hs:∀x,foldedSetIterable q X.env x=pure x:=by intro _;rfl):PS X (.For tg q body [] a2) (Km wi g tb):=by
 refine .of ?_;intro c s σ H D I h;refine wpAny_For (B4 (hi c s σ H _ I h) λv s1 h1=>B4 h1 λa5 s2 h2=>?_) hs;obtain⟨it,U,tn,J,H2,e,I2,T,a1,f2,W,⟨m0,w0⟩,M⟩:=h2;subst e;have p:∀{C:Hp},(∀b∈U,C b=none)->∀b∈U,T8 X c C b:=λhn b y=>⟨hn b y,(f2 b y).2⟩
 refine codeAny_forLoop_any (λn s'=>∃i l C,Inv X c l C s'/\tn i s'.heap/\(∀b∈U,C b=none)/\W i n l C) ?_ m0 ⟨0,σ,H2,I2,a1,λb y=>(f2 b y).1,w0⟩;rintro n s3 ⟨i,j,Y,I3,O,S,w3⟩;rcases M i n j Y w3 with⟨stop,qn⟩ | ⟨go,N,hN,step⟩
 ·refine Oj R (B4 (T.done X rfl rfl rfl hc i c s3 j Y X.xe I3 (p S) O stop) λr s4 ⟨hr,I4⟩=>?_);subst hr;exact Ou ⟨j,Y,I4,qn⟩
 ·refine Oj R (B4 (T.item X rfl rfl rfl hc i c s3 j Y X.xe I3 (p S) O go) λr s4 ⟨u,hr,h4⟩=>?_);subst hr;refine Oj R (B4 h4 λ_ s5 ⟨x,H5,I5,r5,y5,G,a3⟩=>?_);have a4:=I5.pinned (p a3) (T.obj _ _ G);refine Oj R (B4 (hg _ s5 j H5 x u _ a4 r5 (step x H5 y5)) λ_ s6 ⟨a0,H6,I6,q6⟩=>?_);refine Oj R (B4 (y _ s6 a0 H6 _ I6 q6) λf s7 E=>?_)
  have again:∀{a:St} {B:Hp},Inv X (c++dJ U s5.heap) a B s7->N a B->∃m,m<n/\∃i l C,Inv X c l C s7/\tn i s7.heap/\(∀b∈U,C b=none)/\W i m l C:=λ{a B} z Q=>by
   obtain⟨m',hm,w7⟩:=hN a B Q;refine⟨m',hm,i+1,a,B,z.af,T.keep _ _ _ G λb y o e=>(z.pin (b,o) (iL _ (iL _ (N5 y e)))).1,λb y=>?_,w7⟩;obtain⟨o,e,d⟩:=T.obj _ _ G b y;exact(z.pin (b,o) (iL _ (iL _ (N5 y e)))).2.1
  cases f with
  | next=>obtain⟨a,B,z,Q⟩:=E;exact again z Q
  | cont=>obtain⟨a,B,z,Q⟩:=E;exact again z Q
  | brk=>obtain⟨a,B,z,E⟩:=E;exact⟨a,B,z.af,E⟩
  | ret v=>obtain⟨x7,a,B,z,r7,E⟩:=E;exact⟨x7,a,B,z.af,r7,E⟩
end
abbrev R2:=V->V->Hp->VK->Prop
def L8(X:Cx)(f:Value->Value->Sem Value)(r:R2):Prop:=
 ∀(a:QA) (s:Shared) (b:St) (H:Hp) (x y:V) (v u:Value) (Q:VK),Inv X a b H s->RelV x v->RelV y u->r x y H Q ->
  wpAny (model X.prog X.w) X.A (f v u) (EP X a b Q) X.xe s
def MB(X:Cx)(f:Value->Sem Value)(r:V->Hp->VK->Prop):Prop:=
 ∀(a:QA) (s:Shared) (b:St) (H:Hp) (x:V) (v:Value) (Q:VK),Inv X a b H s->RelV x v->r x H Q ->
  wpAny (model X.prog X.w) X.A (f v) (EP X a b Q) X.xe s
def K8(X:Cx)(f:Value)(r:List V->Hp->VK->Prop):Prop:=
 ∀(a:QA) (s:Shared) (b:St) (H:Hp) (c:List V) (d:QG) (Q:VK),Inv X a b H s->Vals c d->r c H Q ->
  wpAny (model X.prog X.w) X.A (call f d) (EP X a b Q) X.xe s
def MZ(X:Cx)(r:V->Hp->(Bool->Hp->Prop)->Prop):Prop:=
 ∀(a:QA) (s:Shared) (b:St) (H:Hp) (x:V) (v:Value) (Q:Bool->Hp->Prop),Inv X a b H s->RelV x v->r x H Q ->
  wpAny (model X.prog X.w) X.A (truthy v) (TP X a b Q) X.xe s
def JS(r:R2)(c b:TE):TE:=λa H Q=>c a H λx e=>b a e λy d=>r x y d Q
def Oe(r:V->Hp->VK->Prop)(b:TE):TE:=λa H Q=>b a H λx c=>r x c Q
def rI(C:Int->Int->Prop)(g:Int->Int->V):R2:=λx y H Q=>∃i j,x=.int i/\y=.int j/\C i j/\Q (g i j) H
def yG(g:Int->Int->V):R2:=λx y H Q=>∃i j,x=.int i/\y=.int j/\Q (g i j) H
def rU(g:Int->V):V->Hp->VK->Prop:=λx H Q=>∃i,x=.int i/\Q (g i) H
section
variable{X:Cx}{a b c:Expr}{ta tb tc:TE}{pos:Pos}
theorem Ia(C:PE X a ta)(B:PE X b tb){pins:QA}{s:Shared}{σ:St}{H:Hp}{R:V->V->Hp->Prop}(I:Inv X pins σ H s)
  (h:ta σ H λx j=>tb σ j λy d=>R x y d) {Q:QN} {f:Value->Value->Sem Value}
  (z:∀v u i x y d,Inv X pins σ d i->RelV x v->RelV y u->R x y d->wpAny (model X.prog X.w) X.A (f v u) Q X.xe i) :
  wpAny (model X.prog X.w) X.A (eval a X.env) (λv g=>wpAny (model X.prog X.w) X.A (eval b X.env) (λu e=>wpAny (model X.prog X.w) X.A (f v u) Q X.xe e) X.xe g) X.xe s:=by
 refine B4 (C pins s σ H _ I h) λv l ⟨x,j,G,p,r⟩=>?_;refine B4 (B pins l σ j _ G r) λu i ⟨y,d,E,o,q⟩=>?_;exact z v u i x y d E p o q
theorem GZ{e:Operator}{r:R2}(o:L8 X (binaryOp e) r)(z:PE X a ta)(p:PE X b tb):PE X (.BinOp a e b pos) (JS r ta tb):=by
 refine .of ?_;intro d s g H Q I h;exact wpAny_BinOp (Ia z p I h λv u i x y C B l j q=>o d i g C x y v u Q B l j q)
theorem Ln{g:UnaryOp}{r:V->Hp->VK->Prop}(o:MB X (unaryOp g) r)(p:PE X a ta):PE X (.UnaryOp g a pos) (Oe r ta):=by
 refine .of ?_;intro d s e H Q I h;exact UnaryOp_ (B4 (p d s e H _ I h) λv i ⟨x,u,q,j,l⟩=>o d i e u x v Q q j l)
theorem Mc{f:Value->Value->Sem Value}{C:Int->Int->Prop}{g:Int->Int->Int}
  (rule:∀(i j:Int) (t u:Tok) (s:Shared) (Q:QN) (E:QN),C i j->Q (.int (g i j) s.toks) { s with toks:=s.toks+1 }->wpAny (model X.prog X.w) X.A (f (.int i t) (.int j u)) Q E s) :
  L8 X f (rI C λi j=>.int (g i j)):=by
 intro d s r H x y v u Q I o l h;obtain⟨i,j,rfl,rfl,p,q⟩:=h;obtain⟨t,rfl⟩:=o;obtain⟨e,rfl⟩:=l;exact rule i j t e s _ _ p ⟨.int (g i j),H,I.tok _,⟨_,rfl⟩,q⟩
theorem Ki{f:Value->Value->Sem Value}{g:Int->Int->Int}
  (rule:∀(i j:Int) (t u:Tok) (s:Shared) (Q:QN) (E:QN),Q (.int (g i j) s.toks) { s with toks:=s.toks+1 }->wpAny (model X.prog X.w) X.A (f (.int i t) (.int j u)) Q E s) :
  L8 X f (yG λi j=>.int (g i j)):=by
 intro d s p H x y v u Q I o l h;obtain⟨i,j,rfl,rfl,q⟩:=h;obtain⟨t,rfl⟩:=o;obtain⟨e,rfl⟩:=l;exact rule i j t e s _ _ ⟨.int (g i j),H,I.tok _,⟨_,rfl⟩,q⟩
theorem FV{f:Value->Value->Sem Value}{g:Int->Int->Bool}
  (rule:∀(i j:Int) (t u:Tok) (s:Shared) (Q:QN) (E:QN),Q (.bool (g i j)) s->wpAny (model X.prog X.w) X.A (f (.int i t) (.int j u)) Q E s) :
  L8 X f (yG λi j=>.bl (g i j)):=by
 intro d s p H x y v u Q I o l h;obtain⟨i,j,rfl,rfl,q⟩:=h;obtain⟨t,rfl⟩:=o;obtain⟨e,rfl⟩:=l;exact rule i j t e s _ _ ⟨.bl (g i j),H,I,rfl,q⟩
def bP(i j:Int):Prop:=0<=j/\j<=1000000/\i.natAbs<2^64
def M1(i j:Int):Prop:=(-(2^64)<i/\i<2^64)\/(-(2^64)<j/\j<2^64)
theorem M1.ok{i j:Int}(h:M1 i j):IntMulOk i j:=by
 rcases h with⟨e,d⟩ | ⟨e,d⟩
 ·exact .of_left (intBits_le_64 e d)
 ·exact .of_right (intBits_le_64 e d)
theorem Ib:L8 X (binaryOp .Add) (yG λi j=>.int (i+j)):=Ki λ_ _ _ _ _ _ _ q=>add_int q
theorem CK:L8 X (binaryOp .Sub) (yG λi j=>.int (i-j)):=Ki λ_ _ _ _ _ _ _ q=>sub_int q
theorem JD:L8 X (binaryOp .Mult) (rI M1 λi j=>.int (i*j)):=Mc λ_ _ _ _ _ _ _ d q=>mul_int q d.ok
theorem Cv:L8 X (binaryOp .Mod) (rI (λ_ j=>0<j) λi j=>.int (i%j)):=Mc λi j _ _ _ _ _ d q=>by
 have e:(0:Int)<j:=d;exact mod_int' (by omega) (by rw[Int.fmod_eq_emod_of_nonneg i (by omega)];exact q)
theorem HU:L8 X (binaryOp .Pow) (rI bP λi j=>.int (i^j.toNat)):=Mc λ_ _ _ _ _ _ _ d q=>pow_int_small d.1 d.2.1 d.2.2 q
theorem NZ{f:Value->Sem Value}{g:Int->Int}
  (rule:∀(i:Int) (t:Tok) (s:Shared) (Q:QN) (E:QN),Q (.int (g i) s.toks) { s with toks:=s.toks+1 }->wpAny (model X.prog X.w) X.A (f (.int i t)) Q E s) :
  MB X f (rU λi=>.int (g i)):=by
 intro d s j H x v Q I e h;obtain⟨i,rfl,q⟩:=h;obtain⟨t,rfl⟩:=e;exact rule i t s _ _ ⟨.int (g i),H,I.tok _,⟨_,rfl⟩,q⟩
theorem Ji:MB X (unaryOp .USub) (rU λi=>.int (-i)):=NZ λ_ _ _ _ _ q=>neg_int q
end
def HZ:V->V->Bool
 | .p7,.p7=>true | .p7,.int _=>true | .int _,.p7=>true | .p7,.bl _=>true | .bl _,.p7=>true | .p7,.str _=>true | .str _,.p7=>true
 | .int _,.int _=>true | .bl _,.bl _=>true | .str _,.str _=>true | .byt _,.byt _=>true
 | .int _,.str _=>true | .str _,.int _=>true | .bl _,.str _=>true | .str _,.bl _=>true
 | _,_=>false
def Np:R2:=λx y H Q=>HZ x y=true/\Q (.bl (decide (x=y))) H
def Nq:R2:=λx y H Q=>HZ x y=true/\Q (.bl (!decide (x=y))) H
theorem vT{i j:Int}:decide (V.int i=V.int j)=(i == j):=by
 rw[Pe];simp
theorem CN{i j:Bool}:decide (V.bl i=V.bl j)=(i == j):=by
 rw[Pe];simp
theorem uQ{i j:Str}:decide (V.str i=V.str j)=(i == j):=by
 rw[Pe];simp
theorem vw{i j:Array UInt8}:decide (V.byt i=V.byt j)=(i.toList == j.toList):=by
 rw[Pe];cases i;cases j;simp
section
variable{X:Cx}{a b c:Expr}{ta tb tc:TE}{pos:Pos}
theorem u4{pins:QA}{σ:St}{H:Hp}{s:Shared}{Q:VK}{k d:Bool}(I:Inv X pins σ H s)(q:Q (.bl k) H)(e:k=d):EP X pins σ Q (.bool d) s:=by
 subst e;exact⟨.bl k,H,I,rfl,q⟩
theorem uz:L8 X (compareOp .Eq) Np:=by
 intro o s p H x y v u Q I l d h;obtain⟨g,q⟩:=h
 cases x with
 | p7=>
  cases l
  cases y with
  | p7=>cases d;exact PySem.EqNone.eq_none_none (u4 I q (by simp))
  | bl j=>cases d;exact PySem.EqNone.eq_none_bool (u4 I q (by simp))
  | int j=>obtain⟨e,rfl⟩:=d;exact PySem.EqNone.eq_none_int (u4 I q (by simp))
  | str j=>obtain⟨e,rfl⟩:=d;exact PySem.EqNone.eq_none_str (u4 I q (by simp))
  | _=>exact absurd (show false=true from g) nT
 | bl i=>
  cases l
  cases y with
  | p7=>cases d;exact PySem.EqNone.eq_bool_none (u4 I q (by simp))
  | bl j=>cases d;exact eq_bool (u4 I q CN)
  | str j=>obtain⟨e,rfl⟩:=d;exact PySem.EqMixed.eq_bool_str (u4 I q (by simp))
  | _=>exact absurd (show false=true from g) nT
 | int i=>
  obtain⟨t,rfl⟩:=l
  cases y with
  | p7=>cases d;exact PySem.EqNone.eq_int_none (u4 I q (by simp))
  | int j=>obtain⟨e,rfl⟩:=d;exact eq_int (u4 I q vT)
  | str j=>obtain⟨e,rfl⟩:=d;exact PySem.EqMixed.eq_int_str (u4 I q (by simp))
  | _=>exact absurd (show false=true from g) nT
 | str i=>
  obtain⟨t,rfl⟩:=l
  cases y with
  | p7=>cases d;exact PySem.EqNone.eq_str_none (u4 I q (by simp))
  | bl j=>cases d;exact PySem.EqMixed.eq_str_bool (u4 I q (by simp))
  | int j=>obtain⟨e,rfl⟩:=d;exact PySem.EqMixed.eq_str_int (u4 I q (by simp))
  | str j=>obtain⟨e,rfl⟩:=d;exact eq_str (u4 I q uQ)
  | _=>exact absurd (show false=true from g) nT
 | byt i=>
  obtain⟨t,rfl⟩:=l
  cases y with
  | byt j=>obtain⟨e,rfl⟩:=d;exact PySem.W.eq_bytes (u4 I q vw)
  | _=>exact absurd (show false=true from g) nT
 | _=>cases y<;>exact absurd (show false=true from g) nT
theorem LD:L8 X (compareOp .NotEq) Nq:=by
 intro o s p H x y v u Q I l d h;obtain⟨g,q⟩:=h
 cases x with
 | p7=>
  cases l
  cases y with
  | p7=>cases d;exact PySem.EqNone.ne_none_none (u4 I q (by simp))
  | bl j=>cases d;exact PySem.EqNone.ne_none_bool (u4 I q (by simp))
  | int j=>obtain⟨e,rfl⟩:=d;exact PySem.EqNone.ne_none_int (u4 I q (by simp))
  | str j=>obtain⟨e,rfl⟩:=d;exact PySem.EqNone.ne_none_str (u4 I q (by simp))
  | _=>exact absurd (show false=true from g) nT
 | bl i=>
  cases l
  cases y with
  | p7=>cases d;exact PySem.EqNone.ne_bool_none (u4 I q (by simp))
  | bl j=>cases d;exact ne_bool (u4 I q (wv not CN))
  | str j=>obtain⟨e,rfl⟩:=d;exact PySem.EqMixed.ne_bool_str (u4 I q (by simp))
  | _=>exact absurd (show false=true from g) nT
 | int i=>
  obtain⟨t,rfl⟩:=l
  cases y with
  | p7=>cases d;exact PySem.EqNone.ne_int_none (u4 I q (by simp))
  | int j=>obtain⟨e,rfl⟩:=d;exact ne_int (u4 I q (wv not vT))
  | str j=>obtain⟨e,rfl⟩:=d;exact PySem.EqMixed.ne_int_str (u4 I q (by simp))
  | _=>exact absurd (show false=true from g) nT
 | str i=>
  obtain⟨t,rfl⟩:=l
  cases y with
  | p7=>cases d;exact PySem.EqNone.ne_str_none (u4 I q (by simp))
  | bl j=>cases d;exact PySem.EqMixed.ne_str_bool (u4 I q (by simp))
  | int j=>obtain⟨e,rfl⟩:=d;exact PySem.EqMixed.ne_str_int (u4 I q (by simp))
  | str j=>obtain⟨e,rfl⟩:=d;exact ne_str (u4 I q (wv not uQ))
  | _=>exact absurd (show false=true from g) nT
 | byt i=>
  obtain⟨t,rfl⟩:=l
  cases y with
  | byt j=>obtain⟨e,rfl⟩:=d;exact PySem.W.ne_bytes (u4 I q (wv not vw))
  | _=>exact absurd (show false=true from g) nT
 | _=>cases y<;>exact absurd (show false=true from g) nT
theorem wd:L8 X (compareOp .Lt) (yG λi j=>.bl (decide (i<j))):=FV λ_ _ _ _ _ _ _ q=>lt_int q
theorem KC:L8 X (compareOp .LtE) (yG λi j=>.bl (decide (i<=j))):=FV λ_ _ _ _ _ _ _ q=>le_int q
theorem GF:L8 X (compareOp .Gt) (yG λi j=>.bl (decide (j<i))):=FV λ_ _ _ _ _ _ _ q=>gt_int q
theorem Kh:L8 X (compareOp .GtE) (yG λi j=>.bl (decide (j<=i))):=FV λ_ _ _ _ _ _ _ q=>ge_int q
theorem wL:L8 X (compareOp .In) (λx y H Q=>∃i j,x=.str i/\y=.str j/\Q (.bl (!(Builtin.Str.occurrences j i 0 j.length 1).isEmpty)) H):=by
 intro d s l H x y v u Q I g e h;obtain⟨i,j,rfl,rfl,q⟩:=h;obtain⟨t,rfl⟩:=g;obtain⟨o,rfl⟩:=e;exact in_str (u4 I q rfl)
theorem AZ:L8 X (compareOp .Is) (λx y H Q=>y=.p7/\Q (.bl (decide (x=.p7))) H):=by
 intro e s i H x y v u Q I d g h;obtain⟨rfl,q⟩:=h;cases g;refine is_none_gen (u4 I q ?_)
 cases x<;>first
  | (cases d;rfl)
  | (obtain⟨t,rfl⟩:=d;rfl)
theorem ES:L8 X (compareOp .IsNot) (λx y H Q=>y=.p7/\Q (.bl (!decide (x=.p7))) H):=by
 intro e s i H x y v u Q I d g h;obtain⟨rfl,q⟩:=h;cases g;refine isnot_none_gen (u4 I q ?_)
 cases x<;>first
  | (cases d;rfl)
  | (obtain⟨t,rfl⟩:=d;rfl)
theorem lu:L8 X (compareOp .NotIn) (λx y H Q=>∃i j,x=.str i/\y=.str j/\Q (.bl (!(!(Builtin.Str.occurrences j i 0 j.length 1).isEmpty))) H):=by
 intro d s l H x y v u Q I g e h;obtain⟨i,j,rfl,rfl,q⟩:=h;obtain⟨t,rfl⟩:=g;obtain⟨o,rfl⟩:=e;exact notIn_str (u4 I q rfl)
theorem L8.or{f:Value->Value->Sem Value}{r j:R2}(h:L8 X f r)(h':L8 X f j):L8 X f (λx y H Q=>r x y H Q\/j x y H Q):=by
 intro d s e H x y v u Q I i g q;rcases q with q | q
 ·exact h d s e H x y v u Q I i g q
 ·exact h' d s e H x y v u Q I i g q
theorem j3(b:Expr){d:CmpOp}(h:d≠.In:=by decide)(e:d≠.NotIn:=by decide):behindInMarks d b=false:=by
 have i:(d == CmpOp.In)=false:=by cases d<;>first | rfl | exact absurd rfl h
 have g:(d == CmpOp.NotIn)=false:=by cases d<;>first | rfl | exact absurd rfl e
 cases b<;>simp[behindInMarks,i,g]
theorem uK{e:CmpOp}{r:R2}(o:L8 X (compareOp e) r)(B:PE X a ta)(z:PE X b tb)(p:behindInMarks e b=false):PE X (.Compare a [e] [b] pos) (JS r ta tb):=by
 refine .of ?_;intro d s g H Q I h;exact wpAny_Compare1 (Ia B z I h λv u i x y E C l j q=>o d i g E x y v u Q C l j q) p
def GW(t:TE):TT:=λd H Q=>t d H λx e=>∃k,x=.bl k/\Q k e
theorem uY{i:CmpOp}{r:R2}(G:L8 X (compareOp i) r)(O:PE X a ta)(M:PE X b tb)(J:behindInMarks i b=false):PT X (.Compare a [i] [b] pos) (GW (JS r ta tb)):=by
 refine .of ?_;intro d s g H Q I h
 refine wpAny_isTrue_Compare1 (B4 (O d s g H _ I h) λv l ⟨x,H1,T,q,E⟩=>B4 (M d l g H1 _ T E) λu j ⟨y,Y,S,p,C⟩=>
  B4 (G d j g Y x y v u _ S q p C) λc s3 ⟨z,U,R,o,k,e,B⟩=>?_) J
 subst e;cases o;exact zi ⟨U,R,B⟩
def sO(r h:R2)(ta tb tc:TE):TE:=λd H Q=>ta d H λx l=>tb d l λy j=>r x y j λz e=>∃k,z=.bl k /\
 (if k=true then tc d e λg i=>h y g i Q else Q (.bl false) e)
theorem Ci{l i:CmpOp}{r q:R2}(ho:L8 X (compareOp l) r)(o:L8 X (compareOp i) q)(ha:PE X a ta)(hb:PE X b tb)(hc:PE X c tc)
  (hm:lastMarks [l,i] [b,c]=false:=by with_unfolding_all rfl):PE X (.Compare a [l,i] [b,c] pos) (sO r q ta tb tc):=by
 refine .of ?_;intro g s j H Q I h
 refine Compare_chain (B4 (ha g s j H _ I h) λv S ⟨x,H1,I1,Y,q1⟩=>chain_link (B4 (hb g S j H1 _ I1 q1) λu R ⟨y,H2,I2,p,q2⟩=>
  B4 (ho g R j H2 x y v u _ I2 Y p q2) λd O ⟨z,E,C,U,k,e,B⟩=>?_)) hm
 subst e;cases U;refine zi ?_
 cases k with
 | false=>exact ite_ff ⟨.bl false,E,C,rfl,B⟩
 | true=>exact ite_tt (chain_last (B4 (hc g O j E _ C B) λJ M ⟨G,H4,I4,T,q4⟩=>o g M j H4 y G u J Q I4 p T q4))
theorem AJ{l i:CmpOp}{r q:R2}(ho:L8 X (compareOp l) r)(o:L8 X (compareOp i) q)(ha:PE X a ta)(hb:PE X b tb)(hc:PE X c tc)
  (hm:lastMarks [l,i] [b,c]=false:=by with_unfolding_all rfl):PT X (.Compare a [l,i] [b,c] pos) (GW (sO r q ta tb tc)):=by
 refine .of ?_;intro g s j H Q I h
 refine isTrue_chain (B4 (ha g s j H _ I h) λv S ⟨x,H1,I1,r1,q1⟩=>test_link (B4 (hb g S j H1 _ I1 q1) λu R ⟨y,H2,I2,p,q2⟩=>
  B4 (ho g R j H2 x y v u _ I2 r1 p q2) λd O ⟨z,E,C,Y,k,e,B⟩=>?_)) hm
 subst e;cases Y;refine zi ?_
 cases k with
 | false=>
  obtain⟨k',e',q'⟩:=B;cases e';exact ite_ff ⟨E,C,q'⟩
 | true=>
  refine ite_tt (test_last (B4 (hc g O j E _ C B) λJ M ⟨G,H4,I4,U,q4⟩=>B4 (o g M j H4 y G u J _ I4 p U q4) λd' s5 ⟨z2,H5,I5,T,k2,e2,q5⟩=>?_));subst e2;cases T;exact zi ⟨H5,I5,q5⟩
def KZ(K:QP)(x:V)(H:Hp)(k:Bool):Prop:=
 match x with
 | .p7=>k=false
 | .bl b=>k=b
 | .int i=>k=(i != 0)
 | .str y=>y.length<=sizeLine/\k=((y.length:Int) != 0)
 | .byt y=>y.size<=sizeLine/\k=((y.size:Int) != 0)
 | .ref p=>(∃d,P7 K H p d/\k=!d.isEmpty)\/(∃d,T5 K H p d/\k=!d.isEmpty)\/∃e,Dd H p e/\k=!e.isEmpty
 | _=>False
theorem sI{d:Type}{kvs:List (d×V)}{vs:List (d×Value)}(r:KV kvs vs):(!vs.isEmpty)=!kvs.isEmpty:=by
 cases r<;>rfl
theorem iJ{xs:List V}{its:QG}(r:Vals xs its):(!its.toArray.isEmpty)=!xs.isEmpty:=by
 cases r<;>simp
theorem dm:(sizeLine:Nat)<2^63:=by rw[v1];decide
theorem IX:MZ X (λx H Q=>∃k,KZ X.K x H k/\Q k H):=by
 intro B s J H x v Q I o h;obtain⟨k,e,q⟩:=h;have O:=dm;have M:sizeLine=16777216:=v1
 cases x with
 | p7=>
  cases o;have d:k=false:=e;subst d;exact truthy_none ⟨H,I,q⟩
 | bl b=>
  cases o;have d:k=b:=e;subst d;exact zi ⟨H,I,q⟩
 | int i=>
  obtain⟨t,rfl⟩:=o;have d:k=(i != 0):=e;subst d;exact PySem.P.truthy_int ⟨H,I,q⟩
 | str y=>
  obtain⟨t,rfl⟩:=o;obtain⟨E,d⟩:y.length<=sizeLine/\k=((y.length:Int) != 0):=e;subst d;exact PySem.P.truthy_str (by omega) ⟨H,I.tok _,q⟩
 | byt y=>
  obtain⟨t,rfl⟩:=o;obtain⟨E,d⟩:y.size<=sizeLine/\k=((y.size:Int) != 0):=e;subst d;exact PySem.W.truthy_bytes (by omega) ⟨H,I.tok _,q⟩
 | ref p=>
  cases o;have d:(∃l,P7 X.K H p l/\k=!l.isEmpty)\/(∃l,T5 X.K H p l/\k=!l.isEmpty)\/∃g,Dd H p g/\k=!g.isEmpty:=e;rcases d with⟨l,u,d⟩ | ⟨l,u,d⟩ | ⟨g,u,d⟩
  ·subst d;obtain⟨z,r,pl,C⟩:=I.list u;have j:=r.length;exact wpAny_truthy_list pl.isList (by simp only[qz];omega) ⟨H,I.tok _,by rw[iJ r];exact q⟩
  ·subst d;obtain⟨z,r,pl,C⟩:=I.tuple u;have j:=r.length;exact truthy_tuple pl (by simp only[qz];omega) ⟨H,I.tok _,by rw[iJ r];exact q⟩
  ·subst d;obtain⟨C,G,vs,r,m⟩:g.length<=sizeLine/\(p == sysModules)=false/\∃vs,KV g vs/\s.heap.DictOf (x3 X.prog X.w) p vs:=(show u3 X.prog X.w H s.heap p (.dK g) from u.ok I.hok)
   have j:g.length=vs.length:=PJ r;exact wpAny_truthy_dict G m (by omega) ⟨H,I.tok _,by rw[sI r];exact q⟩
 | _=>exact(show False from e).elim
theorem Dp(p:PE X a ta)(o:∀d,isTrue a X.env d=(do let v <-d;standAt a.pos;holding [v] (truthy v))) :
  PT X a (λσ H Q=>ta σ H λx g=>∃k,KZ X.K x g k/\Q k g):=by
 refine .of ?_;intro e s σ H Q I h;exact isTrue_plain (B4 (p e s σ H _ I h) λv i ⟨x,r,q,j,l⟩=>IX e i σ r x v Q q j l) (o _)
theorem rO:L8 X (binaryOp .Add) (λx y H Q=>∃i j,x=.str i/\y=.str j/\i.length+j.length<=sizeLine/\Q (.str (i++j)) H):=by
 intro d s p H x y v u Q I l g h;obtain⟨i,j,rfl,rfl,o,q⟩:=h;obtain⟨t,rfl⟩:=l;obtain⟨e,rfl⟩:=g;exact add_str (λe tk=>⟨.str (i++j),H,I.tok _,⟨_,rfl⟩,q⟩) o
theorem vals1{x:V}{d:QG}(r:Vals [x] d):∃u,d=[u]/\RelV x u:=by
 cases r with
 | cons g e=>cases e;exact⟨_,rfl,g⟩
theorem vals2{x y:V}{e:QG}(r:Vals [x,y] e):∃u d,e=[u,d]/\RelV x u/\RelV y d:=by
 cases r with
 | cons j i=>
  cases i with
  | cons h g=>cases g;exact⟨_,_,rfl,j,h⟩
theorem xF:K8 X (.type "int") (λxs H Q=>(∃i,xs=[.int i]/\Q (.int i) H)\/∃k,xs=[.bl k]/\Q (.int (if k then 1 else 0)) H):=by
 intro d s g H xs j Q I r h;rcases h with⟨i,rfl,q⟩ | ⟨k,rfl,q⟩
 ·obtain⟨u,rfl,t,rfl⟩:=vals1 r;exact call_int_int ⟨.int i,H,I,⟨_,rfl⟩,q⟩
 ·obtain⟨u,rfl,e⟩:=vals1 r;cases e;exact call_int_bool ⟨.int (if k then 1 else 0),H,I.tok _,⟨_,rfl⟩,q⟩
def IF(K:QP)(x:V)(H:Hp)(n:Nat):Prop:=
 match x with
 | .str y=>y.length<=sizeLine/\n=y.length
 | .byt y=>y.size<=sizeLine/\n=y.size
 | .ref p=>(∃d,P7 K H p d/\n=d.length)\/∃d,T5 K H p d/\n=d.length
 | _=>False
theorem l8:K8 X (.builtin "len") (λxs H Q=>∃x n,xs=[x]/\IF X.K x H n/\Q (.int n) H):=by
 intro v s C H xs E Q I r h;obtain⟨x,n,rfl,e,q⟩:=h;obtain⟨u,rfl,i⟩:=vals1 r;have J:=dm;have G:sizeLine=16777216:=v1
 cases x with
 | str y=>
  obtain⟨t,rfl⟩:=i;obtain⟨B,g⟩:y.length<=sizeLine/\n=y.length:=e;subst g;exact len_str (by omega) ⟨.int _,H,I.tok _,⟨_,rfl⟩,q⟩
 | byt y=>
  obtain⟨t,rfl⟩:=i;obtain⟨B,g⟩:y.size<=sizeLine/\n=y.size:=e;subst g;exact PySem.W.len_bytes (by omega) ⟨.int _,H,I.tok _,⟨_,rfl⟩,q⟩
 | ref p=>
  cases i;have g:(∃xs,P7 X.K H p xs/\n=xs.length)\/∃xs,T5 X.K H p xs/\n=xs.length:=e;rcases g with⟨xs,o,g⟩ | ⟨xs,o,g⟩
  ·subst g;obtain⟨l,j,pl,z⟩:=I.list o;have d:=j.length;exact Calls.call_len_list pl.isList (by simp only[qz];omega) ⟨.int xs.length,H,I.tok _,⟨_,by simp only[qz];rw[d]⟩,q⟩
  ·subst g;obtain⟨l,j,pl,z⟩:=I.tuple o;have d:=j.length;exact len_tuple pl (by simp only[qz];omega) ⟨.int xs.length,H,I.tok _,⟨_,by simp only[qz];rw[d]⟩,q⟩
 | _=>exact(show False from e).elim
end
structure Fz(h:Heap)(x dx C:Addr)(mA:QL):Prop where
 obj:h.get? x=some (PySem.W.instObj C dx)
 ns:h.Ns1 dx mA
 ne:dx≠x
theorem yt{h:Heap}{g:Addr}{mA:QL}(n:h.Ns1 g mA):∃c,h.get? g=some c/\∀name,PySem.W.lookIn name c=some (mA name):=by
 obtain⟨o,d,u,j,hd,p,_,l⟩:=n;refine⟨o,j,λname=>?_⟩;have e:=l name;unfold nsFind findBy at e;rw[<-Array.find?_toList] at e;unfold PySem.W.lookIn;rw[hd];dsimp only;split
 ·rename_i y q
  rw[q] at e;exact wv some e
 ·rename_i q
  rw[q] at e
  have a:d.toList.any (·.refKey)=false:=by
   rw[List.any_eq_false];intro y i;obtain⟨z,t,b⟩:=p y (Array.mem_toList_iff.mp i);simp[DictEntry.refKey,b]
  have r:¬d.toList.any (·.refKey)=true:=by rw[a];exact nT
  rw[qc r];exact wv some e
theorem Fz.look{h:Heap}{x b C:Addr}{mA:QL}(I:Fz h x b C mA):∃a,PySem.W.InstAt h x (PySem.W.instObj C b) C (some a)/\∀name,PySem.W.lookIn name a=some (mA name):=
 let ⟨a,c,d⟩:=yt I.ns
 ⟨a,⟨I.obj,rfl,rfl,c⟩,d⟩
section
variable{prog:Program}{w:World}{A:Around}{E:QN}{s:Shared}{K:QP}{x dx C f:Addr}{mA:QL}{name:Str}{v:Value}
theorem get_map{a:Bool}{Q:QN}(X:K.In s.heap)(I:Fz s.heap x dx C mA)(g:PySem.W.plainGet K C name=true)(e:PySem.W.hasDictIn K C=true)
  (i:PySem.W.findIn K (.ref C) name=some none) (c:mA name=some v) (b:PySem.W.handedIn v=true) (h:Q v { s with toks:=s.toks+1 }) :
  wpAny (model prog w) A (getAttr (.ref x) name a) Q E s:=by
 obtain⟨j,J,d⟩:=I.look;exact PySem.W.get_value X J (PySem.W.plainGet_of g).1 (PySem.W.findObj_own e i rfl (by rw[d,c])) b h
end
theorem ak.some_of{v:V}{o:QQ}(r:ak (some v) o):∃u,o=some u/\RelV v u:=by
 cases o with
 | none=>exact(show False from r).elim
 | some u=>exact⟨u,rfl,r⟩
section
variable{P:Program}{w:World}{H H':Hp}{h h':Heap}{a C dx:Addr}{fs fs':List (Str×V)}
theorem Ey(hok:R5 P w H h)(e:H a=some (.ins C dx fs)):∃mA,Fz h a dx C mA/\(∀f,ak (fs.lookup f) (mA f))/\PySem.Within mA (fs.map (·.1))/\fs.length<=1000/\H dx=some (.own a):=by
 obtain⟨d,z,ne,ob,mA,n,r,q⟩:=(show u3 P w H h a (.ins C dx fs) from hok a _ e)
 exact⟨mA,⟨ob,n,ne⟩,r,q,z,d⟩
end
structure Nl(K:QP)(C:Addr):Prop where
 pg:PySem.W.plainGet K C Str.empty=true
 hd:PySem.W.hasDictIn K C=true
 po:PySem.W.plainOver K C=true
 sa:PySem.W.findIn K (.ref C) "__setattr__"=some (some (.builtin "object.__setattr__"))
theorem Nl.get{K:QP}{C:Addr}(c:Nl K C)(f:Str):PySem.W.plainGet K C f=true:=c.pg
section
variable{X:Cx}{pins:QA}{σ:St}{H:Hp}{s:Shared}{a C dx:Addr}{fs:List (Str×V)}{f:Str}{v:V}{A:Around}{E:QN}
theorem Fe{prog:Program}{w:World}{env:Env}{e:Expr}{f:Str}{c:Pos}{s:Shared}{Q:QN}(d:attributeBase e f env (eval e env)=eval e env)
  (h:wpAny (model prog w) A (eval e env) (λo b=>wpAny (model prog w) A (getAttr o f true) Q E b) E s):wpAny (model prog w) A (eval (.Attribute e f c) env) Q E s:=
 Attribute_any_ h (by rw[arm_eval_Attribute,d])
end
section
variable{X:Cx}{o e value:Expr}{f:Str}{pos pos' tpos:Pos}{ta tv:TE}
end
section
variable{X:Cx}{pins:QA}{σ:St}{H:Hp}{s:Shared}{A:Around}{E Q:QN}{c:Value}{b:Bool}
inductive Z6(K:QP)(H:Hp):V->Value->Prop where
 | p7:Z6 K H .p7 (.type "NoneType")
 | bl (x:Bool):Z6 K H (.bl x) (.type "bool")
 | int (i:Int):Z6 K H (.int i) (.type "int")
 | str (x:Str):Z6 K H (.str x) (.type "str")
 | flt (x:UInt64):Z6 K H (.flt x) (.type "float")
 | lst {a:Addr} {xs:List V} (e:H a=some (.lst xs)):Z6 K H (.ref a) (.type "list")
 | frz {a:Addr} {o:Obj} {xs:List V} (e:H a=some (.frz o (.lst xs))):Z6 K H (.ref a) (.type "list")
 | tup {a:Addr} {xs:List V} (e:H a=some (.tup xs)):Z6 K H (.ref a) (.type "tuple")
 | frzD {a:Addr} {o:Obj} {kvs:List (Key×V)} {ep:Nat} (e:H a=some (.frz o (.dE kvs ep))):Z6 K H (.ref a) (.type "dict")
 | kl {a:Addr} {o:Obj} (e:K.lookup a=some o) (hc:o.cls=.type "list"):Z6 K H (.ref a) (.type "list")
 | dK {a:Addr} {kvs:List (Key×V)} (e:Dd H a kvs):Z6 K H (.ref a) (.type "dict")
 | dT {a:Addr} {kvs:List (List Key×V)} (e:H a=some (.dT kvs)):Z6 K H (.ref a) (.type "dict")
 | ins {a C dx:Addr} {fs:List (Str×V)} (e:H a=some (.ins C dx fs)) (cl:Nl K C) (ha:PySem.W.findIn K (.ref C) "__class__"=some (some (.builtin "object.__class__")))
   (hn:PySem.W.specialIn K (.builtin "object.__class__") "__get__"=some (some (.builtin "getset_descriptor.__get__"))) (htk:PySem.W.takesIn K (.builtin "object.__class__")=some true)
   (hm:PySem.W.mroIn K C (.type "object")=some true):Z6 K H (.ref a) (.ref C)
theorem xT{x:V}{u t:Value}(I:Inv X pins σ H s)(g:RelV x u)(ty:Z6 X.K H x t)(e:PySem.W.kitOne X.K t c=some b)(h:∀tk,Q (.bool b) { s with toks:=tk }) :
  wpAny (model X.prog X.w) A (call (.builtin "isinstance") [u,c]) Q E s:=by
 cases ty with
 | p7=>cases(show u=Value.none from g);exact v4 PySem.W.kitx_none I.cU True.intro e (λz=>nomatch z) h
 | bl y=>cases(show u=Value.bool y from g);exact v4 PySem.W.kitx_bool I.cU True.intro e (λz=>nomatch z) h
 | int i=>obtain⟨t,q⟩:=(show ∃t,u=Value.int i t from g);cases q;exact v4 PySem.W.kitx_int I.cU True.intro e (λz=>nomatch z) h
 | str y=>obtain⟨t,q⟩:=(show ∃t,u=Value.str y t from g);cases q;exact v4 PySem.W.kitx_str I.cU True.intro e (λz=>nomatch z) h
 | flt y=>obtain⟨t,q⟩:=(show ∃t,u=Value.float y t from g);cases q;exact v4 PySem.W.kitx_float I.cU True.intro e (λz=>nomatch z) h
 | @lst a v d=>
  cases(show u=Value.ref a from g);obtain⟨_,_,n,_,l⟩:=(show u3 X.prog X.w H s.heap a (.lst v) from I.hok a _ d)
  exact v4 Pt I.cU ⟨_,l,rfl⟩ e (λz=>nomatch z) h
 | @frz a ob v d=>
  cases(show u=Value.ref a from g);obtain⟨_,_,_,n,_,l⟩:=(show u3 X.prog X.w H s.heap a (.frz ob (.lst v)) from I.hok a _ d)
  exact v4 Pt I.cU ⟨_,l,rfl⟩ e (λz=>nomatch z) h
 | @tup a v d=>
  cases(show u=Value.ref a from g);obtain⟨_,_,_,p⟩:=(show u3 X.prog X.w H s.heap a (.tup v) from I.hok a _ d)
  obtain⟨o,l,r,_⟩:=p;exact v4 PySem.W.kitx_tuple I.cU ⟨o,l,r⟩ e (λz=>nomatch z) h
 | @frzD a ob j G d=>
  cases(show u=Value.ref a from g);obtain⟨_,_,_,vs,_,o,M,l,r,_⟩:=(show u3 X.prog X.w H s.heap a (.frz ob (.dE j G)) from I.hok a _ d)
  exact v4 Pu I.cU ⟨o,l,r.1⟩ e (λz=>nomatch z) h
 | @kl a o d T=>
  cases(show u=Value.ref a from g);exact v4 Pt I.cU ⟨o,I.cU _ _ d,T⟩ e (λz=>nomatch z) h
 | @dK a j d=>
  cases(show u=Value.ref a from g);obtain⟨_,_,vs,_,p⟩:=(show u3 X.prog X.w H s.heap a (.dK j) from d.ok I.hok)
  obtain⟨o,M,G,l,r,_⟩:=p;exact v4 Pu I.cU ⟨o,l,r.1⟩ e (λz=>nomatch z) h
 | @dT a j d=>
  cases(show u=Value.ref a from g);obtain⟨_,_,v,_,o,M,G,l,r,_⟩:=(show u3 X.prog X.w H s.heap a (.dT j) from I.hok a _ d)
  exact v4 Pu I.cU ⟨o,l,r.1⟩ e (λz=>nomatch z) h
 | @ins a C dx fs d cl U R B S=>
  cases(show u=Value.ref a from g);obtain⟨mA,O,_⟩:=Ey I.hok d;obtain⟨Y,J,_⟩:=O.look;exact v4 (PySem.W.kitx_own (cl.get _) cl.hd U R B S) I.cU J e (λz=>nomatch z) h
end
structure D3(k:Nat)(A:Around):Prop where
 hd:A.handled=none
 dp:A.depth+3*k+5<recursionLimit
 un:A.units+16*k+200<cLine
 gd:A.guards=some []
theorem D3.mono{j k:Nat}{A:Around}(r:D3 k A)(h:j<=k):D3 j A:=⟨r.hd,by have:=r.dp;omega,by have:=r.un;omega,r.gd⟩
theorem D3.deeper{k:Nat}{A:Around}(r:D3 (k+1) A)(env:Env):D3 k (A.deeper env):=
 ⟨r.hd,by have:=r.dp;show A.depth+1+3*k+5<_;omega,by have:=r.un;show A.units+3+16*k+200<_;omega,r.gd⟩
theorem tY{A:Around}{C:Addr}{a:QG}{b:QD}:(A.under (.builtin "type.__call__" ⟨.ref C::a,b⟩)).depth=A.depth+1:=by
 first | rfl | simp[Around.under,Code.weight,Code.isCreation,Code.isGuard,Code.isCaller,Code.frames,Code.isFrame,guardIds]
theorem tj{A:Around}{C:Addr}{a:QG}{b:QD}:(A.under (.builtin "type.__call__" ⟨.ref C::a,b⟩)).units=A.units+1:=by
 first | rfl | simp[Around.under,Code.cUnits,Code.frames,Code.isFrame]
theorem D3.make{k:Nat}{A:Around}(r:D3 (k+1) A)(C:Addr)(a:QG)(b:QD):D3 k (A.under (.builtin "type.__call__" ⟨.ref C::a,b⟩)):=
 ⟨r.hd,by have:=r.dp;rw[tY];omega,by have:=r.un;rw[tj];omega,(by first | exact r.gd | (have:=r.gd;simp[Around.under,Code.weight,Code.isCreation,Code.isGuard,Code.isCaller,Code.frames,Code.isFrame,guardIds,this]))⟩
theorem D3.depth{k:Nat}{A:Around}(r:D3 k A):A.depth<recursionLimit:=by have:=r.dp;omega
theorem D3.units{k:Nat}{A:Around}(r:D3 k A):A.units+64<cLine:=by have:=r.un;omega
def Na:TA:=λ_ H Q=>Q [] H
def Ha(d:TE)(c:TA):TA:=λa H Q=>d a H λx g=>c a g λb e=>Q (x::b) e
section
variable{X:Cx}{e:Expr}{es:QH}{te:TE}{t:TA}{pos:Pos}
theorem N2:PA X [] Na:=.of <| λ_ _ _ _ H Q I h=>Calls.spliced_nil ⟨[],H,I,.nil,h⟩
theorem aQ(q:PE X e te)(p:PA X es t)(o:starEach (e::es) X.env=(false,eval e X.env)::starEach es X.env:=by rfl):PA X (e::es) (Ha te t):=by
 refine .of ?_;intro pos a s b H Q I h;rw[o];show wpAny _ _ (spliced ((false,eval e X.env)::backTo pos (starEach es X.env))) _ _ s;refine PY (B4 (q a s b H _ I h) λu d ⟨x,z,v,i,l⟩=>?_);exact B4 (p pos a d b z _ v l) λB C ⟨c,y,r,g,j⟩=>⟨x::c,y,r,.cons i g,j⟩
def Nh(t:TA):TE:=λc H Q=>t c H λa b=>a.length<=sizeLine/\∀p,b p=none->Q (.ref p) (upd b p (.tup a))
def Nm(t:TA):TE:=λc H Q=>t c H λa b=>a.length<=sizeLine/\∀p,b p=none->Q (.ref p) (upd b p (.lst a))
theorem sL{l}(h:PA X es t):PE X (.Tuple es l pos) (Nh t):=by
 refine .of ?_;intro a s i H Q I p;refine wpAny_Tuple_spliced (B4 (h pos a s i H _ I p) λo c ⟨j,g,d,r,z,q⟩=>⟨by rw[<-r.length];exact z,?_⟩);have v:g c.heap.objs.size=none:=d.hok.fresh (hI _);refine⟨.ref c.heap.objs.size,upd g c.heap.objs.size (.tup j),d.laid (t':=c.toks) (λb u e=>dL _ e) (hI _) ?_,rfl,q _ v⟩;exact⟨z,o,r,⟨_,ro _ rfl,rfl,_,rfl⟩⟩
theorem Ak(h:PA X es t):PE X (.List es pos) (Nm t):=by
 refine .of ?_;intro a s i H Q I o;refine wpAny_List_spliced (B4 (h pos a s i H _ I o) λl c ⟨j,g,d,r,z,q⟩=>⟨by rw[<-r.length];exact z,?_⟩);have p:g c.heap.objs.size=none:=d.hok.fresh (hI _);refine⟨.ref c.heap.objs.size,upd g c.heap.objs.size (.lst j),d.laid (t':=c.toks) (λb u e=>dL _ e) (hI _) ?_,rfl,q _ p⟩;exact⟨z,l,0,r,ro _ rfl⟩
end
abbrev Sp:=List V->Hp->VK->XK->Prop
abbrev tV:=List Env->Hp->Shared->XK->Value->Shared->Prop
structure si(P:Program)(w:World)(K:QP)(mg:QL)(base:Heap)(A:Around)(outer:List Env)(s:Shared)(H:Hp):Prop where
 frames:A.frames=some outer
 mod:Mod K mg base
 bs:∀b o,base.get? b=some o->s.heap.get? b=some o/\H b=none
 bsz:base.objs.size<=s.heap.objs.size
 dh:s.heap.FunFrames base outer
 frf:∀b∈W4 outer,H b=none
 hok:R5 P w H s.heap
 bare:AllBare s.gens
 sy:H sysModules=none
def CE(outer:List Env)(P:Program)(w:World)(H:Hp)(s:Shared)(Q:VK)(u:Value)(s':Shared):Prop:=
 ∃v a,s'.os=s.os/\AllBare s'.gens/\Un (W4 outer) [] H a s.heap s'.heap/\R5 P w a s'.heap/\RelV v u/\Q v a
def CR(CX:tV)(outer:List Env)(P:Program)(w:World)(H:Hp)(s:Shared)(Q:VK)(E:XK)(r:Result)(s':Shared):Prop:=
 match r with
 | .ok (.ret u)=>CE outer P w H s Q u s'
 | .ok _=>False
 | .error e=>CX outer H s E e s'
structure w6(P:Program)(w:World)(K:QP)(mg:QL)(base:Heap)(CX:tV)(k:Nat)(f:Addr)(fd:FuncData)(ps:QF)(sp:Sp):Prop where
 len:∀vs H Q E,sp vs H Q E->vs.length=ps.length
 run:∀(A:Around) (outer:List Env) (s:Shared) (H:Hp) (args:Args) (us:QG) (vs:List V) (Q:VK) (E:XK),D3 k A->si P w K mg base A outer s H->BindsTo s fd args (ps.zip us)->Vals vs us->sp vs H Q E ->
  codeAny (model P w) A (.call (.ref f) args) (CR CX outer P w H s Q E) s
theorem w6.mono{P:Program}{w:World}{K:QP}{mg:QL}{base:Heap}{CX:tV}{j k:Nat}{f:Addr}{b:FuncData}{ps:QF}{sp:Sp}(F:w6 P w K mg base CX j f b ps sp)(h:j<=k) :
  w6 P w K mg base CX k f b ps sp:=⟨F.len,λA outer s H a c vs Q E d=>F.run A outer s H a c vs Q E (d.mono h)⟩
theorem w6.imp{P:Program}{w:World}{K:QP}{mg:QL}{base:Heap}{CX:tV}{k:Nat}{f:Addr}{c:FuncData}{ps:QF}{sp a:Sp}(F:w6 P w K mg base CX k f c ps sp)
  (h:∀vs H Q E,a vs H Q E->sp vs H Q E):w6 P w K mg base CX k f c ps a:=
 ⟨λvs H Q E q=>F.len vs H Q E (h _ _ _ _ q),λA outer s H b d vs Q E i j l e g=>F.run A outer s H b d vs Q E i j l e (h _ _ _ _ g)⟩
theorem si.make{P:Program}{w:World}{K:QP}{mg:QL}{base:Heap}{A:Around}{outer:List Env}{s:Shared}{H:Hp}(e:si P w K mg base A outer s H)(C:Addr)(a:QG)(b:QD) :
  si P w K mg base (A.under (.builtin "type.__call__" ⟨.ref C::a,b⟩)) outer s H:=⟨by first | exact e.frames | (simpa[Around.under,Code.envs,Code.isFrame,pushEnvs] using e.frames),e.mod,e.bs,e.bsz,e.dh,e.frf,e.hok,e.bare,e.sy⟩
section
variable{X:Cx}{pins:QA}{σ:St}{H:Hp}{s s':Shared}
theorem Inv.IL(I:Inv X pins σ H s):si X.prog X.w X.K X.mg X.base X.A X.stack s H:=
 ⟨I.ok.frames,I.ok.mod,I.bs,sr I.ok.bsz I.sz,I.stack,I.fA,I.hok,I.bare,I.sys⟩
theorem Inv.after{Q:VK}{u:Value}(I:Inv X pins σ H s)(h:CE X.stack X.prog X.w H s Q u s'):EP X pins σ Q u s':=by
 obtain⟨v,e,os,bare,un,hok,r,q⟩:=h;obtain⟨c,g,d,t,a⟩:=s';obtain rfl:a=s.os:=os;exact⟨v,e,I.call (h':=c) (g':=g) (d':=d) (t':=t) (ch:=[]) un hok bare (λb z=>absurd z (by simp)),r,q⟩
end
def Lv(sp:Sp)(a:List V)(E:XK)(t:TA):TE:=λb H Q=>t b H λvs c=>sp (vs++a) c Q E
def Binds(K:QP)(b:FuncData)(ps:QF)(ds:QG):Prop:=
 ∀(s:Shared) (a:QG),K.In s.heap->(a++ds).length=ps.length->BindsTo s b ⟨a,[]⟩ (ps.zip (a++ds))
theorem Binds.all{K:QP}{c:FuncData}{ps:QF}(h:∀a:QG,a.length=ps.length->bindArgs c ⟨a,[]⟩=pure (ps.zip a)):Binds K c ps []:=λs a _ b=>by
 rw[sK] at b ⊢;exact .of_eq (h a b)
def Passes(CX:tV)(X:Cx)(E:XK):Prop:=∀(a:QA) (c:St) (H:Hp) (s:Shared) (e:Value) (b:Shared),Inv X a c H s->CX X.stack H s E e b->X.xe e b
section
variable{X:Cx}{CX:tV}{k:Nat}{f C:Addr}{fd:FuncData}{ps:QF}{sp:Sp}{dvs:List V}{ds:QG}{E:XK}{x m:Str}{p pos apos:Pos}{e o:Expr}{es:QH}{ta:TE}{t:TA}
theorem Hr{pins:QA}{σ:St}{H:Hp}{s:Shared}{Q:VK}{a:QG}{vs:List V}(F:w6 X.prog X.w X.K X.mg X.base CX k f fd ps sp)(i:D3 k X.A)(l:Binds X.K fd ps ds)(hd:Vals dvs ds)(g:Passes CX X E)
  (I:Inv X pins σ H s) (r:Vals vs a) (h:sp (vs++dvs) H Q E):wpAny (model X.prog X.w) X.A (call (.ref f) a) (EP X pins σ Q) X.xe s:=by
 have c:Vals (vs++dvs) (a++ds):=r.append hd;have j:(a++ds).length=ps.length:=by rw[<-c.length];exact F.len _ _ _ _ h
 refine OA (OL (F.run X.A X.stack s H ⟨a,[]⟩ (a++ds) (vs++dvs) Q E i I.IL (l s a I.cU j) c h) λr d b=>?_)
 cases r with
 | error e=>exact g pins σ H s e d I b
 | ok q=>
  cases q with
  | ret u=>exact I.after b
  | next=>exact False.elim b
  | brk=>exact False.elim b
  | cont=>exact False.elim b
theorem lq(F:w6 X.prog X.w X.K X.mg X.base CX k f fd ps sp)(j:D3 k X.A)(v:Gl X x)(l:X.mg x=some (.ref f))(u:PySem.W.keepIn X.K (.ref f)=true)(z:Binds X.K fd ps ds)(hd:Vals dvs ds)(i:Passes CX X E)
  (B:PA X (e::es) t) (c:(x == ("__debug__" : Str))=false:=by decide) (y:starEach (e::es) X.env=(false,eval e X.env)::starEach es X.env:=by rfl) (b:(backTo pos (starEach es X.env)).any (·.1)=false:=by rfl) :
  PE X (.Call (.Name x p) (e::es) [] pos) (Lv sp dvs E t):=by
 refine .of ?_;intro a s g H Q I h;refine OO (cA I v l ?_ c);refine PySem.W.callWith_K (h₀:=X.base) I.ok.mod.kin u (B4 (B pos a s g H _ I h) λG J ⟨vs,M,d,r,q⟩=>⟨d.cU,?_⟩) y b;exact Hr F j z hd i d r q
end
section
variable{X:Cx}{CX:tV}{k:Nat}{f C:Addr}{fd:FuncData}{ps ks:QF}{sp:Sp}{E:XK}{x m:Str}{p pos apos kpos:Pos}{e o:Expr}{es:QH}{kws:List Keyword}{te ta:TE}{t tk:TA}{nm:Option Str}
variable{g:QG->QG->QG}{gV:List V->List V->List V}
end
structure j2(N P:QF)(sc:Scope):Prop where
 kind:sc.kind=.function
 co:sc.isCoroutine=false
 gen:sc.isGenerator=false
 nd:N.Nodup
 pre:N.take P.length=P
 par:∀x∈P,sc.names.lookup x=some .local\/sc.names.lookup x=some .cell
 nofree:∀y∈sc.names,y.2≠.free
theorem kJ{kindOf:Str->Option NameKind}{x:Str}:∀{binds:QD} {m:QL},(∀v,(x,v)∉binds)->bindL kindOf binds m x=m x
 | [],_,_=>rfl
 | (n,v)::r,m,h=>by
  unfold bindL;rw[kJ λw hw=>h w (ol _ hw)];split
  ·have:x≠n:=by rintro rfl;exact h v pu
   simp[this]
  ·rfl
theorem ko{kindOf:Str->Option NameKind}{x:Str}:∀{binds:QD} {m:QL},(∀v,(x,v)∉binds)->bindC kindOf binds m x=m x
 | [],_,_=>rfl
 | (n,v)::r,m,h=>by
  unfold bindC;rw[ko λw hw=>h w (ol _ hw)];split
  ·rfl
  ·have:x≠n:=by rintro rfl;exact h v pu
   simp[this]
theorem jZ{kindOf:Str->Option NameKind}{x:Str}{v:Value}:∀{P:QF} {vs:QG} {i:Nat} {m:QL},P.Nodup->P[i]?=some x->vs[i]?=some v->kindOf x=some .local ->
  bindL kindOf (P.zip vs) m x=some v
 | [],_,_,_,_,h,_,_=>by simp at h
 | _::_,[],_,_,_,_,h,_=>by simp at h
 | p::P,w::vs,0,m,nd,b,a,c=>by
  simp at b a;subst b;subst a;show bindL kindOf ((p,w)::P.zip vs) m p=_;unfold bindL;rw[kJ λv d=>(List.nodup_cons.mp nd).1 (PR d).1,qq c];simp
 | p::P,w::vs,i+1,m,nd,b,a,c=>by
  show bindL kindOf ((p,w)::P.zip vs) m x=_;unfold bindL;exact jZ (i:=i) (List.nodup_cons.mp nd).2 (by simpa using b) (by simpa using a) c
theorem kj{kindOf:Str->Option NameKind}{x:Str}{v:Value}:∀{P:QF} {vs:QG} {i:Nat} {m:QL},P.Nodup->P[i]?=some x->vs[i]?=some v->kindOf x≠some .local ->
  bindC kindOf (P.zip vs) m x=some v
 | [],_,_,_,_,h,_,_=>by simp at h
 | _::_,[],_,_,_,_,h,_=>by simp at h
 | p::P,w::vs,0,m,nd,b,a,c=>by
  simp at b a;subst b;subst a;show bindC kindOf ((p,w)::P.zip vs) m p=_;unfold bindC;rw[ko λv d=>(List.nodup_cons.mp nd).1 (PR d).1,qc c];simp
 | p::P,w::vs,i+1,m,nd,b,a,c=>by
  show bindC kindOf ((p,w)::P.zip vs) m x=_;unfold bindC;exact kj (i:=i) (List.nodup_cons.mp nd).2 (by simpa using b) (by simpa using a) c
def start(N:QF)(vs:List V):St:=vs.map some++List.replicate (N.length-vs.length) none
def bX(CX:tV)(P:Program)(w:World)(K:QP)(mg:QL)(base:Heap)(N:QF)(a:Str)(scope:Scope)(f:Addr)(c:Value)(A:Around)(outer:List Env)(s:Shared)(H:Hp)(E:XK):Cx where
 prog:=P
 w:=w
 K:=K
 mg:=mg
 base:=base
 A:=A.deeper (envOfC a scope s.heap.objs.size f c)
 N:=N
 s₀:=s
 H₀:=H
 env:=envOfC a scope s.heap.objs.size f c
 outer:=outer
 stack:=envOfC a scope s.heap.objs.size f c::outer
 ex:=[]
 calm:=true
 fn:=λ_=>true
 pn:=[]
 xe:=λe d=>wpAny (model P w) (A.deeper (envOfC a scope s.heap.objs.size f c)) (leaving (envOfC a scope s.heap.objs.size f c) e) (λ_ b=>CX outer H s E e b) (λg b=>CX outer H s E g b) d
theorem oV{a:Scope}{n:Nat}{x:Str}(h:a.names.lookup x=some .cell):∃c,(cellsFrom n a.names []).lookup x=some c:=by
 have q:=PySem.W.cellsFrom_some a.names n [] (.inl h);exact Option.isSome_iff_exists.mp q
theorem ye{CX:tV}{P:Program}{w:World}{K:QP}{mg:QL}{base:Heap}{N ps:QF}{d:Str}{scope:Scope}{f:Addr}{J:Value}{A:Around}{outer:List Env}{s O:Shared}{H:Hp}{E:XK}{M:QG}{vs:List V}
  (S:j2 N ps scope) (hd:A.handled=none) (j:si P w K mg base A outer s H) (Y:vs.length=ps.length) (r:Vals vs M)
  (x:InCallC s s.heap.objs.size (bindL (envOfC d scope s.heap.objs.size f J).kindOf (ps.zip M) λ_=>none) (cellsFrom (s.heap.objs.size+1) scope.names []) (bindC (envOfC d scope s.heap.objs.size f J).kindOf (ps.zip M) λ_=>none) O) :
  Inv (bX CX P w K mg base N d scope f J A outer s H E) [] (start N vs) H O:=by
 have U:ps.length<=N.length:=by have:=wv List.length S.pre;rw[t9] at this;omega
 obtain⟨I,tk,rfl,R⟩:=x.done;have l:∀b:Addr,b∉(bX CX P w K mg base N d scope f J A outer s H E).ex:=λb z=>absurd (show b∈([]:QE) from z) (by simp)
 refine⟨⟨j.mod,S.kind,rfl,rfl,hI _,λy z c I g=>?_,λy o=>?_,λy c _ h=>?_,λ_=>hd,Around.frames_deeper j.frames,.inr ⟨rfl,rfl⟩,λb z=>absurd z (l b),j.bs,j.bsz,λb _ _=>l b,λb z=>absurd z (l b),j.dh,j.frf,j.sy⟩,
  rfl,j.bare,Un.kept R,⟨_,x.toInCall.ns,λi y v I g h3=>?_⟩,λy c h=>⟨_,x.cell y c h⟩,j.hok.fresh (hI _),λy c h=>?_,λp C=>absurd (show p∈([]:QA) from C) (by simp),j.hok.kept R,?_⟩
 ·exact name_of_addr x.apart (Go I) (Go g)
 ·have o:scope.names.lookup y=some .cell\/scope.names.lookup y=some .free:=o;rcases o with o | o
  ·exact oV o
  ·exact absurd rfl (S.nofree _ (Go o))
 ·exact OC (x.above y c (Go h))
 ·have G:i<vs.length:=by
   unfold start at g
   by_cases G:i<vs.length
   ·exact G
   ·rw[t5 (by simpa using G)] at g;rw[List.getElem?_replicate] at g;split at g<;>cases g
  have X:vs[i]?=some v:=by
   unfold start at g;rw[ri (by simpa using G),rz] at g
   cases e:vs[i]? with
   | none=>rw[e] at g;cases g
   | some a=>rw[e] at g;cases g;rfl
  obtain⟨u,Q,T⟩:=r.get X
  have C:ps[i]?=some y:=by
   rw[<-S.pre,ww (by omega)];exact I
  have B:ps.Nodup:=by rw[<-S.pre];exact S.nd.sublist (List.take_sublist _ _)
  refine⟨u,T,?_⟩;rcases S.par y (rc C) with k | k
  ·exact .inl ⟨k,jZ B C Q k⟩
  ·obtain⟨c,e⟩:=oV (n:=s.heap.objs.size+1) k;refine .inr ⟨.inl k,c,e,?_⟩;have q:=x.cell y c e;rw[kj B C Q (by show scope.names.lookup y≠_;rw[k];decide)] at q;exact q
 ·exact j.hok.fresh (OC (x.above y c (Go h)))
 ·unfold start;show _=N.length;rw[hW,cC,Lm];omega
theorem GG{CX:tV}{P:Program}{w:World}{K:QP}{mg:QL}{base:Heap}{k:Nat}{f:Addr}{name a:Str}{params:Arguments}{body:QM}{scope:Scope}{Y kV B X c ct oc:Value}{an od:Option Addr}
  {M:Array (QQ)} {N ps:QF} {sp:Sp} (lk:K.lookup f=some ⟨oc,od,.func (PySem.W.fnOf name a params body scope Y kV B X an c ct),M⟩) (T:PySem.W.codeIn K c a=true) (S:j2 N ps scope)
  (len:∀vs H Q E,sp vs H Q E->vs.length=ps.length)
  (i:∀(A:Around) (outer:List Env) (s:Shared) (H:Hp) (vs:List V) (Q:VK) (E:XK),D3 k (A.deeper (envOfC a scope s.heap.objs.size f c))->sp vs H Q E ->
   ∃t,mn (bX CX P w K mg base N a scope f c A outer s H E) body t/\t { nx:=λ_ g=>Q .p7 g,rt:=Q } (start N vs) H) :
  w6 P w K mg base CX (k+1) f (PySem.W.fnOf name a params body scope Y kV B X an c ct) ps sp:=by
 refine⟨len,λA outer s H a0 us vs Q E R z hb r l=>?_⟩;have hl:=len _ _ _ _ l;have KX:K.In s.heap:=z.mod.kin.keeps λb o e=>(z.bs b o e).1;have O:s.heap.NoLimit:=z.mod.nolimit.keeps λb o e=>(z.bs b o e).1
 have h:∀y∈ps.zip us,scope.names.lookup y.1=some .local\/(scope.names.lookup y.1=some .cell/\((cellsFrom (s.heap.objs.size+1) scope.names []).lookup y.1).isSome=true):=λ⟨n,v⟩ hy=>by
  rcases S.par n (PR hy).1 with q | q
  ·exact .inl q
  ·exact .inr ⟨q,PySem.W.cellsFrom_some _ _ _ (.inl q)⟩
 refine codeAny_call_function R.depth (KX _ _ lk) rfl S.co S.gen rfl (PySem.W.codeRec_of KX T) (hb _ _ _ _ ?_);refine wpAny_newFunctionEnv_cells S.kind h λenv he U x=>?_;subst he;refine⟨O.keeps x.toInCall.keep,codeAny_func ?_⟩;obtain⟨t,ht,hq⟩:=i A outer s H vs Q E (R.deeper _) l;have I:Inv (bX CX P w K mg base N a scope f c A outer s H E) [] (start N vs) H U:=ye S R.hd z hl r x;refine ux (ht [] U (start N vs) H _ I hq) (λfl C j=>?_) λe C j=>j
 have p:∀{d:St} {g:Hp} {v:V} {u:Value},Inv (bX CX P w K mg base N a scope f c A outer s H E) [] d g C->RelV v u->Q v g->CE outer P w H s Q u C:=
  λ{d g v u} J G q=>⟨v,g,J.os,J.bare,J.base,J.hok,G,q⟩
 cases fl with
 | ret u=>
  obtain⟨v,d,g,J,G,q⟩:=j;exact p J G q
 | next=>
  obtain⟨d,g,J,q⟩:=j;exact p (v:=V.p7) (u:=Value.none) J rfl q
 | brk=>
  obtain⟨_,_,_,q⟩:=j;exact False.elim q
 | cont=>
  obtain⟨_,_,_,q⟩:=j;exact False.elim q
section
variable{X:Cx}{x:Str}{p pos:Pos}{e:Expr}{es:QH}{t:TA}{id T:String}{r:List V->Hp->VK->Prop}
def Mn(r:List V->Hp->VK->Prop)(t:TA):TE:=λa H Q=>t a H λvs b=>r vs b Q
theorem iY (z:K8 X (.builtin id) r) (v:Gl X x) (u:X.mg x=none) (o:bootBuiltins x=some (.builtin id)) (B:PA X (e::es) t) (q:x ≠ "__name__":=by decide) (c:(x == ("__debug__" : Str))=false:=by decide)
  (y:starEach (e::es) X.env=(false,eval e X.env)::starEach es X.env:=by rfl) (b:(backTo pos (starEach es X.env)).any (·.1)=false:=by rfl):PE X (.Call (.Name x p) (e::es) [] pos) (Mn r t):=by
 refine .of ?_;intro a s d H Q I h;refine OO (dR I v u o ?_ q c);exact PyProof.Rows.callWith_builtin1 (B4 (B pos a s d H _ I h) λg i ⟨vs,E,C,j,l⟩=>z a i d E vs g Q C j l) y b
theorem jV (z:K8 X (.type T) r) (v:Gl X x) (u:X.mg x=none) (o:bootBuiltins x=some (.type T)) (B:PA X (e::es) t) (q:x ≠ "__name__":=by decide) (c:(x == ("__debug__" : Str))=false:=by decide)
  (y:starEach (e::es) X.env=(false,eval e X.env)::starEach es X.env:=by rfl) (b:(backTo pos (starEach es X.env)).any (·.1)=false:=by rfl):PE X (.Call (.Name x p) (e::es) [] pos) (Mn r t):=by
 refine .of ?_;intro a s d H Q I h;refine OO (dR I v u o ?_ q c);exact L1 (B4 (B pos a s d H _ I h) λg i ⟨vs,E,C,j,l⟩=>z a i d E vs g Q C j l) y b
end
end L2
namespace HT
open PySem PyProof.Rows
section
open PySem.SeqAt
open PySem.AutoSeq1 (wpAny_loadPart')
open PySem.MeetsSeq PySem.MeetsSeq2 PySem.MeetsSeq3
end
section
variable{prog:Program}{w:World}{A:Around}{E:QN}{s:Shared}
theorem ER{t b:Addr}{vs a:QG}{Q:QN}(v:IsTup s.heap t vs.toArray)(x:IsTup s.heap b a.toArray)(o:vs≠[])
  (z:a=[]->Q (.ref t) s) (y:a≠[]->Q (.ref s.heap.objs.size) { s with heap:=s.heap.push { cls:=.type "tuple",data:=.seq (vs++a).toArray } })
  (hsz:vs.length+a.length<=sizeLine):wpAny (model prog w) A (binaryOp .Add (.ref t) (.ref b)) Q E s:=by
 obtain⟨⟨cls,q,r,l⟩,j,p,n,hd⟩:=id v;obtain⟨⟨u,i,data2,d⟩,c,h,n2,g⟩:=id x;simp only at p hd h g;subst p hd h g;have e:vs.toArray++a.toArray=(vs++a).toArray:=by simp
 by_cases hw:a=[]
 ·exact concat_meets ⟨_,j,rfl⟩ ⟨_,c,rfl⟩ noFill_tuple_add seq_tuple_add OX OQ (OM _ _)
   (tuple_addW1 t b vs.toArray a.toArray n n2 q i l d (by simpa using o) (by simp[hw])) ⟨j,c,z hw⟩
 ·refine concat_meets ⟨_,j,rfl⟩ ⟨_,c,rfl⟩ noFill_tuple_add seq_tuple_add OX OQ (OM _ _)
   (tuple_addW2 t b vs.toArray a.toArray n n2 q i l d (by simpa using o) (by simpa using hw) (by rw[qz,qz];exact hsz)) ⟨j,c,?_⟩
  rw[e];exact y hw
def D1(n d:Nat):Option Int->Nat
 | none=>d
 | some v=>if v<0 then(v+(n:Int)).toNat else min v.toNat n
theorem vn(n d k:Nat):D1 n d (some (k:Int))=min k n:=by
 show(if (k:Int)<0 then((k:Int)+(n:Int)).toNat else min (k:Int).toNat n)=min k n;rw[qc (by omega),Py]
theorem HL(n d:Nat)(hd:d<=n)(o:Option Int):D1 n d o<=n:=by
 cases o with
 | none=>exact hd
 | some v=>
  show(if v<0 then(v+(n:Int)).toNat else min v.toNat n)<=n
  by_cases a:v<0
  ·rw[qq a];omega
  ·rw[qc a];exact Nat.min_le_right _ _
theorem uS(v:Int)(n d:Nat):(if v<0 then max (v+(n:Int)) 0 else min v (n:Int))=((D1 n d (some v):Nat):Int):=by
 show(if v<0 then max (v+(n:Int)) 0 else min v (n:Int))=(((if v<0 then(v+(n:Int)).toNat else min v.toNat n):Nat):Int)
 by_cases a:v<0
 ·simp only[qq a];omega
 ·simp only[qc a];omega
theorem sP(lo a:Option Int)(n:Nat):Builtin.Slice.sliceAdjust lo a 1 (n:Int)=(((D1 n 0 lo:Nat):Int),((D1 n n a:Nat):Int)):=by
 have b:¬((1:Int)<0):=by omega
 unfold Builtin.Slice.sliceAdjust;simp only[b,OF];refine Prod.ext ?_ ?_
 ·cases lo with
  | none=>rfl
  | some v=>exact uS v n 0
 ·cases a with
  | none=>rfl
  | some v=>exact uS v n n
theorem rQ(i j:Nat):Builtin.Slice.slicePlaces (i:Int) (j:Int) 1=j-i:=by
 unfold Builtin.Slice.slicePlaces;have a:(1:Int)>0:=by omega
 simp only[a,OB,Int.ediv_one];split<;>omega
theorem gJ{v:Value}{o:Option Int}{Q:Option Int->Shared->Prop}(p:IsPart v o)(h:Q o s):wpAny (model prog w) A (Builtin.Slice.slicePartIndex v) Q E s:=by
 cases p with
 | none=>exact slicePart_none h
 | int i t=>exact slicePart_int h
theorem V8{g:Addr}{e d:Value}{lo b:Option Int}{n:Nat}{Q:Int×Int×Nat->Shared->Prop}(j:s.heap.IsSliceOf g e d .none)(pl:IsPart e lo)(i:IsPart d b)
  (h:Q (((D1 n 0 lo:Nat):Int),1,D1 n n b-D1 n 0 lo) s):wpAny (model prog w) A (Builtin.Slice.sliceApplied (.ref g) (pure (n:Int))) Q E s:=by
 obtain⟨os,a,l,c⟩:=id j;unfold Builtin.Slice.sliceApplied Builtin.Slice.sliceFields;refine cB (cB (v3 a c (x:=e) rfl (cB (v3 a c (x:=d) rfl (cB (v3 a c (x:=.none) rfl (hH ?_)))))));refine cB (slicePart_none ?_);show wpAny _ _ (if ((1:Int) == 0)=true then _ else _) _ _ s;rw[qc (by decide)];refine cB (gJ pl (cB (gJ i (cB (hH ?_)))));show wpAny _ _ (match Builtin.Slice.sliceAdjust lo b 1 (n:Int) with | (lo,b)=>pure (lo,(1:Int),Builtin.Slice.slicePlaces lo b 1)) _ _ s;rw[sP lo b n];show wpAny _ _ (pure (((D1 n 0 lo:Nat):Int),(1:Int),Builtin.Slice.slicePlaces ((D1 n 0 lo:Nat):Int) ((D1 n n b:Nat):Int) 1)) _ _ s;rw[rQ];exact hH h
theorem AM(xs:QK)(i k:Nat):((List.range k).filterMap λ(m:Nat)=>xs[((i:Int)+(m:Int)*1).toNat]?).toArray=((xs.toList.drop i).take k).toArray:=by
 have e:(λ(m:Nat)=>xs[((i:Int)+(m:Int)*1).toNat]?)=λm=>xs[i+m]?:=by
  funext m
  have:((i:Int)+(m:Int)*1).toNat=i+m:=by omega
  rw[this]
 rw[e];have:=pick_run xs i k;rw[List.filterMap_map] at this;have a:((λx=>xs[x]?)∘λx=>i+x)=λm=>xs[i+m]?:=rfl;rw[a] at this;rw[this]
theorem cI{t d:Addr}{items:QK}{o l:Value}{lo b:Option Int}{Q:QN}(c:IsTup s.heap t items)(p:s.heap.IsSliceOf d o l .none)(pl:IsPart o lo)(r:IsPart l b)
  (hw:¬(D1 items.size 0 lo=0/\D1 items.size items.size b=items.size))
  (h:Q (.ref s.heap.objs.size) { s with heap:=s.heap.push { cls:=.type "tuple",data:=.seq ((items.toList.drop (D1 items.size 0 lo)).take (D1 items.size items.size b-D1 items.size 0 lo)).toArray } })
  (hsz:items.size<=sizeLine):wpAny (model prog w) A (getItem (.ref t) (.ref d)) Q E s:=by
 have a:sizeOk (.seq ((items.toList.drop (D1 items.size 0 lo)).take (D1 items.size items.size b-D1 items.size 0 lo)).toArray):=by
  show((items.toList.drop (D1 items.size 0 lo)).take (D1 items.size items.size b-D1 items.size 0 lo)).toArray.size<=sizeLine;rw[qz,t9,tz,GM];omega
 have y:D1 items.size items.size b<=items.size:=HL _ _ (hI _) b;obtain⟨os,e,i,u⟩:=id p;have j:s.TypeIs (.ref d) "slice":=⟨os,e,i⟩
 unfold getItem
 try with_reducible refine u7 ?_
 first | refine cB (hH ?_) | skip
 refine cB (wpAny_sequenceKey c.typeIs (by decide) ?_)
 refine cB (wS (name:=Str.ofString "__getitem__") c.typeIs Gm
  (Da Gm c.typeIs entry_tuple_getitem ?_ (args_tuple_getitem _ _)))
 show wpAny _ _ (Builtin.Tuple.tupleItemsOf (.ref t) >>= _) _ _ s;refine cB (tupleItemsOf_ c ?_);refine cB (Pk j ?_);rw[qq (by decide)];refine cB (V8 p pl r ?_)
 have g:¬((((D1 items.size 0 lo:Nat):Int) == 0&&(1:Int) == 1&&(D1 items.size items.size b-D1 items.size 0 lo) == items.size)=true):=by
  intro q;rw[hD,hD] at q;have x:((D1 items.size 0 lo:Nat):Int)=0:=eq_of_beq q.1.1;have v:D1 items.size items.size b-D1 items.size 0 lo=items.size:=eq_of_beq q.2;exact hw ⟨by omega,by omega⟩
 show wpAny _ _ (if (((D1 items.size 0 lo:Nat):Int) == 0&&(1:Int) == 1&&(D1 items.size items.size b-D1 items.size 0 lo) == items.size)=true then _ else _) _ _ s;rw[qc g,AM]
 first
  | exact cB (m:=Builtin.Tuple.tupleExact _) (z0 (hH ⟨_,rfl,hH h⟩) a)
  | exact cB (m:=Builtin.Tuple.tupleExact _) (z0 (cB (hH (hH ⟨_,rfl,hH h⟩))) a)
  | exact cB (cB (m:=Builtin.Tuple.tupleExact _) (z0 (hH (hH ⟨_,rfl,hH h⟩)) a))
  | exact cB (cB (m:=Builtin.Tuple.tupleExact _) (z0 (hH ⟨_,rfl,hH h⟩) a))
end
end HT
namespace L2
open PySem PySem.Spec PyProof.Rows
abbrev TO:=St->Hp->(Option Int->Hp->Prop)->Prop
structure PO(X:Cx)(e:Option Expr)(t:TO) : Prop where
 of ::
 run :
 ∀(pins:QA) (s:Shared) (σ:St) (H:Hp) (Q:Option Int->Hp->Prop),Inv X pins σ H s->t σ H Q ->
  wpAny (model X.prog X.w) X.A (evalPart e X.env) (λu s'=>∃o H',Inv X pins σ H' s'/\IsPart u o/\Q o H') X.xe s
instance {X:Cx} {e:Option Expr} {t:TO} : CoeFun (PO X e t) λ_=>
 ∀(pins:QA) (s:Shared) (σ:St) (H:Hp) (Q:Option Int->Hp->Prop),Inv X pins σ H s->t σ H Q ->
  wpAny (model X.prog X.w) X.A (evalPart e X.env) (λu s'=>∃o H',Inv X pins σ H' s'/\IsPart u o/\Q o H') X.xe s:=⟨PO.run⟩
def EB:TO:=λ_ H Q=>Q none H
def Kn(t:TE):TO:=λa H Q=>t a H λx b=>∃i,x=.int i/\Q (some i) b
section
variable{X:Cx}{e:Expr}{te:TE}{lo hi:Option Expr}{tl th:TO}{pos p2:Pos}
theorem DJ:PO X none EB:=by
 refine .of ?_;intro a s b H Q I h;rw[evalPart_none];exact hH ⟨none,H,I,.none,h⟩
theorem FC(h:PE X e te):PO X (some e) (Kn te):=by
 refine .of ?_;intro a s b H Q I hw;rw[evalPart_some];refine B4 (h a s b H _ I hw) λu l ⟨x,j,g,c,d⟩=>?_;obtain⟨i,rfl,q⟩:=d;obtain⟨t,rfl⟩:=c;exact⟨some i,j,g,.int i t,q⟩
def GD(X:Cx)(r:V->Option Int->Option Int->Hp->VK->Prop):Prop:=
 ∀(a:QA) (s:Shared) (b:St) (H:Hp) (x:V) (v d c:Value) (lo hi:Option Int) (g:Addr) (Q:VK),Inv X a b H s->RelV x v->s.heap.IsSliceOf g d c .none->IsPart d lo->IsPart c hi->r x lo hi H Q ->
  ∃T id,typeLookup (.type T) "__getitem__"=pure (some (.builtin id))/\s.TypeIs v T/\wpAny (model X.prog X.w) X.A (getItem v (.ref g)) (EP X a b Q) X.xe s
theorem GD.or{r j:V->Option Int->Option Int->Hp->VK->Prop}(h:GD X r)(h':GD X j):GD X (λx lo hi H Q=>r x lo hi H Q\/j x lo hi H Q):=by
 intro a s b H x v d c lo hi g Q I i o pl l q;rcases q with q | q
 ·exact h a s b H x v d c lo hi g Q I i o pl l q
 ·exact h' a s b H x v d c lo hi g Q I i o pl l q
def NO(r:V->Option Int->Option Int->Hp->VK->Prop)(te:TE)(tl th:TO):TE:=λa H Q=>te a H λx d=>tl a d λl c=>th a c λu b=>r x l u b Q
theorem px{r:V->Option Int->Option Int->Hp->VK->Prop}(M:GD X r)(S:PE X e te)(O:PO X lo tl)(G:PO X hi th):PE X (.Subscript e (.Slice lo hi none p2) pos) (NO r te tl th):=by
 refine .of ?_;intro a s d H Q I h;refine Subscript_ (B4 (S a s d H _ I h) λv p ⟨x,H1,I1,y,C⟩=>?_);refine wpAny_Slice (B4 (O a p d H1 _ I1 C) λi o ⟨l,H2,I2,pl,B⟩=>B4 (G a o d H2 _ I2 B) λg c ⟨u,j,I3,E,z⟩=>?_);rw[evalPart_none];refine hH ?_;have Y:Inv X a d j { c with heap:=c.heap.push { cls:=.type "slice",data:=.fields #[i,g,.none] } }:=I3.kept (t':=c.toks) λb ob q=>dL _ q;obtain⟨T,id,U,J,R⟩:=M a { c with heap:=c.heap.push { cls:=.type "slice",data:=.fields #[i,g,.none] } } d j x v i g l u c.heap.objs.size Q Y y (Heap.IsSliceOf.new ..) pl E z;show wpAny (model X.prog X.w) X.A (subscriptTail e (.Slice lo hi none p2) v (.ref c.heap.objs.size)) (EP X a d Q) X.xe { c with heap:=c.heap.push { cls:=.type "slice",data:=.fields #[i,g,.none] } };exact tail_any (ops:=[.ref c.heap.objs.size,v]) J U R (by with_unfolding_all rfl)
def fm(xs:List V)(lo hi:Option Int):List V:=(xs.drop (HT.D1 xs.length 0 lo)).take (HT.D1 xs.length xs.length hi-HT.D1 xs.length 0 lo)
theorem eF(xs:List V)(lo hi:Option Int):(fm xs lo hi).length<=xs.length:=by
 unfold fm;rw[t9,tz];omega
def Nk(K:QP):V->Option Int->Option Int->Hp->VK->Prop:=λx lo hi H Q=>∃a b,x=.ref a/\T5 K H a b /\
 ¬(HT.D1 b.length 0 lo=0/\HT.D1 b.length b.length hi=b.length)/\∀p,H p=none->Q (.ref p) (upd H p (.tup (fm b lo hi)))
theorem Hy:GD X (Nk X.K):=by
 intro i s B H x v E C lo hi G Q I p z pl u h;obtain⟨a,d,rfl,y,hw,q⟩:=h;cases p;obtain⟨g,r,l,j⟩:=I.tuple y;have c:g.toArray.size=d.length:=by rw[qz];exact r.length.symm
 refine⟨"tuple",_,PyProof.Rows.slot_tuple_getitem.lookup,l.typeIs,?_⟩;refine HT.cI l z pl u (by rw[c];exact hw) ?_ (by rw[c];exact j);rw[c];refine⟨.ref s.heap.objs.size,_,I.laid (t':=s.toks) (o:=.tup (fm d lo hi)) (λb ob q=>dL _ q) (hI _) ?_,rfl,q _ (I.hok.fresh (hI _))⟩;exact⟨sr (eF d lo hi) j,_,(r.drop (HT.D1 d.length 0 lo)).take (HT.D1 d.length d.length hi-HT.D1 d.length 0 lo),IsTup.new _ _⟩
def Kx(K:QP):R2:=λx y H Q=>∃a b d c,x=.ref a/\y=.ref b/\T5 K H a d/\T5 K H b c/\d≠[]/\d.length+c.length<=sizeLine /\
 (c=[]->Q (.ref a) H)/\(c≠[]->∀p,H p=none->Q (.ref p) (upd H p (.tup (d++c))))
theorem Vals.fW{xs:List V}{a:QG}(r:Vals xs a):a=[] ↔ xs=[]:=by
 cases r with
 | nil=>simp
 | cons _ _=>simp
theorem DV:L8 X (binaryOp .Add) (Kx X.K):=by
 intro g s S H x y v u Q I B r h;obtain⟨a,b,p,l,rfl,rfl,R,O,M,j,E,C⟩:=h;cases B;cases r;obtain⟨J,d,G,_⟩:=I.tuple R;obtain⟨i,c,p2,_⟩:=I.tuple O;refine HT.ER G p2 (λz=>M (d.fW.mp z)) (λz=>⟨.ref a,H,I,rfl,E (c.fW.mp z)⟩) (λz=>?_) (by rw[<-d.length,<-c.length];exact j);refine⟨.ref s.heap.objs.size,_,I.laid (t':=s.toks) (o:=.tup (p++l)) (λb ob q=>dL _ q) (hI _) ?_,rfl,C (λw=>z (c.fW.mpr w)) _ (I.hok.fresh (hI _))⟩;exact⟨by rw[hW];exact j,_,d.append c,IsTup.new _ _⟩
end
def ji(n:Nat)(i:Int):QR:=if 0<=i then(if i<n then some i.toNat else none) else if -(n:Int)<=i then some (i+n).toNat else none
def O7{a:Type}(xs:List a)(i:Int):Option a:=(ji xs.length i).bind λj=>xs[j]?
theorem vH{n:Nat}{i:Int}{j:Nat}(h:ji n i=some j):seqIndex? i n=some j/\j<n/\-(n:Int)<=i/\i<n:=by
 unfold ji at h
 by_cases b:0<=i
 ·rw[qq b] at h
  by_cases a:i<n
  ·rw[qq a] at h;have e:i.toNat=j:=tL h;exact⟨by rw[seqIndex_of b a,e],by omega,by omega,a⟩
  ·rw[qc a] at h;cases h
 ·rw[qc b] at h
  by_cases a:-(n:Int)<=i
  ·rw[qq a] at h;have e:(i+n).toNat=j:=tL h;exact⟨by rw[seqIndex_neg (by omega) a,e],by omega,a,by omega⟩
  ·rw[qc a] at h;cases h
theorem lZ{a:Type}{xs:List a}{i:Int}{v:a}(h:O7 xs i=some v):∃j,seqIndex? i xs.length=some j/\xs[j]?=some v/\j<xs.length/\-(xs.length:Int)<=i/\i<xs.length:=by
 unfold O7 at h
 cases e:ji xs.length i with
 | none=>rw[e] at h;cases h
 | some j=>
  rw[e] at h;obtain⟨g,d,c,b⟩:=vH e;exact⟨j,g,h,d,c,b⟩
theorem kO{a:Type}{xs:List a}{j:Nat}{v:a}(h:xs[j]?=some v):O7 xs (j:Int)=some v:=by
 have b:j<xs.length:=(List.getElem?_eq_some_iff.mp h).1
 have e:ji xs.length (j:Int)=some j:=by
  unfold ji;rw[qq (by omega),qq (by omega)];simp
 unfold O7;rw[e];exact h
theorem qH{a:Type}(xs:List a)(v:a):O7 (xs++[v]) (-1)=some v:=by
 have b:(xs++[v]).length=xs.length+1:=by simp
 have e:ji (xs++[v]).length (-1)=some xs.length:=by
  unfold ji;rw[b,qc (by decide),qq (by omega)];congr 1;omega
 unfold O7;rw[e];show(xs++[v])[xs.length]?=some v;simp
def fC(b:Expr):Prop:=∀o i,subscripted b false o i=operate [o,i] (getItem o i)
def DB(X:Cx)(r:R2):Prop:=
 ∀(c a:Expr) (b:QA) (s:Shared) (d:St) (H:Hp) (x y:V) (v u:Value) (Q:VK),Inv X b d H s->RelV x v->RelV y u->r x y H Q ->
  subscripted a false v u=operate [v,u] (getItem v u)->wpAny (model X.prog X.w) X.A (subscriptTail c a v u) (EP X b d Q) X.xe s
def Nn(X:Cx)(id:String)(r:V->List V->Hp->VK->Prop):Prop:=
 ∀(a:QA) (s:Shared) (b:St) (H:Hp) (x:V) (c:List V) (v:Value) (d:QG) (Q:VK),Inv X a b H s->RelV x v->Vals c d->r x c H Q ->
  wpAny (model X.prog X.w) X.A (call (.builtin id) (v::d)) (EP X a b Q) X.xe s
section
variable{X:Cx}{a b:Expr}{ta tb:TE}{pos:Pos}
theorem DB.or{r l:R2}(h:DB X r)(h':DB X l):DB X (λx y H Q=>r x y H Q\/l x y H Q):=by
 intro c d e s g H x y v u Q I j i q o;rcases q with q | q
 ·exact h c d e s g H x y v u Q I j i q o
 ·exact h' c d e s g H x y v u Q I j i q o
theorem Gy{r:R2}(l:DB X r)(p:PE X a ta)(o:PE X b tb)(j:fC b):PE X (.Subscript a b pos) (JS r ta tb):=by
 refine .of ?_;intro c s d H Q I h;exact Subscript_ (Ia p o I h λv u e x y B z i g q=>l a b c e d B x y v u Q z i g q (j _ _))
def KP(K:QP):R2:=λx y H Q=>∃p c i v,x=.ref p/\y=.int i/\P7 K H p c/\O7 c i=some v/\Q v H
def KJ(K:QP):R2:=λx y H Q=>∃p c i v,x=.ref p/\y=.int i/\T5 K H p c/\O7 c i=some v/\Q v H
def Lz:R2:=λx y H Q=>∃z i c,x=.str z/\y=.int i/\z.length<=sizeLine/\O7 z.cps.toList i=some c/\Q (.str ⟨#[c]⟩) H
theorem DI:DB X (KP X.K):=by
 intro g l c s E H x y v u Q I S R h G;obtain⟨p,xs,i,z,rfl,rfl,T,Y,q⟩:=h;cases S;obtain⟨t,rfl⟩:=R;obtain⟨B,r,pl,hz⟩:=I.list T;obtain⟨j,e,h2,h3,h4,h5⟩:=lZ Y;obtain⟨w,M,o⟩:=r.get h2;have U:=r.length;have hn:=dm;have d:EP X c E Q w s:=⟨z,H,I,o,q⟩
 by_cases J:0<=i
 ·have C:i.toNat=j:=by
   rw[seqIndex_of J h5] at e;exact tL e
  exact item_listR pl.isList J (by omega) (by rw[C];simpa using M) d G
 ·have C:(i+(B.toArray.size:Int)).toNat=j:=by
   rw[seqIndex_neg (by omega) h4] at e;rw[qz,<-U];exact tL e
  exact subscriptTail_builtinR (x:=w) pl.isList.typeIs slot_list_getitem.lookup
   (wpAny_getItem_list_neg (Q:=λr O=>r=w/\EP X c E Q r O) pl.isList (by omega) (by rw[qz]<;>omega) (by omega) (by rw[C];simpa using M) ⟨rfl,d⟩) G
theorem JB:DB X (KJ X.K):=by
 intro d e c s o H x y v u Q I E C h J;obtain⟨p,Y,i,z,rfl,rfl,M,R,q⟩:=h;cases E;obtain⟨t,rfl⟩:=C;obtain⟨G,r,pl,hz⟩:=I.tuple M;obtain⟨j,T,S,h3,h4,h5⟩:=lZ R;obtain⟨w,U,g⟩:=r.get S;have O:=r.length;have hn:=dm;have l:EP X c o Q w s:=⟨z,H,I,g,q⟩
 exact subscriptTail_builtinR (x:=w) pl.typeIs slot_tuple_getitem.lookup
  (getItem_tuple (j:=j) (Q:=λr B=>r=w/\EP X c o Q r B) pl (by omega) (by omega) (by rw[qz,<-O];exact T) (by simpa using U) ⟨rfl,l⟩) J
theorem Ht:DB X Lz:=by
 intro d e g s R H x y v u Q I p o h r;obtain⟨z,i,c,rfl,rfl,T,C,q⟩:=h;obtain⟨t,rfl⟩:=p;obtain⟨S,rfl⟩:=o;obtain⟨j,l,J,Y,G,E⟩:=lZ C;have B:z.cps.toList.length=z.length:=by simp[Str.length]
 rw[B] at l G E;have U:=dm
 exact tail_any (typeIs_str s z t) slot_str_getitem.lookup (getItem_str (c:=c) (by
  have O:decide (i < -(2^63:Int))=false:=iG (by omega);have M:decide (i ≥ 2^63)=false:=iG (by omega);rw[O,M,Bool.or_false]) (by rw[l];simpa using J) ⟨.str ⟨#[c]⟩,H,I.tok _,⟨_,rfl⟩,q⟩) r
def Mg(K:QP):R2:=λx y H Q=>KP K x y H Q\/KJ K x y H Q\/Lz x y H Q
theorem ze:DB X (Mg X.K):=DI.or (JB.or Ht)
theorem qY(its:QG)(n j:Nat)(u:Value):Obj.mapSeq (·.setIfInBounds j u) { cls:=.type "list",data:=.seq its.toArray n }={ cls:=.type "list",data:=.seq (its.set j u).toArray n }:=by
 simp[Obj.mapSeq]
theorem Inv.lst{pins:QA}{σ:St}{H:Hp}{s:Shared}{p:Addr}{xs:List V}(I:Inv X pins σ H s)(h:H p=some (.lst xs)) :
  ∃(its:QG) (n:Nat),Vals xs its/\s.heap.get? p=some { cls:=.type "list",data:=.seq its.toArray n }/\xs.length<=sizeLine:=by
 obtain⟨z,its,n,r,e⟩:=I.hok p _ h;exact⟨its,n,r,e,z⟩
theorem Inv.JA{pins:QA}{σ:St}{H:Hp}{s:Shared}{p:Addr}{xs c:List V}{its its':QG}{n d:Nat}{f:Obj->Obj}(I:Inv X pins σ H s)(h:H p=some (.lst xs))
  (j:s.heap.get? p=some { cls:=.type "list",data:=.seq its.toArray n }) (g:f { cls:=.type "list",data:=.seq its.toArray n }={ cls:=.type "list",data:=.seq its'.toArray d }) (r:Vals c its') (i:c.length<=sizeLine) (t:Nat) :
  Inv X pins σ (upd H p (.lst c)) { s with heap:=s.heap.update p f,toks:=t }:=by
 have e:(s.heap.update p f).get? p=some { cls:=.type "list",data:=.seq its'.toArray d }:=by
  rw[wE f j (by rw[g]<;>rfl),g]
 refine I.write (x:=p) (e:=p) (by rw[h];trivial) (.inl rfl) (λb u l q=>(vu _ _ (wh l)).trans q) ⟨_,e⟩ ?_;exact⟨i,its',d,r,e⟩
def Gu:V->V->V->Hp->(Hp->Prop)->Prop:=λo i v H Q=>∃p c k j,o=.ref p/\i=.int k/\H p=some (.lst c)/\ji c.length k=some j/\Q (upd H p (.lst (c.set j v)))
theorem set_list:LJ X Gu:=by
 intro c s G H o i v U Y u Q I O R M h;obtain⟨p,J,k,j,rfl,rfl,y,T,q⟩:=h;cases O;obtain⟨t,rfl⟩:=R;obtain⟨d,n,r,g,S⟩:=I.lst y;obtain⟨e,h2,B,z⟩:=vH T;have l:=r.length;have hn:=dm
 have E:Inv X c G (upd H p (.lst (J.set j v))) { s with heap:=s.heap.update p (Obj.mapSeq (·.setIfInBounds j u)) }:=
  I.JA y g (qY d n j u) (r.set M j) (by rw[Db];exact S) s.toks
 by_cases C:0<=k
 ·have x:k.toNat=j:=by
   rw[seqIndex_of C z] at e;exact tL e
  exact PySem.W.ki_setAt g C (by omega) (by rw[qz,<-l];exact z) (by rw[x];exact⟨_,E,q⟩)
 ·have x:(k+(d.toArray.size:Int)).toNat=j:=by
   rw[seqIndex_neg (by omega) B] at e;rw[qz,<-l];exact tL e
  exact PySem.W.ki_setBack g (by omega) (by rw[qz,<-l];exact B) (by omega) (by rw[x];exact⟨_,E,q⟩)
theorem nz(lo c:Option Int)(n:Nat):(sliceBounds lo c none n).1=((HT.D1 n 0 lo:Nat):Int)/\(sliceBounds lo c none n).2.1=((HT.D1 n n c:Nat):Int)/\(sliceBounds lo c none n).2.2=1:=by
 refine⟨?_,?_,rfl⟩
 ·cases lo with
  | none=>simp[sliceBounds,HT.D1]
  | some i=>
   simp only[sliceBounds,HT.D1,Option.getD_none,show(1:Int)>0 by decide,OB]
   by_cases h:i<0
   ·simp only[h,OB]<;>omega
   ·simp only[h,OF]<;>omega
 ·cases c with
  | none=>simp[sliceBounds,HT.D1]
  | some i=>
   simp only[sliceBounds,HT.D1,Option.getD_none,show(1:Int)>0 by decide,OB]
   by_cases h:i<0
   ·simp only[h,OB]<;>omega
   ·simp only[h,OF]<;>omega
theorem ju(its:QG)(lo c:Option Int):slicePick its.toArray lo c none=((its.drop (HT.D1 its.length 0 lo)).take (HT.D1 its.length its.length c-HT.D1 its.length 0 lo)).toArray:=by
 obtain⟨g,e,d⟩:=nz lo c its.toArray.size;unfold slicePick;rw[g,e,d];simp only[sliceRange_one,pick_run,qz]<;>rfl
def Kz(K:QP):V->Option Int->Option Int->Hp->VK->Prop:=λx lo d H Q=>∃a c,x=.ref a/\P7 K H a c/\∀p,H p=none->Q (.ref p) (upd H p (.lst (fm c lo d)))
theorem wg:GD X (Kz X.K):=by
 intro g s B H x v E C lo e G Q I j z pl l h;obtain⟨a,c,rfl,y,q⟩:=h;cases j;obtain⟨p,r,i,u⟩:=I.list y;have d:=r.length;refine⟨"list",_,slot_list_getitem.lookup,i.isList.typeIs,?_⟩;refine wpAny_getItem_list_slice i.isList z pl l .none (by simp) ?_ (by rw[qz]<;>omega);rw[ju,<-d];refine⟨.ref s.heap.objs.size,_,I.laid (t':=s.toks) (o:=.lst (fm c lo e)) (λb ob q=>dL _ q) (hI _) ?_,rfl,q _ (I.hok.fresh (hI _))⟩;exact⟨sr (eF c lo e) u,_,0,(r.drop (HT.D1 c.length 0 lo)).take (HT.D1 c.length c.length e-HT.D1 c.length 0 lo),ro _ rfl⟩
def aj:V->Bool
 | .p7=>true
 | .bl _=>true
 | .int _=>true
 | .str _=>true
 | _=>false
def Eg:V->V->Bool
 | .p7,.p7=>true
 | .bl a,.bl b=>a == b
 | .bl a,.int b=>(if a then 1 else 0) == b
 | .int a,.bl b=>a == (if b then 1 else 0)
 | .int a,.int b=>a == b
 | .str a,.str b=>a == b
 | _,_=>false
theorem Jb{A:Around}{s:Shared}{y x:V}{u v:Value}(e:RelV y u)(c:RelV x v)(h:aj y=true)(g:aj x=true):SeqAt.EqAt A s u v (Eg y x):=by
 cases y with
 | p7=>
  cases e
  cases x with
  | p7=>cases c;exact SeqAt.EqAt.same _
  | bl b=>cases c;exact SeqAt.EqAt.none_bool b
  | int b=>obtain⟨t,rfl⟩:=c;exact SeqAt.EqAt.none_int b t
  | str b=>obtain⟨t,rfl⟩:=c;exact SeqAt.EqAt.none_str b t
  | _=>exact absurd (show false=true from g) nT
 | bl a=>
  cases e
  cases x with
  | p7=>cases c;exact SeqAt.EqAt.bool_none a
  | bl b=>cases c;exact SeqAt.EqAt.bool_bool a b
  | int b=>obtain⟨t,rfl⟩:=c;exact SeqAt.EqAt.bool_int a b t
  | str b=>obtain⟨t,rfl⟩:=c;exact SeqAt.EqAt.bool_str a b t
  | _=>exact absurd (show false=true from g) nT
 | int a=>
  obtain⟨d,rfl⟩:=e
  cases x with
  | p7=>cases c;exact SeqAt.EqAt.int_none a d
  | bl b=>cases c;exact SeqAt.EqAt.int_bool a d b
  | int b=>obtain⟨t,rfl⟩:=c;exact SeqAt.EqAt.int_int a d b t
  | str b=>obtain⟨t,rfl⟩:=c;exact SeqAt.EqAt.int_str a d b t
  | _=>exact absurd (show false=true from g) nT
 | str a=>
  obtain⟨d,rfl⟩:=e
  cases x with
  | p7=>cases c;exact SeqAt.EqAt.str_none a d
  | bl b=>cases c;exact SeqAt.EqAt.str_bool a d b
  | int b=>obtain⟨t,rfl⟩:=c;exact SeqAt.EqAt.str_int a d b t
  | str b=>obtain⟨t,rfl⟩:=c;exact SeqAt.EqAt.str_str a d b t
  | _=>exact absurd (show false=true from g) nT
 | _=>exact absurd (show false=true from h) nT
def sk(x:V)(u:Value):Bool:=match u with
 | .none=>Eg .p7 x
 | .bool b=>Eg (.bl b) x
 | .int i _=>Eg (.int i) x
 | .str z _=>Eg (.str z) x
 | _=>false
theorem za{x y:V}{u:Value}(r:RelV y u)(f:aj y=true):sk x u=Eg y x:=by
 cases y with
 | p7=>cases r;rfl
 | bl b=>cases r;rfl
 | int i=>obtain⟨t,rfl⟩:=r;rfl
 | str z=>obtain⟨t,rfl⟩:=r;rfl
 | _=>exact absurd (show false=true from f) nT
theorem bV{x:V}:∀{xs:List V} {c:QG},Vals xs c->xs.all aj=true->c.any (sk x)=xs.any λy=>Eg y x
 | _,_,.nil,_=>rfl
 | y::xs,u::c,.cons r t,f=>by
  rw[Gc,hD] at f;rw[FS,FS,za r f.1,bV t f.2]
theorem aq{A:Around}{s:Shared}{x:V}{v:Value}(e:RelV x v)(g:aj x=true):∀{xs:List V} {d:QG},Vals xs d->xs.all aj=true->∀u∈d,SeqAt.EqAt A s u v (sk x u)
 | _,_,.nil,_=>λu c=>by cases c
 | y::xs,u::d,.cons r t,f=>λh c=>by
  rw[Gc,hD] at f;rcases List.mem_cons.mp c with rfl | c
  ·rw[za r f.1];exact Jb r e f.1 g
  ·exact aq e g t f.2 h c
def Ma(x:V)(xs:List V):Bool:=xs.any λy=>Eg y x
def KA(K:QP)(d:Bool):R2:=λx y H Q=>∃p c,y=.ref p/\(P7 K H p c\/T5 K H p c)/\aj x=true/\c.all aj=true/\Q (.bl (if d then !Ma x c else Ma x c)) H
theorem jH:L8 X (compareOp .In) (KA X.K false):=by
 intro g s o H x y v u Q I e j h;obtain⟨p,z,rfl,d,i,fs,q⟩:=h;cases j;rcases d with d | d
 ·obtain⟨c,r,pl,l⟩:=I.list d;refine SeqAt.in_listAt (sk x) pl.isList (λw hw=>aq e i r fs w (by simpa using hw)) ⟨.bl _,H,I,rfl,?_⟩;rw[show c.toArray.any (sk x)=c.any (sk x) by simp,bV r fs];exact q
 ·obtain⟨c,r,pl,l⟩:=I.tuple d;refine SeqAt.in_tupleAt (sk x) pl (λw hw=>aq e i r fs w (by simpa using hw)) ⟨.bl _,H,I,rfl,?_⟩;rw[show c.toArray.any (sk x)=c.any (sk x) by simp,bV r fs];exact q
theorem cJ:L8 X (compareOp .NotIn) (KA X.K true):=by
 intro g s o H x y v u Q I e j h;obtain⟨p,z,rfl,d,i,fs,q⟩:=h;cases j;rcases d with d | d
 ·obtain⟨c,r,pl,l⟩:=I.list d;refine SeqAt.notIn_listAt (sk x) pl.isList (λw hw=>aq e i r fs w (by simpa using hw)) ⟨.bl _,H,I,rfl,?_⟩;rw[show c.toArray.any (sk x)=c.any (sk x) by simp,bV r fs];exact q
 ·obtain⟨c,r,pl,l⟩:=I.tuple d;refine SeqAt.notIn_tupleAt (sk x) pl (λw hw=>aq e i r fs w (by simpa using hw)) ⟨.bl _,H,I,rfl,?_⟩;rw[show c.toArray.any (sk x)=c.any (sk x) by simp,bV r fs];exact q
theorem J0:K8 X (.type "list") (λxs H Q=>∃p g,xs=[.ref p]/\(P7 X.K H p g\/T5 X.K H p g)/\∀l,H l=none->Q (.ref l) (upd H l (.lst g))):=by
 intro v s J H xs O Q I r h;obtain⟨p,g,rfl,y,q⟩:=h;obtain⟨u,rfl,M⟩:=vals1 r;cases M
 have B:∀(c:QG),Vals g c->g.length<=sizeLine->∀(d:Heap) (j:Nat),(∀b G,s.heap.get? b=some G->d.get? b=some G) ->
   d.get? s.heap.objs.size=some { cls:=.type "list",dict:=none,data:=.seq c.toArray j,slots:=#[] }->EP X v J Q (.ref s.heap.objs.size) { s with heap:=d }:=λc i x d j kp e=>
  ⟨.ref s.heap.objs.size,_,I.laid (t':=s.toks) kp (hI _) (show u3 X.prog X.w _ d _ (.lst g) from⟨x,c,j,i,e⟩),rfl,q _ (I.hok.fresh (hI _))⟩
 rcases y with y | y
 ·obtain⟨c,i,pl,x⟩:=I.list y;have z:=i.length;obtain⟨o,C,E,n,hd⟩:=pl.isList;exact call_list_seq p (.inl rfl) C E hd (λd j kp e=>B c i x d j kp e) (by simp only[qz]<;>omega)
 ·obtain⟨c,i,pl,x⟩:=I.tuple y;have z:=i.length;obtain⟨o,C,E,n,hd⟩:=pl;exact call_list_seq p (.inr rfl) C E hd (λd j kp e=>B c i x d j kp e) (by simp only[qz]<;>omega)
theorem D7:K8 X (.type "tuple") (λxs H Q=>∃p g,xs=[.ref p]/\((P7 X.K H p g/\∀l,H l=none->Q (.ref l) (upd H l (.tup g)))\/(T5 X.K H p g/\Q (.ref p) H))):=by
 intro c s x H xs G Q I r h;obtain⟨p,g,rfl,h⟩:=h;obtain⟨u,rfl,C⟩:=vals1 r;cases C;rcases h with⟨v,q⟩ | ⟨v,q⟩
 ·obtain⟨d,j,pl,y⟩:=I.list v;have z:=j.length;refine call_tuple_list pl.isList (λi kp=>?_) (by simp only[qz]<;>omega);have B:Inv X c x H { s with heap:=i }:=I.kept (t':=s.toks) kp
  have E:Inv X c x (upd H i.objs.size (.tup g)) { s with heap:=i.push { cls:=.type "tuple",data:=.seq d.toArray } }:=
   B.laid (t':=s.toks) (λb o e=>dL _ e) (hI _) (show u3 X.prog X.w _ _ _ (.tup g) from⟨y,d,j,IsTup.new _ _⟩)
  exact⟨.ref i.objs.size,_,E,rfl,q _ (B.hok.fresh (hI _))⟩
 ·obtain⟨d,j,pl,y⟩:=I.tuple v;exact call_tuple_same pl ⟨.ref p,H,I,rfl,q⟩
def Nx(K:QP)(T:String)(x:V)(H:Hp):Prop:=match x with
 | .str _=>T="str"
 | .int _=>T="int"
 | .ref p=>(T="list" /\ ∃d,P7 K H p d)\/(T="tuple" /\ ∃o,K.lookup p=some o/\o.cls=.type "tuple" /\ o.dict=none) \/
   (T="dict" /\ ((∃c,Dd H p c)\/∃c,H p=some (.dT c)))\/(T="set" /\ ∃S n,H p=some (.set S n))
 | _=>False
theorem HN{pins:QA}{σ:St}{H:Hp}{s:Shared}{T:String}{x:V}{v:Value}(I:Inv X pins σ H s)(r:RelV x v)(ty:Nx X.K T x H) :
  s.TypeIs v T/\∀a,v=.ref a->∃ob,s.heap.get? a=some ob/\ob.dict=none:=by
 cases x with
 | str z=>
  obtain⟨t,rfl⟩:=r;cases(show T="str" from ty);exact⟨typeIs_str s z t,λ_ e=>nomatch e⟩
 | int i=>
  obtain⟨t,rfl⟩:=r;cases(show T="int" from ty);exact⟨typeIs_int s i t,λ_ e=>nomatch e⟩
 | ref p=>
  cases r;rcases ty with⟨rfl,u,l⟩ | ⟨rfl,o,d,q,hd⟩ | ⟨rfl,d⟩ | ⟨rfl,S,n,d⟩
  ·obtain⟨j,_,pl,_⟩:=I.list l;refine⟨pl.isList.typeIs,λa e=>?_⟩;cases e;obtain⟨o,n,e,c,hd,_⟩:=pl;exact⟨o,e,hd⟩
  ·refine⟨⟨o,I.cU p o d,q⟩,λa e=>?_⟩;cases e;exact⟨o,I.cU _ o d,hd⟩
  ·have z:∃o,s.heap.get? p=some o/\o.ExactDict:=by
    rcases d with⟨g,d⟩ | ⟨g,d⟩
    ·obtain⟨_,_,_,_,o,_,_,e,ex,_⟩:=(show u3 X.prog X.w H s.heap p (.dK g) from d.ok I.hok)
     exact⟨o,e,ex⟩
    ·obtain⟨_,_,_,_,o,_,_,e,ex,_⟩:=I.hok p _ d;exact⟨o,e,ex⟩
   obtain⟨o,e,ex⟩:=z;refine⟨⟨o,e,ex.1⟩,λa h=>?_⟩;cases h;exact⟨o,e,ex.2.1⟩
  ·obtain⟨o,_,_,_,e,ex,_⟩:=I.hok p _ d;refine⟨⟨o,e,ex.1⟩,λa h=>?_⟩;cases h;exact⟨o,e,ex.2.1⟩
 | _=>exact False.elim ty
def MS(K:QP)(T:String)(r:V->List V->Hp->VK->Prop)(g:TE)(t:TA):TE:=λc H Q=>g c H λx d=>Nx K T x d/\t c d λe h=>r x e h Q
variable{o e:Expr}{es:QH}{to:TE}{t:TA}{name:Str}{apos cpos:Pos}{T id:String}{r:V->List V->Hp->VK->Prop}
theorem iw (M:PlainAttrs T) (slot:Slot T name id) (p:typeOf (.builtin id)=pure (.type "method_descriptor")) (S:Nn X id r) (R:PE X o to) (U:PA X (e::es) t)
  (i:attributeBase o name X.env (eval o X.env)=eval o X.env:=by rfl)
  (j:((backTo cpos (starEach (e::es) X.env)).all (λx=>!x.1)&&(backToKw cpos (keywordEach [] X.env)).all (λx=>x.1.isSome)
   && decide ((e::es).length+([]:List Keyword).length+(if ([]:List Keyword).isEmpty then 0 else 1)<30))=true:=by rfl)
  (g:(apos.endLine == cpos.line)=true:=by rfl) (O:starEach (e::es) X.env=(false,eval e X.env)::starEach es X.env:=by rfl) (d:(backTo cpos (starEach es X.env)).any (·.1)=false:=by rfl) :
  PE X (.Call (.Attribute o name apos) (e::es) [] cpos) (MS X.K T r to t):=by
 refine .of ?_;intro c s l H Q I h;refine wpAny_Call_method_late i j g rfl (B4 (R c s l H _ I h) λv C ⟨x,H1,y,q,ty,J⟩=>?_);obtain⟨h1,Y⟩:=HN y q ty;refine⟨T,id,M,slot,p,h1,Y,?_⟩;have u:=U cpos c C l H1 _ y J;rw[O] at u ⊢;refine Calls.callWith_builtin (by show(false||(backTo cpos (starEach es X.env)).any (·.1))=false;rw[d]<;>rfl) (Pz ?_);exact B4 u λz B ⟨vs,H2,I2,E,G⟩=>S c B l H2 x vs v z Q I2 q E G
end
def Ob(X:Cx)(id:String)(r:V->List V->Hp->VK->Prop):Prop:=
 ∀(a:QA) (s:Shared) (b:St) (H:Hp) (x:V) (c:List V) (v:Value) (d:QG) (Q:VK),Inv X a b H s->RelV x v->Vals c d->r x c H Q ->
  wpAny (model X.prog X.w) X.A (call (.builtin id) (v::d)) (EP X a b Q) X.xe s
theorem Vals.one:∀{x:V} {a:QG},Vals [x] a->∃u,a=[u]/\RelV x u
 | _,_,.cons r .nil=>⟨_,rfl,r⟩
theorem Vals.rep{xs:List V}{a:QG}(h:Vals xs a):∀k:Nat,Vals (List.replicate k xs).flatten (List.replicate k a).flatten
 | 0=>.nil
 | k+1=>by
  rw[xz,xz,No,No];exact Vals.append h (Vals.rep h k)
theorem foldl_rep(its:QG):∀(k:Nat) (acc:QG),
  List.foldl (λb a=>b++a) acc.toArray (List.replicate k its.toArray)=(acc++(List.replicate k its).flatten).toArray
 | 0,acc=>by simp
 | k+1,acc=>by
  have e:acc.toArray++its.toArray=(acc++its).toArray:=by simp
  have c:(acc++its)++(List.replicate k its).flatten=acc++(List.replicate (k+1) its).flatten:=by
   rw[xz,No,Fa]
  rw[<-c,<-foldl_rep its k (acc++its),<-e,xz,Pd]
section
variable{X:Cx}{pins:QA}{σ:St}{H:Hp}{s:Shared}{l b:Addr}{xs ys zs:List V}
theorem Inv.MI{its its':QG}{n:Nat}{f:QK->QK}{t':Nat}(I:Inv X pins σ H s)(i:H l=some (.lst xs))
  (e:s.heap.get? l=some { cls:=.type "list",data:=.seq its.toArray n }) (g:f its.toArray=its'.toArray) (c:Vals ys its') (a:ys.length<=sizeLine) :
  Inv X pins σ (upd H l (.lst ys)) { s with heap:=s.heap.update l (Obj.mapSeq f),toks:=t' }:=by
 have q:=PySem.IsL.update e f;rw[g] at q;refine I.write (x:=l) (e:=l) (by rw[i];exact trivial) (.inl rfl) (λj u h d=>(vu s.heap (Obj.mapSeq f) (wh h)).trans d) ⟨_,q⟩ ?_;exact⟨a,its',_,c,q⟩
theorem Inv.Ii{its:QG}{t':Nat}(I:Inv X pins σ H s)(c:Vals ys its)(a:ys.length<=sizeLine) :
  Inv X pins σ (upd H s.heap.objs.size (.lst ys)) { s with heap:=s.heap.push { cls:=.type "list",data:=.seq its.toArray },toks:=t' }:=
 I.laid (λ_ _ q=>dL _ q) (hI _) ⟨a,its,0,c,ro _ rfl⟩
theorem Inv.fresh(I:Inv X pins σ H s):H s.heap.objs.size=none:=I.hok.fresh (hI _)
theorem Inv.Ez(I:Inv X pins σ H s)(a:H l=some (.lst xs)):xs.length<=sizeLine/\∃(its:QG) (n:Nat),Vals xs its/\xs.length=its.length/\s.heap.get? l=some { cls:=.type "list",data:=.seq its.toArray n }:=by
 obtain⟨z,its,n,r,e⟩:=I.hok l _ a;exact⟨z,its,n,r,r.length,e⟩
theorem Dv{n:Nat}(h:n<=sizeLine):Builtin.List.listTooLong n=false:=by
 unfold Builtin.List.listTooLong;exact iG (by omega)
end
section
variable{X:Cx}
def U7:V->List V->Hp->VK->Prop:=λx vs H Q=>∃l a y,x=.ref l/\vs=[y]/\H l=some (.lst a)/\a.length<sizeLine/\Q .p7 (upd H l (.lst (a++[y])))
theorem N1:Ob X "list.append" U7:=by
 intro b s j H x vs v p Q I d g h;obtain⟨l,o,y,rfl,rfl,c,B,q⟩:=h;cases d;obtain⟨u,rfl,i⟩:=g.one;obtain⟨z,a,n,r,C,e⟩:=I.Ez c;refine call_meets F.slot_list_append ⟨_,e,rfl⟩ F.entry_list_append (F.args_list_append_2 _ _) (PySem.list_append l a.toArray n u (by rw[List.size_toArray];omega)) ⟨e,?_⟩;refine⟨.p7,_,I.MI (its':=a++[u]) c e (by simp) (r.append (.cons i .nil)) ?_,rfl,q⟩;rw[hW,pp];omega
def HX:R2:=λx y H Q=>∃l b c a,x=.ref l/\y=.ref b/\H l=some (.lst c)/\H b=some (.lst a)/\c.length+a.length<=sizeLine/\∀p,H p=none->Q (.ref p) (upd H p (.lst (c++a)))
theorem Ie:L8 X (binaryOp .Add) HX:=by
 intro d s G H x y v u Q I i g h;obtain⟨l,b,M,J,rfl,rfl,p,B,O,q⟩:=h;cases i;cases g;obtain⟨z,c,n,r,R,e⟩:=I.Ez p;obtain⟨z2,a,n2,j,o,E⟩:=I.Ez B;refine PySem.P.add_list e E ?_ (by rw[qz,qz];omega);have C:c.toArray++a.toArray=(c++a).toArray:=by simp
 rw[C];exact⟨.ref _,_,I.Ii (t':=s.toks) (r.append j) (by rw[hW];omega),rfl,q _ I.fresh⟩
def Le:R2:=λx y H Q=>∃l k a,x=.ref l/\y=.int k/\H l=some (.lst a)/\-(2^63)<=k/\k<2^63/\a.length*k.toNat<=sizeLine /\
 ∀p,H p=none->Q (.ref p) (upd H p (.lst (List.replicate k.toNat a).flatten))
theorem len_rep{a:Type}(xs:List a)(k:Nat):(List.replicate k xs).flatten.length=k*xs.length:=by
 induction k with
 | zero=>simp
 | succ k b=>rw[xz,No,hW,b,Nat.succ_mul,Nat.add_comm]
theorem IG:L8 X (binaryOp .Mult) Le:=by
 intro B s σ H x y v u Q I J G h;obtain⟨l,k,xs,rfl,rfl,O,S,R,C,q⟩:=h;cases J;obtain⟨t,rfl⟩:=G;obtain⟨z,b,n,r,M,e⟩:=I.Ez O;have g:b.toArray.size*k.toNat<=sizeLine:=by rw[qz,<-M];exact C
 have j:¬b.toArray.size*k.toNat>(2^63-1)/8:=by
  have:(sizeLine:Nat)<=(2^63-1)/8:=by decide
  omega
 have i:¬(!Builtin.List.listFitsIndex k)=true:=by
  rw[fitsIndex_both S R];exact nT
 have c:¬Builtin.List.listTooLong (b.toArray.size*k.toNat)=true:=by
  rw[Dv g];exact nT
 have d:List.foldl (λp o=>p++o) #[] (List.replicate (if b.toArray.isEmpty=true then 0 else k.toNat) b.toArray)=(List.replicate k.toNat b).flatten.toArray:=by
  have Y:∀m:Nat,List.foldl (λp o=>p++o) #[] (List.replicate m b.toArray)=(List.replicate m b).flatten.toArray:=λm=>by
   have:=foldl_rep b m [];rw[xL] at this;exact this
  rw[Y]
  cases b with
  | nil=>simp
  | cons a r'=>rw[qc (by simp)]
 refine wpAny_binaryOp_repeat_ref (T:="list") (U:="int") (by decide) ⟨_,e,rfl⟩ (λE=>typeIs_int E k t) noFill_list_mul F.fills_int_mul F.slot_int_rmul repeat_list F.slot_int_index.lookup
  (call_meets F.slot_int_rmul (typeIs_int s k t) F.entry_int_rmul (F.args_int_rmul_2 _ _) (int___rmul___int_list k t l b.toArray n)
   ⟨e,rfl,⟨_,e,rfl⟩,call_meets F.slot_list_mul ⟨_,e,rfl⟩ F.entry_list_mul (F.args_list_mul_2 _ _) (AutoListH.list___mul___list_int_3 l b.toArray n k t i j c) ⟨e,?_⟩⟩)
 rw[d];exact⟨.ref _,_,I.Ii (t':=s.toks) (r.rep k.toNat) (by rw[len_rep,Nat.mul_comm];exact C),rfl,q _ I.fresh⟩
end
section
variable{prog:Program}{w:World}{A:Around}{E:QN}{s:Shared}
end
section
variable{X:Cx}
end
end L2
namespace Att
open PySem PySem.W PySem.Calls PyProof.Rows
theorem eX{P:Params}{h:Heap}:∀(ns:QI) (vs:QG),WellAll P h vs (ns.map WData.int)->IntsAre vs ns:=by
 intro ns
 induction ns with
 | nil=>
  intro vs w;rw[Px] at w;cases w;exact .nil
 | cons n ns c=>
  intro vs w;rw[rl] at w
  cases w with
  | cons a b=>
   cases a;exact .cons _ _ (c _ b)
theorem xN{l:OpenLaw}{n:Nat}(C:l.most=some n){P:Params}{h:Heap}{b:List WData}{c:QG}
  (e:l.row.toRowW.claim.pre b=true) (p:WellAll P h c b) :
  ∃a vs ns,c=[Value.ref a]/\b=[WData.list (ns.map WData.int)]/\h.get? a=some { cls:=.type "list",data:=.seq vs.toArray }/\IntsAre vs ns/\ns.length<=n:=by
 have u:WShape.hasAll [] b [.list .int]=true:=(pre_splitW e).1;have v:l.pre.holds [] { args:=b }=true:=(pre_splitW e).2;obtain⟨d,r,rfl,H,G⟩:=hasAllW_cons u;obtain rfl:=hasAllW_nil G;obtain⟨I,rfl,E⟩:=hasW_list H;obtain⟨ns,rfl⟩:=items_int E
 have g:ns.length<=n:=by
  unfold OpenLaw.pre at v
  have o:(WTm.not (.lt (.lit (.int (n:Int))) (.len (.arg 0)))).holds [] { args:=[.list (ns.map .int)] }=true:=by
   have o:=(holds_andW v).1;rw[C] at o;exact o
  have j:=condW_of o (w_not (w_lt w_lit (w_len_list (w_arg rfl))));rw[cC] at j;refine Nat.le_of_not_lt λq=>?_;have z:(n:Int)<((ns.length:Nat):Int):=by omega
  first
   | (rw[eH z] at j;exact absurd j (by decide))
   | (simp at j;omega)
 cases p with
 | cons y x=>
  cases x
  cases y with
  | list B i=>exact⟨_,_,ns,rfl,rfl,B,eX ns _ i,g⟩
theorem xb(l:OpenLaw)(a:List WData):l.row.toRowW.claim.post a (.bool true) a=true:=
 postW_of (r:=l.row.toRowW) (X:=(true == true))
  (show WShape.has [] (.bool true) .bool=true by first | rfl | decide | simp[WShape.has,WShape.arms,WShape.armsAll])
  (show(WTm.eq .res (.lit (.bool true))).value [] { args:=a,res:=some (.bool true),after:=a }=some (.bool (true == true)) from w_eq_bool (w_res rfl) w_lit) rfl
theorem qC{l:OpenLaw}{n:Nat}{q:Program}{c:QF}{S:(QL)->Heap->Prop}{R:World->Heap->Prop}{d:DefRec}
  (X:l.most=some n) (H:d.params.defaults=[])
  (call:∀(w:World) (s₀ b:Shared) (mg y:QL) (u:Addr) (o:Obj) (x v h:Value) (a:Addr) (vs:QG) (ns:QI),
   Ground q c [] S w s₀ mg y b.heap->R w b.heap ->
   b.heap.get? u=some o->o.data=.func (docDef d.name d.params d.body d.scope x v h)->b.heap.CodeRec v d.name->mg d.name=some (.ref u) ->
   b.heap.get? a=some { cls:=.type "list",data:=.seq vs.toArray }->IntsAre vs ns->ns.length<=n->b.gens=#[]->a≠sysModules ->
   codeAny (model l.prog w) callerA (.call (.ref u) ⟨[.ref a],[]⟩) (λr s'=>r=.ok (.ret (.bool true))/\OldK b.heap s'.heap/\s'.os=b.os/\AllBare s'.gens) b) :
  WalkO q c S R l.row.toRowW d [] (λf vs=>PySem.call f vs):=by
 intro w s₀ b mg y G Y u o x v h dV kV U hd I O C hg Q J as i M B z E;obtain rfl:dV=.none:=Dflts.none O H;obtain rfl:kV=.none:=Dflts.noKw O;obtain⟨a,vs,ns,rfl,rfl,j,g,p⟩:=xN X i z;refine enter_call (OL (call w s₀ b mg y u o x v h a vs ns G Y U (fd_plain hd) I C j g p hg (by cases B with | cons r _=>cases r with | list _ _ _ _=>exactλe=>by have:=E a (by simp);rw[e] at this;cases this)) λr s' T=>?_);obtain⟨rfl,h2,h3,h4⟩:=T;exact⟨.inl ⟨.bool true,.bool true,[],rfl,λ_=>rfl,.bool true,xb l _,λ_=>⟨List.Pairwise.nil,λ_ hm=>(nomatch hm)⟩⟩,h2,h3,h4⟩
section
variable{prog:Program}{w:World}{A:Around}{E:QN}{s:Shared}{K:Frag}
end
end Att
namespace L2
open PySem PySem.Spec PyProof.Rows
theorem kB:∀{vs:QG} {ns:QI},IntsAre vs ns->Vals (ns.map V.int) vs
 | _,_,.nil=>.nil
 | _,_,.cons n t h=>.cons ⟨t,rfl⟩ (kB h)
def Js(H:Hp):Prop:=∀b,H b=none\/∃o a,H b=some (.frz o (.lst a))
theorem BS{P:Program}{w:World}{K:QP}{mg R:QL}{CX:tV}{k:Nat}{fa a:Addr}{fd:FuncData}{x:Str}{sp:Sp}{c:Shared}{vs:QG}{ns:QI}
  (KX:K.In c.heap) (E:c.heap.Ns mainGlobals mg) (i:c.heap.Ns builtinsNs R) (U:∀x:Str,x ≠ "__name__"->R x=bootBuiltins x) (G:c.heap.NoLimit) (hg:c.gens=#[])
  (O:c.heap.get? a=some { cls:=.type "list",data:=.seq vs.toArray }) (hi:IntsAre vs ns) (hl:ns.length<=sizeLine) (hr:D3 k callerA) (has:a≠sysModules)
  (F:∀base:Heap,K.In base->base.Ns mainGlobals mg->w6 P w K mg base CX k fa fd [x] sp) (p:∀(s:Shared) (u:Value),BindsTo s fd ⟨[u],[]⟩ [(x,u)])
  (S:∀H:Hp,Js H->P7 K H a (ns.map V.int)->sp [.ref a] H (λv _=>v=.bl true) λ_ _ _=>False)
  (X:∀H e s',CX [] H c (λ_ _ _=>False) e s'->False) :
  codeAny (model P w) callerA (.call (.ref fa) ⟨[.ref a],[]⟩) (λr s'=>r=.ok (.ret (.bool true))/\OldK c.heap s'.heap/\s'.os=c.os/\AllBare s'.gens) c:=by
 have rv:=kB hi;have B:=hi.length
 have l:∀H:Hp,Js H->P7 K H a (ns.map V.int)->R5 P w H c.heap->(∀b,H b≠none->b=a)->(H a≠none->K.lookup a=none) ->
   codeAny (model P w) callerA (.call (.ref fa) ⟨[.ref a],[]⟩) (λr s'=>r=.ok (.ret (.bool true))/\OldK c.heap s'.heap/\s'.os=c.os/\AllBare s'.gens) c:=by
  intro H hO hS hok Y hK;have g:∀{b:Addr} {o:Obj},c.heap.get? b=some o->H b=none->(mU c.heap H).get? b=some o:=λe n=>CD e n
  have Q:∀{b:Addr} {o:Obj} {J:Array DictEntry} {M:Nat},c.heap.get? b=some o->o.data=.dict J M->H b=none:=λ{b o J M} e d=>by
   cases q:H b with
   | none=>rfl
   | some u=>
    have e':b=a:=Y b (by rw[q];simp);subst e';rw[O] at e;cases e;have d':Data.seq vs.toArray _=Data.dict J M:=d;cases d'
  have j:∀{b:Addr} {m:QL},c.heap.Ns b m->(mU c.heap H).Ns b m:=λ{b m} ⟨o,J,M,e,d,r⟩=>⟨o,J,M,g e (Q e d),d,r⟩
  have I:K.In (mU c.heap H):=λb o e=>g (KX b o e) (by
   cases q:H b with
   | none=>rfl
   | some u=>
    have e':b=a:=Y b (by rw[q];simp);subst e';rw[hK (by rw[q];simp)] at e;cases e)
  have hM:Mod K mg (mU c.heap H):=⟨I,j E,⟨R,j i,U⟩,let ⟨mc,h1,h2⟩:=G;⟨mc,j h1,h2⟩⟩
  have e0:si P w K mg (mU c.heap H) callerA [] c H:=⟨rfl,hM,λb o e=>FL e,OD (wG _ _),trivial,λb i=>absurd (show b∈([]:QE) from i) (by simp),hok,.of_eq hg,Classical.byContradiction λz=>has (Y _ z).symm⟩
  refine OL ((F _ I (j E)).run callerA [] c H ⟨[.ref a],[]⟩ [.ref a] [.ref a] _ _ hr e0 (p c (.ref a)) (.cons rfl .nil) (S H hO hS)) λr s' h=>?_
  cases r with
  | error e=>exact(X H e s' h).elim
  | ok fl=>
   cases fl with
   | next=>exact False.elim h
   | brk=>exact False.elim h
   | cont=>exact False.elim h
   | ret u=>
    obtain⟨v,H',os,bare,un,C,r',q⟩:=h;have q':v=.bl true:=q;subst q';obtain rfl:u=Value.bool true:=r';refine⟨rfl,OldK.of_keep λb o e=>?_,os,bare⟩
    cases q:H b with
    | none=>exact un.keep b o e q (by intro z;exact absurd (show b∈([]:QE) from z) (by simp)) (by simp)
    | some u=>
     rcases hO b with z | ⟨ob,xs,z⟩
     ·rw[q] at z;cases z
     ·have z2:=un.frzs b ob _ z;obtain⟨e1,_⟩:=hok b _ z;obtain⟨e2,_⟩:=C b _ z2;rw[e] at e1;cases e1;exact e2
 cases T:K.lookup a with
 | some o=>
  have e:=KX a o T;rw[O] at e;cases e;refine l (λ_=>none) (λ_=>.inl rfl) (.inr ⟨_,vs.toArray,_,T,rfl,rfl,rfl,by rw[qz,B];exact hl,by simpa using rv⟩) (λb u z=>by have y:(none:Option HO)=some u:=z;cases y) (λb z=>absurd rfl z) λz=>absurd rfl z
 | none=>
  refine l (λb=>if b=a then some (.frz { cls:=.type "list",data:=.seq vs.toArray } (.lst (ns.map V.int))) else none) (λb=>?_) (.inl (.inr ⟨{ cls:=.type "list",data:=.seq vs.toArray },qq rfl⟩)) (λb u z=>?_) (λb z=>?_) λ_=>T
  ·by_cases i:b=a
   ·exact .inr ⟨_,_,qq i⟩
   ·exact .inl (qc i)
  ·by_cases i:b=a
   ·have y:=(qq i).symm.trans z;cases y;subst i;exact⟨O,by rw[cC];exact hl,vs,_,rv,O⟩
   ·have y:=(qc i).symm.trans z;cases y
  ·by_cases i:b=a
   ·exact i
   ·exact absurd (qc i) z
abbrev Oi{K:QP}{h:Heap}(_:K.In h):QP:=K
theorem Gj{l:PySem.W.OpenLaw}{n k:Nat}{q:Program}{i:QF}{XP:(QL)->Heap->Prop}{M:World->Heap->Prop}{d:DefRec}{K:Params->QP}{CX:World->tV}{sp:World->Sp}{x:Str}
  (R:l.most=some n) (B:n<=sizeLine) (E:d.params.defaults=[]) (Q:D3 k callerA)
  (hY:∀(w:World) (h:Heap),M w h->(K w.params).In h)
  (F:∀(w:World) (mg:QL) (y:Addr) (h:Heap),(K w.params).In h->h.Ns mainGlobals mg->mg d.name=some (.ref y) ->
   ∃J:FuncData,(∀(s:Shared) (u:Value),BindsTo s J ⟨[u],[]⟩ [(x,u)]) /\
    ∀base:Heap,(K w.params).In base->base.Ns mainGlobals mg->w6 l.prog w (K w.params) mg base (CX w) k y J [x] (sp w))
  (z:∀(w:World) (H:Hp) (a:Addr) (ns:QI),ns.length<=n->Js H->P7 (K w.params) H a (ns.map V.int)->sp w [.ref a] H (λv _=>v=.bl true) λ_ _ _=>False)
  (I:∀(w:World) (H:Hp) (s:Shared) (e:Value) (s':Shared),CX w [] H s (λ_ _ _=>False) e s'->False) :
  PySem.W.WalkO q i XP M l.row.toRowW d [] (λf vs=>PySem.call f vs):=by
 refine Att.qC R E λw s₀ p mg mb y o pm cd a0 a vs ns G Y ho hd U C r j c S has=>?_;have O:=hY w _ Y;obtain⟨J,X,hF⟩:=F w mg y _ O G.T.g C;exact BS O G.T.g G.T.b G.T.builtins G.T.nolimit S r j (sr c B) Q has hF X (λH hO hS=>z w H a ns c hO hS) λH e s'=>I w H p e s'
def inClass(s:Stmt)(j:Nat):Stmt:=match s with
 | .ClassDef _ _ _ body _ _ _ _ _ _ _=>body.getD j (.Pass ⟨0,0,0,0⟩)
 | _=>.Pass ⟨0,0,0,0⟩
def U5(s:Stmt):Arguments:=match s with
 | .FunctionDef _ a _ _ _ _ _ _ _ _=>a
 | _=>{ posonlyargs:=[],args:=[],vararg:=none,kwonlyargs:=[],kw_defaults:=[],kwarg:=none,defaults:=[] }
def E7(s:Stmt):QM:=match s with
 | .FunctionDef _ _ b _ _ _ _ _ _ _=>b
 | _=>[]
def e6(s:Stmt):Scope:=match s with
 | .FunctionDef _ _ _ _ _ _ a _ _ _=>a
 | _=>{ kind:=.function,names:=[],isGenerator:=false,isCoroutine:=false }
abbrev P9:tV:=λ_ _ _ _ _ _=>False
abbrev E0:XK:=λ_ _ _=>False
theorem zy{X:Cx}:Passes P9 X E0:=λ_ _ _ _ _ _ _ h=>h.elim
structure S6(K:QP)(x qual:Str)(st:Stmt)(f:Addr)(fd:FuncData):Prop where
 ex:∃(oc:Value) (od:Option Addr) (kV doc pm:Value) (an:Option Addr) (cdv ct:Value) (osl:Array (QQ)),
  fd=PySem.W.fnOf x qual (U5 st) (E7 st) (e6 st) .none kV doc pm an cdv ct/\K.lookup f=some ⟨oc,od,.func fd,osl⟩/\PySem.W.codeIn K cdv qual=true
 kp:PySem.W.keepIn K (.ref f)=true
section
variable{P:Program}{w:World}{K:QP}{mg:QL}{base:Heap}
theorem S6.ok{x a:Str}{st:Stmt}{f:Addr}{g:FuncData}{N ps:QF}{k:Nat}{sp:Sp}(F:S6 K x a st f g)(S:j2 N ps (e6 st))(len:∀vs H Q E,sp vs H Q E->vs.length=ps.length)
  (c:∀(b:Value) (A:Around) (outer:List Env) (s:Shared) (H:Hp) (vs:List V) (Q:VK) (E:XK),D3 k (A.deeper (envOfC a (e6 st) s.heap.objs.size f b))->sp vs H Q E ->
   ∃t,mn (bX P9 P w K mg base N a (e6 st) f b A outer s H E).IQ (E7 st) t/\t { nx:=λ_ o=>Q .p7 o,rt:=Q } (start N vs) H):w6 P w K mg base P9 (k+1) f g ps sp:=by
 obtain⟨u,r,kV,l,p,v,b,ct,i,rfl,lk,e⟩:=F.ex;refine GG lk e S len λA outer s H vs Q E j d=>?_;obtain⟨t,h,q⟩:=c b A outer s H vs Q E j d;exact⟨t,h.IQ,q⟩
theorem S6.binds{x a:Str}{st:Stmt}{f:Addr}{i:FuncData}{ps:QF}(F:S6 K x a st f i)
  (h:∀(kV b e:Value) (g:Option Addr) (c ct:Value) (d:QG),d.length=ps.length->bindArgs (PySem.W.fnOf x a (U5 st) (E7 st) (e6 st) .none kV b e g c ct) ⟨d,[]⟩=pure (ps.zip d)):Binds K i ps []:=by
 obtain⟨p,o,kV,b,e,g,c,ct,j,rfl,lk,l⟩:=F.ex;exact .all (h kV b e g c ct)
theorem tN{x a:Str}{st:Stmt}{f:Addr}{j:Value}{i h:Option Addr}{e:Array (QQ)}{kV d g b ct:Value}(l:K.lookup f=some ⟨j,i,.func (PySem.W.fnOf x a (U5 st) (E7 st) (e6 st) .none kV d g h b ct),e⟩)
  (c:PySem.W.codeIn K b a=true) (k:PySem.W.keepIn K (.ref f)=true):S6 K x a st f (PySem.W.fnOf x a (U5 st) (E7 st) (e6 st) .none kV d g h b ct):=⟨⟨j,i,kV,d,g,h,b,ct,e,rfl,l,c⟩,k⟩
end
theorem C9{A:Around}{k:Nat}(a:D3 k A):A.units+1<cLine:=KM (Nat.add_le_add_left (by decide:1<=64) _) a.units
theorem xA{n:Nat}(h:n<=1000):n<sizeLine:=KM h (by decide)
section
variable{X:Cx}
theorem pv (i:Nat) {x:Str} {a:Pos} (d:X.N[i]?=some x:=by rfl) (c:Kl X.env.scope x:=by first | exact Or.inl rfl | exact Or.inr (Or.inl rfl) | exact Or.inr (Or.inr rfl)) (hd:(x == ("__debug__" : Str))=false:=by decide)
  (b:(x == ("__classdict__" : Str))=false:=by decide):PE X (.Name x a) (T9 i):=Hm d c hd b
end
def i5(H a:Hp):Prop:=∀b o,H b=some o->a b=some o
theorem i5.refl(H:Hp):i5 H H:=λ_ _ h=>h
theorem i5.trans{H e d:Hp}(a:i5 H e)(b:i5 e d):i5 H d:=λc o h=>b c o (a c o h)
theorem i5.free{H a:Hp}(e:i5 H a){l:Addr}(h:a l=Option.none):H l=Option.none:=by
 cases q:H l with
 | none=>rfl
 | some o=>
  rw[e l o q] at h;cases h
theorem i5.seq{K:QP}{H b:Hp}{a:Addr}{xs:List V}(e:i5 H b)(h:P7 K H a xs):P7 K b a xs:=by
 rcases h with(h | ⟨o,h⟩) | h
 ·exact .inl (.inl (e _ _ h))
 ·exact .inl (.inr ⟨o,e _ _ h⟩)
 ·exact .inr h
end L2
set_option maxHeartbeats 4000000
namespace L2
open PySem PySem.Spec PyProof.Rows
theorem mX{prog:Program}{w:World}{A:Around}{R:Result->Shared->Prop}{s:Shared}{g a d:Expr}{e:QH}{scope:Scope}{j:Pos}{it acc:Value}{env:Env}(I:Nat->Shared->Prop)
  (i:∀n s,I n s->wpAny (model prog w) A (pyNext it) (λr o=>match r with
   | none=>R (.ok .next) o
   | some v=>wpAny (model prog w) A (letOwnedTupleGo a it v) (λ_ y=>wpAny (model prog w) A (assign a env v) (λ_ u=>
     wpAny (model prog w) A (forIn e true λc r=>if r=true then do let ok <-isTrue c env (eval c env);pure (ForInStep.yield ok) else pure (ForInStep.yield r)) (λok l=>
      if ok=true then wpAny (model prog w) A (eval g env) (λx q=>
       wpAny (model prog w) A (call (.builtin "list.append") [acc,x]) (λ_ p=>∃m,m<n/\I m p) (λ_ _=>False) q) (λ_ _=>False) l
      else ∃m,m<n/\I m l) (λ_ _=>False) u) (λ_ _=>False) y) (λ_ _=>False) o) (λ_ _=>False) s)
  (n:Nat) (h:I n s) :
  codeAny (model prog w) A (.compLoop (.ListComp g [⟨a,d,e,0⟩] scope j) 0 it acc env) R s:=by
 refine codeAny_loop rfl I (λn s C=>?_) n h;show wpAny _ A ((compTurn (.ListComp g [⟨a,d,e,0⟩] scope j) 0 it acc env).onRaise (λx=>do noteFrame x env;theTreesLotGoes x)) _ _ s;refine wpAny_noted ?_;rw[compTurn_list];refine cB (IN (cB (ux (i n s C) (λr o B=>?_) λ_ _ b=>b.elim)))
 cases r with
 | none=>exact hH B
 | some v=>
  refine cB (ux B (λ_ y J=>?_) λ_ _ b=>b.elim);refine cB (ux J (λ_ u H=>cB (ux H (λok l z=>?_) λ_ _ b=>b.elim)) λ_ _ b=>b.elim)
  cases ok with
  | false=>exact hH ⟨rfl,z⟩
  | true=>
   exact cB (cB (ux z (λx q G=>cB (ux G (λ_ p E=>hH (hH ⟨rfl,E⟩)) λ_ _ b=>b.elim)) λ_ _ b=>b.elim))
def E6(env:Env):List (Str×NameKind)->QC->QC
 | [],b=>b
 | (n,k)::r,b=>if (k == .free)=true then(match env.cells.lookup n with
   | some a=>E6 env r ((n,a)::b)
   | none=>E6 env r b) else E6 env r b
theorem iI{env:Env}:∀(names:List (Str×NameKind)) (acc:QC),(∀x∈names,x.2=.free->∃a,env.cells.lookup x.1=some a) ->
  (forIn names acc λ(x:Str×NameKind) (cs:QC)=>(if (x.2 == NameKind.free)=true then(do let c <-cellOf env x.1;pure (ForInStep.yield ((x.1,c)::cs))) else pure (ForInStep.yield cs):Sem (ForInStep (QC))))=(pure (E6 env names acc):Sem (QC))
 | [],acc,_=>rfl
 | (n,k)::r,acc,h=>by
  have i:=λb=>iI (env:=env) r b λx j=>h x (ol _ j);rw[PV];unfold E6
  by_cases e:(k == NameKind.free)=true
  ·obtain⟨a,l⟩:=h (n,k) pu (by simpa using e);have g:env.cells.lookup n=some a:=l;simp only[e,OB,cellOf,g,pure_bind];exact i _
  ·have d:(k == NameKind.free)=false:=by simpa using e
   simp only[d,OF,OI,pure_bind];exact i _
theorem bR{env:Env}{scope:Scope}(h:∀x∈scope.names,x.2=.free->∃a,env.cells.lookup x.1=some a):closureFor scope env=pure (E6 env scope.names []):=by
 have e:=iI (env:=env) scope.names [] h;simp only[closureFor];exact(wv (λz=>z >>= λcs=>pure cs) e).trans (by simp)
theorem cF{env:Env}:∀{names:List (Str×NameKind)} {acc:QC} {x:Str} {c:Addr},(E6 env names acc).lookup x=some c->acc.lookup x=some c\/env.cells.lookup x=some c
 | [],acc,x,c,h=>.inl h
 | (n,k)::r,acc,x,c,h=>by
  unfold E6 at h
  by_cases d:(k == NameKind.free)=true
  ·rw[qq d] at h
   cases e:env.cells.lookup n with
   | none=>rw[e] at h;exact cF h
   | some a=>
    rw[e] at h;rcases cF h with z | z
    ·by_cases b:x=n
     ·subst b;rw[ut] at z;simp at z;subst z;exact .inr e
     ·rw[ut] at z;have:(x == n)=false:=by simpa using b
      rw[this] at z;exact .inl z
    ·exact .inr z
  ·rw[qc d] at h;exact cF h
theorem V6{env:Env}:∀{names:List (Str×NameKind)} {acc:QC} {x:Str} {c:Addr},acc.lookup x=some c->∃g,(E6 env names acc).lookup x=some g
 | [],acc,x,c,h=>⟨c,h⟩
 | (n,k)::r,acc,x,c,h=>by
  unfold E6
  by_cases d:(k == NameKind.free)=true
  ·rw[qq d]
   cases e:env.cells.lookup n with
   | none=>exact V6 h
   | some a=>
    by_cases b:x=n
    ·subst b;exact V6 (c:=a) (by rw[ut];simp)
    ·refine V6 (c:=c) ?_;rw[ut];have:(x == n)=false:=by simpa using b
     rw[this];exact h
  ·rw[qc d];exact V6 h
theorem gS{env:Env}:∀{names:List (Str×NameKind)} {acc:QC} {x:Str},(∀y∈names,y.2=.free->∃a,env.cells.lookup y.1=some a)->(x,NameKind.free)∈names->∃c,(E6 env names acc).lookup x=some c
 | [],acc,x,_,h=>by cases h
 | (n,k)::r,acc,x,i,h=>by
  unfold E6;rcases List.mem_cons.mp h with z | z
  ·injection z with o l
   subst o;subst l;rw[qq (by simp)];obtain⟨a,e⟩:=i (x,.free) pu rfl;have p:env.cells.lookup x=some a:=e;rw[p];exact V6 (c:=a) (by rw[ut];simp)
  ·have d:=λb=>gS (acc:=b) (λy j=>i y (ol _ j)) z
   by_cases g:(k == NameKind.free)=true
   ·rw[qq g]
    cases e:env.cells.lookup n with
    | none=>exact d _
    | some a=>exact d _
   ·rw[qc g];exact d _
theorem X9{env:Env}:∀{names:List (Str×NameKind)} {x:Str} {k:NameKind},
  (names.map λ(n,k)=>if (k == NameKind.free&&env.scope.kind == .function&&env.kindOf n == some .cell) then(n,NameKind.cell) else(n,k)).lookup x=some k->(k=.cell\/k=.free)->(∀y∈names,y.2≠.cell)->(x,NameKind.free)∈names
 | [],_,_,h,_,_=>by cases h
 | (n,q)::r,x,k,h,g,i=>by
  have j:=@X9 env r x k;rw[rl] at h
  by_cases e:(q == NameKind.free&&env.scope.kind == .function&&env.kindOf n == some .cell)=true
  ·have c:q=.free:=by
    have:=(Bool.and_eq_true_iff.mp (Bool.and_eq_true_iff.mp e).1).1;simpa using this
   simp only[e,OB] at h
   by_cases a:x=n
   ·subst a;rw[c];exact pu
   ·rw[ut] at h;have:(x == n)=false:=by simpa using a
    rw[this] at h;exact ol _ (j h g λy b=>i y (ol _ b))
  ·have d:(q == NameKind.free&&env.scope.kind == .function&&env.kindOf n == some .cell)=false:=by simpa using e
   simp only[d,OI,OF] at h
   by_cases a:x=n
   ·subst a;rw[ut] at h;simp at h;subst h;rcases g with z | z
    ·exact absurd z (i (x,q) pu)
    ·rw[z];exact pu
   ·rw[ut] at h;have:(x == n)=false:=by simpa using a
    rw[this] at h;exact ol _ (j h g λy b=>i y (ol _ b))
def Q6(X:Cx)(N:QF)(scope:Scope)(cl:QC)(a:QE)(s:Shared)(H:Hp):Cx where
 prog:=X.prog
 w:=X.w
 K:=X.K
 mg:=X.mg
 base:=X.base
 A:=X.A
 N:=N
 s₀:=s
 H₀:=H
 env:=compEnvC scope cl s.heap.objs.size X.env
 outer:=X.stack
 stack:=X.stack
 ex:=a
 fn:=λ_=>false
 calm:=X.calm
 pn:=[]
 xe:=λ_ _=>False
def Q2(cap:QB)(σ:St):St:=cap.map λo=>match o with
 | some j=>(σ[j]?).join
 | none=>none
def bf(XN N:QF)(XS scope:Scope)(cap:QB):Bool:=
 (cap.length == N.length)&&(List.range N.length).all (λi=>match N[i]?,cap[i]? with
  | some x,some (some j)=>(XN[j]? == some x)&&((XS.names.lookup x == some .cell)||(XS.names.lookup x == some .free))&&(scope.names.lookup x == some .free)
  | some _,some none=>true
  | _,_=>false)
 && scope.names.all (λy=>y.2 != .cell)&&scope.names.all (λy=>y.2 != .free||(XS.names.lookup y.1 == some .cell)||(XS.names.lookup y.1 == some .free))
 && scope.names.all (λy=>y.2 != .local||(scope.names.lookup y.1 == some .local))
theorem cg{env:Env}:∀{names:List (Str×NameKind)} {x:Str},names.lookup x=some .free ->
  (names.map λ(n,k)=>if (k == NameKind.free&&env.scope.kind == .function&&env.kindOf n == some .cell) then(n,NameKind.cell) else(n,k)).lookup x=some .cell \/
  (names.map λ(n,k)=>if (k == NameKind.free&&env.scope.kind == .function&&env.kindOf n == some .cell) then(n,NameKind.cell) else(n,k)).lookup x=some .free
 | [],_,h=>by cases h
 | (n,q)::r,x,h=>by
  have g:=@cg env r x;rw[rl]
  by_cases e:x=n
  ·subst e;rw[ut] at h;simp at h;subst h
   by_cases c:(NameKind.free == NameKind.free&&env.scope.kind == .function&&env.kindOf x == some .cell)=true
   ·left
    simp only[c,OB];rw[ut];simp
   ·right
    have a:(NameKind.free == NameKind.free&&env.scope.kind == .function&&env.kindOf x == some .cell)=false:=by simpa using c
    simp only[a,OI,OF];rw[ut];simp
  ·have d:(x == n)=false:=by simpa using e
   rw[ut,d] at h;have b:=g h
   by_cases c:(q == NameKind.free&&env.scope.kind == .function&&env.kindOf n == some .cell)=true
   ·simp only[c,OB];rw[ut,d];exact b
   ·have a:(q == NameKind.free&&env.scope.kind == .function&&env.kindOf n == some .cell)=false:=by simpa using c
    simp only[a,OI,OF];rw[ut,d];exact b
structure P0(X:Cx)(N:QF)(scope:Scope)(cap:QB):Prop where
 len:cap.length=N.length
 slot:∀(i:Nat) (x:Str) (j:Nat),N[i]?=some x->cap[i]?=some (some j)->X.N[j]?=some x/\(X.env.kindOf x=some .cell\/X.env.kindOf x=some .free)/\scope.names.lookup x=some .free
 nocell:∀y∈scope.names,y.2≠.cell
 free:∀y∈scope.names,y.2=.free->(X.env.kindOf y.1=some .cell\/X.env.kindOf y.1=some .free)
 loc:∀y∈scope.names,y.2=.local->scope.names.lookup y.1=some .local
theorem Z4{X:Cx}{XN N:QF}{XS scope:Scope}{cap:QB}(B:X.N=XN)(v:X.env.scope=XS)(h:bf XN N XS scope cap=true):P0 X N scope cap:=by
 subst B;subst v;unfold bf at h;rw[hD,hD,hD,hD] at h;obtain⟨⟨⟨⟨C,l⟩,g⟩,e⟩,d⟩:=h;rw[PH] at l g e d;have c:cap.length=N.length:=by simpa using C
 refine⟨c,λi x j o E=>?_,λy b z=>?_,λy b z=>?_,λy b z=>?_⟩
 ·have u:i<N.length:=(List.getElem?_eq_some_iff.mp o).1;have q:=l i (List.mem_range.mpr u);rw[o,E] at q;dsimp only at q;rw[hD,hD,Lc] at q;obtain⟨⟨r,a⟩,p⟩:=q;refine⟨by simpa using r,?_,by simpa using p⟩;rcases a with a | a
  ·exact .inl (beq_iff_eq.mp a)
  ·exact .inr (beq_iff_eq.mp a)
 ·have q:=g y b;rw[z] at q;exact absurd q (by decide)
 ·have q:=e y b;rw[z,Lc,Lc] at q;rcases q with(q | q) | q
  ·exact absurd q (by decide)
  ·exact .inl (beq_iff_eq.mp q)
  ·exact .inr (beq_iff_eq.mp q)
 ·have q:=d y b;rw[z,Lc] at q;rcases q with q | q
  ·exact absurd q (by decide)
  ·simpa using q
section
variable{X:Cx}{N:QF}{scope:Scope}{cap:QB}{fp:QE}{pins:QA}{σ:St}{H:Hp}{s:Shared}
theorem Inv.aD(I:Inv X pins σ H s)(c:P0 X N scope cap):∀y∈scope.names,y.2=.free->∃a,X.env.cells.lookup y.1=some a:=λy b z=>I.ok.has y.1 (c.free y b z)
theorem aF{x:Str}{c:Addr}(h:(E6 X.env scope.names []).lookup x=some c):X.env.cells.lookup x=some c:=by
 rcases cF h with z | z
 ·cases z
 ·exact z
theorem oG(I:Inv X pins σ H s)(M:P0 X N scope cap)(S:∀b∈fp,∀x c,X.env.cells.lookup x=some c->c≠b){C:Addr}{Y:Hp}{h':Heap}(u:Un (W4 X.stack) fp H Y s.heap h') :
  ∀(i:Nat) (x:Str) (v:V),N[i]?=some x->(Q2 cap σ)[i]?=some (some v)->∃w,RelV v w/\∀m,Look (compEnvC scope (E6 X.env scope.names []) C X.env) h' m x w:=by
 intro i x v U a;unfold Q2 at a;rw[rz] at a
 cases E:cap[i]? with
 | none=>rw[E] at a;cases a
 | some o=>
  rw[E] at a
  cases o with
  | none=>cases a
  | some j=>
   have p:(σ[j]?).join=some v:=tL a
   have T:σ[j]?=some (some v):=by
    cases q:σ[j]? with
    | none=>rw[q] at p;cases p
    | some o'=>rw[q] at p;exact wv some p
   obtain⟨O,J,G⟩:=M.slot i x j U E;obtain⟨m,hn,R⟩:=I.loc
   have y:Kl X.env.scope x:=by
    rcases J with k | k
    ·exact .inr (.inl k)
    ·exact .inr (.inr k)
   obtain⟨w,r,l⟩:=R j x v O T y;refine⟨w,r,λm'=>?_⟩;rcases l with⟨h,_⟩ | ⟨_,c,B,o,Q,hd⟩
   ·rcases J with k | k
    ·rw[k] at h;cases h
    ·rw[k] at h;cases h
   ·obtain⟨c',g⟩:=gS (acc:=[]) (I.aD M) (Go G);have d:=aF g;rw[B] at d;cases d;obtain⟨sl,e⟩:=u.any Q (I.freeC x c B) (λz=>S c z x c B rfl);exact .inr ⟨cg G,c,g,⟨_,e,hd⟩⟩
theorem Cx.Ok.comp(I:Inv X pins σ H s)(i:P0 X N scope cap)(j:scope.kind=.function)(d:∀b∈fp,T8 X pins H b)(l:∀b∈fp,b<s.heap.objs.size):(Q6 X N scope (E6 X.env scope.names []) fp s H).Ok:=by
 refine⟨I.ok.mod,j,I.ok.glob,I.ok.blt,hI _,λx y c r p=>I.ok.inj x y c (aF r) (aF p),λx a=>?_,λx c z=>absurd (show false=true from z) nT,I.ok.hd,I.ok.frames,.inl rfl,λb z=>⟨sx (l b z),λx c h=>(d b z).2.2.2.2.1 x c (aF h)⟩,I.bs,sr I.ok.bsz I.sz,λb o e z=>?_,λb z q=>?_,I.stack,I.fA,I.sys⟩
 ·have g:(x,NameKind.free)∈scope.names:=by
   rcases a with a | a
   ·exact X9 a (.inl rfl) i.nocell
   ·exact X9 a (.inr rfl) i.nocell
  exact gS (acc:=[]) (I.aD i) g
 ·rcases(d b z).2.2.2.1 with q | q
  ·exact I.ok.noex b o e q
  ·exact absurd (re (oD e) (sr I.ok.bsz q)) (Lf _)
 ·rcases List.mem_cons.mp (I.sg b q) with e | e
  ·exact(d b z).2.1 e
  ·exact(d b z).2.2.1 e
theorem oi(I:Inv X pins σ H s)(d:P0 X N scope cap)(u:scope.kind=.function)(e:∀b∈fp,T8 X pins H b)(y:∀b∈fp,b<s.heap.objs.size){a:Heap}{m:QL}{tk:Nat}
  (q:a.Ns s.heap.objs.size m) (keep:∀b o,s.heap.get? b=some o->a.get? b=some o):Inv (Q6 X N scope (E6 X.env scope.names []) fp s H) [] (Q2 cap σ) H { s with heap:=a,toks:=tk }:=by
 refine⟨Cx.Ok.comp I d u e y,rfl,I.bare,Un.kept keep,⟨m,q,λi x v E B _=>?_⟩,λx c h=>?_,I.hok.fresh (hI _),λx c h=>I.freeC x c (aF h),λp g=>absurd (show p∈([]:QA) from g) (by simp),I.hok.kept keep,?_⟩
 ·obtain⟨w,r,l⟩:=oG (C:=s.heap.objs.size) I d (λb z=>(e b z).2.2.2.2.1) (Un.kept keep) i x v E B;exact⟨w,r,l m⟩
 ·obtain⟨v,o,j,hd⟩:=I.cell x c (aF h);exact⟨v,o,keep c o j,hd⟩
 ·unfold Q2;rw[cC];exact d.len
theorem jD(I:Inv X pins σ H s)(d:P0 X N scope cap)(h:∀b∈fp,T8 X pins H b){a:QA}{c:St}{e:Hp}{s':Shared}(J:Inv (Q6 X N scope (E6 X.env scope.names []) fp s H) a c e s') :
  Inv (Q6 X N scope (E6 X.env scope.names []) fp s H) a (Q2 cap σ) e s':=by
 refine⟨J.ok,J.os,J.bare,J.base,?_,J.cell,J.free,J.freeC,J.pin,J.hok,?_⟩
 ·obtain⟨m,g,_⟩:=J.loc;refine⟨m,g,λi x v o j _=>?_⟩;obtain⟨w,r,l⟩:=oG (C:=s.heap.objs.size) I d (λb z=>(h b z).2.2.2.2.1) J.base i x v o j;exact⟨w,r,l m⟩
 ·unfold Q2;rw[cC];exact d.len
theorem Inv.AE{C:Addr}{h':Heap}(I:Inv X pins σ H s)(a:T8 X pins H C)(c:Heap.SameBut C s.heap h'):Inv X pins σ H { s with heap:=h' }:=
 I.turned (t':=s.toks) (λb o d e=>(c.2 b d).trans e) a.1 a.2.1 a.2.2.2.1 a.2.2.2.2.1 a.2.2.2.2.2
end
def Fw(X:Cx)(d:QH)(t:TT):Prop:=
 ∀(a:QA) (s:Shared) (b:St) (H:Hp) (Q:Bool->Hp->Prop),Inv X a b H s->t b H Q ->
  wpAny (model X.prog X.w) X.A (forIn d true λc r=>if r=true then do let ok <-isTrue c X.env (eval c X.env);pure (ForInStep.yield ok) else pure (ForInStep.yield r)) (TP X a b Q) X.xe s
def MF:TT:=λ_ H Q=>Q true H
theorem vt{X:Cx}:Fw X [] MF:=λ_ _ _ H _ I h=>wpAny_tests_nil ⟨H,I,h⟩
theorem El{X:Cx}{c:Expr}{t:TT}(h:PT X c t):Fw X [c] t:=λa s b H Q I q=>wpAny_tests_one (h a s b H Q I q)
def Mk(J:It)(g:TG)(tc:TT)(te:TE)(h:St)(Q:VK)(o:Hp):Prop:=∀d,o d=none ->
 ∃W:Nat->Nat->Hp->Prop,(∃m,W 0 m (upd o d (.lst [])))/\∀i m H,W i m H ->
  (J.stop i H/\Q (.ref d) H) \/
  (J.go i H/\∀x p,J.yld i H x p->g x h p λc q=>tc c q λb l=>
   if b=true then te c l λv j=>∃a,j d=some (.lst a)/\a.length<sizeLine/\∃e,e<m/\W (i+1) e (upd j d (.lst (a++[v])))
   else ∃e,e<m/\W (i+1) e l)
def Ni(H c:Hp):Prop:=∀b a,H b=some (.tup a)->c b=some (.tup a)
theorem i5.D5{H a:Hp}(h:i5 H a):Ni H a:=λb c e=>h b _ e
theorem i5.j4{H:Hp}{d:Addr}{o:HO}(h:H d=none):i5 H (upd H d o):=λb u e=>by
 rw[i4 (w5 e h)];exact e
section
variable{X:Cx}
def rV:V->QQ
 | .ty n=>some (.type n)
 | .ref a=>some (.ref a)
 | _=>none
theorem l3:K8 X (.builtin "isinstance") (λxs H Q=>∃x c t cv b,xs=[x,c]/\rV c=some cv/\Z6 X.K H x t/\PySem.W.kitOne X.K t cv=some b/\Q (.bl b) H):=by
 intro g s v H xs y Q I r h;obtain⟨x,c,t,cv,b,rfl,d,l,o,q⟩:=h;obtain⟨u,i,rfl,j,e⟩:=vals2 r
 have p:i=cv:=by
  cases c with
  | ty n=>cases d;exact e
  | ref a=>cases d;exact e
  | _=>cases d
 subst p;exact xT I j l o λtk=>⟨.bl b,H,I.tok tk,rfl,q⟩
def T4(i j:Int):Prop:=0<j/\j.natAbs.log2<9000
theorem Ap:L8 X (binaryOp .FloorDiv) (rI T4 λi j=>.int (i/j)):=Mc λi j _ _ _ _ _ a q=>by
 have b:(0:Int)<j:=a.1;exact floordiv_int (by omega) (by rw[Int.fdiv_eq_ediv_of_nonneg i (by omega)];exact q) (.inl (PyProof.noPylong_of_log2 a.2))
end
section
variable{X:Cx}{pins:QA}{σ:St}{H:Hp}{s:Shared}{h':Heap}
theorem Inv.kf{ch:QE}{T:Addr}{xs:List V}{its:QG}{t':Nat}(I:Inv X pins σ H s)(a:∀b∈ch,T8 X pins H b)(k:∀b o,b∉ch->s.heap.get? b=some o->h'.get? b=some o)
  (j:s.heap.objs.size<=T) (p:Vals xs its) (x:xs.length<=sizeLine) (y:IsTup h' T its.toArray):Inv X pins σ (upd H T (.tup xs)) { s with heap:=h',toks:=t' }:=by
 have i:H T=none:=I.hok.fresh j;have h:∀b u,H b=some u->b∉ch:=λb u e z=>by rw[(a b z).1] at e;cases e
 have neT:∀b o,s.heap.get? b=some o->b≠T:=λb o e=>sx (re (oD e) j)
 refine I.step (g':=s.gens) (d':=s.drawn) (ch:=ch) (λb g=>⟨(a b g).2.2.2.1,(a b g).2.1,(a b g).2.2.2.2.1,(a b g).2.2.2.2.2⟩) (λb o _ _ d e _=>k b o d e) (λb o _ _ d e _=>⟨o.slots,k b o d e⟩)
  (λb o d e n=>by rw[i4 (neT b o e)];exact n) (λb o d e=>⟨o,k b o d e⟩) (λb l e=>by rw[i4 (w5 e i)];exact e) (λb o u e=>by rw[i4 (w5 e i)];exact e)
  (λb M e=>⟨#[],by rw[i4 (w5 e i),e];simp⟩) (λn=>let ⟨_,_,_,E,_⟩:=I.mod.glob;by rw[i4 (sx (re (Nat.lt_trans (by decide) (oD (I.bk _ _ E))) j))];exact n) (λm C=>?_) (λb u e=>?_) I.bare
 ·obtain⟨o,G,J,B,r⟩:=C;exact⟨o,G,J,k _ o (λz=>(a _ z).2.1 rfl) B,r⟩
 ·by_cases g:b=T
  ·subst g;rw[g9] at e;cases e;exact⟨x,its,p,y⟩
  ·rw[i4 g] at e;refine(I.hok b u e).lS (λc v d q=>k c v ?_ q) (λc q=>by rw[i4 (w5 q i)];exact q) λc l q=>by rw[i4 (w5 q i)];exact q
   rcases d with z | z
   ·rw[z];exact h b u e
   ·exact h c _ z
theorem Inv.va{ch:QE}{t':Nat}(I:Inv X pins σ H s)(a:∀b∈ch,T8 X pins H b)(k:∀b o,b∉ch->s.heap.get? b=some o->h'.get? b=some o):Inv X pins σ H { s with heap:=h',toks:=t' }:=by
 have g:∀b u,H b=some u->b∉ch:=λb u e z=>by rw[(a b z).1] at e;cases e
 refine I.step (g':=s.gens) (d':=s.drawn) (ch:=ch) (λb h=>⟨(a b h).2.2.2.1,(a b h).2.1,(a b h).2.2.2.2.1,(a b h).2.2.2.2.2⟩) (λb o _ _ d e _=>k b o d e) (λb o _ _ d e _=>⟨o.slots,k b o d e⟩)
  (λb o d e n=>n) (λb o d e=>⟨o,k b o d e⟩) (λ_ _ e=>e) (λ_ _ _ e=>e) (λb x e=>⟨#[],by rw[e];simp⟩) (λn=>n) (λm j=>?_) (λb u e=>?_) I.bare
 ·obtain⟨o,l,p,i,r⟩:=j;exact⟨o,l,p,k _ o (λz=>(a _ z).2.1 rfl) i,r⟩
 ·refine(I.hok b u e).lS (λc v d q=>k c v ?_ q) (λ_ q=>q) λ_ _ q=>q;rcases d with z | z
  ·rw[z];exact g b u e
  ·exact g c _ z
end
section
variable{prog:Program}{w:World}{A:Around}{E:QN}{s:Shared}
theorem fg{it l:Addr}{i:Nat}{items:QK}{x:Value}{Q:QN}(a:s.heap.IsTupleIter it l i)(g:s.heap.IsTuple l items)(e:items[i]?=some x)
  (j:∀h',h'.IsTupleIter it l (i+1)->Heap.SameBut it s.heap h'->Q x { s with heap:=h' }):wpAny (model prog w) A (Builtin.SmallTypes.nextOf (.ref it)) Q E s:=by
 obtain⟨o,b,h,hd⟩:=id a;obtain⟨p,c,_,q,d⟩:=g;unfold Builtin.SmallTypes.nextOf;refine cB (wS (name:=Str.ofString "__next__") a.typeIs Oq (Da Oq a.typeIs F.entry_tuple_iterator_next ?_ (F.args_tuple_iterator_next_1 _)));show wpAny _ _ (field (.ref it) 0 >>= _) _ _ s;refine cB (v3 b hd (x:=.ref l) rfl ?_);show wpAny _ _ (if (Value.ref l == Value.none)=true then _ else _) _ _ s;rw[qc (show ¬((Value.ref l == Value.none)=true) from nT)];show wpAny _ _ (field (.ref it) 1 >>= _) _ _ s;refine cB (v3 b hd (x:=.int i 0) rfl ?_);show wpAny _ _ (seqItems? (.ref l) >>= _) _ _ s;refine cB (Do c d ?_);simp only[Py,e];refine cB (Ps b hd (by simp) (hH ⟨x,rfl,hH (j _ ?_ (Heap.SameBut.update ..))⟩));exact⟨_,wE _ b (FM (At hd _)),(Obj.cls_mapFields ..).trans h,by rw[At hd];simp[rawInt]⟩
theorem ay{it l:Addr}{i:Nat}{items:QK}{Q:QN}(h:A.handled=none)(b:s.heap.IsTupleIter it l i)(p:s.heap.IsTuple l items)(j:items[i]?=none)
  (q:∀h' e,Heap.ExtBut it s.heap h'->(∃o,h'.get? e=some o/\o.cls=.type "StopIteration")->E (.ref e) { s with heap:=h' }):wpAny (model prog w) A (Builtin.SmallTypes.nextOf (.ref it)) Q E s:=by
 obtain⟨o,d,v,hd⟩:=id b;obtain⟨r,c,_,u,g⟩:=p;unfold Builtin.SmallTypes.nextOf;refine cB (wS (name:=Str.ofString "__next__") b.typeIs Oq (Da Oq b.typeIs F.entry_tuple_iterator_next ?_ (F.args_tuple_iterator_next_1 _)));show wpAny _ _ (field (.ref it) 0 >>= _) _ _ s;refine cB (v3 d hd (x:=.ref l) rfl ?_);show wpAny _ _ (if (Value.ref l == Value.none)=true then _ else _) _ _ s;rw[qc (show ¬((Value.ref l == Value.none)=true) from nT)];show wpAny _ _ (field (.ref it) 1 >>= _) _ _ s;refine cB (v3 d hd (x:=.int i 0) rfl ?_);show wpAny _ _ (seqItems? (.ref l) >>= _) _ _ s;refine cB (Do c g ?_);simp only[Py,j];refine cB (PP (cB (Ps d hd (by simp) ?_)));show wpAny _ _ (newExc (.type "StopIteration") [] >>= _) _ _ _;refine cB ?_;simp only[newExc,newTuple];refine cB (z0 ?_ (by size_fits));refine cB (m:=firstArgMember _ _) (wpAny_of_eq (a:=Value.none) (by first | rfl | (simp only[firstArgMember];rfl)) ?_);refine z0 ?_ (by size_fits);simp only[raiseNew];refine cB (wpAny_handled ?_)
 first | rw[show A.in1.handled=none from h] | rw[h]
 refine cB (hH (wpAny_throw ?_));exact q _ _ (((Heap.SameBut.update ..).extBut.push _).push _) ⟨_,ro _ rfl,rfl⟩
end
def yF(b:Bool)(K:QP)(H:Hp)(a:Addr)(xs:List V):Prop:=match b with
 | true=>T5 K H a xs
 | false=>P7 K H a xs
def eI(b:Bool)(h:Heap)(it l:Addr)(i:Nat):Prop:=match b with
 | true=>h.IsTupleIter it l i
 | false=>h.IsListIter it l i
def kK(b:Bool)(h:Heap)(l:Addr)(items:QK):Prop:=match b with
 | true=>h.IsTuple l items
 | false=>h.IsList l items
theorem eI.at{b:Bool}{h h':Heap}{it l:Addr}{i:Nat}(x:eI b h it l i)(k:∀o,h.get? it=some o->h'.get? it=some o):eI b h' it l i:=by
 cases b with
 | true=>obtain⟨o,a,r⟩:=x;exact⟨o,k o a,r⟩
 | false=>obtain⟨o,a,r⟩:=x;exact⟨o,k o a,r⟩
theorem eI.obj{b:Bool}{h:Heap}{it l:Addr}{i:Nat}(x:eI b h it l i):∃o,h.get? it=some o/\∀v,o.data≠.cell v:=by
 cases b with
 | true=>obtain⟨o,a,c,d⟩:=x;exact⟨o,a,λv z=>by rw[d] at z;cases z⟩
 | false=>obtain⟨o,a,c,d⟩:=x;exact⟨o,a,λv z=>by rw[d] at z;cases z⟩
theorem kK.at{b:Bool}{h h':Heap}{l:Addr}{items:QK}(x:kK b h l items)(k:∀o,h.get? l=some o->h'.get? l=some o):kK b h' l items:=by
 cases b with
 | true=>obtain⟨o,a,r⟩:=x;exact⟨o,k o a,r⟩
 | false=>obtain⟨o,a,r⟩:=x;exact⟨o,k o a,r⟩
theorem kK.lt{b:Bool}{h:Heap}{l:Addr}{items:QK}(x:kK b h l items):l<h.objs.size:=by
 cases b with
 | true=>obtain⟨o,a,r⟩:=x;exact oD a
 | false=>obtain⟨o,a,r⟩:=x;exact oD a
theorem Inv.T2{X:Cx}{pins:QA}{σ:St}{H:Hp}{s:Shared}{b:Bool}{a:Addr}{xs:List V}(I:Inv X pins σ H s)(h:yF b X.K H a xs):∃its:QG,Vals xs its/\kK b s.heap a its.toArray/\xs.length<=sizeLine:=by
 cases b with
 | true=>obtain⟨its,r,p,z⟩:=I.tuple h;exact⟨its,r,p,z⟩
 | false=>obtain⟨its,r,p,z⟩:=I.list h;exact⟨its,r,p.isList,z⟩
theorem Inv.pk{X:Cx}{pins:QA}{σ:St}{H:Hp}{s:Shared}{b:Bool}{a:Addr}{xs c:List V}(I:Inv X pins σ H s)(h:yF b X.K H a xs)(h':yF b X.K H a c):xs=c:=by
 cases b with
 | true=>exact I.cW h h'
 | false=>exact I.oW h h'
theorem dg(b:Bool){prog:Program}{w:World}{A:Around}(p:A.handled=none)(it l:Addr)(c:l≠it)(items:QK) :
  Draws prog w A it [it,l] items.size (λi v=>items[i]?=some v) (λi h=>eI b h it l i/\kK b h l items):=by
 cases b with
 | false=>exact Draws.list p it l c items
 | true=>exact {
   live:=λ_ _ st=>let ⟨o,q,_⟩:=st.1.obj;⟨o,q⟩
   frame:=λ_ _ _ st g=>⟨st.1.at λo e=>g it (by simp) o e,st.2.at λo e=>g l (by simp) o e⟩
   item:=λi s Q E j st r=>by
    refine fg st.1 st.2 (x:=items[i]) (by simp[j]) λy d a=>?_;exact r _ y s.toks (by simp[j]) ⟨d,st.2.at λo e=>a.extBut _ o c e⟩ a
   done:=λs Q E st u=>ay p st.1 st.2 (by simp) u }
section
variable{prog:Program}{w:World}{A:Around}{E:QN}{s:Shared}{z TI TO i1 i2 l1 l2:Addr}{b1 b2:Bool}{k:Nat}{xs ys:QK}{x y a b:Value}
theorem xR{Q:QN}(hh:A.handled=none)(D:ZipApart z TI TO i1 i2 l1 l2)
  (X:IsZip s.heap z TI TO .none) (al:IsPair s.heap TI (.ref i1) (.ref i2)) (ad:IsPair s.heap TO a b)
  (h1:eI b1 s.heap i1 l1 k) (h2:eI b2 s.heap i2 l2 k) (ab:kK b1 s.heap l1 xs) (a7:kK b2 s.heap l2 ys) (hx:xs[k]?=some x) (hy:ys[k]?=some y)
  (hQ:∀h' tk,IsZip h' z TI TO (rawInt s.heap.objs.size)->IsPair h' TO x y->eI b1 h' i1 l1 (k+1)->eI b2 h' i2 l2 (k+1)->IsPair h' s.heap.objs.size x y->h'.objs.size=s.heap.objs.size+1 ->
   (∀c o,c≠z->c≠TO->c≠i1->c≠i2->s.heap.get? c=some o->h'.get? c=some o)->Q (.ref s.heap.objs.size) { s with heap:=h',toks:=tk }) :
  wpAny (model prog w) A (Builtin.«zip.__next__» ⟨[.ref z],[]⟩) (λao s'=>∃v,ao=.done (.ret v)/\Q v s') E s:=by
 have kx:k<xs.size:=(Array.getElem?_eq_some_iff.mp hx).1;have ky:k<ys.size:=(Array.getElem?_eq_some_iff.mp hy).1;show wpAny _ _ (field (.ref z) 2 >>= _) _ _ _;refine cB (v3 X rfl (x:=.bool false) rfl ?_);show wpAny _ _ (field (.ref z) 3 >>= _) _ _ _;refine cB (v3 X rfl (x:=.ref TI) rfl ?_);refine cB (Do al rfl ?_);show wpAny _ _ (Builtin.SmallTypes.ownedTupleIsFree (.ref z) >>= _) _ _ _;refine cB ?_;unfold Builtin.SmallTypes.ownedTupleIsFree;refine cB (v3 X rfl (x:=.none) rfl (hH ?_));simp only[OB];refine cB (PP ?_);refine cB (v3 X rfl (x:=.ref TO) rfl ?_);refine cB (NE X (by simp) λg1 O l=>?_)
 replace O:IsZip g1 z TI TO .ellipsis:=O
 refine cB ?_;simp only[List.zipIdx_cons,List.zipIdx_nil,PV,List.forIn_nil];refine cB (cB (Pf ?_));show wpAny _ _ (Builtin.SmallTypes.nextOf (.ref i1) >>= _) _ _ _;refine cB ((dg b1 hh i1 l1 D.l1i1 xs).item k _ _ _ kx ⟨h1.at λo e=>l.extBut _ o D.i1z e,ab.at λo e=>l.extBut _ o D.l1z e⟩ λJ g2 ap a0 a5 g=>hH ?_);have ex:J=x:=by rw[hx] at a0;exact(tL a0).symm
 subst ex
 replace g:Heap.SameBut i1 g1 g2:=g
 have I:IsPair g2 TO a b:=g.extBut _ _ D.TOi1 (l.extBut _ _ D.TOz ad);refine cB (Do I rfl ?_);refine cB (Pq I λg3 u d=>?_)
 replace u:IsPair g3 TO J b:=u
 replace d:Heap.SameBut TO g2 g3:=d
 refine cB (wpAny_letGo (hH ?_));refine cB (cB (Pf ?_));show wpAny _ _ (Builtin.SmallTypes.nextOf (.ref i2) >>= _) _ _ _;refine cB ((dg b2 hh i2 l2 D.l2i2 ys).item k _ _ _ ky ⟨h2.at λo e=>d.extBut _ o D.TOi2.symm (g.extBut _ o D.i12.symm (l.extBut _ o D.i2z e)),a7.at λo e=>d.extBut _ o D.l2TO (g.extBut _ o D.l2i1 (l.extBut _ o D.l2z e))⟩ λT g4 a3 Y a4 j=>hH ?_);have ey:T=y:=by rw[hy] at Y;exact(tL Y).symm
 subst ey
 replace j:Heap.SameBut i2 g3 g4:=j
 have H:IsPair g4 TO J b:=j.extBut _ _ D.TOi2 u;refine cB (Do H rfl ?_);refine cB (Pq H λh p i=>?_)
 replace p:IsPair h TO J T:=p
 replace i:Heap.SameBut TO g4 h:=i
 refine cB (wpAny_letGo (hH (hH ?_)));refine cB (Do p rfl ?_);refine cB (wpAny_newTuple ?_);have a1:h.objs.size=s.heap.objs.size:=by rw[i.1,j.1,d.1,g.1,l.1]
 have U:IsZip h z TI TO .ellipsis:=i.extBut _ _ D.TOz.symm (j.extBut _ _ D.i2z.symm (d.extBut _ _ D.TOz.symm (g.extBut _ _ D.i1z.symm O)))
 have ac:∀c o,c≠z->c≠TO->c≠i1->c≠i2->s.heap.get? c=some o->h.get? c=some o:=λc o R c2 c3 c4 e=>
  i.extBut _ _ c2 (j.extBut _ _ c4 (d.extBut _ _ c2 (g.extBut _ _ c3 (l.extBut _ _ R e))))
 have an:eI b1 h i1 l1 (k+1):=a5.1.at λo e=>i.extBut _ o D.TOi1.symm (j.extBut _ o D.i12 (d.extBut _ o D.TOi1.symm e));have am:eI b2 h i2 l2 (k+1):=a4.1.at λo e=>i.extBut _ o D.TOi2.symm e;have C:z<h.objs.size:=oD U;show wpAny _ _ (Builtin.SmallTypes.ownedTupleHandOut (.ref z) (.ref h.objs.size) >>= _) _ _ _;refine cB ?_;unfold Builtin.SmallTypes.ownedTupleHandOut;have a6:IsZip (h.push { cls:=.type "tuple",data:=.seq #[J,T] }) z TI TO .ellipsis:=dL _ U;refine cB (NE a6 (by simp) λg7 M r=>?_)
 replace M:IsZip g7 z TI TO (rawInt h.objs.size):=M
 refine NE M (by simp) λS B q=>?_
 replace B:IsZip S z TI TO (rawInt h.objs.size):=B
 replace r:Heap.SameBut z (h.push { cls:=.type "tuple",data:=.seq #[J,T] }) g7:=r
 replace q:Heap.SameBut z g7 S:=q
 have up:∀c o,c≠z->h.get? c=some o->S.get? c=some o:=λc o R e=>q.extBut _ _ R (r.extBut _ _ R (dL _ e));have a2:IsPair S h.objs.size J T:=q.extBut _ _ (IR C) (r.extBut _ _ (IR C) (ro _ rfl));have G:S.objs.size=h.objs.size+1:=by rw[q.1,r.1,AT]
 rw[a1] at B a2 G;refine hH ⟨_,rfl,?_⟩;show Q (.ref h.objs.size) _;rw[a1];exact hQ S a3 B (up _ _ D.TOz p) (an.at λo e=>up _ o D.i1z e) (am.at λo e=>up _ o D.i2z e) a2 G λc o R c2 c3 c4 e=>up c o R (ac c o R c2 c3 c4 e)
theorem Bp{Q:Fin->Shared->Prop}(U:A.handled=none)(D:ZipApart z TI TO i1 i2 l1 l2)
  (C:IsZip s.heap z TI TO .none) (a0:IsPair s.heap TI (.ref i1) (.ref i2)) (Y:IsPair s.heap TO a b)
  (h1:eI b1 s.heap i1 l1 k) (h2:eI b2 s.heap i2 l2 k) (H:kK b1 s.heap l1 xs) (S:kK b2 s.heap l2 ys) (I:k=xs.size\/(k<xs.size/\k=ys.size))
  (hE:∀h' tk e,(∀c o,c≠z->c≠TO->c≠i1->c≠i2->s.heap.get? c=some o->h'.get? c=some o)->(∃o,h'.get? e=some o/\o.cls=.type "StopIteration")->E (.ref e) { s with heap:=h',toks:=tk }) :
  wpAny (model prog w) A (Builtin.«zip.__next__» ⟨[.ref z],[]⟩) Q E s:=by
 show wpAny _ _ (field (.ref z) 2 >>= _) _ _ _;refine cB (v3 C rfl (x:=.bool false) rfl ?_);show wpAny _ _ (field (.ref z) 3 >>= _) _ _ _;refine cB (v3 C rfl (x:=.ref TI) rfl ?_);refine cB (Do a0 rfl ?_);show wpAny _ _ (Builtin.SmallTypes.ownedTupleIsFree (.ref z) >>= _) _ _ _;refine cB ?_;unfold Builtin.SmallTypes.ownedTupleIsFree;refine cB (v3 C rfl (x:=.none) rfl (hH ?_));simp only[OB];refine cB (PP ?_);refine cB (v3 C rfl (x:=.ref TO) rfl ?_);refine cB (NE C (by simp) λg1 l h=>?_)
 replace l:IsZip g1 z TI TO .ellipsis:=l
 refine cB ?_;simp only[List.zipIdx_cons,List.zipIdx_nil,PV,List.forIn_nil];refine cB (cB (Pf ?_));show wpAny _ _ (Builtin.SmallTypes.nextOf (.ref i1) >>= _) _ _ _;rcases I with T | ⟨kx,T⟩
 ·subst T;refine cB ((dg b1 U i1 l1 D.l1i1 xs).done _ _ _ ⟨h1.at λo e=>h.extBut _ o D.i1z e,H.at λo e=>h.extBut _ o D.l1z e⟩ λJ e d X=>?_);obtain⟨R,i,j⟩:=X;have B:IsZip J z TI TO .ellipsis:=d _ _ D.i1z.symm l;have u:e≠z:=λq=>by subst q;rw[B] at i;cases i;simp at j
  exact NE B (by simp) λO _ g=>hE O _ e (λc o M _ c3 _ q=>g.extBut _ _ M (d _ _ c3 (h.extBut _ _ M q))) ⟨R,g.extBut _ _ u i,j⟩
 ·subst T;refine cB ((dg b1 U i1 l1 D.l1i1 xs).item _ _ _ _ kx ⟨h1.at λo e=>h.extBut _ o D.i1z e,H.at λo e=>h.extBut _ o D.l1z e⟩ λx' J a2 a4 a3 d=>hH ?_)
  replace d:Heap.SameBut i1 g1 J:=d
  have r:IsPair J TO a b:=d.extBut _ _ D.TOi1 (h.extBut _ _ D.TOz Y);refine cB (Do r rfl ?_);refine cB (Pq r λO a1 g=>?_)
  replace g:Heap.SameBut TO J O:=g
  refine cB (wpAny_letGo (hH ?_));refine cB (cB (Pf ?_));show wpAny _ _ (Builtin.SmallTypes.nextOf (.ref i2) >>= _) _ _ _;refine cB ((dg b2 U i2 l2 D.l2i2 ys).done _ _ _ ⟨h2.at λo e=>g.extBut _ o D.TOi2.symm (d.extBut _ o D.i12.symm (h.extBut _ o D.i2z e)),S.at λo e=>g.extBut _ o D.l2TO (d.extBut _ o D.l2i1 (h.extBut _ o D.l2z e))⟩ λg4 e p X=>?_)
  replace p:Heap.ExtBut i2 O g4:=p
  obtain⟨R,i,j⟩:=X;have v:IsZip g4 z TI TO .ellipsis:=p _ _ D.i2z.symm (g.extBut _ _ D.TOz.symm (d.extBut _ _ D.i1z.symm l));have u:e≠z:=λq=>by subst q;rw[v] at i;cases i;simp at j
  exact NE v (by simp) λg5 _ G=>hE g5 _ e (λc o M c2 c3 c4 q=>G.extBut _ _ M (p _ _ c4 (g.extBut _ _ c2 (d.extBut _ _ c3 (h.extBut _ _ M q))))) ⟨R,G.extBut _ _ u i,j⟩
theorem dC{Q:QQ->Shared->Prop}(q:A.handled=none)(D:ZipApart z TI TO i1 i2 l1 l2)
  (i:IsZip s.heap z TI TO .none) (h:IsPair s.heap TI (.ref i1) (.ref i2)) (g:IsPair s.heap TO a b)
  (v:eI b1 s.heap i1 l1 k) (u:eI b2 s.heap i2 l2 k) (e:kK b1 s.heap l1 xs) (d:kK b2 s.heap l2 ys) (p:xs[k]?=some x) (l:ys[k]?=some y)
  (r:∀h' tk,IsZip h' z TI TO (rawInt s.heap.objs.size)->IsPair h' TO x y->eI b1 h' i1 l1 (k+1)->eI b2 h' i2 l2 (k+1)->IsPair h' s.heap.objs.size x y->h'.objs.size=s.heap.objs.size+1 ->
   (∀c o,c≠z->c≠TO->c≠i1->c≠i2->s.heap.get? c=some o->h'.get? c=some o)->Q (some (.ref s.heap.objs.size)) { s with heap:=h',toks:=tk }) :
  wpAny (model prog w) A (pyNext (.ref z)) Q E s:=by
 have j:s.TypeIs (.ref z) "zip":=⟨_,i,rfl⟩
 unfold pyNext
 exact cB (OE (wS (name:=Str.ofString "__next__") j Pn (Da Pn j F.entry_zip_next
   (xR q D i h g v u e d p l λh' tk M J I H G C B=>hH (r h' tk M J I H G C B)) (F.args_zip_next_1 _))))
theorem ff{Q:QQ->Shared->Prop}(u:A.handled=none)(D:ZipApart z TI TO i1 i2 l1 l2)
  (l:IsZip s.heap z TI TO .none) (j:IsPair s.heap TI (.ref i1) (.ref i2)) (i:IsPair s.heap TO a b)
  (H:eI b1 s.heap i1 l1 k) (G:eI b2 s.heap i2 l2 k) (h:kK b1 s.heap l1 xs) (g:kK b2 s.heap l2 ys) (d:k=xs.size\/(k<xs.size/\k=ys.size))
  (C:∀h' tk,(∀c o,c≠z->c≠TO->c≠i1->c≠i2->s.heap.get? c=some o->h'.get? c=some o)->Q none { s with heap:=h',toks:=tk }):wpAny (model prog w) A (pyNext (.ref z)) Q E s:=by
 have p:s.TypeIs (.ref z) "zip":=⟨_,l,rfl⟩
 unfold pyNext
 refine cB (OE (wS (name:=Str.ofString "__next__") p Pn (Da Pn p F.entry_zip_next
  (Bp u D l j i H G h g d λh' tk e r v=>?_) (F.args_zip_next_1 _))))
 obtain⟨o,q,B⟩:=v;refine cB (wpAny_isInstance (T:="StopIteration") (b:=true) ⟨o,q,B⟩ isSubtype_stop ?_);exact hH (C _ _ r)
def Mb(b:Bool):String:=if b then "tuple_iterator" else "list_iterator"
abbrev JW(b1:Bool)(h:Heap)(l1:Addr):Heap:=h.push { cls:=.type (Mb b1),data:=.fields #[.ref l1,.int 0 0] }
abbrev Me(b1 b2:Bool)(h:Heap)(l1 l2:Addr):Heap:=(JW b1 h l1).push { cls:=.type (Mb b2),data:=.fields #[.ref l2,.int 0 0] }
abbrev LZ(b1 b2:Bool)(h:Heap)(l1 l2:Addr):Heap:=(Me b1 b2 h l1 l2).push { cls:=.type "tuple",data:=.seq #[.ref h.objs.size,.ref (JW b1 h l1).objs.size] }
abbrev LY(b1 b2:Bool)(h:Heap)(l1 l2:Addr):Heap:=(LZ b1 b2 h l1 l2).push { cls:=.type "tuple",data:=.seq #[.none,.none] }
abbrev Gr(b1 b2:Bool)(h:Heap)(l1 l2:Addr):Heap:=(LY b1 b2 h l1 l2).push { cls:=.type "zip",data:=.fields #[.none,.bool false,.bool false,.ref (Me b1 b2 h l1 l2).objs.size,.ref (LZ b1 b2 h l1 l2).objs.size] }
theorem Cn(b1 b2:Bool)(l1 l2:Addr)(xs ys:QK) :
  Meets (Builtin.«zip.__new__» ⟨[.type "zip",.ref l1,.ref l2],[]⟩) (λ_ R s=>kK b1 s.heap l1 xs/\kK b2 s.heap l2 ys /\
   R (.ok (.ret (.ref (LY b1 b2 s.heap l1 l2).objs.size))) { s with heap:=Gr b1 b2 s.heap l1 l2 }):=
 .of_wp λprog w A R s h=>by
  obtain⟨l,g,d,tk,os⟩:=s;obtain⟨p,q,h⟩:=h;have r:=sub_zip;have j:kK b2 (JW b1 l l1) l2 ys:=q.at λo e=>dL _ e;cases b1<;>cases b2
  ·have i:Heap.IsList (Shared.heap ⟨l,g,d,tk,os⟩) l1 xs:=p;have c:Heap.IsList (Shared.heap ⟨l.push { cls:=.type "list_iterator",data:=.fields #[.ref l1,.int 0 0] },g,d,tk,os⟩) l2 ys:=j
   wp_walk using wpAny_pyIter_list i,wpAny_pyIter_list c
   exact⟨_,rfl,h⟩
  ·have i:Heap.IsList (Shared.heap ⟨l,g,d,tk,os⟩) l1 xs:=p;have c:Heap.IsTuple (Shared.heap ⟨l.push { cls:=.type "list_iterator",data:=.fields #[.ref l1,.int 0 0] },g,d,tk,os⟩) l2 ys:=j
   wp_walk using wpAny_pyIter_list i,wpAny_pyIter_tuple c
   exact⟨_,rfl,h⟩
  ·have i:Heap.IsTuple (Shared.heap ⟨l,g,d,tk,os⟩) l1 xs:=p;have c:Heap.IsList (Shared.heap ⟨l.push { cls:=.type "tuple_iterator",data:=.fields #[.ref l1,.int 0 0] },g,d,tk,os⟩) l2 ys:=j
   wp_walk using wpAny_pyIter_tuple i,wpAny_pyIter_list c
   exact⟨_,rfl,h⟩
  ·have i:Heap.IsTuple (Shared.heap ⟨l,g,d,tk,os⟩) l1 xs:=p;have c:Heap.IsTuple (Shared.heap ⟨l.push { cls:=.type "tuple_iterator",data:=.fields #[.ref l1,.int 0 0] },g,d,tk,os⟩) l2 ys:=j
   wp_walk using wpAny_pyIter_tuple i,wpAny_pyIter_tuple c
   exact⟨_,rfl,h⟩
theorem xU{Q:QN}(i:kK b1 s.heap l1 xs)(g:kK b2 s.heap l2 ys)
  (h:∀h',IsZip h' (s.heap.objs.size+4) (s.heap.objs.size+2) (s.heap.objs.size+3) .none->IsPair h' (s.heap.objs.size+2) (.ref s.heap.objs.size) (.ref (s.heap.objs.size+1)) ->
   IsPair h' (s.heap.objs.size+3) .none .none->eI b1 h' s.heap.objs.size l1 0->eI b2 h' (s.heap.objs.size+1) l2 0->h'.objs.size=s.heap.objs.size+5 ->
   (∀c o,s.heap.get? c=some o->h'.get? c=some o)->Q (.ref (s.heap.objs.size+4)) { s with heap:=h' }) :
  wpAny (model prog w) A (call (.type "zip") [.ref l1,.ref l2]) Q E s:=by
 refine callType_new F.called_zip (by decide) (F.typeCall_zip_2 _ _) (F.newCall_zip_2 _ _) (λobj=>F.args_object_init_3 obj _ _) F.entry_zip_new (Cn b1 b2 l1 l2 xs ys) ⟨i,g,?_⟩;have z1:(JW b1 s.heap l1).objs.size=s.heap.objs.size+1:=AT ..;have z2:(Me b1 b2 s.heap l1 l2).objs.size=s.heap.objs.size+2:=by rw[AT,z1]
 have z3:(LZ b1 b2 s.heap l1 l2).objs.size=s.heap.objs.size+3:=by rw[AT,z2]
 have z4:(LY b1 b2 s.heap l1 l2).objs.size=s.heap.objs.size+4:=by rw[AT,z3]
 have z5:(Gr b1 b2 s.heap l1 l2).objs.size=s.heap.objs.size+5:=by rw[AT,z4]
 have j:(Gr b1 b2 s.heap l1 l2).get? (LY b1 b2 s.heap l1 l2).objs.size=some _:=ro _ rfl;have l:(Gr b1 b2 s.heap l1 l2).get? (LZ b1 b2 s.heap l1 l2).objs.size=some _:=dL _ (ro _ rfl);have p:(Gr b1 b2 s.heap l1 l2).get? (Me b1 b2 s.heap l1 l2).objs.size=some _:=dL _ (dL _ (ro _ rfl));have r:(Gr b1 b2 s.heap l1 l2).get? (JW b1 s.heap l1).objs.size=some _:=dL _ (dL _ (dL _ (ro _ rfl)));have g1:(Gr b1 b2 s.heap l1 l2).get? s.heap.objs.size=some _:=dL _ (dL _ (dL _ (dL _ (ro _ rfl))))
 have e:eI b1 (Gr b1 b2 s.heap l1 l2) s.heap.objs.size l1 0:=by
  cases b1<;>exact⟨_,g1,rfl,rfl⟩
 have d:eI b2 (Gr b1 b2 s.heap l1 l2) (JW b1 s.heap l1).objs.size l2 0:=by
  cases b2<;>exact⟨_,r,rfl,rfl⟩
 show _/\_;rw[z2,z3,z4] at j;rw[z1,z2] at p;rw[z3] at l;rw[z1] at d;rw[z4]
 exact⟨⟨_,j,rfl⟩,h _ j p l e d z5 λc o q=>
  dL _ (dL _ (dL _ (dL _ (dL _ q))))⟩
end
def NL(K:QP)(d c:Bool)(g e:Addr):It:=
  ⟨λi H=>∃b a x y,yF d K H g b/\yF c K H e a/\b[i]?=some x/\a[i]?=some y,
   λi H v h=>∃p x y,v=.ref p/\H p=none/\h=upd H p (.tup [x,y])/\(∀b,yF d K H g b->b[i]?=some x)/\∀a,yF c K H e a->a[i]?=some y,
   λi H=>∃b a,yF d K H g b/\yF c K H e a/\i=min b.length a.length⟩
theorem Dq{P:Program}{w:World}{K:QP}{U:QH}{x1:Nat}{tp:Pos}(b1 b2:Bool)(a1 a2 z TI TO C B:Addr)(D:ZipApart z TI TO C B a1 a2) :
  Turn P w K (.Tuple U x1 tp) (NL K b1 b2 a1 a2) [z,TI,TO,C,B] z (λi h=>IsZip h z TI TO .none/\IsPair h TI (.ref C) (.ref B)/\(∃a b,IsPair h TO a b)/\eI b1 h C a1 i/\eI b2 h B a2 i) where
 mem:=by simp
 obj:=λi h st c d=>by
  obtain⟨J,j,⟨a,b,p⟩,O,M⟩:=st;simp only[List.mem_cons,BB,or_false] at d;rcases d with rfl | rfl | rfl | rfl | rfl
  ·exact⟨_,J,λv q=>by
    have Q:Data.fields _=Data.cell v:=q;cases Q⟩
  ·exact⟨_,j,λv q=>by
    have Q:Data.seq _ _=Data.cell v:=q;cases Q⟩
  ·exact⟨_,p,λv q=>by
    have Q:Data.seq _ _=Data.cell v:=q;cases Q⟩
  ·exact O.obj
  ·exact M.obj
 keep:=λi h h' st k=>by
  obtain⟨J,j,⟨a,b,p⟩,O,M⟩:=st;exact⟨k z (by simp) _ J,k TI (by simp) _ j,⟨a,b,k TO (by simp) _ p⟩,O.at λo e=>k C (by simp) o e,M.at λo e=>k B (by simp) o e⟩
 item:=by
  intro X hP hw hK d i r s σ H E I hf st hg;subst hP hw hK;obtain⟨J,j,⟨a,b,p⟩,O,M⟩:=st;obtain⟨xs,ys,x,y,q1,Y,hx,hy⟩:=hg;obtain⟨S,r1,p1,_⟩:=I.T2 q1;obtain⟨R,r2,p2,_⟩:=I.T2 Y;obtain⟨u,hu,ru⟩:=r1.get hx;obtain⟨v,hv,rv⟩:=r2.get hy;refine dC (I.ok.hd d) D J j p O M p1 p2 (x:=u) (y:=v) (by simpa using hu) (by simpa using hv) λh' tk a3 T a7 a6 hT ab hk=>?_;refine⟨_,rfl,wpAny_letOwnedTupleGo_zip a3 λg a0 l=>?_⟩
  replace l:Heap.SameBut z h' g:=l
  have G:z<s.heap.objs.size:=oD J;have a4:IsTup g s.heap.objs.size [u,v].toArray:=⟨_,(l.2 _ (IR G)).trans hT,rfl,_,rfl⟩
  have I2:Inv X r σ (upd H s.heap.objs.size (.tup [x,y])) { s with heap:=g,toks:=tk }:=by
   refine I.kf (ch:=[z,TI,TO,C,B]) hf (λc o d q=>?_) (hI _) (.cons ru (.cons rv .nil)) (by show 2<=sizeLine;decide) a4;have c1:c≠z:=λe=>d (by simp[e]);have c2:c≠TO:=λe=>d (by simp[e]);have c3:c≠C:=λe=>d (by simp[e]);have c4:c≠B:=λe=>d (by simp[e]);exact(l.2 c c1).trans (hk c o c1 c2 c3 c4 q)
  refine⟨.ref s.heap.objs.size,_,I2,rfl,⟨s.heap.objs.size,x,y,rfl,I.fresh,rfl,λzs hy=>by rw[I.pk hy q1];exact hx,λzs hq=>by rw[I.pk hq Y];exact hy⟩,
   ⟨a0,l.extBut _ _ D.TIz (hk _ _ D.TIz D.TITO D.TIi1 D.TIi2 j),⟨_,_,l.extBut _ _ D.TOz T⟩,a7.at λo e=>l.extBut _ o D.i1z e,a6.at λo e=>l.extBut _ o D.i2z e⟩,λc d=>?_⟩
  have a5:c<s.heap.objs.size:=by
   simp only[List.mem_cons,BB,or_false] at d;rcases d with rfl | rfl | rfl | rfl | rfl
   ·exact G
   ·exact oD j
   ·exact oD p
   ·exact oD O.obj.choose_spec.1
   ·exact oD M.obj.choose_spec.1
  rw[i4 (sx a5)];exact(hf c d).1
 done:=by
  intro X hP hw hK d i r s σ H E I hf st hg;subst hP hw hK;obtain⟨J,j,⟨a,b,p⟩,O,M⟩:=st;obtain⟨xs,ys,q1,Y,hx⟩:=hg;obtain⟨S,r1,p1,_⟩:=I.T2 q1;obtain⟨R,r2,p2,_⟩:=I.T2 Y;have l1:=r1.length;have l2:=r2.length;refine ff (I.ok.hd d) D J j p O M p1 p2 (by simp only[qz];omega) λh' tk hk=>⟨rfl,I.va (ch:=[z,TI,TO,C,B]) hf λc o d q=>?_⟩
  exact hk c o (λe=>d (by simp[e])) (λe=>d (by simp[e])) (λe=>d (by simp[e])) (λe=>d (by simp[e])) q
 self:=λ_ _ _ _ _ st h=>wpAny_pyIter_zip st.1 h
def Li(K:QP)(e d:Bool)(j:TA):TI:=λg H R=>j g H λvs c=>∃b a,vs=[.ref b,.ref a]/\(∃i,yF e K c b i)/\(∃h,yF d K c a h)/\R (NL K e d b a) c
theorem Iw (b1 Y:Bool) {X:Cx} {o:QH} {x1:Nat} {tp:Pos} {a b:Expr} {E:TA} {p i:Pos} (hg:Gl X "zip") (hm:X.mg "zip"=none) (ha:PA X [a,b] E) (hs:starEach [a,b] X.env=[(false,eval a X.env),(false,eval b X.env)]:=by rfl) (j:starEach [b] X.env=[(false,eval b X.env)]:=by rfl) :
  PI X (.Tuple o x1 tp) (.Call (.Name "zip" p) [a,b] [] i) (Li X.K b1 Y E):=by
 refine .of ?_;intro g s C H R I h;refine Call_ (dR I hg hm boot_zip (L1 (B4 (ha i g s C H _ I h) λus d ⟨vs,H1,r,r1,q1⟩=>?_) (by rw[hs,j]) (by rw[j];rfl)));obtain⟨O,M,e,⟨xs,y⟩,⟨ys,x⟩,q⟩:=q1;subst e;obtain⟨u1,u2,rfl,v,u⟩:=vals2 r1;cases v;cases u;obtain⟨S,a1,J,_⟩:=r.T2 y;obtain⟨Q,a0,G,_⟩:=r.T2 x;refine xU J G λh' T B z h1 h2 a2 hk=>wpAny_pyIter_zip T ?_;have I2:Inv X g C H1 { d with heap:=h' }:=r.kept (t':=d.toks) hk;have D:ZipApart (d.heap.objs.size+4) (d.heap.objs.size+2) (d.heap.objs.size+3) d.heap.objs.size (d.heap.objs.size+1) O M:=zipApart_new J.lt G.lt;refine⟨d.heap.objs.size+4,[d.heap.objs.size+4,d.heap.objs.size+2,d.heap.objs.size+3,d.heap.objs.size,d.heap.objs.size+1],_,_,H1,rfl,I2,Dq b1 Y O M _ _ _ _ _ D,⟨T,B,⟨_,_,z⟩,h1,h2⟩,λc U=>?_,q⟩
 have l:d.heap.objs.size<=c:=by
  simp only[List.mem_cons,BB,or_false] at U;rcases U with q | q | q | q | q<;>rw[q]<;>first | exact hI _ | exact PD _ _
 exact r.jd l (r.hok.fresh l)
end L2
namespace HT
open PySem PySem.Spec PyProof.Rows
section
variable{prog:Program}{w:World}{A:Around}{E:QN}{s:Shared}
theorem zg{t b:Addr}{a:QG}{Q:QN}(o:IsTup s.heap t ([]:QG).toArray)(p:IsTup s.heap b a.toArray)(h:Q (.ref b) s) :
  wpAny (model prog w) A (binaryOp .Add (.ref t) (.ref b)) Q E s:=by
 obtain⟨⟨v,d1,r,l⟩,g1,i,n1,e⟩:=id o;obtain⟨⟨u,d2,q,j⟩,c,g,n2,d⟩:=id p;simp only at i e g d;subst i e g d;exact concat_meets ⟨_,g1,rfl⟩ ⟨_,c,rfl⟩ noFill_tuple_add seq_tuple_add OX OQ (OM _ _) (tuple_addW0 t b _ a.toArray n1 n2 d1 d2 l j rfl) ⟨g1,c,h⟩
theorem tO{t c:Addr}{items:QK}{j i:Value}{lo b:Option Int}{Q:QN}(a:IsTup s.heap t items)(l:s.heap.IsSliceOf c j i .none)(pl:IsPart j lo)(u:IsPart i b)
  (r:D1 items.size 0 lo=0) (q:D1 items.size items.size b=items.size) (h:Q (.ref t) s):wpAny (model prog w) A (getItem (.ref t) (.ref c)) Q E s:=by
 obtain⟨os,d,e,v⟩:=id l;have g:s.TypeIs (.ref c) "slice":=⟨os,d,e⟩
 unfold getItem
 try with_reducible refine u7 ?_
 first | refine cB (hH ?_) | skip
 refine cB (wpAny_sequenceKey a.typeIs (by decide) ?_)
 refine cB (wS (name:=Str.ofString "__getitem__") a.typeIs Gm
  (Da Gm a.typeIs entry_tuple_getitem ?_ (args_tuple_getitem _ _)))
 show wpAny _ _ (Builtin.Tuple.tupleItemsOf (.ref t) >>= _) _ _ s;refine cB (tupleItemsOf_ a ?_);refine cB (Pk g ?_);rw[qq (by decide)];refine cB (V8 l pl u ?_)
 have yes:(((D1 items.size 0 lo:Nat):Int) == 0&&(1:Int) == 1&&(D1 items.size items.size b-D1 items.size 0 lo) == items.size)=true:=by
  rw[r,q];simp
 show wpAny _ _ (if (((D1 items.size 0 lo:Nat):Int) == 0&&(1:Int) == 1&&(D1 items.size items.size b-D1 items.size 0 lo) == items.size)=true then _ else _) _ _ s;rw[qq yes];obtain⟨⟨z,d1,x,y⟩,g1,p,n1,o⟩:=id a;simp only at p o;subst p o
 wp_walk using wpAny_loadPart' g1
 exact⟨_,rfl,hH h⟩
end
end HT
namespace L2
open PySem PySem.Spec PyProof.Rows
section
variable{X:Cx}{pos:Pos}
def Am:R2:=λx y H Q=>∃a b d c,x=.ref a/\y=.ref b/\H a=some (.tup d)/\H b=some (.tup c)/\d.length+c.length<=sizeLine/\∀r e,i5 H e->e r=some (.tup (d++c))->Q (.ref r) e
theorem EL:L8 X (binaryOp .Add) Am:=by
 intro c s o H x y v u Q I j i h;obtain⟨a,b,g,r,rfl,rfl,e,d,J,q⟩:=h
 by_cases l:g=[]
 ·subst l;cases j;cases i;obtain⟨G,B,E,_⟩:=I.tuple (T5.of e);obtain⟨R,O,C,_⟩:=I.tuple (T5.of d);obtain rfl:G=[]:=B.fW.mpr rfl;exact HT.zg E C ⟨.ref b,H,I,rfl,q b H (i5.refl _) d⟩
 ·refine DV c s o H _ _ v u Q I j i ⟨a,b,g,r,rfl,rfl,T5.of e,T5.of d,l,J,λz=>q a H (i5.refl _) (by rw[z,sK];exact e),λz p M=>q p _ (i5.j4 M) g9⟩
def MY:V->Option Int->Option Int->Hp->VK->Prop:=λx lo d H Q=>∃a c,x=.ref a/\H a=some (.tup c)/\∀r b,i5 H b->b r=some (.tup (fm c lo d))->Q (.ref r) b
theorem yY:GD X MY:=by
 intro d s y H x v B z lo u C Q I i o pl j h;obtain⟨a,c,rfl,g,q⟩:=h
 by_cases hw:HT.D1 c.length 0 lo=0/\HT.D1 c.length c.length u=c.length
 ·cases i;obtain⟨e,r,l,G⟩:=I.tuple (T5.of g);have b:e.toArray.size=c.length:=by rw[qz];exact r.length.symm
  refine⟨"tuple",_,PyProof.Rows.slot_tuple_getitem.lookup,l.typeIs,?_⟩;refine HT.tO l o pl j (by rw[b];exact hw.1) (by rw[b];exact hw.2) ⟨.ref a,H,I,rfl,q a H (i5.refl _) ?_⟩;rw[g];unfold fm;rw[hw.1,hw.2];simp
 ·exact Hy d s y H _ v B z lo u C Q I i o pl j ⟨a,c,rfl,T5.of g,hw,λp E=>q p _ (i5.j4 E) g9⟩
end
section
variable{X:Cx}
def isStar:Expr->Bool
 | .Starred _ _=>true
 | _=>false
theorem R9{e:Expr}{a:QH}{env:Env}(h:isStar e=false):starEach (e::a) env=(false,eval e env)::starEach a env:=by
 cases e<;>first | rfl | cases h
theorem dA{e:Expr}{a:QH}{te:TE}{t:TA}(d:PE X e te)(c:PA X a t)(b:isStar e=false):PA X (e::a) (Ha te t):=aQ d c (R9 b)
end
def qP(b:Addr)(fs:List (Str×V)):HO:=.ext λh=>∃a,h.Ns1 b a/\(∀f,ak (fs.lookup f) (a f))/\Within a (fs.map (·.1))
theorem zH{P:Program}{w:World}{H:Hp}{h:Heap}{a:Addr}{fs:List (Str×V)}{mA:QL}(n:h.Ns1 a mA)(r:∀f,ak (fs.lookup f) (mA f))(b:Within mA (fs.map (·.1))):u3 P w H h a (qP a fs):=by
 refine⟨⟨mA,n,r,b⟩,?_,λi g ⟨m,n1,d,c⟩ k=>⟨m,n1.at k,d,c⟩⟩;obtain⟨o,_,_,e,_⟩:=n;exact⟨o,e⟩
end L2
namespace L3
open PySem PySem.Spec L2
inductive D where
 | p7 | bl (b:Bool) | int (i:Int) | str (x:Str)
 | tup (xs:List D) | lst (xs:List D) | dic (kvs:List (Key×D)) | ty (n:String) | adr (a:Addr) | fz (xs:List D) | st (ks:List Key) | xc (e dx:Addr) (fs:List (Str×V)) | dn (kvs:List (sv×Int)) | ob (u:HO)
mutual
def w8:D->Bool
 | .p7=>true
 | .bl _=>true
 | .int _=>true
 | .str _=>true
 | .tup xs=>l9 xs
 | .lst _=>false
 | .dic _=>false
 | .st _=>false
 | .dn _=>false
 | .xc _ _ _=>false
 | .ty _=>true
 | .adr _=>true
 | .ob _=>true
 | .fz xs=>l9 xs
def l9:List D->Bool
 | []=>true
 | x::xs=>w8 x&&l9 xs
end
def HR(K:QP)(H:Hp)(a:Addr)(xs:List V):Prop:=
 (∃o,H a=some (.frz o (.lst xs))) \/
  ∃(o:Obj) (b:QK) (n:Nat),K.lookup a=some o/\o.cls=.type "list" /\ o.dict=none/\o.data=.seq b n/\b.size<=sizeLine/\Vals xs b.toList
theorem HR.sq{K:QP}{H:Hp}{a:Addr}{xs:List V}(h:HR K H a xs):P7 K H a xs:=by
 rcases h with⟨o,h⟩ | h
 ·exact .inl (.inr ⟨o,h⟩)
 ·exact .inr h
mutual
inductive Rep(K:QP)(H:Hp):V->D->QE->Prop
 | p7:Rep K H .p7 .p7 []
 | bl {b:Bool}:Rep K H (.bl b) (.bl b) []
 | int {i:Int}:Rep K H (.int i) (.int i) []
 | str {x:Str}:Rep K H (.str x) (.str x) []
 | tup {p:Addr} {vs:List V} {ds:List D} {A:QE}:H p=some (.tup vs)->j8 K H vs ds A->Rep K H (.ref p) (.tup ds) A
 | lst {p:Addr} {vs:List V} {ds:List D} {A:QE}:H p=some (.lst vs)->j8 K H vs ds A->Rep K H (.ref p) (.lst ds) (p::A)
 | frz {p:Addr} {vs:List V} {ds:List D} {A:QE}:HR K H p vs->j8 K H vs ds A->Rep K H (.ref p) (.fz ds) A
 | dic {p:Addr} {kvs:List (Key×V)} {kds:List (Key×D)} {A:QE} {ep:Nat}:H p=some (.dE kvs ep)->y3 K H kvs kds A->Rep K H (.ref p) (.dic kds) (p::A)
 | st {p:Addr} {S:Key->Bool} {n:Nat} {ks:List Key}:H p=some (.set S n)->(∀k:Key,S k=ks.any λz=>decide (z=k))->Rep K H (.ref p) (.st ks) [p]
 | xc {e dx:Addr} {fs:List (Str×V)}:H dx=some (qP dx fs)->Rep K H (.ref e) (.xc e dx fs) [dx]
 | dn {p:Addr} {kvs:List (sv×Int)}:H p=some (.dN (kvs.map λq=>(q.1,V.int q.2)))->Rep K H (.ref p) (.dn kvs) [p]
 | ty {n:String}:Rep K H (.ty n) (.ty n) []
 | adr {p:Addr}:Rep K H (.ref p) (.adr p) []
 | ob {p:Addr} {o:Obj} {u:HO}:H p=some (.frz o u)->Rep K H (.ref p) (.ob u) []
inductive j8(K:QP)(H:Hp):List V->List D->QE->Prop
 | nil:j8 K H [] [] []
 | cons {v:V} {d:D} {vs:List V} {ds:List D} {A B:QE}:Rep K H v d A->j8 K H vs ds B->j8 K H (v::vs) (d::ds) (A++B)
inductive y3(K:QP)(H:Hp):List (Key×V)->List (Key×D)->QE->Prop
 | nil:y3 K H [] [] []
 | cons {k:Key} {v:V} {d:D} {vs:List (Key×V)} {ds:List (Key×D)} {A B:QE}:Rep K H v d A->y3 K H vs ds B->y3 K H ((k,v)::vs) ((k,d)::ds) (A++B)
end
structure W3(H H':Hp):Prop where
 D5:∀b xs,H b=some (.tup xs)->H' b=some (.tup xs)
 frzs:∀b o u,H b=some (.frz o u)->H' b=some (.frz o u)
 dom:∀b,H' b=none->H b=none
structure Tf(H H':Hp):Prop where
 D5:∀b xs,H b=some (.tup xs)->H' b=some (.tup xs)
 frzs:∀b o u,H b=some (.frz o u)->H' b=some (.frz o u)
theorem W3.tf{H a:Hp}(s:W3 H a):Tf H a:=⟨s.D5,s.frzs⟩
theorem W3.refl(H:Hp):W3 H H:=⟨λ_ _ h=>h,λ_ _ _ h=>h,λ_ h=>h⟩
theorem W3.trans{H e d:Hp}(a:W3 H e)(b:W3 e d):W3 H d:=⟨λc x h=>b.D5 c x (a.D5 c x h),λc o u h=>b.frzs c o u (a.frzs c o u h),λc h=>a.dom c (b.dom c h)⟩
theorem W3.of{H a:Hp}(s:i5 H a):W3 H a:=⟨λb _ h=>s b _ h,λb _ _ h=>s b _ h,λb h=>s.free h⟩
theorem Tf.Mp{K:QP}{H b:Hp}(s:Tf H b){a:Addr}{xs:List V}(h:HR K H a xs):HR K b a xs:=by
 rcases h with⟨o,h⟩ | h
 ·exact .inl ⟨o,s.frzs _ _ _ h⟩
 ·exact .inr h
section
variable{K:QP}{H H':Hp}
theorem j8.ind{P:List V->List D->QE->Prop}(g:P [] [] [])(e:∀{v d A vs ds B},Rep K H v d A->j8 K H vs ds B->P vs ds B->P (v::vs) (d::ds) (A++B)){vs:List V}{ds:List D}{A:QE}(r:j8 K H vs ds A):P vs ds A:=by
 refine j8.rec (motive_1:=λ_ _ _ _=>True) (motive_2:=λa b c _=>P a b c) (motive_3:=λ_ _ _ _=>True) ?_ ?_ ?_ ?_ ?_ ?_ ?_ ?_ ?_ ?_ ?_ ?_ ?_ ?_ g (λh r _ p=>e h r p) ?_ ?_ r<;>intros<;>trivial
theorem y3.ind{P:List (Key×V)->List (Key×D)->QE->Prop}(g:P [] [] [])(e:∀{k v d A vs ds B},Rep K H v d A->y3 K H vs ds B->P vs ds B->P ((k,v)::vs) ((k,d)::ds) (A++B)){vs:List (Key×V)}{ds:List (Key×D)}{A:QE}(r:y3 K H vs ds A):P vs ds A:=by
 refine y3.rec (motive_1:=λ_ _ _ _=>True) (motive_2:=λ_ _ _ _=>True) (motive_3:=λa b c _=>P a b c) ?_ ?_ ?_ ?_ ?_ ?_ ?_ ?_ ?_ ?_ ?_ ?_ ?_ ?_ ?_ ?_ g (λh r _ p=>e h r p) r<;>intros<;>trivial
theorem Rep.bU(s:Tf H H'){v:V}{d:D}{A:QE}(r:Rep K H v d A):(∀a∈A,H' a=H a)->Rep K H' v d A:=
 Rep.rec (motive_1:=λv d A _=>(∀a∈A,H' a=H a)->Rep K H' v d A) (motive_2:=λv d A _=>(∀a∈A,H' a=H a)->j8 K H' v d A) (motive_3:=λv d A _=>(∀a∈A,H' a=H a)->y3 K H' v d A)
  (λ_=>.p7) (λ_=>.bl) (λ_=>.int) (λ_=>.str) (λh _ i e=>.tup (s.D5 _ _ h) (i e)) (λh _ i e=>.lst ((e _ pu).trans h) (i λa b=>e a (ol _ b))) (λh _ i e=>.frz (s.Mp h) (i e))
  (λh _ i e=>.dic ((e _ pu).trans h) (i λa b=>e a (ol _ b))) (λh q e=>.st ((e _ pu).trans h) q) (λh e=>.xc ((e _ pu).trans h)) (λh e=>.dn ((e _ pu).trans h)) (λ_=>.ty) (λ_=>.adr) (λh _=>.ob (s.frzs _ _ _ h))
  (λ_=>.nil) (λ_ _ g c e=>.cons (g λa b=>e a (sd _ b)) (c λa b=>e a (iL _ b))) (λ_=>.nil) (λ_ _ g c e=>.cons (g λa b=>e a (sd _ b)) (c λa b=>e a (iL _ b))) r
theorem j8.bU(s:Tf H H'){v:List V}{d:List D}{A:QE}(r:j8 K H v d A):(∀a∈A,H' a=H a)->j8 K H' v d A:=
 r.ind (P:=λv d A=>(∀a∈A,H' a=H a)->j8 K H' v d A) (λ_=>.nil) λh _ c e=>.cons (h.bU s λa b=>e a (sd _ b)) (c λa b=>e a (iL _ b))
theorem y3.bU(s:Tf H H'){v:List (Key×V)}{d:List (Key×D)}{A:QE}(r:y3 K H v d A):(∀a∈A,H' a=H a)->y3 K H' v d A:=
 r.ind (P:=λv d A=>(∀a∈A,H' a=H a)->y3 K H' v d A) (λ_=>.nil) λh _ c e=>.cons (h.bU s λa b=>e a (sd _ b)) (c λa b=>e a (iL _ b))
theorem Rep.mono(s:W3 H H'){v:V}{d:D}{A:QE}(r:Rep K H v d A)(h:∀a∈A,H' a=H a):Rep K H' v d A:=r.bU s.tf h
theorem j8.mono(s:W3 H H'){v:List V}{d:List D}{A:QE}(r:j8 K H v d A)(h:∀a∈A,H' a=H a):j8 K H' v d A:=r.bU s.tf h
theorem y3.mono(s:W3 H H'){v:List (Key×V)}{d:List (Key×D)}{A:QE}(r:y3 K H v d A)(h:∀a∈A,H' a=H a):y3 K H' v d A:=r.bU s.tf h
theorem Rep.cR{v:V}{d:D}{A:QE}(r:Rep K H v d A):∀a∈A,cS (H a):=
 Rep.rec (motive_1:=λ_ _ A _=>∀a∈A,cS (H a)) (motive_2:=λ_ _ A _=>∀a∈A,cS (H a)) (motive_3:=λ_ _ A _=>∀a∈A,cS (H a))
  (λa h=>(by cases h)) (λa h=>(by cases h)) (λa h=>(by cases h)) (λa h=>(by cases h)) (λ_ _ i=>i) (λh _ i a b=>(List.mem_cons.mp b).elim (λe=>by rw[e,h];trivial) (i a)) (λ_ _ i=>i) (λh _ i a b=>(List.mem_cons.mp b).elim (λe=>by rw[e,h];trivial) (i a))
  (λh _ a b=>by rw[List.mem_singleton.mp b,h];trivial) (λh a b=>by rw[List.mem_singleton.mp b,h];trivial) (λh a b=>by rw[List.mem_singleton.mp b,h];trivial) (λa h=>(by cases h)) (λa h=>(by cases h)) (λ_ a h=>(by cases h))
  (λa h=>(by cases h)) (λ_ _ i j a b=>(List.mem_append.mp b).elim (i a) (j a)) (λa h=>(by cases h)) (λ_ _ i j a b=>(List.mem_append.mp b).elim (i a) (j a)) r
theorem j8.cR{v:List V}{d:List D}{A:QE}(r:j8 K H v d A):∀a∈A,cS (H a):=
 r.ind (P:=λ_ _ A=>∀a∈A,cS (H a)) (λa h=>(by cases h)) λh _ j a b=>(List.mem_append.mp b).elim (h.cR a) (j a)
theorem y3.cR{v:List (Key×V)}{d:List (Key×D)}{A:QE}(r:y3 K H v d A):∀a∈A,cS (H a):=
 r.ind (P:=λ_ _ A=>∀a∈A,cS (H a)) (λa h=>(by cases h)) λh _ j a b=>(List.mem_append.mp b).elim (h.cR a) (j a)
theorem cS.some{o:Option HO}(h:cS o):∃x,o=Option.some x:=by
 cases o with
 | none=>cases h
 | some x=>exact⟨x,rfl⟩
theorem Rep.same(s:i5 H H'){v:V}{d:D}{A:QE}(r:Rep K H v d A):Rep K H' v d A:=
 r.mono (W3.of s) λa b=>by
  obtain⟨o,e⟩:=cS.some (r.cR a b);rw[e];exact s a o e
theorem j8.same(s:i5 H H'){v:List V}{d:List D}{A:QE}(r:j8 K H v d A):j8 K H' v d A:=
 r.mono (W3.of s) λa b=>by
  obtain⟨o,e⟩:=cS.some (r.cR a b);rw[e];exact s a o e
theorem Rep.M8{v:V}{d:D}{A:QE}(r:Rep K H v d A):w8 d=true->A=[]:=by
 refine Rep.rec (motive_1:=λ_ d A _=>w8 d=true->A=[]) (motive_2:=λ_ d A _=>l9 d=true->A=[]) (motive_3:=λ_ _ _ _=>True)
  (λ_=>rfl) (λ_=>rfl) (λ_=>rfl) (λ_=>rfl) (λ_ _ i e=>i (by simpa[w8] using e)) ?_ (λ_ _ i e=>i (by simpa[w8] using e)) ?_ ?_ ?_ ?_ (λ_=>rfl) (λ_=>rfl) (λ_ _=>rfl) (λ_=>rfl) (λ_ _ i j e=>?_) trivial (λ_ _ _ _=>trivial) r
 case refine_6=>simp[l9] at e;rw[i e.1,j e.2];rfl
 all_goals intros;rename_i e;simp[w8] at e
theorem j8.M8{v:List V}{d:List D}{A:QE}(r:j8 K H v d A):l9 d=true->A=[]:=
 r.ind (P:=λ_ d A=>l9 d=true->A=[]) (λ_=>rfl) λh _ j e=>by
  simp[l9] at e;rw[h.M8 e.1,j e.2];rfl
theorem j8.length{v:List V}{d:List D}{A:QE}(r:j8 K H v d A):v.length=d.length:=r.ind (P:=λv d _=>v.length=d.length) rfl λ_ _ e=>wv (·+1) e
theorem j8.get{vs:List V}{ds:List D}{A:QE}{i:Nat}{d:D}(r:j8 K H vs ds A):ds[i]?=some d->∃v B,vs[i]?=some v/\Rep K H v d B/\B.Sublist A:=by
 revert i
 refine r.ind (P:=λvs ds A=>∀{i:Nat},ds[i]?=some d->∃v B,vs[i]?=some v/\Rep K H v d B/\B.Sublist A) (λ{i} e=>by simp at e) λ{_ _ A _ _ _} h _ a {i} e=>?_
 cases i with
 | zero=>simp at e;subst e;exact⟨_,A,rfl,h,ON _ _⟩
 | succ i=>
  obtain⟨v,B,g,c,b⟩:=a (by simpa using e);exact⟨v,B,by simpa using g,c,b.trans (List.sublist_append_right _ _)⟩
theorem j8.append{vs a:List V}{ds b:List D}{A B:QE}(r:j8 K H vs ds A)(q:j8 K H a b B):j8 K H (vs++a) (ds++b) (A++B):=r.ind (P:=λvs ds A=>j8 K H (vs++a) (ds++b) (A++B)) q λh _ c=>by rw[Fa];exact .cons h c
theorem j8.split{vs:List V}{ds:List D}{A:QE}(n:Nat)(r:j8 K H vs ds A):∃B C,A=B++C/\j8 K H (vs.take n) (ds.take n) B/\j8 K H (vs.drop n) (ds.drop n) C:=by
 revert n
 refine r.ind (P:=λvs ds A=>∀n:Nat,∃B C,A=B++C/\j8 K H (vs.take n) (ds.take n) B/\j8 K H (vs.drop n) (ds.drop n) C) (λn=>⟨[],[],rfl,by rw[List.take_nil,List.take_nil];exact .nil,by rw[List.drop_nil,List.drop_nil];exact .nil⟩) λh r a n=>?_
 cases n with
 | zero=>exact⟨[],_,rfl,.nil,.cons h r⟩
 | succ n=>
  obtain⟨B,C,e,c,b⟩:=a n;exact⟨_++B,C,by rw[e,Fa],.cons h c,b⟩
theorem j8.cut{vs:List V}{ds:List D}{A:QE}(i j:Nat)(r:j8 K H vs ds A):∃B,B.Sublist A/\j8 K H ((vs.drop i).take j) ((ds.drop i).take j) B:=by
 obtain⟨B,C,e,_,b⟩:=r.split i;obtain⟨d,g,c,a,_⟩:=b.split j;exact⟨d,by rw[e,c];exact(ON _ _).trans (OJ _ _),a⟩
theorem j8.set:∀{vs:List V} {ds:List D} {A:QE} {v:V} {d:D} {B:QE} (i:Nat),j8 K H vs ds A->Rep K H v d B->∃C,j8 K H (vs.set i v) (ds.set i d) C/\(∀a∈C,a∈A\/a∈B)/\(A.Nodup->B.Nodup->(∀a∈B,a∉A)->C.Nodup)
 | _,_,_,_,_,_,_,.nil,_=>⟨[],.nil,(λ_ h=>absurd h (by simp)),λ_ _ _=>op⟩
 | _,_,_,_,_,B,0,.cons (A:=p) (B:=o) h r,q=>⟨B++o,.cons q r,λa c=>(List.mem_append.mp c).elim .inr λz=>.inl (iL _ z),λn1 n2 g=>by
   refine List.nodup_append.mpr ⟨n2,(List.nodup_append.mp n1).2.1,λa c b j e=>?_⟩;subst e;exact g a c (iL _ j)⟩
 | _,_,_,_,_,B,i+1,.cons (A:=p) (B:=o) h r,q=>by
  obtain⟨C,x,l,u⟩:=j8.set i r q;refine⟨p++C,.cons h x,λa c=>?_,λn1 n2 g=>?_⟩
  ·rcases List.mem_append.mp c with z | z
   ·exact .inl (sd _ z)
   ·exact(l a z).elim (λy=>.inl (iL _ y)) .inr
  ·have:=List.nodup_append.mp n1;refine List.nodup_append.mpr ⟨this.1,u this.2.1 n2 λa c z=>g a c (iL _ z),λa c b j e=>?_⟩;subst e;rcases l a j with z | z
   ·exact this.2.2 a c a z rfl
   ·exact g a z (sd _ c)
end
inductive Cl where | own | bor | loc | mk (H:Hp)
abbrev Ev:=List (Option D)
structure Ent where
 H₀:Hp
 L:Nat->QE
 vs:List V
 cl:List Cl
 /-- what is frozen meanwhile (a loop's list),and how it stands -/
 Z:Addr->Prop
 Hz:Hp
def Ent.own(G:Ent)(i:Nat):Prop:=G.cl[i]?=some .own
structure Ent.Po(G:Ent):Prop where
 one:∀i,i<G.vs.length->G.own i->i=0
 lk:∀(j:Nat) (H':Hp),G.cl[j]?=some (.mk H')->∀a o,H' a=some o->G.H₀ a=some o/\∀i,i<G.vs.length->G.own i->a∉G.L i
structure E3(K:QP)(G:Ent)(ρ:Ev)(σ:St)(H:Hp)(fa:QO):Prop where
 rep:∀i d,ρ[i]?=some (some d)->∃v,σ[i]?=some (some v)/\Rep K H v d (fa i)
 emp:∀i,(∀d,ρ[i]?≠some (some d))->fa i=[]
 len:ρ.length=σ.length
 nd:∀i,(G.own i\/G.cl[i]?=some .loc)->(fa i).Nodup
 dj:∀i j,i≠j->G.own i->∀a∈fa i,a∉fa j
 par:∀i,i<G.vs.length->G.own i->σ[i]?=some G.vs[i]?
 old:∀i,i<G.vs.length->G.own i->∀a∈fa i,a∈G.L i\/G.H₀ a=none
 new:∀i,(G.cl[i]?=some .loc\/(G.own i/\¬i<G.vs.length))->∀a∈fa i,G.H₀ a=none
 frm:∀a o,G.H₀ a=some o->(∀i,i<G.vs.length->G.own i->a∉G.L i)->H a=some o
 stb:W3 G.H₀ H
 zk:∀a,G.Z a->H a=G.Hz a
 zn:∀a,G.Z a->G.Hz a≠none
 zo:∀i,G.own i->∀a∈fa i,¬G.Z a
 po:G.Po
theorem E3.kept{K:QP}{G:Ent}{c:Ev}{σ:St}{H:Hp}{i:QO}(E:E3 K G c σ H i){j:Nat}{b:Hp}(h:G.cl[j]?=some (.mk b)):i5 b H:=λa o e=>let ⟨g,d⟩:=E.po.lk j b h a o e;E.frm a o g d
section
variable{K:QP}{G:Ent}{ρ:Ev}{σ:St}{H H':Hp}{fa:QO}
theorem E3.cR(E:E3 K G ρ σ H fa)(i:Nat):∀a∈fa i,cS (H a):=λa b=>by
 cases e:ρ[i]? with
 | none=>rw[E.emp i (λd z=>by rw[e] at z;cases z)] at b;cases b
 | some o=>
  cases o with
  | none=>rw[E.emp i (λd z=>by rw[e] at z;cases z)] at b;cases b
  | some d=>
   obtain⟨v,_,r⟩:=E.rep i d e;exact r.cR a b
theorem E3.there(E:E3 K G ρ σ H fa)(i:Nat){a:Addr}(b:a∈fa i):H a≠none:=λz=>by
 have:=E.cR i a b;rw[z] at this;exact this
theorem E3.same(E:E3 K G ρ σ H fa)(s:i5 H H'):E3 K G ρ σ H' fa:=
 ⟨λi d e=>let ⟨v,c,b⟩:=E.rep i d e;⟨v,c,b.same s⟩,E.emp,E.len,E.nd,E.dj,E.par,E.old,E.new,λa o h n=>s a o (E.frm a o h n),E.stb.trans (W3.of s),λa z=>(by
  obtain⟨o,e⟩:=Option.ne_none_iff_exists'.mp (E.zn a z);have h:=E.zk a z;rw[e] at h ⊢;exact s a o h),E.zn,E.zo,E.po⟩
inductive Fl where | any | stab | locl | fresh
def y4(G:Ent)(H:Hp)(fa:QO)(B:QE):Fl->Prop
 | .any=>True
 | .stab=>∀i,G.own i->∀a∈B,a∉fa i
 | .locl=>(∀i,G.own i->∀a∈B,a∉fa i)/\(∀a∈B,G.H₀ a=none)/\B.Nodup
 | .fresh=>B.Nodup/\∀a∈B,H a=none
def er:Fl->Fl->Bool
 | _,.any=>true
 | .any,_=>false
 | _,.stab=>true
 | .stab,_=>false
 | _,.locl=>true
 | .locl,_=>false
 | .fresh,.fresh=>true
theorem y4.bo(E:E3 K G ρ σ H fa){B:QE}(h:y4 G H fa B .fresh):y4 G H fa B .stab:=λi _ a b z=>E.there i z (h.2 a b)
theorem y4.jk(E:E3 K G ρ σ H fa){B:QE}(h:y4 G H fa B .fresh):y4 G H fa B .locl:=⟨y4.bo E h,λa b=>E.stb.dom a (h.2 a b),h.1⟩
theorem y4.weak(E:E3 K G ρ σ H fa){B:QE}{f g:Fl}(h:y4 G H fa B f)(a:er f g=true):y4 G H fa B g:=by
 cases f<;>cases g<;>first | trivial | exact h | (cases a;done) | exact h.1 | exact y4.bo E h | exact y4.jk E h
theorem y4.nil(f:Fl):y4 G H fa [] f:=by
 cases f with
 | any=>trivial
 | stab=>intro i _ a b;cases b
 | locl=>exact⟨λi _ a b=>(by cases b),λa b=>(by cases b),op⟩
 | fresh=>exact⟨op,λa b=>(by cases b)⟩
theorem y4.sub{B C:QE}{f:Fl}(h:y4 G H fa B f)(s:C.Sublist B):y4 G H fa C f:=by
 cases f with
 | any=>trivial
 | stab=>exactλi o a b=>h i o a (s.mem b)
 | locl=>exact⟨λi o a b=>h.1 i o a (s.mem b),λa b=>h.2.1 a (s.mem b),h.2.2.sublist s⟩
 | fresh=>exact⟨h.1.sublist s,λa b=>h.2 a (s.mem b)⟩
end
abbrev TU:=Ev->(D->Prop)->Prop
structure PU(X:Cx)(cl:List Cl)(e:Expr)(f:Fl)(u:TU):Prop where
 of ::
 run:∃t,PE X e t/\∀(G:Ent) (ρ:Ev) (σ:St) (H:Hp) (fa:QO) (Q:D->Prop) (R:VK),G.cl=cl->E3 X.K G ρ σ H fa->u ρ Q ->
  (∀v H' d B,i5 H H'->Rep X.K H' v d B->y4 G H fa B f->Q d->R v H')->t σ H R
abbrev TM:=Ev->(D->Ev->Prop)->Prop
structure R1(K:QP)(G:Ent)(H:Hp)(fa:QO)(H':Hp)(fa':QO):Prop where
 frm:∀a o,H a=some o->(∀i,G.own i->a∉fa i)->H' a=some o
 stb:W3 H H'
 new:∀i,G.own i->∀a∈fa' i,a∈fa i\/H a=none
 bor:∀i,¬G.own i->fa' i=fa i
section
variable{K:QP}{G:Ent}{ρ ρ':Ev}{σ:St}{H H' H2:Hp}{fa fa' fa2:QO}
theorem R1.refl:R1 K G H fa H fa:=⟨λ_ _ h _=>h,W3.refl H,λ_ _ _ h=>.inl h,λ_ _=>rfl⟩
theorem R1.same(s:i5 H H'):R1 K G H fa H' fa:=⟨λ_ _ h _=>s _ _ h,W3.of s,λ_ _ _ h=>.inl h,λ_ _=>rfl⟩
theorem R1.trans(a:R1 K G H fa H' fa')(b:R1 K G H' fa' H2 fa2):R1 K G H fa H2 fa2:=
  ⟨λx o h n=>b.frm x o (a.frm x o h n) λi c z=>(a.new i c x z).elim (n i c) (λe=>by rw[h] at e;cases e),a.stb.trans b.stb,
   λi c x d=>(b.new i c x d).elim (a.new i c x) (λe=>.inr (a.stb.dom x e)),λi c=>(b.bor i c).trans (a.bor i c)⟩
theorem R1.keep(c:R1 K G H fa H' fa'){v:V}{d:D}{B:QE}(r:Rep K H v d B)(n:∀i,G.own i->∀a∈B,a∉fa i):Rep K H' v d B:=
 r.mono c.stb λa b=>by
  obtain⟨o,e⟩:=cS.some (r.cR a b);rw[e];exact c.frm a o e λi g=>n i g a b
theorem R1.apart(c:R1 K G H fa H' fa'){B:QE}(t:∀a∈B,H a≠none)(n:∀i,G.own i->∀a∈B,a∉fa i):∀i,G.own i->∀a∈B,a∉fa' i:=λi b a d z=>
 (c.new i b a z).elim (n i b a d) (t a d)
theorem E3.step(E:E3 K G ρ σ H fa)(c:R1 K G H fa H' fa')(y:ρ'.length=ρ.length)(u:∀i,¬G.own i->ρ'[i]?=ρ[i]?)
  (x:∀i d,G.own i->ρ'[i]?=some (some d)->∃v,σ[i]?=some (some v)/\Rep K H' v d (fa' i)) (B:∀i,G.own i->(∀d,ρ'[i]?≠some (some d))->fa' i=[])
  (nd:∀i,G.own i->(fa' i).Nodup) (dj:∀i j,i≠j->G.own i->G.own j->∀a∈fa' i,a∉fa' j):E3 K G ρ' σ H' fa' where
 rep:=λi d e=>by
  by_cases b:G.own i
  ·exact x i d b e
  ·rw[u i b] at e;obtain⟨v,C,r⟩:=E.rep i d e;refine⟨v,C,?_⟩;rw[c.bor i b];exact c.keep r λj l a g z=>E.dj j i (λq=>b (q▸l)) l a z g
 emp:=λi e=>by
  by_cases b:G.own i
  ·exact B i b e
  ·rw[c.bor i b];exact E.emp i λd z=>e d (by rw[u i b];exact z)
 len:=y.trans E.len
 nd:=λi h=>by
  by_cases b:G.own i
  ·exact nd i b
  ·rw[c.bor i b];exact E.nd i h
 dj:=λi j n b a g=>by
  by_cases l:G.own j
  ·exact dj i j n b l a g
  ·rw[c.bor j l];intro z;rcases c.new i b a g with q | q
   ·exact E.dj i j n b a q z
   ·exact E.there j z q
 par:=E.par
 old:=λi h b a g=>(c.new i b a g).elim (E.old i h b a) λq=>.inr (E.stb.dom a q)
 new:=λi h a g=>by
  by_cases b:G.own i
  ·exact(c.new i b a g).elim (E.new i h a) λq=>E.stb.dom a q
  ·rw[c.bor i b] at g;exact E.new i h a g
 frm:=λa o h n=>c.frm a o (E.frm a o h n) λi b z=>by
  by_cases p:i<G.vs.length
  ·rcases E.old i p b a z with q | q
   ·exact n i p b q
   ·rw[h] at q;cases q
  ·have q:=E.new i (.inr ⟨b,p⟩) a z;rw[h] at q;cases q
 stb:=E.stb.trans c.stb
 zk:=λa z=>by
  obtain⟨o,e⟩:=Option.ne_none_iff_exists'.mp (E.zn a z);have h:=E.zk a z;rw[e] at h ⊢;exact c.frm a o h λi b q=>E.zo i b a q z
 zn:=E.zn
 zo:=λi b a g z=>by
  rcases c.new i b a g with q | q
  ·exact E.zo i b a q z
  ·have h:=E.zk a z;rw[q] at h;exact E.zn a z h.symm
 po:=E.po
end
structure PM(X:Cx)(cl:List Cl)(e:Expr)(u:TM):Prop where
 of ::
 run:∃t,PE X e t/\∀(G:Ent) (ρ:Ev) (σ:St) (H:Hp) (fa:QO) (Q:D->Ev->Prop) (R:VK),G.cl=cl->E3 X.K G ρ σ H fa->u ρ Q ->
  (∀v H' d B ρ' fa',E3 X.K G ρ' σ H' fa'->R1 X.K G H fa H' fa'->Rep X.K H' v d B->B.Nodup->(∀a∈B,H a=none/\∀i,a∉fa' i)->Q d ρ'->R v H')->t σ H R
structure Z7 where
 nx:Ev->Prop
 rt:D->Ev->Prop
 bk:Ev->Prop:=λ_=>False
 ct:Ev->Prop:=λ_=>False
abbrev i6:=Z7->Ev->Prop
def BA(K:QP)(G:Ent)(N:Ev->Prop):St->Hp->Prop:=λb H=>∃a c,E3 K G a b H c/\N a
def Mx(K:QP)(G:Ent)(N:D->Ev->Prop):VK:=λv H=>∃d b e c B,E3 K G b e H c/\Rep K H v d B/\B.Nodup/\(∀a∈B,G.H₀ a=none)/\(∀i,i<G.vs.length->G.own i->∀a∈B,a∉c i)/\N d b
def low(K:QP)(G:Ent)(T:Z7):Ends:={ nx:=BA K G T.nx,rt:=Mx K G T.rt,bk:=BA K G T.bk,ct:=BA K G T.ct }
structure Mh(A B:Ends):Prop where
 nx:∀σ H,A.nx σ H->B.nx σ H
 rt:∀v H,A.rt v H->B.rt v H
 bk:∀σ H,A.bk σ H->B.bk σ H
 ct:∀σ H,A.ct σ H->B.ct σ H
theorem Mh.refl(A:Ends):Mh A A:=⟨λ_ _ h=>h,λ_ _ h=>h,λ_ _ h=>h,λ_ _ h=>h⟩
structure F0(X:Cx)(cl:List Cl)(e:Expr)(u:Ev->(Bool->Prop)->Prop):Prop where
 of ::
 run:∃t,PT X e t/\∀(G:Ent) (ρ:Ev) (σ:St) (H:Hp) (fa:QO) (Q:Bool->Prop) (R:Bool->Hp->Prop),G.cl=cl->E3 X.K G ρ σ H fa->u ρ Q ->
  (∀b H',i5 H H'->Q b->R b H')->t σ H R
structure J3(X:Cx)(cl:List Cl)(st:Stmt)(s:i6):Prop where
 of ::
 run:∃t,PS X st t/\∀(G:Ent) (T:Z7) (ρ:Ev) (σ:St) (H:Hp) (fa:QO) (R:Ends),G.cl=cl->E3 X.K G ρ σ H fa->s T ρ->Mh (low X.K G T) R->t R σ H
structure jc(X:Cx)(cl:List Cl)(st:QM)(s:i6):Prop where
 of ::
 run:∃t,mn X st t/\∀(G:Ent) (T:Z7) (ρ:Ev) (σ:St) (H:Hp) (fa:QO) (R:Ends),G.cl=cl->E3 X.K G ρ σ H fa->s T ρ->Mh (low X.K G T) R->t R σ H
section
variable{X:Cx}{cl:List Cl}{e a b c:Expr}{f:Fl}{pos:Pos}
def uC(d:D):TU:=λ_ Q=>Q d
def c8(i:Nat):TU:=λg Q=>match g[i]? with
 | some (some d)=>Q d
 | _=>False
def JC:Option Cl->Fl
 | some .bor=>.stab
 | some .loc=>.locl
 | _=>.any
theorem E3.uk{K:QP}{G:Ent}{l:Ev}{σ:St}{H:Hp}{d:QO}(E:E3 K G l σ H d){i:Nat}(h:¬G.own i):∀j,G.own j->∀a∈d i,a∉d j:=λj g a o z=>
 E.dj j i (λe=>h (e▸g)) g a z o
theorem E3.var{K:QP}{G:Ent}{g:Ev}{σ:St}{H:Hp}{d:QO}(E:E3 K G g σ H d)(i:Nat):y4 G H d (d i) (JC G.cl[i]?):=by
 cases e:G.cl[i]? with
 | none=>trivial
 | some k=>
  cases k with
  | own=>trivial
  | mk _=>trivial
  | bor=>exact E.uk (λz=>by unfold Ent.own at z;rw[e] at z;cases z)
  | loc=>exact⟨E.uk (λz=>by unfold Ent.own at z;rw[e] at z;cases z),E.new i (.inl e),E.nd i (.inr e)⟩
theorem JF(i:Nat){x:Str}(h:PE X (.Name x pos) (T9 i))(l:JC cl[i]?=f):PU X cl (.Name x pos) f (c8 i):=.of<|by
 refine⟨_,h,λG j y H q Q R p E g k=>?_⟩;unfold c8 at g
 cases e:j[i]? with
 | none=>rw[e] at g;cases g
 | some o=>
  cases o with
  | none=>rw[e] at g;cases g
  | some d=>
   rw[e] at g;obtain⟨v,u,r⟩:=E.rep i d e;refine⟨v,u,k v H d (q i) (i5.refl H) r ?_ g⟩;rw[<-l,<-p];exact E.var i
theorem a8{i:Int}{j}:PU X cl (.Constant (.int i) j pos) .fresh (uC (.int i)):=.of ⟨_,JG,λG h g H l Q R _ E d k=>k _ H _ _ (i5.refl H) .int (y4.nil _) d⟩
theorem x6{i:Bool}{j}:PU X cl (.Constant (.bool i) j pos) .fresh (uC (.bl i)):=.of ⟨_,Gz,λG h g H l Q R _ E d k=>k _ H _ _ (i5.refl H) .bl (y4.nil _) d⟩
theorem V2{j}:PU X cl (.Constant .none j pos) .fresh (uC .p7):=.of ⟨_,Hv,λG h g H i Q R _ E d k=>k _ H _ _ (i5.refl H) .p7 (y4.nil _) d⟩
theorem p9{x:Str}{j}:PU X cl (.Constant (.str x) j pos) .fresh (uC (.str x)):=.of ⟨_,Jw,λG h g H i Q R _ E d k=>k _ H _ _ (i5.refl H) .str (y4.nil _) d⟩
theorem X1{x:Str}{d:D}{v:V}{B:QE}(h:PE X (.Name x pos) (tC v))(r:∀H,Rep X.K H v d []):PU X cl (.Name x pos) .fresh (uC d):=.of ⟨_,h,λG j i H l Q R _ E g k=>k _ H _ _ (i5.refl H) (r H) (y4.nil _) g⟩
def A6(u:TU):TU:=λg Q=>u g λd=>w8 d=true/\Q d
theorem PU.w8{u:TU}(h:PU X cl e f u):PU X cl e .fresh (A6 u):=.of<|by
 obtain⟨t,l,h⟩:=h.run;refine⟨t,l,λG i g H p Q R o E j k=>h G i g H p _ R o E j λv x d B s r y q=>k v x d B s r ?_ q.2⟩;rw[r.M8 q.1];exact y4.nil _
section
variable{K:QP}{G:Ent}{H H':Hp}{fa:QO}{B:QE}{f:Fl}
theorem y4.back(s:i5 H H')(h:y4 G H' fa B f):y4 G H fa B f:=by
 cases f with
 | any=>trivial
 | stab=>exact h
 | locl=>exact h
 | fresh=>exact⟨h.1,λa d=>s.free (h.2 a d)⟩
end
theorem u2{C z:TU}{O M:Fl}(q:PU X cl a O C)(p:PU X cl b M z):∃j i,PE X a j/\PE X b i/\∀(G:Ent) (g:Ev) (σ:St) (H:Hp) (h:QO) (Q:D->D->Prop) (R:V->V->Hp->Prop),G.cl=cl->E3 X.K G g σ H h->(C g λx=>z g λy=>Q x y) ->
  (∀v w l d e A B,i5 H l->Rep X.K l v d A->Rep X.K l w e B->y4 G H h A O->y4 G H h B M->Q d e->R v w l)->j σ H λx u=>i σ u λy r=>R x y r:=by
 obtain⟨j,pa,q⟩:=q.run;obtain⟨i,pb,p⟩:=p.run;refine⟨j,i,pa,pb,λG g σ H h Q R J E hu k=>?_⟩;refine q G g σ H h _ _ J E hu λv u d A o T f1 Y=>?_;refine p G g σ u h _ _ J (E.same o) Y λw r e B I S f2 U=>?_;exact k v w r d e A B (o.trans I) (T.same I) S f1 (f2.back o) U
def Z3(X:Cx)(r:R2)(g:D->D->(D->Prop)->Prop):Prop:=∀(H:Hp) (v w:V) (d e:D) (A B:QE) (Q:D->Prop) (R:VK),Rep X.K H v d A->Rep X.K H w e B->g d e Q ->
 (∀x h y C,i5 H h->Rep X.K h x y C->C.Nodup->(∀a∈C,H a=none)->Q y->R x h)->r v w H R
def o5(g:D->D->(D->Prop)->Prop)(i h:TU):TU:=λd Q=>i d λx=>h d λy=>g x y Q
theorem KY{u p:TU}{fa fb:Fl}{r:R2}{g:D->D->(D->Prop)->Prop}(o:Z3 X r g){t:TE->TE->TE}(ht:t=JS r)(l:PU X cl a fa u)(hb:PU X cl b fb p)(mk:∀{j i},PE X a j->PE X b i->PE X e (t j i)):PU X cl e .fresh (o5 g u p):=.of<|by
 obtain⟨j,i,Y,U,h⟩:=u2 l hb;subst ht;refine⟨_,mk Y U,λG I z H fo Q R hG E hu k=>?_⟩;refine h G I z H fo _ _ hG E hu λv w H' d e A B s S O _ _ q=>?_;exact o H' v w d e A B Q R S O q λx H2 y C J M n1 n2 T=>k x H2 y C (s.trans J) M ⟨n1,λa l=>s.free (n2 a l)⟩ T
theorem jX{h d:TU}{x v:Fl}{r:R2}{i:Operator}{g:D->D->(D->Prop)->Prop}(p:L8 X (binaryOp i) r)(o:Z3 X r g)(u:PU X cl a x h)(q:PU X cl b v d):PU X cl (.BinOp a i b pos) .fresh (o5 g h d):=
 KY o rfl u q λl j=>GZ p l j
theorem bA{i h:TU}{y x:Fl}{r:R2}{d:CmpOp}{g:D->D->(D->Prop)->Prop}(p:L8 X (compareOp d) r)(o:Z3 X r g)(v:PU X cl a y i)(u:PU X cl b x h)(q:behindInMarks d b=false):PU X cl (.Compare a [d] [b] pos) .fresh (o5 g i h):=
 KY o rfl v u λl j=>uK p l j q
def gI(C:Int->Int->Prop)(g:Int->Int->D):D->D->(D->Prop)->Prop
 | .int i,.int j,Q=>C i j/\Q (g i j)
 | _,_,_=>False
def yg(g:Int->Int->D):D->D->(D->Prop)->Prop
 | .int i,.int j,Q=>Q (g i j)
 | _,_,_=>False
theorem C3{K:QP}{H:Hp}{v:V}{i:Int}{A:QE}(h:Rep K H v (.int i) A):v=.int i:=by cases h;rfl
theorem D4{K:QP}{H:Hp}{v:V}{i:Str}{A:QE}(h:Rep K H v (.str i) A):v=.str i:=by cases h;rfl
theorem N4{K:QP}{H:Hp}{v:V}{i:Bool}{A:QE}(h:Rep K H v (.bl i) A):v=.bl i:=by cases h;rfl
theorem fK{K:QP}{H:Hp}{v:V}{A:QE}(h:Rep K H v .p7 A):v=.p7:=by cases h;rfl
theorem pU{C:Int->Int->Prop}{g:Int->Int->Int}:Z3 X (rI C λi j=>.int (g i j)) (gI C λi j=>.int (g i j)):=by
 intro H v w d e A B Q R o l q k;cases d<;>cases e<;>first | exact q.elim | skip
 cases C3 o;cases C3 l;exact⟨_,_,rfl,rfl,q.1,k _ H _ _ (i5.refl H) .int op (λ_ h=>(by cases h)) q.2⟩
theorem sZ{g:Int->Int->Int}:Z3 X (yG λi j=>.int (g i j)) (yg λi j=>.int (g i j)):=by
 intro H v w d e A B Q R o l q k;cases d<;>cases e<;>first | exact q.elim | skip
 cases C3 o;cases C3 l;exact⟨_,_,rfl,rfl,k _ H _ _ (i5.refl H) .int op (λ_ h=>(by cases h)) q⟩
theorem eR{g:Int->Int->Bool}:Z3 X (yG λi j=>.bl (g i j)) (yg λi j=>.bl (g i j)):=by
 intro H v w d e A B Q R o l q k;cases d<;>cases e<;>first | exact q.elim | skip
 cases C3 o;cases C3 l;exact⟨_,_,rfl,rfl,k _ H _ _ (i5.refl H) .bl op (λ_ h=>(by cases h)) q⟩
section
variable{ua ub:TU}{fa fb:Fl}
theorem Q4(g:PU X cl a fa ua)(d:PU X cl b fb ub):PU X cl (.BinOp a .Sub b pos) .fresh (o5 (yg λi j=>.int (i-j)) ua ub):=jX CK sZ g d
theorem fB(g:PU X cl a fa ua)(d:PU X cl b fb ub):PU X cl (.BinOp a .FloorDiv b pos) .fresh (o5 (gI T4 λi j=>.int (i/j)) ua ub):=jX Ap pU g d
theorem V0(g:PU X cl a fa ua)(d:PU X cl b fb ub):PU X cl (.BinOp a .Mod b pos) .fresh (o5 (gI (λ_ j=>0<j) λi j=>.int (i%j)) ua ub):=jX Cv pU g d
theorem T6(g:PU X cl a fa ua)(d:PU X cl b fb ub):PU X cl (.BinOp a .Pow b pos) .fresh (o5 (gI bP λi j=>.int (i^j.toNat)) ua ub):=jX HU pU g d
theorem AW(h:PU X cl a fa ua)(g:PU X cl b fb ub)(d:behindInMarks .Lt b=false):PU X cl (.Compare a [.Lt] [b] pos) .fresh (o5 (yg λi j=>.bl (decide (i<j))) ua ub):=bA wd eR h g d
theorem Hg(h:PU X cl a fa ua)(g:PU X cl b fb ub)(d:behindInMarks .Gt b=false):PU X cl (.Compare a [.Gt] [b] pos) .fresh (o5 (yg λi j=>.bl (decide (j<i))) ua ub):=bA GF eR h g d
def MW:D->D->(D->Prop)->Prop
 | .str i,.str j,Q=>i.length+j.length<=sizeLine/\Q (.str (i++j))
 | _,_,_=>False
theorem LH:Z3 X (λx y H Q=>∃i j,x=.str i/\y=.str j/\i.length+j.length<=sizeLine/\Q (.str (i++j)) H) MW:=by
 intro H v w d e A B Q R l g q k;cases d<;>cases e<;>first | exact q.elim | skip
 cases D4 l;cases D4 g;exact⟨_,_,rfl,rfl,q.1,k _ H _ _ (i5.refl H) .str op (λ_ h=>(by cases h)) q.2⟩
def Y8:D->Bool
 | .p7=>true
 | .bl _=>true
 | .int _=>true
 | .str _=>true
 | _=>false
def toV:D->V
 | .p7=>.p7
 | .bl b=>.bl b
 | .int i=>.int i
 | .str x=>.str x
 | _=>.p7
theorem V7{K:QP}{H:Hp}{v:V}{d:D}{A:QE}(h:Rep K H v d A)(f:Y8 d=true):v=toV d/\A=[]:=by
 cases h<;>first | exact⟨rfl,rfl⟩ | cases f
def ng(d b:Bool):Bool:=match d with
 | true=>!b
 | false=>b
def Nb:D->D->Option Bool
 | .int a,.int b=>some (decide (a=b))
 | .str a,.str b=>some (decide (a=b))
 | .bl a,.bl b=>some (decide (a=b))
 | .p7,.p7=>some true
 | .p7,.int _=>some false
 | .int _,.p7=>some false
 | .p7,.bl _=>some false
 | .bl _,.p7=>some false
 | .p7,.str _=>some false
 | .str _,.p7=>some false
 | .int _,.str _=>some false
 | .str _,.int _=>some false
 | .bl _,.str _=>some false
 | .str _,.bl _=>some false
 | _,_=>none
theorem Bh{d e:D}{b:Bool}(h:Nb d e=some b):Y8 d=true/\Y8 e=true/\HZ (toV d) (toV e)=true/\decide (toV d=toV e)=b:=by
 cases d<;>cases e<;>first | (cases h;done) | skip
 all_goals cases h
 all_goals refine⟨rfl,rfl,rfl,?_⟩
 all_goals first | rfl | (simp[toV];done)
def JU(g:Bool):D->D->(D->Prop)->Prop:=λd e Q=>match Nb d e with
 | some b=>Q (.bl (ng g b))
 | none=>False
theorem zM{g:Bool}{d e:D}{Q:D->Prop}(h:JU g d e Q):∃b,Nb d e=some b/\Q (.bl (ng g b)):=by
 unfold JU at h;split at h
 ·exact⟨_,by assumption,h⟩
 ·exact h.elim
theorem Ep:Z3 X Np (JU false):=by
 intro H v w d e A B Q R i g q k;obtain⟨b,r,q⟩:=zM q;obtain⟨p,o,l,j⟩:=Bh r;obtain⟨rfl,rfl⟩:=V7 i p;obtain⟨rfl,rfl⟩:=V7 g o;refine⟨l,?_⟩;rw[j];exact k _ H _ _ (i5.refl H) .bl op (λ_ h=>(by cases h)) q
theorem MH:Z3 X Nq (JU true):=by
 intro H v w d e A B Q R i g q k;obtain⟨b,r,q⟩:=zM q;obtain⟨p,o,l,j⟩:=Bh r;obtain⟨rfl,rfl⟩:=V7 i p;obtain⟨rfl,rfl⟩:=V7 g o;refine⟨l,?_⟩;rw[j];exact k _ H _ _ (i5.refl H) .bl op (λ_ h=>(by cases h)) q
def U4:D->Bool
 | .p7=>true
 | _=>false
def ND(g:Bool):D->D->(D->Prop)->Prop
 | d,.p7,Q=>Q (.bl (ng g (U4 d)))
 | _,_,_=>False
theorem ve{K:QP}{H:Hp}{v:V}{d:D}{A:QE}(h:Rep K H v d A):decide (v=.p7)=U4 d:=by
 cases h<;>first | rfl | simp[U4]
theorem MA:Z3 X (λx y H Q=>y=.p7/\Q (.bl (decide (x=.p7))) H) (ND false):=by
 intro H v w d e A B Q R i g q k;cases e<;>first | exact q.elim | skip
 cases fK g;refine⟨rfl,?_⟩;rw[ve i];refine k _ H _ _ (i5.refl H) .bl op (λ_ h=>(by cases h)) ?_;exact q
theorem Jz:Z3 X (λx y H Q=>y=.p7/\Q (.bl (!decide (x=.p7))) H) (ND true):=by
 intro H v w d e A B Q R i g q k;cases e<;>first | exact q.elim | skip
 cases fK g;refine⟨rfl,?_⟩;rw[ve i];refine k _ H _ _ (i5.refl H) .bl op (λ_ h=>(by cases h)) ?_;exact q
def yC:D->Option (List D)
 | .lst d=>some d
 | .tup d=>some d
 | .fz d=>some d
 | _=>none
theorem fG{K:QP}{H:Hp}{v:V}{d:D}{A:QE}{xs:List D}(h:Rep K H v d A)(e:yC d=some xs):∃p vs B,v=.ref p/\(P7 K H p vs\/T5 K H p vs)/\j8 K H vs xs B/\B.Sublist A:=by
 cases h with
 | tup h r=>cases e;exact⟨_,_,_,rfl,.inr (T5.of h),r,Fk _⟩
 | lst h r=>cases e;exact⟨_,_,_,rfl,.inl (P7.of h),r,Lb _ _⟩
 | frz h r=>cases e;exact⟨_,_,_,rfl,.inl h.sq,r,Fk _⟩
 | _=>cases e
theorem qO{d:D}(h:Y8 d=true):aj (toV d)=true:=by cases d<;>first | rfl | cases h
theorem j8.flat{K:QP}{H:Hp}{vs:List V}{ds:List D}{A:QE}(r:j8 K H vs ds A):ds.all Y8=true->vs=ds.map toV/\vs.all aj=true:=by
 refine r.ind (P:=λvs ds _=>ds.all Y8=true->vs=ds.map toV/\vs.all aj=true) (λ_=>⟨rfl,rfl⟩) λh _ i f=>?_;rw[Gc,hD] at f;obtain⟨j,_⟩:=V7 h f.1;obtain⟨g,d⟩:=i f.2;subst j;refine⟨by rw[rl,<-g],?_⟩;rw[Gc,d,Bool.and_true];exact qO f.1
def inD(x:D)(xs:List D):Bool:=xs.any λy=>Eg (toV y) (toV x)
def NA(h:Bool):D->D->(D->Prop)->Prop:=λd e Q=>Y8 d=true/\∃g,yC e=some g/\g.all Y8=true/\Q (.bl (ng h (inD d g)))
theorem Mv{g:Bool}:Z3 X (KA X.K g) (NA g):=by
 intro H v w d e A B Q R o l q k;obtain⟨j,i,E,y,q⟩:=q;obtain⟨rfl,rfl⟩:=V7 o j;obtain⟨p,vs,C,rfl,u,r,_⟩:=fG l E;obtain⟨rfl,x⟩:=r.flat y;refine⟨p,_,rfl,u,qO j,x,k _ H _ _ (i5.refl H) .bl op (λ_ h=>(by cases h)) ?_⟩;have z:Ma (toV d) (i.map toV)=inD d i:=by unfold Ma inD;rw[List.any_map];rfl
 rw[z];cases g
 ·exact q
 ·exact q
theorem j8.O7{K:QP}{H:Hp}{vs:List V}{ds:List D}{A:QE}{i:Int}{d:D}(r:j8 K H vs ds A)(h:L2.O7 ds i=some d):∃v B,L2.O7 vs i=some v/\Rep K H v d B/\B.Sublist A:=by
 unfold L2.O7 at h ⊢;rw[r.length]
 cases e:ji ds.length i with
 | none=>rw[e] at h;cases h
 | some j=>
  rw[e] at h;exact r.get h
def NM:D->D->(D->Prop)->Prop
 | .str z,.int i,Q=>z.length<=sizeLine/\∃c,L2.O7 z.cps.toList i=some c/\Q (.str ⟨#[c]⟩)
 | .lst g,.int i,Q=>∃d,L2.O7 g i=some d/\Q d
 | .tup g,.int i,Q=>∃d,L2.O7 g i=some d/\Q d
 | .fz g,.int i,Q=>∃d,L2.O7 g i=some d/\Q d
 | _,_,_=>False
end
end
section
variable{X:Cx}{cl:List Cl}{e a b c:Expr}{es:QH}{f:Fl}{pos:Pos}{ua ub uc:TU}{fa fb fc:Fl}
abbrev bS:=Ev->(List D->Prop)->Prop
structure Kg(X:Cx)(cl:List Cl)(es:QH)(u:bS):Prop where
 of ::
 run:∃t,PA X es t/\∀(G:Ent) (ρ:Ev) (σ:St) (H:Hp) (fa:QO) (Q:List D->Prop) (R:List V->Hp->Prop),G.cl=cl->E3 X.K G ρ σ H fa->u ρ Q ->
  (∀vs H' ds A,i5 H H'->j8 X.K H' vs ds A->A.Nodup->(∀a∈A,H a=none)->ds.length=es.length->Q ds->R vs H')->t σ H R
structure Dx(X:Cx)(cl:List Cl)(es:QH)(u:bS):Prop where
 of ::
 run:∃t,PA X es t/\∀(G:Ent) (ρ:Ev) (σ:St) (H:Hp) (fa:QO) (Q:List D->Prop) (R:List V->Hp->Prop),G.cl=cl->E3 X.K G ρ σ H fa->u ρ Q ->
  (∀vs H' ds A,i5 H H'->j8 X.K H' vs ds A->ds.length=es.length->Q ds->R vs H')->t σ H R
def e7:bS:=λ_ Q=>Q []
def a9(ua:TU)(h:bS):bS:=λd Q=>ua d λx=>h d λg=>Q (x::g)
theorem i3:Kg X cl [] e7:=.of ⟨_,N2,λG i g H fa Q R _ E d k=>k [] H [] [] (i5.refl H) .nil op (λ_ h=>(by cases h)) rfl d⟩
theorem c9:Dx X cl [] e7:=.of ⟨_,N2,λG h g H fa Q R _ E d k=>k [] H [] [] (i5.refl H) .nil rfl d⟩
theorem Rep.there{K:QP}{H:Hp}{v:V}{d:D}{A:QE}(r:Rep K H v d A){x:Addr}(g:x∈A):H x≠none:=λz=>by
 have:=r.cR x g;rw[z] at this;exact this
theorem c7{l:bS}(ha:PU X cl e .fresh ua)(Y:Kg X cl es l)(U:isStar e=false):Kg X cl (e::es) (a9 ua l):=.of<|by
 obtain⟨t1,M,h1⟩:=ha.run;obtain⟨t2,J,h2⟩:=Y.run;refine⟨_,dA M J U,λG j i H fa Q R q E T k=>?_⟩;refine h1 G j i H fa _ _ q E T λv H1 d A g p r I=>?_;refine h2 G j i H1 fa _ _ q (E.same g) I λvs H2 ds B o u n1 n2 O C=>?_;refine k (v::vs) H2 (d::ds) (A++B) (g.trans o) (.cons (p.same o) u) ?_ (λx h=>?_) (by simp[O]) C
 ·refine List.nodup_append.mpr ⟨r.1,n1,λx h y S e=>?_⟩;subst e;exact p.there h (n2 x S)
 ·rcases List.mem_append.mp h with z | z
  ·exact r.2 x z
  ·exact g.free (n2 x z)
theorem c6{i:bS}(M:PU X cl e f ua)(J:Dx X cl es i)(I:isStar e=false):Dx X cl (e::es) (a9 ua i):=.of<|by
 obtain⟨t1,y,S⟩:=M.run;obtain⟨t2,x,O⟩:=J.run;refine⟨_,dA y x I,λG h g H fa Q R o E C k=>?_⟩;refine S G h g H fa _ _ o E C λv Y d A l q f1 u=>?_;refine O G h g Y fa _ _ o (E.same l) u λvs U T B j p z r=>?_;exact k (v::vs) U (d::T) (A++B) (l.trans j) (.cons (q.same j) p) (by simp[z]) r
def O5(h:bS):TU:=λd Q=>h d λg=>Q (.lst g)
def x9(h:bS):TU:=λd Q=>h d λg=>Q (.tup g)
theorem cO{n:Nat}(h:n<=1000):n<=sizeLine:=OC (xA h)
theorem A3{g:bS}(h:Kg X cl es g)(v:Nat.ble es.length 1000=true):PU X cl (.List es pos) .fresh (O5 g):=.of<|by
 obtain⟨t,p,h⟩:=h.run;refine⟨_,Ak p,λG j i H fa Q R B E u k=>?_⟩;refine h G j i H fa _ _ B E u λvs I C A s r n1 n2 l q=>⟨by rw[r.length,l];exact cO (t4 v),λx d=>?_⟩
 refine k _ _ (.lst C) (x::A) (s.trans (i5.j4 d)) (.lst g9 (r.same (i5.j4 d))) ⟨List.nodup_cons.mpr ⟨λz=>?_,n1⟩,λy o=>?_⟩ q
 ·have:=r.cR x z;rw[d] at this;exact this
 ·rcases List.mem_cons.mp o with z | z
  ·rw[z];exact s.free d
  ·exact n2 y z
theorem j7{d:bS}{l}(h:Kg X cl es d)(v:Nat.ble es.length 1000=true):PU X cl (.Tuple es l pos) .fresh (x9 d):=.of<|by
 obtain⟨t,p,h⟩:=h.run;refine⟨_,sL p,λG j i H fa Q R y E u k=>?_⟩;refine h G j i H fa _ _ y E u λvs B z A s r n1 n2 o q=>⟨by rw[r.length,o];exact cO (t4 v),λx g=>?_⟩
 exact k _ _ (.tup z) A (s.trans (i5.j4 g)) (.tup g9 (r.same (i5.j4 g))) ⟨n1,n2⟩ q
def Call3(X:Cx)(r:List V->Hp->VK->Prop)(g:List D->(D->Prop)->Prop):Prop:=∀(H:Hp) (vs:List V) (h:List D) (A:QE) (Q:D->Prop) (R:VK),j8 X.K H vs h A->g h Q ->
 (∀x d y C,i5 H d->Rep X.K d x y C->C.Nodup->(∀a∈C,H a=none)->Q y->R x d)->r vs H R
def E9(g:List D->(D->Prop)->Prop)(h:bS):TU:=λd Q=>h d λi=>g i Q
theorem Nz{d:bS}{r:List V->Hp->VK->Prop}{g:List D->(D->Prop)->Prop}(o:Call3 X r g)(h:Dx X cl es d)(mk:∀{t},PA X es t->PE X e (Mn r t)):PU X cl e .fresh (E9 g d):=.of<|by
 obtain⟨t,p,h⟩:=h.run;refine⟨_,mk p,λG j i H fa Q R I E z k=>?_⟩;refine h G j i H fa _ _ I E z λvs O J A s r S q=>?_;exact o O vs J A Q R r q λx M y C l u n1 n2 v=>k x M y C (s.trans l) u ⟨n1,λa B=>s.free (n2 a B)⟩ v
section
variable{id T:String}{r:List V->Hp->VK->Prop}{g:List D->(D->Prop)->Prop}{x:Str}{p:Pos}{us:bS}
theorem e9 (v:K8 X (.builtin id) r) (o:Call3 X r g) (q:Gl X x) (l:X.mg x=none) (i:bootBuiltins x=some (.builtin id)) (y:Dx X cl (e::es) us) (j:x ≠ "__name__":=by decide) (hd:(x == ("__debug__" : Str))=false:=by decide)
  (u:starEach (e::es) X.env=(false,eval e X.env)::starEach es X.env:=by rfl) (d:(backTo pos (starEach es X.env)).any (·.1)=false:=by rfl):PU X cl (.Call (.Name x p) (e::es) [] pos) .fresh (E9 g us):=
 Nz o y λh=>iY v q l i h j hd u d
theorem B3 (v:K8 X (.type T) r) (o:Call3 X r g) (q:Gl X x) (l:X.mg x=none) (i:bootBuiltins x=some (.type T)) (y:Dx X cl (e::es) us) (j:x ≠ "__name__":=by decide) (hd:(x == ("__debug__" : Str))=false:=by decide)
  (u:starEach (e::es) X.env=(false,eval e X.env)::starEach es X.env:=by rfl) (d:(backTo pos (starEach es X.env)).any (·.1)=false:=by rfl):PU X cl (.Call (.Name x p) (e::es) [] pos) .fresh (E9 g us):=
 Nz o y λh=>jV v q l i h j hd u d
end
theorem j8.one{K:QP}{H:Hp}{vs:List V}{d:D}{A:QE}(r:j8 K H vs [d] A):∃v,vs=[v]/\Rep K H v d A:=by
 cases r with
 | cons h t=>cases t;exact⟨_,rfl,by rw[sK];exact h⟩
theorem j8.two{K:QP}{H:Hp}{vs:List V}{d e:D}{A:QE}(r:j8 K H vs [d,e] A):∃v w B C,vs=[v,w]/\Rep K H v d B/\Rep K H w e C/\A=B++C:=by
 cases r with
 | cons h t=>
  cases t with
  | cons i g=>cases g;exact⟨_,_,_,_,rfl,h,i,by rw[sK]⟩
theorem K2{K:QP}{H:Hp}{v:V}{xs:List D}{A:QE}(h:Rep K H v (.lst xs) A):∃p vs B,v=.ref p/\H p=some (.lst vs)/\j8 K H vs xs B/\A=p::B:=by
 cases h with
 | lst h r=>exact⟨_,_,_,rfl,h,r,rfl⟩
theorem gX{K:QP}{H:Hp}{v:V}{xs:List D}{A:QE}(h:Rep K H v (.fz xs) A):∃p vs,v=.ref p/\HR K H p vs/\j8 K H vs xs A:=by
 cases h with
 | frz h r=>exact⟨_,_,rfl,h,r⟩
theorem M6{K:QP}{H:Hp}{v:V}{xs:List D}{A:QE}(h:Rep K H v (.tup xs) A):∃p vs,v=.ref p/\H p=some (.tup vs)/\j8 K H vs xs A:=by
 cases h with
 | tup h r=>exact⟨_,_,rfl,h,r⟩
def K1:List D->(D->Prop)->Prop
 | [.lst d],Q=>Q (.int d.length)
 | [.tup d],Q=>Q (.int d.length)
 | [.fz d],Q=>Q (.int d.length)
 | [.str z],Q=>z.length<=sizeLine/\Q (.int z.length)
 | _,_=>False
theorem C4:Call3 X (λxs H Q=>∃x n,xs=[x]/\IF X.K x H n/\Q (.int n) H) K1:=by
 intro H vs C A Q R r q k;have i:∀{n:Nat},Q (.int n)->R (.int n) H:=λq=>k _ H _ _ (i5.refl H) .int op (λ_ h=>(by cases h)) q
 have sq:∀{d:D} {xs:List D},C=[d]->yC d=some xs->Q (.int xs.length)->∃x n,vs=[x]/\IF X.K x H n/\R (.int n) H:=λ{d xs} z y u=>by
  subst z;obtain⟨v,rfl,j⟩:=r.one;obtain⟨p,l,B,rfl,g,o,_⟩:=fG j y;refine⟨_,l.length,rfl,?_,i (by rw[o.length];exact u)⟩;rcases g with g | g
  ·exact .inl ⟨_,g,rfl⟩
  ·exact .inr ⟨_,g,rfl⟩
 unfold K1 at q;split at q
 ·exact sq rfl rfl q
 ·exact sq rfl rfl q
 ·exact sq rfl rfl q
 ·obtain⟨v,rfl,j⟩:=r.one;cases D4 j;exact⟨_,_,rfl,⟨q.1,rfl⟩,i q.2⟩
 ·exact q.elim
def gq:List D->(D->Prop)->Prop:=λh Q=>∃d g,h=[d]/\yC d=some g/\l9 g=true/\Q (.lst g)
theorem dQ:Call3 X (λxs H Q=>∃p g,xs=[.ref p]/\(P7 X.K H p g\/T5 X.K H p g)/\∀l,H l=none->Q (.ref l) (upd H l (.lst g))) gq:=by
 intro H vs z A Q R r q k;obtain⟨d,xs,rfl,e,im,q⟩:=q;obtain⟨v,rfl,o⟩:=r.one;obtain⟨p,j,B,rfl,u,i,_⟩:=fG o e;have y:=i.M8 im;subst y;refine⟨p,j,rfl,u,λl h=>k _ _ (.lst xs) [l] (i5.j4 h) (.lst g9 (i.same (i5.j4 h))) (by simp) (λa x=>?_) q⟩;have:a=l:=by simpa using x
 rw[this];exact h
def bC:List D->(D->Prop)->Prop:=λh Q=>∃d g,h=[d]/\yC d=some g/\l9 g=true/\Q (.tup g)
theorem aX:Call3 X (λxs H Q=>∃p h,xs=[.ref p]/\((P7 X.K H p h/\∀l,H l=none->Q (.ref l) (upd H l (.tup h)))\/(T5 X.K H p h/\Q (.ref p) H))) bC:=by
 intro H vs z A Q R r q k;obtain⟨d,xs,rfl,e,im,q⟩:=q;obtain⟨v,rfl,y⟩:=r.one
 cases d with
 | lst h=>
  cases e;obtain⟨p,x,B,rfl,i,g,_⟩:=K2 y;have u:=g.M8 im;subst u;exact⟨p,x,rfl,.inl ⟨P7.of i,λl j=>k _ _ (.tup xs) [] (i5.j4 j) (.tup g9 (g.same (i5.j4 j))) op (λa o=>(by cases o)) q⟩⟩
 | fz h=>
  cases e;obtain⟨p,x,rfl,i,g⟩:=gX y;have u:=g.M8 im;subst u;exact⟨p,x,rfl,.inl ⟨i.sq,λl j=>k _ _ (.tup xs) [] (i5.j4 j) (.tup g9 (g.same (i5.j4 j))) op (λa o=>(by cases o)) q⟩⟩
 | tup h=>
  cases e;obtain⟨p,x,rfl,i,g⟩:=M6 y;have u:=g.M8 im;subst u;exact⟨_,_,rfl,.inr ⟨T5.of i,k _ H (.tup xs) [] (i5.refl H) y op (λa o=>(by cases o)) q⟩⟩
 | _=>cases e
def KI:List D->(D->Prop)->Prop
 | [.int i],Q=>Q (.int i)
 | [.bl k],Q=>Q (.int (if k then 1 else 0))
 | _,_=>False
theorem GX:Call3 X (λxs H Q=>(∃i,xs=[.int i]/\Q (.int i) H)\/∃k,xs=[.bl k]/\Q (.int (if k then 1 else 0)) H) KI:=by
 intro H vs g A Q R r q k;unfold KI at q;split at q
 ·obtain⟨v,rfl,d⟩:=r.one;cases C3 d;exact .inl ⟨_,rfl,k _ H _ _ (i5.refl H) .int op (λ_ h=>(by cases h)) q⟩
 ·obtain⟨v,rfl,d⟩:=r.one;cases N4 d;exact .inr ⟨_,rfl,k _ H _ _ (i5.refl H) .int op (λ_ h=>(by cases h)) q⟩
 ·exact q.elim
end
structure Br(b:Bool)(P Q:Prop):Prop where
 t:b=true->P
 f:b=false->Q
theorem Br.yes{b:Bool}{P Q:Prop}(h:b=true)(p:P):Br b P Q:=⟨λ_=>p,λe=>by rw[h] at e;cases e⟩
theorem Br.no{b:Bool}{P Q:Prop}(h:b=false)(p:Q):Br b P Q:=⟨λe=>(by rw[h] at e;cases e),λ_=>p⟩
abbrev cV:=Ev->(Bool->Prop)->Prop
section
variable{X:Cx}{cl:List Cl}{e a b c:Expr}{es:QH}{f:Fl}{pos:Pos}{ua ub uc:TU}{fa fb fc:Fl}
def uT(u:TU):cV:=λg Q=>u g λd=>match d with
 | .bl k=>Q k
 | _=>False
theorem X0{r:R2}{i:CmpOp}{g:D->D->(D->Prop)->Prop}(T:L8 X (compareOp i) r)(o:Z3 X r g)(ha:PU X cl a fa ua)(Y:PU X cl b fb ub)(U:behindInMarks i b=false):F0 X cl (.Compare a [i] [b] pos) (uT (o5 g ua ub)):=.of<|by
 obtain⟨ta,tb,O,M,h⟩:=u2 ha Y;refine⟨_,uY T O M U,λG p l H fo Q R hG E S k=>?_⟩;refine h G p l H fo (λd e=>g d e λd=>match d with | .bl k=>Q k | _=>False) _ hG E S λv w H' d e A B s J I _ _ q=>?_;refine o H' v w d e A B _ _ J I q λx H2 y C u z n1 n2 j=>?_;cases y<;>first | exact(show False from j).elim | skip
 cases N4 z;exact⟨_,rfl,k _ H2 (s.trans u) j⟩
theorem jM(h:PU X cl a fa ua)(g:PU X cl b fb ub)(d:behindInMarks .Lt b=false):F0 X cl (.Compare a [.Lt] [b] pos) (uT (o5 (yg λi j=>.bl (decide (i<j))) ua ub)):=X0 wd eR h g d
theorem ij(h:PU X cl a fa ua)(g:PU X cl b fb ub)(d:behindInMarks .Gt b=false):F0 X cl (.Compare a [.Gt] [b] pos) (uT (o5 (yg λi j=>.bl (decide (j<i))) ua ub)):=X0 GF eR h g d
theorem Ll(h:PU X cl a fa ua)(g:PU X cl b fb ub)(d:behindInMarks .GtE b=false):F0 X cl (.Compare a [.GtE] [b] pos) (uT (o5 (yg λi j=>.bl (decide (j<=i))) ua ub)):=X0 Kh eR h g d
def Q5(g g':D->D->(D->Prop)->Prop)(ua ub uc:TU):TU:=λd Q=>ua d λx=>ub d λy=>g x y λz=>match z with
 | .bl k=>Br k (uc d λw=>g' y w Q) (Q (.bl false))
 | _=>False
theorem NG{r T:R2}{g g':D->D->(D->Prop)->Prop}(o:Z3 X r g)(o':Z3 X T g')(O:PU X cl a fa ua)(hb:PU X cl b fb ub)(M:PU X cl c fc uc):∃I z tc,PE X a I/\PE X b z/\PE X c tc/\∀(G:Ent) (i:Ev) (σ:St) (H:Hp) (p:QO) (Q:D->Prop) (R:VK),G.cl=cl->E3 X.K G i σ H p->Q5 g g' ua ub uc i Q ->
  (∀v u d B,i5 H u->Rep X.K u v d B->y4 G H p B .fresh->Q d->R v u)->sO r T I z tc σ H R:=by
 obtain⟨I,z,pa,pb,h⟩:=u2 O hb;obtain⟨tc,pc,M⟩:=M.run;refine⟨I,z,tc,pa,pb,pc,λG i σ H p Q R Y E hu k=>?_⟩;refine h G i σ H p _ _ Y E hu λv w u d e A B s r1 S _ _ q=>?_;refine o u v w d e A B _ _ r1 S q λx H2 y C j r3 n1 n2 l=>?_;cases y<;>first | exact(show False from l).elim | skip
 rename_i U
 cases N4 r3;refine⟨_,rfl,?_⟩;have l:Br U (uc i λw=>g' e w Q) (Q (.bl false)):=l
 cases U with
 | false=>
  rw[qc nT];exact k _ H2 _ [] (s.trans j) .bl (y4.nil _) (l.f rfl)
 | true=>
  rw[qq rfl];refine M G i σ H2 p _ _ Y (E.same (s.trans j)) (l.t rfl) λw' H3 d' B' J r4 _ q3=>?_;exact o' H3 w w' e d' B B' _ _ (S.same (j.trans J)) r4 q3 λx H4 y C s4 r5 n1 n2 q4=>k x H4 y C (((s.trans j).trans J).trans s4) r5 ⟨n1,λa O=>((s.trans j).trans J).free (n2 a O)⟩ q4
theorem aK{r l:R2}{i d:CmpOp}{g g':D->D->(D->Prop)->Prop}(v:L8 X (compareOp i) r)(j:L8 X (compareOp d) l)(o:Z3 X r g)(u:Z3 X l g')(B:PU X cl a fa ua)(z:PU X cl b fb ub)(y:PU X cl c fc uc)(x:lastMarks [i,d] [b,c]=false):PU X cl (.Compare a [i,d] [b,c] pos) .fresh (Q5 g g' ua ub uc):=.of<|by
 obtain⟨G,E,C,q,p,pc,h⟩:=NG o u B z y;exact⟨_,Ci v j q p pc x,h⟩
theorem cw{r p:R2}{j i:CmpOp}{g g':D->D->(D->Prop)->Prop}(J:L8 X (compareOp j) r)(l:L8 X (compareOp i) p)(o:Z3 X r g)(C:Z3 X p g')(T:PU X cl a fa ua)(S:PU X cl b fb ub)(O:PU X cl c fc uc)(M:lastMarks [j,i] [b,c]=false):F0 X cl (.Compare a [j,i] [b,c] pos) (uT (Q5 g g' ua ub uc)):=.of<|by
 obtain⟨ta,tb,tc,z,y,pc,h⟩:=NG o C T S O;refine⟨_,AJ J l z y pc M,λG x u H Y Q R U E I k=>h G x u H Y _ _ U E I λv H' d B s r _ q=>?_⟩;cases d<;>first | exact(show False from q).elim | skip
 cases N4 r;exact⟨_,rfl,k _ H' s q⟩
def D2(u:TU):cV:=λj Q=>u j λd=>match d with
 | .p7=>Q false
 | .bl k=>Q k
 | .int i=>Q (i != 0)
 | .str y=>y.length<=sizeLine/\Q ((y.length:Int) != 0)
 | .lst g=>Q (!g.isEmpty)
 | .tup g=>Q (!g.isEmpty)
 | .fz g=>Q (!g.isEmpty)
 | .dic h=>Q (!h.isEmpty)
 | _=>False
theorem y3.empty{K:QP}{H:Hp}{kvs:List (Key×V)}{d:List (Key×D)}{A:QE}(r:y3 K H kvs d A):kvs.isEmpty=d.isEmpty:=by cases r<;>rfl
theorem j8.empty{K:QP}{H:Hp}{kvs:List V}{d:List D}{A:QE}(r:j8 K H kvs d A):kvs.isEmpty=d.isEmpty:=by cases r<;>rfl
theorem i9(h:PU X cl e f ua)(I:∀g,isTrue e X.env g=(do let v <-g;standAt e.pos;holding [v] (truthy v))):F0 X cl e (D2 ua):=.of<|by
 obtain⟨t,p,h⟩:=h.run;refine⟨_,Dp p I,λG y x H M Q R J E C k=>h G y x H M _ _ J E C λv j d B s r _ q=>?_⟩
 cases d with
 | p7=>cases fK r;exact⟨_,rfl,k _ j s q⟩
 | bl i=>cases N4 r;exact⟨_,rfl,k _ j s q⟩
 | int i=>cases C3 r;exact⟨_,rfl,k _ j s q⟩
 | str i=>cases D4 r;exact⟨_,⟨q.1,rfl⟩,k _ j s q.2⟩
 | lst u=>
  obtain⟨p,vs,B,rfl,o,l,_⟩:=K2 r;exact⟨_,.inl ⟨vs,P7.of o,rfl⟩,by rw[l.empty];exact k _ j s q⟩
 | tup u=>
  obtain⟨p,vs,rfl,o,l⟩:=M6 r;exact⟨_,.inr (.inl ⟨vs,T5.of o,rfl⟩),by rw[l.empty];exact k _ j s q⟩
 | fz u=>
  obtain⟨p,vs,rfl,o,l⟩:=gX r;exact⟨_,.inl ⟨vs,o.sq,rfl⟩,by rw[l.empty];exact k _ j s q⟩
 | dic z=>
  cases r with
  | dic o l=>exact⟨_,.inr (.inr ⟨_,.inr ⟨_,o⟩,rfl⟩),by rw[l.empty];exact k _ j s q⟩
 | _=>exact(show False from q).elim
structure Y9(X:Cx)(cl:List Cl)(e:Expr)(u:cV):Prop where
 of ::
 run:∃t,PW X e t/\∀(G:Ent) (ρ:Ev) (σ:St) (H:Hp) (fa:QO) (Q:Bool->Prop) (R:Bool->Hp->Prop),G.cl=cl->E3 X.K G ρ σ H fa->u ρ Q ->
  (∀b H',i5 H H'->Q b->R b H')->t σ H R
theorem Y9.pt{u:cV}(h:Y9 X cl e u):F0 X cl e u:=.of<|let ⟨t,p,h⟩:=h.run;⟨t,PW.pt p,h⟩
def C5(c:cV):cV:=λd Q=>c d λk=>Q (!k)
def Ar(c d:cV):cV:=λg Q=>c g λk=>Br k (d g Q) (Q false)
def ba(c d:cV):cV:=λg Q=>c g λk=>Br k (Q true) (d g Q)
variable{tc td:cV}{rest:QH}
theorem n9(h:F0 X cl a tc):F0 X cl (.UnaryOp .Not a pos) (C5 tc):=.of<|by
 obtain⟨t,p,h⟩:=h.run;exact⟨_,Iv p,λG g d H l Q R j E i k=>h G g d H l _ _ j E i λb o s q=>k _ o s q⟩
theorem fX(h:F0 X cl a tc):Y9 X cl (.BoolOp .And [a] pos) tc:=.of<|let ⟨t,p,h⟩:=h.run;⟨t,Gg p,h⟩
theorem A2(h:F0 X cl a tc):Y9 X cl (.BoolOp .Or [a] pos) tc:=.of<|let ⟨t,p,h⟩:=h.run;⟨t,HS p,h⟩
theorem lA(h:F0 X cl a tc)(d:Y9 X cl (.BoolOp .And (b::rest) pos) td):Y9 X cl (.BoolOp .And (a::b::rest) pos) (Ar tc td):=.of<|by
 obtain⟨t,p,h⟩:=h.run;obtain⟨z,v,d⟩:=d.run;refine⟨_,Jp p v,λG i g H l Q R j E x k=>h G i g H l _ _ j E x λb o s q=>?_⟩
 cases b with
 | true=>
  rw[qq rfl];exact d G i g o l Q R j (E.same s) (q.t rfl) λb y r u=>k b y (s.trans r) u
 | false=>rw[qc nT];exact k _ o s (q.f rfl)
theorem B6(h:F0 X cl a tc)(d:Y9 X cl (.BoolOp .Or (b::rest) pos) td):Y9 X cl (.BoolOp .Or (a::b::rest) pos) (ba tc td):=.of<|by
 obtain⟨t,p,h⟩:=h.run;obtain⟨z,v,d⟩:=d.run;refine⟨_,Lk p v,λG i g H l Q R j E x k=>h G i g H l _ _ j E x λb o s q=>?_⟩
 cases b with
 | true=>rw[qq rfl];exact k _ o s (q.t rfl)
 | false=>
  rw[qc nT];exact d G i g o l Q R j (E.same s) (q.f rfl) λb y r u=>k b y (s.trans r) u
def Q3(ua ub:TU):TU:=λd Q=>ua d λx=>match x with
 | .bl k=>Br k (ub d Q) (Q (.bl false))
 | _=>False
def ML(ua ub:TU):TU:=λd Q=>ua d λx=>match x with
 | .bl k=>Br k (Q (.bl true)) (ub d Q)
 | _=>False
def Gp(ua:TU):TU:=λd Q=>ua d λx=>match x with
 | .bl k=>Q (.bl (!k))
 | _=>False
theorem D8{d}(h:PU X cl a f ua):PU X cl (.BoolOp d [a] pos) f ua:=.of<|let ⟨t,p,h⟩:=h.run;⟨t,Jd p,h⟩
theorem A8(h:PU X cl a fa ua)(i:PU X cl (.BoolOp .And (b::rest) pos) fb ub):PU X cl (.BoolOp .And (a::b::rest) pos) fb (Q3 ua ub):=.of<|by
 obtain⟨t,p,h⟩:=h.run;obtain⟨O,C,i⟩:=i.run;refine⟨_,HA p C,λG g j H o Q R l E I k=>h G g j H o _ _ l E I λv u d B s r _ q=>?_⟩;cases d<;>first | exact(show False from q).elim | skip
 rename_i b
 cases N4 r;refine⟨_,rfl,?_⟩;have q:Br b (ub g Q) (Q (.bl false)):=q
 cases b with
 | true=>
  rw[qq rfl];exact i G g j u o Q R l (E.same s) (q.t rfl) λv M d B x y J z=>k v M d B (s.trans x) y (J.back s) z
 | false=>rw[qc nT];exact k _ u _ [] s .bl (y4.nil _) (q.f rfl)
theorem GI(h:PU X cl a fa ua)(i:PU X cl (.BoolOp .Or (b::rest) pos) fb ub):PU X cl (.BoolOp .Or (a::b::rest) pos) fb (ML ua ub):=.of<|by
 obtain⟨t,p,h⟩:=h.run;obtain⟨O,C,i⟩:=i.run;refine⟨_,KL p C,λG g j H o Q R l E I k=>h G g j H o _ _ l E I λv u d B s r _ q=>?_⟩;cases d<;>first | exact(show False from q).elim | skip
 rename_i b
 cases N4 r;refine⟨_,rfl,?_⟩;have q:Br b (Q (.bl true)) (ub g Q):=q
 cases b with
 | true=>rw[qq rfl];exact k _ u _ [] s .bl (y4.nil _) (q.t rfl)
 | false=>
  rw[qc nT];exact i G g j u o Q R l (E.same s) (q.f rfl) λv M d B x y J z=>k v M d B (s.trans x) y (J.back s) z
theorem sU(h:PU X cl a fa ua):PU X cl (.UnaryOp .Not a pos) .fresh (Gp ua):=.of<|by
 obtain⟨t,p,h⟩:=h.run;refine⟨_,Ir p,λG i g H o Q R l E j k=>h G i g H o _ _ l E j λv u d B s r _ q=>?_⟩;cases d<;>first | exact(show False from q).elim | skip
 cases N4 r;exact⟨_,rfl,k _ u _ [] s .bl (y4.nil _) q⟩
end
structure PN(X:Cx)(cl:List Cl)(e:Expr)(u:TM):Prop where
 of ::
 run:∃t,PE X e t/\∀(G:Ent) (ρ:Ev) (σ:St) (H:Hp) (fa:QO) (Q:D->Ev->Prop) (R:VK),G.cl=cl->E3 X.K G ρ σ H fa->u ρ Q ->
  (∀v H' d B ρ' fa',E3 X.K G ρ' σ H' fa'->R1 X.K G H fa H' fa'->Rep X.K H' v d B->(∀i,G.own i->∀a∈B,a∉fa' i)->Q d ρ'->R v H')->t σ H R
section
variable{X:Cx}{cl:List Cl}{e a b c:Expr}{es:QH}{f:Fl}{pos:Pos}{ua ub uc:TU}{fa fb fc:Fl}{ma mb:TM}
def mP(u:TU):TM:=λg Q=>u g λd=>Q d g
theorem PU.m(h:PU X cl e .fresh ua):PM X cl e (mP ua):=.of<|by
 obtain⟨t,p,h⟩:=h.run;exact⟨t,p,λG g o H l Q R y E u k=>h G g o H l _ _ y E u λv C d B s r f q=>k v C d B g l (E.same s) (R1.same s) r f.1 (λx j=>⟨f.2 x j,λi z=>E.there i z (f.2 x j)⟩) q⟩
theorem PU.n(h:PU X cl e f ua)(o:er f .stab=true):PN X cl e (mP ua):=.of<|by
 obtain⟨t,p,h⟩:=h.run;exact⟨t,p,λG g j H i Q R u E l k=>h G g j H i _ _ u E l λv x d B s r f q=>k v x d B g i (E.same s) (R1.same s) r (f.weak E o) q⟩
theorem PM.n(h:PM X cl e ma):PN X cl e ma:=.of<|by
 obtain⟨t,p,h⟩:=h.run;exact⟨t,p,λG o l H z Q R y E u k=>h G o l H z _ _ y E u λv C d B g j I c r n1 n2 q=>k v C d B g j I c r (λi _ a x=>(n2 a x).2 i) q⟩
def kZ(u:TM):TM:=λh Q=>u h λd g=>w8 d=true/\Q d g
theorem PN.w8(h:PN X cl e ma):PM X cl e (kZ ma):=.of<|by
 obtain⟨t,p,h⟩:=h.run;refine⟨t,p,λG l j H y Q R x E o k=>h G l j H y _ _ x E o λv z d B g i C c r n q=>?_⟩;have e:=r.M8 q.1;subst e;exact k v z d [] g i C c r op (λa u=>(by cases u)) q.2
theorem m2(C:PN X cl a ma)(z:PN X cl b mb):∃r q,PE X a r/\PE X b q/\∀(G:Ent) (p:Ev) (σ:St) (H:Hp) (u:QO) (Q:D->D->Ev->Prop) (R:V->V->Hp->Prop),G.cl=cl->E3 X.K G p σ H u->(ma p λx j=>mb j λy h=>Q x y h) ->
  (∀v w o d e A B l g,E3 X.K G l σ o g->R1 X.K G H u o g->Rep X.K o v d A->Rep X.K o w e B->(∀i,G.own i->∀a∈A,a∉g i)->(∀i,G.own i->∀a∈B,a∉g i)->Q d e l->R v w o)->r σ H λx S=>q σ S λy O=>R x y O:=by
 obtain⟨r,pa,C⟩:=C.run;obtain⟨q,pb,z⟩:=z.run;refine⟨r,q,pa,pb,λG p σ H u Q R U E hu k=>?_⟩;refine C G p σ H u _ _ U E hu λv S d A j J E1 c1 T n1 q1=>?_;refine z G j σ S J _ _ U E1 q1 λw O e B h I E2 M Y n2 q2=>?_;exact k v w O d e A B h I E2 (c1.trans M) (M.keep T n1) Y (M.apart (λx hx=>T.there hx) n1) n2 q2
def Z0(g:D->D->(D->Prop)->Prop)(ma mb:TM):TM:=λj Q=>ma j λx i=>mb i λy h=>g x y λd=>Q d h
theorem Lo{r:R2}{g:D->D->(D->Prop)->Prop}(o:Z3 X r g)(j:PN X cl a ma)(hb:PN X cl b mb)(mk:∀{u p},PE X a u->PE X b p->PE X e (JS r u p)):PM X cl e (Z0 g ma mb):=.of<|by
 obtain⟨u,p,pa,pb,h⟩:=m2 j hb;refine⟨_,mk pa pb,λG S O H fo Q R hG E hu k=>?_⟩;refine h G S O H fo _ _ hG E hu λv w H' d e A B l I M c Y U _ _ q=>?_;exact o H' v w d e A B _ R Y U q λx H2 y C J T n1 n2 q2=>k x H2 y C l I (M.same J) (c.trans (R1.same J)) T n1 (λa j=>⟨c.stb.dom a (n2 a j),λi z=>M.there i z (n2 a j)⟩) q2
theorem uj{r:R2}{d:Operator}{g:D->D->(D->Prop)->Prop}(j:L8 X (binaryOp d) r)(o:Z3 X r g)(p:PN X cl a ma)(l:PN X cl b mb):PM X cl (.BinOp a d b pos) (Z0 g ma mb):=Lo o p l λi h=>GZ j i h
theorem Hw{r:R2}{d:CmpOp}{g:D->D->(D->Prop)->Prop}(j:L8 X (compareOp d) r)(o:Z3 X r g)(q:PN X cl a ma)(p:PN X cl b mb)(l:behindInMarks d b=false):PM X cl (.Compare a [d] [b] pos) (Z0 g ma mb):=Lo o q p λi h=>uK j i h l
theorem CV(g:PN X cl a ma)(d:PN X cl b mb):PM X cl (.BinOp a .Sub b pos) (Z0 (yg λi j=>.int (i-j)) ma mb):=uj CK sZ g d
theorem HG(g:PN X cl a ma)(d:PN X cl b mb):PM X cl (.BinOp a .Mod b pos) (Z0 (gI (λ_ j=>0<j) λi j=>.int (i%j)) ma mb):=uj Cv pU g d
theorem II{v w:V}{H:Hp}{d e:D}{A B:QE}{Q:D->Prop}{R:VK}(y:Rep X.K H v d A)(u:Rep X.K H w e B)(q:NM d e Q)(k:∀x z C,Rep X.K H x z C->C.Sublist A->Q z->R x H):Mg X.K v w H R:=by
 have go:∀{l:List D} {i:Int} {z:D},yC d=some l->e=.int i->L2.O7 l i=some z->Q z->Mg X.K v w H R:=λ{l i z} U T S E=>by
  subst T;cases C3 u;obtain⟨p,vs,C,rfl,j,r,o⟩:=fG y U;obtain⟨x,M,J,I,G⟩:=r.O7 S;rcases j with j | j
  ·exact .inl ⟨p,vs,i,x,rfl,rfl,j,J,k x z M I (G.trans o) E⟩
  ·exact .inr (.inl ⟨p,vs,i,x,rfl,rfl,j,J,k x z M I (G.trans o) E⟩)
 cases d<;>cases e<;>first | exact(show False from q).elim | skip
 ·obtain⟨O,c,h,g⟩:=q;cases D4 y;cases C3 u;exact .inr (.inr ⟨_,_,c,rfl,rfl,O,h,k _ _ [] .str (OV _) g⟩)
 ·obtain⟨z,h,g⟩:=q;exact go rfl rfl h g
 ·obtain⟨z,h,g⟩:=q;exact go rfl rfl h g
 ·obtain⟨z,h,g⟩:=q;exact go rfl rfl h g
theorem y7{i:Nat}{g:Ev}{Q:D->Prop}(h:c8 i g Q):∃d,g[i]?=some (some d)/\Q d:=by
 unfold c8 at h;split at h
 ·exact⟨_,by assumption,h⟩
 ·exact h.elim
abbrev uU:=Ev->(Bool->Ev->Prop)->Prop
structure KR(X:Cx)(cl:List Cl)(e:Expr)(u:uU):Prop where
 of ::
 run:∃t,PT X e t/\∀(G:Ent) (ρ:Ev) (σ:St) (H:Hp) (fa:QO) (Q:Bool->Ev->Prop) (R:Bool->Hp->Prop),G.cl=cl->E3 X.K G ρ σ H fa->u ρ Q ->
  (∀b H' ρ' fa',E3 X.K G ρ' σ H' fa'->R1 X.K G H fa H' fa'->Q b ρ'->R b H')->t σ H R
def tP(u:cV):uU:=λd Q=>u d λb=>Q b d
variable{tc td:cV}{mc md:uU}{rest:QH}
theorem F0.m(h:F0 X cl e tc):KR X cl e (tP tc):=.of<|by
 obtain⟨t,p,h⟩:=h.run;exact⟨t,p,λG d i H g Q R l E j k=>h G d i H g _ _ l E j λb o s q=>k b o d g (E.same s) (R1.same s) q⟩
def mT(u:TM):uU:=λh Q=>u h λd g=>match d with
 | .bl k=>Q k g
 | _=>False
theorem Ho{r:R2}{j:CmpOp}{g:D->D->(D->Prop)->Prop}(Y:L8 X (compareOp j) r)(o:Z3 X r g)(ha:PN X cl a ma)(hb:PN X cl b mb)(hm:behindInMarks j b=false):KR X cl (.Compare a [j] [b] pos) (mT (Z0 g ma mb)):=.of<|by
 obtain⟨ta,tb,T,S,h⟩:=m2 ha hb;refine⟨_,uY Y T S hm,λG I z H fo Q R hG E U k=>?_⟩;refine h G I z H fo (λd e i=>g d e λd=>match d with | .bl k=>Q k i | _=>False) _ hG E U λv w H' d e A B i l E' c O M _ _ q=>?_;refine o H' v w d e A B _ _ O M q λx H2 y C p J n1 n2 u=>?_;cases y<;>first | exact(show False from u).elim | skip
 cases N4 J;exact⟨_,rfl,k _ H2 i l (E'.same p) (c.trans (R1.same p)) u⟩
inductive vY(K:QP)(H:Hp)(N:Addr->Prop):List V->List D->List (QE)->Prop
 | nil:vY K H N [] [] []
 | cons {v:V} {d:D} {B:QE} {vs:List V} {ds:List D} {Bs:List (QE)}:Rep K H v d B->(∀a∈B,¬N a)->vY K H N vs ds Bs->vY K H N (v::vs) (d::ds) (B::Bs)
def Lw(G:Ent)(fa:QO):Addr->Prop:=λa=>∃i,G.own i/\a∈fa i
abbrev nJ:=Ev->(List D->Ev->Prop)->Prop
structure JL(X:Cx)(cl:List Cl)(es:QH)(u:nJ):Prop where
 of ::
 run:∃t,PA X es t/\∀(G:Ent) (ρ:Ev) (σ:St) (H:Hp) (fa:QO) (Q:List D->Ev->Prop) (R:List V->Hp->Prop),G.cl=cl->E3 X.K G ρ σ H fa->u ρ Q ->
  (∀vs H' ds Bs ρ' fa',E3 X.K G ρ' σ H' fa'->R1 X.K G H fa H' fa'->vY X.K H' (Lw G fa') vs ds Bs->ds.length=es.length->Q ds ρ'->R vs H')->t σ H R
def u9:nJ:=λd Q=>Q [] d
def j9(ma:TM)(j:nJ):nJ:=λh Q=>ma h λx g=>j g λi d=>Q (x::i) d
theorem j6:JL X cl [] u9:=.of ⟨_,N2,λG d h H fa Q R _ E g k=>k [] H [] [] d fa E R1.refl .nil rfl g⟩
theorem i7{u:nJ}(j:PN X cl e ma)(hr:JL X cl es u)(Y:isStar e=false):JL X cl (e::es) (j9 ma u):=.of<|by
 obtain⟨t1,O,h1⟩:=j.run;obtain⟨t2,M,h2⟩:=hr.run;refine⟨_,dA O M Y,λG B q H fa Q R y E U k=>?_⟩;refine h1 G B q H fa _ _ y E U λv H1 d A h o E1 c1 r n1 J=>?_;refine h2 G h q H1 o _ _ y E1 J λvs H2 ds Bs g l E2 p C S I=>?_;exact k (v::vs) H2 (d::ds) (A::Bs) g l E2 (c1.trans p) (.cons (p.keep r n1) (λa j ⟨i,hi,z⟩=>p.apart (λx T=>r.there T) n1 i hi a j z) C) (by simp[S]) I
structure JQ(X:Cx)(cl:List Cl)(es:QH)(u:nJ):Prop where
 of ::
 run:∃t,PA X es t/\∀(G:Ent) (ρ:Ev) (σ:St) (H:Hp) (fa:QO) (Q:List D->Ev->Prop) (R:List V->Hp->Prop),G.cl=cl->E3 X.K G ρ σ H fa->u ρ Q ->
  (∀vs H' ds B ρ' fa',E3 X.K G ρ' σ H' fa'->R1 X.K G H fa H' fa'->j8 X.K H' vs ds B->B.Nodup->(∀a∈B,H a=none/\∀i,a∉fa' i)->ds.length=es.length->Q ds ρ'->R vs H')->t σ H R
theorem aA:JQ X cl [] u9:=.of ⟨_,N2,λG d i H fa Q R _ E g k=>k [] H [] [] d fa E R1.refl .nil op (λa h=>(by cases h)) rfl g⟩
theorem A7{C:nJ}(p:PM X cl e ma)(hr:JQ X cl es C)(hs:isStar e=false):JQ X cl (e::es) (j9 ma C):=.of<|by
 obtain⟨t1,p1,h1⟩:=p.run;obtain⟨t2,Y,h2⟩:=hr.run;refine⟨_,dA p1 Y hs,λG O u H fa Q R J E hu k=>?_⟩;refine h1 G O u H fa _ _ J E hu λv H1 d A j r E1 M l n1 n2 U=>?_;refine h2 G j u H1 r _ _ J E1 U λvs H2 ds B h q E2 g S m1 m2 n3 T=>?_;refine k (v::vs) H2 (d::ds) (A++B) h q E2 (M.trans g) (.cons (g.keep l λi _ a p=>(n2 a p).2 i) S) ?_ (λx o=>?_) (by simp[n3]) T
 ·refine List.nodup_append.mpr ⟨n1,m1,λx o y hy e=>?_⟩;subst e;exact l.there o (m2 x hy).1
 ·rcases List.mem_append.mp o with z | z
  ·refine⟨(n2 x z).1,λi y=>?_⟩
   by_cases I:G.own i
   ·rcases g.new i I x y with w | w
    ·exact(n2 x z).2 i w
    ·exact l.there z w
   ·rw[g.bor i I] at y;exact(n2 x z).2 i y
  ·exact⟨M.stb.dom x (m2 x z).1,(m2 x z).2⟩
def Eh(i:nJ):TM:=λg Q=>i g λh d=>Q (.lst h) d
def AX(i:nJ):TM:=λg Q=>i g λh d=>Q (.tup h) d
theorem sN{l:nJ}(h:JQ X cl es l)(J:Nat.ble es.length 1000=true):PM X cl (.List es pos) (Eh l):=.of<|by
 obtain⟨t,p,h⟩:=h.run;refine⟨_,Ak p,λG v u H fa Q R M E I k=>?_⟩;refine h G v u H fa _ _ M E I λvs S O A g j o c r n1 n2 B q=>⟨by rw[r.length,B];exact cO (t4 J),λx d=>?_⟩
 refine k _ _ (.lst O) (x::A) g j (o.same (i5.j4 d)) (c.trans (R1.same (i5.j4 d))) (.lst g9 (r.same (i5.j4 d))) (List.nodup_cons.mpr ⟨λz=>?_,n1⟩) (λy C=>?_) q
 ·have:=r.cR x z;rw[d] at this;exact this
 ·rcases List.mem_cons.mp C with z | z
  ·rw[z];exact⟨c.stb.dom x d,λi z=>o.there i z d⟩
  ·exact n2 y z
theorem kS{j:nJ}{u}(h:JQ X cl es j)(z:Nat.ble es.length 1000=true):PM X cl (.Tuple es u pos) (AX j):=.of<|by
 obtain⟨t,p,h⟩:=h.run;refine⟨_,sL p,λG o l H fa Q R B E y k=>?_⟩;refine h G o l H fa _ _ B E y λvs J C A d i I c r n1 n2 v q=>⟨by rw[r.length,v];exact cO (t4 z),λx g=>?_⟩
 exact k _ _ (.tup C) A d i (I.same (i5.j4 g)) (c.trans (R1.same (i5.j4 g))) (.tup g9 (r.same (i5.j4 g))) n1 n2 q
def MU(g:List D->(D->Prop)->Prop)(j:nJ):TM:=λi Q=>j i λl h=>g l λd=>Q d h
theorem vY.Ka{K:QP}{H:Hp}{N:Addr->Prop}:∀{vs:List V} {ds:List D} {d:List (QE)},vY K H N vs ds d->∃A,j8 K H vs ds A
 | _,_,_,.nil=>⟨_,.nil⟩
 | _,_,_,.cons h _ r=>let ⟨A,q⟩:=r.Ka;⟨_,.cons h q⟩
theorem NP{u:nJ}{r:List V->Hp->VK->Prop}{g:List D->(D->Prop)->Prop}(o:Call3 X r g)(h:JL X cl es u)(mk:∀{t},PA X es t->PE X e (Mn r t)):PM X cl e (MU g u):=.of<|by
 obtain⟨t,p,h⟩:=h.run;refine⟨_,mk p,λG J I H fa Q R T E S k=>?_⟩;refine h G J I H fa _ _ T E S λvs H1 U Bs d j B c r n3 q=>?_;obtain⟨A,r⟩:=r.Ka;exact o H1 vs U A _ R r q λx Y y C l M n1 n2 O=>k x Y y C d j (B.same l) (c.trans (R1.same l)) M n1 (λa v=>⟨c.stb.dom a (n2 a v),λi z=>B.there i z (n2 a v)⟩) O
section
variable{id T:String}{r:List V->Hp->VK->Prop}{g:List D->(D->Prop)->Prop}{x:Str}{p:Pos}{ms:nJ}
theorem xV (v:K8 X (.type T) r) (o:Call3 X r g) (q:Gl X x) (l:X.mg x=none) (i:bootBuiltins x=some (.type T)) (y:JL X cl (e::es) ms) (j:x ≠ "__name__":=by decide) (hd:(x == ("__debug__" : Str))=false:=by decide)
  (u:starEach (e::es) X.env=(false,eval e X.env)::starEach es X.env:=by rfl) (d:(backTo pos (starEach es X.env)).any (·.1)=false:=by rfl):PM X cl (.Call (.Name x p) (e::es) [] pos) (MU g ms):=
 NP o y λh=>jV v q l i h j hd u d
end
end
end L3
namespace L3
open PySem PySem.Spec L2 PyProof.Rows
abbrev Cp:=List D->(D->Prop)->Prop
abbrev Cm:=List D->(D->D->Prop)->Prop
def bb(K:QP)(c:Cp):Sp:=λvs H Q _=>∃d A e,j8 K H vs d A/\c d e/\∀r v b B,e r->i5 H b->Rep K b v r B->B.Nodup->(∀a∈B,H a=none)->Q v b
def vg(K:QP)(c:Cm):Sp:=λvs H Q _=>∃w b d h A j i,vs=w::b/\Rep K H w d A/\A.Nodup/\vY K H (λa=>a∈A) b h j/\c (d::h) i/\∀r l v e g B,i r l->Rep K e w l g->g.Nodup->(∀a∈g,a∈A\/H a=none) ->
 (∀a o,H a=some o->a∉A->e a=some o)->W3 H e->Rep K e v r B->B.Nodup->(∀a∈B,H a=none/\a∉g)->Q v e
structure JN(P:Program)(w:World)(K:QP)(mg:QL)(base:Heap)(x:Str)(k:Nat)(ps:QF)(sp:Sp)(f:Addr)(fd:FuncData):Prop where
 ok:w6 P w K mg base P9 k f fd ps sp
 mgf:mg x=some (.ref f)
 kp:PySem.W.keepIn K (.ref f)=true
 bd:Binds K fd ps []
section
variable{X:Cx}{cl:List Cl}{e a b:Expr}{es:QH}{f:Fl}{pos:Pos}{ua:TU}{ma mb:TM}{us:bS}{ms:nJ}{k:Nat}{fn:Addr}{fd:FuncData}{ps:QF}{x:Str}{p:Pos}
def o8(c:Cp)(us:bS):TU:=λd Q=>us d λg=>c g Q
theorem Gi {c:Cp} (C:JN X.prog X.w X.K X.mg X.base x k ps (bb X.K c) fn fd) (M:D3 k X.A) (O:Gl X x) (j:Dx X cl (e::es) us) (d:isStar e=false) (i:(x == ("__debug__" : Str))=false:=by decide)
  (g:(backTo pos (starEach es X.env)).any (·.1)=false:=by rfl):PU X cl (.Call (.Name x p) (e::es) [] pos) .fresh (o8 c us):=.of<|by
 obtain⟨t,pt,h⟩:=j.run;refine⟨_,lq C.ok M O C.mgf C.kp C.bd .nil zy pt i (R9 d) g,λG o l H T Q R S E J I=>?_⟩;refine h G o l H T _ _ S E J λvs H1 U A s r n3 q=>?_;rw[sK];exact⟨U,A,Q,r,q,λr v Y B z u y n1 n2=>I v Y r B (s.trans u) y ⟨n1,λa j=>s.free (n2 a j)⟩ z⟩
def o7(j:Nat)(c:Cm)(ms:nJ):TM:=λh Q=>c8 j h λ_=>ms h λi g=>c8 j g λd=>c (d::i) λr l=>Q r (g.set j (some l))
theorem vY.imp{K:QP}{H:Hp}{N c:Addr->Prop}(h:∀a,c a->N a):∀{vs:List V} {ds:List D} {d:List (QE)},vY K H N vs ds d->vY K H c vs ds d
 | _,_,_,.nil=>.nil
 | _,_,_,.cons r n t=>.cons r (λa g z=>n a g (h a z)) (t.imp h)
theorem FN {c:Cm} (j:Nat) {y:Str} {vp:Pos} (hv:PE X (.Name y vp) (T9 j)) (hj:cl[j]?=some .own) (C:JN X.prog X.w X.K X.mg X.base x k ps (vg X.K c) fn fd) (hr:D3 k X.A) (hg:Gl X x) (g:JL X cl es ms) (a1:(x == ("__debug__" : Str))=false:=by decide)
  (a0:(backTo pos (starEach es X.env)).any (·.1)=false:=by rfl):PM X cl (.Call (.Name x p) (.Name y vp::es) [] pos) (o7 j c ms):=.of<|by
 obtain⟨t,pt,h⟩:=g.run;refine⟨_,lq C.ok hr hg C.mgf C.kp C.bd .nil zy (dA hv pt rfl) a1 (R9 rfl) a0,λG ρ σ H fa Q R hG E hu kk=>?_⟩;obtain⟨d0,e0,hu⟩:=y7 hu;obtain⟨v,Y,_⟩:=E.rep j d0 e0;refine⟨v,Y,h G ρ σ H fa _ _ hG E hu λvs H1 ds Bs J S u c' r n3 q=>?_⟩;obtain⟨d,e1,q⟩:=y7 q;obtain⟨v',O,rp⟩:=u.rep j d e1;have ev:v'=v:=by rw[Y] at O;cases O;rfl
 subst ev;have own:G.own j:=by unfold Ent.own;rw[hG];exact hj
 rw[sK];refine⟨v',vs,d,ds,S j,Bs,_,rfl,rp,u.nd j (.inl own),r.imp λa g=>⟨j,own,g⟩,q,λr l v H2 A' B qd r2 n1 n2 n3 n4 r3 n5 n6=>?_⟩
 have ch:R1 X.K G H1 S H2 (λi=>if i=j then A' else S i):=by
  refine⟨λa o h n=>n3 a o h (n j own),n4,λi I a g=>?_,λi I=>?_⟩
  ·by_cases e:i=j
   ·subst e;rw[qq rfl] at g;exact n2 a g
   ·rw[qc e] at g;exact .inl g
  ·exact qc λe:i=j=>I (by rw[e];exact own)
 have lj:j<J.length:=(List.getElem?_eq_some_iff.mp e1).1;have M:∀i,i≠j->(J.set j (some l))[i]?=J[i]?:=λi n=>sf (wh n);refine kk v H2 r B (J.set j (some l)) _ (u.step ch (by simp) (λi I=>M i λe=>I (by rw[e];exact own)) (λi d' I e=>?_) (λi I e=>?_) (λi I=>?_) λi U n I a2 a g z=>?_) (c'.trans ch) r3 n5 (λa g=>⟨c'.stb.dom a (n6 a g).1,λi z=>?_⟩) qd
 ·by_cases q:i=j
  ·subst q;rw[sm lj] at e;cases e;exact⟨v',O,by rw[qq rfl];exact r2⟩
  ·rw[M i q] at e;obtain⟨w,e2,r4⟩:=u.rep i d' e;refine⟨w,e2,?_⟩;rw[qc q];refine r4.mono n4 λa g=>?_;obtain⟨o,eo⟩:=cS.some (r4.cR a g);rw[eo];exact n3 a o eo λz=>u.dj i j q I a g z
 ·by_cases q:i=j
  ·subst q;exact absurd (sm lj) (e l)
  ·rw[qc q];exact u.emp i λd z=>e d (by rw[M i q];exact z)
 ·by_cases q:i=j
  ·rw[qq q];exact n1
  ·rw[qc q];exact u.nd i (.inl I)
 ·by_cases q:i=j
  ·rw[qq q] at g;have T:U≠j:=λe=>n (q.trans e.symm);rw[qc T] at z;rcases n2 a g with y | y
   ·exact u.dj j U (wh T) own a y z
   ·exact u.there U z y
  ·rw[qc q] at g
   by_cases T:U=j
   ·rw[qq T] at z;rcases n2 a z with y | y
    ·exact u.dj i j q I a g y
    ·exact u.there i g y
   ·rw[qc T] at z;exact u.dj i U n I a g z
 ·by_cases q:i=j
  ·rw[qq q] at z;exact(n6 a g).2 z
  ·rw[qc q] at z;exact u.there i z (n6 a g).1
def CI(c:Cm)(ma:TM)(ms:nJ):TM:=λi Q=>ma i λd g=>ms g λj h=>c (d::j) λr _=>Q r h
theorem j8.NN{K:QP}{H:Hp}{N:Addr->Prop}{vs:List V}{ds:List D}{B:QE}(r:j8 K H vs ds B):(∀a∈B,¬N a)->∃c,vY K H N vs ds c:=
 r.ind (P:=λvs ds B=>(∀a∈B,¬N a)->∃c,vY K H N vs ds c) (λ_=>⟨_,.nil⟩) λh _ i n=>let ⟨c,q⟩:=i λa d=>n a (iL _ d);⟨_,.cons h (λa d=>n a (sd _ d)) q⟩
theorem E3.away{K:QP}{G:Ent}{j:Ev}{σ:L2.St}{H g:Hp}{c:QO}{A:QE}(E:E3 K G j σ H c)(s:W3 H g)(k:∀a o,H a=some o->a∉A->g a=some o)(n:∀i,∀a∈A,a∉c i)(B:∀a∈A,G.H₀ a=none)(z:∀a∈A,¬G.Z a):E3 K G j σ g c where
 rep:=λi d e=>by
  obtain⟨v,C,r⟩:=E.rep i d e;refine⟨v,C,r.mono s λa l=>?_⟩;obtain⟨o,u⟩:=cS.some (r.cR a l);rw[u];exact k a o u λq=>n i a q l
 emp:=E.emp
 len:=E.len
 nd:=E.nd
 dj:=E.dj
 par:=E.par
 old:=E.old
 new:=E.new
 frm:=λa o h q=>k a o (E.frm a o h q) λy=>by rw[B a y] at h;cases h
 stb:=E.stb.trans s
 zk:=λa y=>by
  obtain⟨o,e⟩:=Option.ne_none_iff_exists'.mp (E.zn a y);have h:=E.zk a y;rw[e] at h ⊢;exact k a o h λq=>z a q y
 zn:=E.zn
 zo:=E.zo
 po:=E.po
theorem yL {c:Cm} (C:JN X.prog X.w X.K X.mg X.base x k ps (vg X.K c) fn fd) (hr:D3 k X.A) (hg:Gl X x) (h0:PM X cl e ma) (g:JQ X cl es ms) (I:isStar e=false) (a0:(x == ("__debug__" : Str))=false:=by decide)
  (Y:(backTo pos (starEach es X.env)).any (·.1)=false:=by rfl):PM X cl (.Call (.Name x p) (e::es) [] pos) (CI c ma ms):=.of<|by
 obtain⟨t0,p0,h0⟩:=h0.run;obtain⟨t,pt,h⟩:=g.run;refine⟨_,lq C.ok hr hg C.mgf C.kp C.bd .nil zy (dA p0 pt I) a0 (R9 I) Y,λG ρ σ H fa Q R hG E hu kk=>?_⟩;refine h0 G ρ σ H fa _ _ hG E hu λw H0 d A O a2 E0 c0 T m1 m2 q0=>?_;refine h G O σ H0 a2 _ _ hG E0 q0 λvs H1 ds B1 S u E' M r k1 k2 U q=>?_;show vg X.K c ((w::vs)++[]) H1 R L2.E0;rw[sK]
 have j:∀i,∀a∈A,a∉u i:=λi a g z=>by
  by_cases hi:G.own i
  ·rcases M.new i hi a z with y | y
   ·exact(m2 a g).2 i y
   ·exact T.there g y
  ·rw[M.bor i hi] at z;exact(m2 a g).2 i z
 obtain⟨Bs,a1⟩:=r.NN (N:=λa=>a∈A) λa g z=>T.there z (k2 a g).1;refine⟨w,vs,d,ds,A,Bs,_,rfl,M.keep T λi _ a g=>(m2 a g).2 i,m1,a1,q,λr l v H2 A' B qd r2 n1 n2 U n4 r3 n5 n6=>?_⟩;have J:=c0.trans M;have ch:R1 X.K G H fa H2 u:=⟨λa o h n=>U a o (J.frm a o h n) λz=>(by rw[(m2 a z).1] at h;cases h),J.stb.trans n4,J.new,J.bor⟩
 refine kk v H2 r B S u (E'.away n4 U j (λa g=>E.stb.dom a (m2 a g).1) λa g z=>?_) ch r3 n5 (λa g=>⟨J.stb.dom a (n6 a g).1,λi z=>E'.there i z (n6 a g).1⟩) qd;have h:=E.zk a z;rw[(m2 a g).1] at h;exact E.zn a z h.symm
end
def i8(n:Nat)(ds:List D):Ev:=ds.map some++List.replicate (n-ds.length) none
theorem j8.each{K:QP}{H:Hp}:∀{vs:List V} {ds:List D} {A:QE},j8 K H vs ds A->∃a:Nat->QE,(∀i d,ds[i]?=some d->∃v,vs[i]?=some v/\Rep K H v d (a i))/\∀i,ds.length<=i->a i=[]
 | _,_,_,.nil=>⟨λ_=>[],λi d e=>(by simp at e),λ_ _=>rfl⟩
 | _,_,_,.cons (A:=A) h r=>by
  obtain⟨a,g,c⟩:=r.each;refine⟨λi=>match i with | 0=>A | i+1=>a i,λi d e=>?_,λi b=>?_⟩
  ·cases i with
   | zero=>simp at e;subst e;exact⟨_,rfl,h⟩
   | succ i=>
    obtain⟨v,l,j⟩:=g i d (by simpa using e);exact⟨v,by simpa using l,j⟩
  ·cases i with
   | zero=>simp at b
   | succ i=>exact c i (by simpa using b)
theorem vY.each{K:QP}{H:Hp}{N:Addr->Prop}:∀{vs:List V} {ds:List D} {u:List (QE)},vY K H N vs ds u->∃b:Nat->QE,(∀i d,ds[i]?=some d->∃v,vs[i]?=some v/\Rep K H v d (b i))/\(∀i,ds.length<=i->b i=[])/\(∀i,∀a∈b i,¬N a)/\ds.length=vs.length
 | _,_,_,.nil=>⟨λ_=>[],λi d e=>(by simp at e),λ_ _=>rfl,λ_ _ h=>(by cases h),rfl⟩
 | _,_,_,.cons (B:=B) h n r=>by
  obtain⟨b,o,l,j,g⟩:=r.each;refine⟨λi=>match i with | 0=>B | i+1=>b i,λi d e=>?_,λi c=>?_,λi=>?_,by simp[g]⟩
  ·cases i with
   | zero=>simp at e;subst e;exact⟨_,rfl,h⟩
   | succ i=>
    obtain⟨v,q,p⟩:=o i d (by simpa using e);exact⟨v,by simpa using q,p⟩
  ·cases i with
   | zero=>simp at c
   | succ i=>exact l i (by simpa using c)
  ·cases i with
   | zero=>exact n
   | succ i=>exact j i
theorem bF{n:Nat}{ds:List D}{i:Nat}{d:D}(h:(i8 n ds)[i]?=some (some d)):ds[i]?=some d:=by
 unfold i8 at h
 by_cases a:i<ds.length
 ·rw[ri (by simpa using a),rz] at h
  cases e:ds[i]? with
  | none=>rw[e] at h;cases h
  | some x=>rw[e] at h;cases h;rfl
 ·rw[t5 (by simpa using a),List.getElem?_replicate] at h;split at h<;>cases h
theorem G9{N:QF}{vs:List V}{i:Nat}{v:V}(h:vs[i]?=some v):(L2.start N vs)[i]?=some (some v):=by
 unfold L2.start;have a:=(List.getElem?_eq_some_iff.mp h).1;rw[ri (by simpa using a),rz,h];rfl
theorem bM{N:QF}{ds:List D}{vs:List V}(h:ds.length=vs.length):(i8 N.length ds).length=(L2.start N vs).length:=by
 unfold i8 L2.start;simp[h]
theorem aV{n:Nat}{ds:List D}{i:Nat}{d:D}(h:ds[i]?=some d):(i8 n ds)[i]?=some (some d):=by
 unfold i8;have a:=(List.getElem?_eq_some_iff.mp h).1;rw[ri (by simpa using a),rz,h];rfl
section
variable{P:Program}{w:World}{K:QP}{mg:QL}{base:Heap}
def Jj:List Cl->Bool
 | []=>true
 | .mk _::_=>false
 | _::r=>Jj r
theorem oM:∀{cl:List Cl} {j:Nat} {a:Hp},Jj cl=true->cl[j]?=some (.mk a)->False
 | [],j,_,_,e=>by cases j<;>cases e
 | c::r,0,a,h,e=>by
  cases e;cases h
 | c::r,j+1,a,h,e=>by
  rw[t6] at e;cases c<;>first | cases h | exact oM (cl:=r) h e
def noOwn:List Cl->Nat->Bool
 | cl,0=>Jj cl
 | .bor::r,n+1=>noOwn r n
 | _,_=>false
theorem aU:∀{cl:List Cl} {n i:Nat},noOwn cl n=true->i<n->cl[i]?=some .bor
 | _,0,i,_,h=>by omega
 | .bor::r,n+1,0,h,_=>rfl
 | .bor::r,n+1,i+1,h,a=>by
  rw[t6];exact aU (cl:=r) (n:=n) (i:=i) h (by omega)
 | [],n+1,i,h,_=>by cases h
 | .own::r,n+1,i,h,_=>by cases h
 | .loc::r,n+1,i,h,_=>by cases h
 | .mk _::r,n+1,i,h,_=>by cases h
theorem cu:∀{cl:List Cl} {n j:Nat} {a:Hp},noOwn cl n=true->cl[j]?=some (.mk a)->False
 | cl,0,j,_,h,e=>by
  rw[noOwn] at h;exact oM h e
 | .bor::r,n+1,0,_,h,e=>by cases e
 | .bor::r,n+1,j+1,_,h,e=>cu (cl:=r) (n:=n) (show noOwn r n=true from h) (by rw[t6] at e;exact e)
 | [],n+1,j,_,h,_=>by cases h
 | .own::r,n+1,j,_,h,_=>by cases h
 | .loc::r,n+1,j,_,h,_=>by cases h
 | .mk _::r,n+1,j,_,h,_=>by cases h
theorem dU{x l:Str}{st:Stmt}{f:Addr}{fd:FuncData}{N ps:QF}{k:Nat}{c:Cp}{s:i6}{cl:List Cl}(F:S6 K x l st f fd)(S:j2 N ps (e6 st))(Y:noOwn cl ps.length=true)
  (hl:∀ds Q,c ds Q->ds.length=ps.length)
  (hb:∀(y:Value) (A:Around) (outer:List Env) (s0:Shared) (H:Hp) (E:XK),D3 k (A.deeper (envOfC l (e6 st) s0.heap.objs.size f y))->jc (bX P9 P w K mg base N l (e6 st) f y A outer s0 H E).IQ cl (E7 st) s)
  (hc:∀ds Q,c ds Q->s { nx:=λ_=>Q .p7,rt:=λd _=>Q d } (i8 N.length ds)):w6 P w K mg base P9 (k+1) f fd ps (bb K c):=by
 refine F.ok S (λvs H Q E h=>?_) (λy A outer s0 H vs Q E hr h=>?_)
 ·obtain⟨ds,A,T,r,q,_⟩:=h;rw[r.length];exact hl ds T q
 ·obtain⟨ds,B,T,r,q,kk⟩:=h;have X:=hl ds T q;obtain⟨t,pt,h⟩:=(hb y A outer s0 H E hr).run;obtain⟨fa,h1,h2⟩:=r.each
  let G:Ent:=⟨H,λ_=>[],vs,cl,λ_=>False,H⟩
  have vl:vs.length=ps.length:=r.length.trans X;have bor:∀i,i<vs.length->cl[i]?=some .bor:=λi b=>aU Y (by omega)
  have g:∀i,i<vs.length->¬G.own i:=λi b z=>by
   have C:cl[i]?=some .own:=z;rw[bor i b] at C;cases C
  have a0:∀i,G.own i->fa i=[]:=λi b=>h2 i (by
   have q1:¬i<vs.length:=λq=>g i q b;have q2:=r.length;omega)
  have E0:E3 K G (i8 N.length ds) (L2.start N vs) H fa:=by
   refine⟨λi d e=>?_,λi e=>h2 i ?_,bM r.length.symm,λi b=>?_,λi j _ b a u=>?_,λi b p=>absurd p (g i b),λi b p=>absurd p (g i b),λi b a u=>?_,λa o h _=>h,W3.refl H,λa z=>z.elim,λa z=>z.elim,λi _ a _ z=>z,⟨λi b p=>absurd p (g i b),λj U e=>(cu Y e).elim⟩⟩
   ·obtain⟨v,e1,r1⟩:=h1 i d (bF e);exact⟨v,G9 e1,r1⟩
   ·by_cases b:i<ds.length
    ·exact absurd (aV (hL b)) (e _)
    ·omega
   ·rw[h2 i (by
     by_cases q:i<ds.length
     ·have q2:=r.length;rcases b with b | b
      ·exact absurd b (g i (by omega))
      ·have C:cl[i]?=some .loc:=b;rw[bor i (by omega)] at C;cases C
     ·omega)];exact op
   ·rw[a0 i b] at u;cases u
   ·rcases b with b | b
    ·have:¬i<vs.length:=λq=>by
      have C:cl[i]?=some .loc:=b;rw[bor i q] at C;cases C
     rw[h2 i (by have:=r.length;omega)] at u;cases u
    ·rw[a0 i b.1] at u;cases u
  refine⟨t,pt,h G { nx:=λ_=>T .p7,rt:=λd _=>T d } _ _ H fa _ rfl E0 (hc ds T q) ⟨λI U O=>?_,λv U O=>?_,λI U O=>?_,λI U O=>?_⟩⟩
  ·obtain⟨J,R,E',M⟩:=O;exact kk .p7 .p7 U [] M (λa o h=>E'.frm a o h λi b p=>absurd p (g i b)) .p7 op λa u=>(by cases u)
  ·obtain⟨d,J,I,R,B',E',r',n1,n2,_,M⟩:=O;exact kk d v U B' M (λa o h=>E'.frm a o h λi b p=>absurd p (g i b)) r' n1 n2
  ·obtain⟨J,R,E',M⟩:=O;exact M
  ·obtain⟨J,R,E',M⟩:=O;exact M
theorem GS{x U:Str}{st:Stmt}{f:Addr}{fd:FuncData}{N ps:QF}{k:Nat}{c:Cm}{s:i6}{cl:List Cl}(F:S6 K x U st f fd)(S:j2 N ps (e6 st))(a1:noOwn cl (ps.length-1)=true)
  (hl:∀ds Q,c ds Q->ds.length=ps.length)
  (hb:∀(X:Value) (A:Around) (outer:List Env) (s0:Shared) (H:Hp) (E:XK),D3 k (A.deeper (envOfC U (e6 st) s0.heap.objs.size f X))->jc (bX P9 P w K mg base N U (e6 st) f X A outer s0 H E).IQ (.own::cl) (E7 st) s)
  (hc:∀ds Q,c ds Q->s { nx:=λρ=>c8 0 ρ λl=>Q .p7 l,rt:=λd ρ=>c8 0 ρ λl=>Q d l } (i8 N.length ds)):w6 P w K mg base P9 (k+1) f fd ps (vg K c):=by
 refine F.ok S (λvs H Q E h=>?_) (λX A outer s0 H vs Q E hr h=>?_)
 ·obtain⟨w,p,d,ds,A,Bs,Qd,rfl,r,n,ap,q,_⟩:=h;obtain⟨fa,h1,h2,h3,h4⟩:=ap.each;have:=hl _ Qd q;simp at this ⊢;omega
 ·obtain⟨w,p,d,ds,A0,Bs,Qd,rfl,r,n,ap,q,kk⟩:=h;obtain⟨fa,h1,h2,h3,h4⟩:=ap.each;have a0:=hl _ Qd q;have a5:ds.length=ps.length-1:=by simp at a0;omega
  obtain⟨t,pt,h⟩:=(hb X A outer s0 H E hr).run
  let fb:Nat->QE:=λi=>match i with | 0=>A0 | i+1=>fa i
  let G:Ent:=⟨H,λi=>if i=0 then A0 else[],w::p,.own::cl,λ_=>False,H⟩
  have bor:∀i,i<p.length->cl[i]?=some .bor:=λi b=>aU a1 (by omega)
  have g:∀i,i<p.length->¬G.own (i+1):=λi b z=>by
   have Y:cl[i]?=some .own:=z;rw[bor i b] at Y;cases Y
  have J:G.own 0:=rfl
  have a3:∀i,G.own (i+1)->fa i=[]:=λi b=>h2 i (by
   have q1:¬i<p.length:=λq=>g i q b;omega)
  have E0:E3 K G (i8 N.length (d::ds)) (L2.start N (w::p)) H fb:=by
   refine⟨λi d' e=>?_,λi e=>?_,bM (by simp[h4]),λi b=>?_,λi j a4 b a I=>?_,λi b ho=>?_,λi b ho a I=>?_,λi b a I=>?_,λa o h _=>h,W3.refl H,λa z=>z.elim,λa z=>z.elim,λi _ a _ z=>z,⟨λi b ho=>?_,λj R e=>?_⟩⟩
   ·have e':=bF e
    cases i with
    | zero=>simp at e';subst e';exact⟨w,G9 (vs:=w::p) (i:=0) rfl,r⟩
    | succ i=>
     obtain⟨v,e1,r1⟩:=h1 i d' (by simpa using e');exact⟨v,G9 (by simpa using e1),r1⟩
   ·cases i with
    | zero=>exact absurd (aV (ds:=d::ds) (i:=0) rfl) (e _)
    | succ i=>
     refine h2 i ?_
     by_cases b:i<ds.length
     ·exact absurd (aV (ds:=d::ds) (i:=i+1) (by rw[t6];exact hL b)) (e _)
     ·omega
   ·cases i with
    | zero=>exact n
    | succ i=>
     show(fa i).Nodup
     rw[h2 i (by
      by_cases q:i<ds.length
      ·rcases b with b | b
       ·exact absurd b (g i (by omega))
       ·have Y:cl[i]?=some .loc:=b;rw[bor i (by omega)] at Y;cases Y
      ·omega)];exact op
   ·cases i with
    | zero=>
     cases j with
     | zero=>exact absurd rfl a4
     | succ j=>exactλz=>h3 j a z I
    | succ i=>
     have C:a∈fa i:=I;rw[a3 i b] at C;cases C
   ·cases i with
    | zero=>exact G9 (vs:=w::p) (i:=0) rfl
    | succ i=>exact absurd ho (g i (by simpa[G] using b))
   ·cases i with
    | zero=>exact .inl I
    | succ i=>exact absurd ho (g i (by simpa[G] using b))
   ·cases i with
    | zero=>
     rcases b with b | b
     ·have z:some Cl.own=some .loc:=b;cases z
     ·exact absurd (OS _) b.2
    | succ i=>
     have C:a∈fa i:=I;rcases b with b | b
     ·have:¬i<p.length:=λq=>by
       have Y:cl[i]?=some .loc:=b;rw[bor i q] at Y;cases Y
      rw[h2 i (by omega)] at C;cases C
     ·rw[a3 i b.1] at C;cases C
   ·cases i with
    | zero=>rfl
    | succ i=>exact absurd ho (g i (by simpa[G] using b))
   ·cases j with
    | zero=>exact absurd (show some Cl.own=some (.mk R) from e) (by intro z;cases z)
    | succ j=>exact(cu a1 (show cl[j]?=some (.mk R) from e)).elim
  have a2:∀{y:Ev} {M:L2.St} {R:Hp} {u:QO} {v:V} {r':D} {l:D} {B:QE},E3 K G y M R u->y[0]?=some (some l)->Qd r' l->Rep K R v r' B->B.Nodup->(∀a∈B,H a=none)->(∀a∈B,a∉u 0)->Q v R:=λ{y M R u v r' l B} T e O rr n1 n2 n3=>by
   obtain⟨v',e1,r1⟩:=T.rep 0 l e;have e2:=T.par 0 (OS _) J;rw[e1] at e2
   have e3:v'=w:=by
    have e4:some (some v')=some (some w):=e2;cases e4;rfl
   subst e3;refine kk r' l v R (u 0) B O r1 (T.nd 0 (.inl J)) (λa I=>?_) (λa o h hn=>T.frm a o h λi b ho z=>?_) T.stb rr n1 λa I=>⟨n2 a I,n3 a I⟩
   ·exact T.old 0 (OS _) J a I
   ·cases i with
    | zero=>exact hn z
    | succ i=>exact absurd ho (g i (by simpa[G] using b))
  refine⟨t,pt,h G { nx:=λρ=>c8 0 ρ λl=>Qd .p7 l,rt:=λd ρ=>c8 0 ρ λl=>Qd d l } _ _ H fb _ rfl E0 (hc _ Qd q) ⟨λM R hq=>?_,λv R hq=>?_,λM R hq=>?_,λM R hq=>?_⟩⟩
  ·obtain⟨y,u,T,O⟩:=hq;obtain⟨l,e,O⟩:=y7 O;exact a2 T e O .p7 op (λa I=>(by cases I)) λa I=>(by cases I)
  ·obtain⟨d,y,M,u,B',T,r',n1,n2,n3,O⟩:=hq;obtain⟨l,e,O⟩:=y7 O;exact a2 T e O r' n1 n2 (n3 0 (OS _) J)
  ·obtain⟨y,u,T,O⟩:=hq;exact O
  ·obtain⟨y,u,T,O⟩:=hq;exact O
end
end L3
namespace L3
open PySem PySem.Spec L2
section
variable{K:QP}{G:Ent}{ρ:Ev}{σ:St}{H:Hp}{fa:QO}
def jn(G:Ent)(fa:QO)(B:QE)(i:Nat):Prop:=
 (∀j,j≠i->G.own j->∀a∈B,a∉fa j) /\
 match G.cl[i]? with
 | some .own=>i≠0/\B.Nodup/\(∀a∈B,G.H₀ a=none/\¬G.Z a/\∀j,j≠i->a∉fa j)
 | some .loc=>B.Nodup/\∀a∈B,G.H₀ a=none
 | _=>True
theorem E3.set{v:V}{d:D}{B:QE}{i:Nat}(E:E3 K G ρ σ H fa)(x:i<ρ.length)(r:Rep K H v d B)(h:jn G fa B i):E3 K G (ρ.set i (some d)) (σ.set i (some v)) H (λj=>if j=i then B else fa j):=by
 have I:i<σ.length:=by rw[<-E.len];exact x
 have c:G.own i->i≠0/\B.Nodup/\(∀a∈B,G.H₀ a=none/\¬G.Z a/\∀j,j≠i->a∉fa j):=λo=>by
  have q:=h.2;unfold Ent.own at o;rw[o] at q;exact q
 have p:G.cl[i]?=some .loc->B.Nodup/\∀a∈B,G.H₀ a=none:=λo=>by
  have q:=h.2;rw[o] at q;exact q
 refine⟨λj M e=>?_,λj e=>?_,by simp[E.len],λj b=>?_,λj l n b a g=>?_,λj b u=>?_,λj b u a g=>?_,λj b a g=>?_,E.frm,E.stb,E.zk,E.zn,λj b a g=>?_,E.po⟩
 ·by_cases q:j=i
  ·subst q;rw[sm x] at e;cases e;exact⟨v,sm I,by rw[qq rfl];exact r⟩
  ·rw[sf (wh q)] at e;obtain⟨w,J,C⟩:=E.rep j M e;exact⟨w,by rw[sf (wh q)];exact J,by rw[qc q];exact C⟩
 ·by_cases q:j=i
  ·subst q;exact absurd (sm x) (e d)
  ·rw[qc q];exact E.emp j λd z=>e d (by rw[sf (wh q)];exact z)
 ·by_cases q:j=i
  ·subst q;rw[qq rfl];rcases b with b | b
   ·exact(c b).2.1
   ·exact(p b).1
  ·rw[qc q];exact E.nd j b
 ·by_cases q:j=i
  ·subst q;rw[qq rfl] at g;rw[qc (wh n)];exact((c b).2.2 a g).2.2 l (wh n)
  ·rw[qc q] at g
   by_cases y:l=i
   ·subst y;rw[qq rfl];exactλz=>h.1 j q b a z g
   ·rw[qc y];exact E.dj j l n b a g
 ·have q:j≠i:=λe=>(c (e▸u)).1 (e▸E.po.one j b u);rw[sf (wh q)];exact E.par j b u
 ·have q:j≠i:=λe=>(c (e▸u)).1 (e▸E.po.one j b u);rw[qc q] at g;exact E.old j b u a g
 ·by_cases q:j=i
  ·subst q;rw[qq rfl] at g;rcases b with b | b
   ·exact(p b).2 a g
   ·exact((c b.1).2.2 a g).1
  ·rw[qc q] at g;exact E.new j b a g
 ·by_cases q:j=i
  ·subst q;rw[qq rfl] at g;exact((c b).2.2 a g).2.1
  ·rw[qc q] at g;exact E.zo j b a g
def AI(c:Option Cl)(f:Fl)(i:Nat):Bool:=match c,f with
 | some .own,.fresh=>decide (i≠0)
 | some .own,_=>false
 | some .loc,.fresh=>true
 | some .loc,.locl=>true
 | some .loc,_=>false
 | _,.any=>false
 | _,_=>true
theorem E3.qw(E:E3 K G ρ σ H fa){a:Addr}(h:H a=none):¬G.Z a:=λz=>by
 have q:=E.zk a z;rw[h] at q;exact E.zn a z q.symm
theorem jn.of(E:E3 K G ρ σ H fa){B:QE}{f:Fl}{i:Nat}(h:y4 G H fa B f)(b:AI G.cl[i]? f i=true):jn G fa B i:=by
 have st:f≠.any->y4 G H fa B .stab:=λn=>h.weak E (by cases f<;>first | rfl | exact absurd rfl n)
 have l:f≠.any:=λe=>by
  subst e;generalize G.cl[i]?=c at b
  cases c with
  | none=>cases b
  | some c=>cases c<;>cases b
 refine⟨λj _ o a d=>st l j o a d,?_⟩
 cases e:G.cl[i]? with
 | none=>trivial
 | some c=>
  rw[e] at b
  cases c with
  | own=>
   cases f with
   | fresh=>exact⟨qs b,h.1,λa d=>⟨E.stb.dom a (h.2 a d),E.qw (h.2 a d),λj _ z=>E.there j z (h.2 a d)⟩⟩
   | _=>cases b
  | loc=>
   have q:=h.weak E (g:=.locl) (by cases f<;>first | rfl | cases b);exact⟨q.2.2,q.2.1⟩
  | bor=>trivial
  | mk _=>trivial
theorem jn.new(E:E3 K G ρ σ H fa){l:Hp}{h:QO}{g:Ev}{d:St}(E0:E3 K G g d l h){B:QE}{i:Nat}(n1:B.Nodup)(n2:∀a∈B,l a=none/\∀j,a∉fa j)(o:G.cl[i]?≠some .own\/i≠0):jn G fa B i:=by
 refine⟨λj _ p a b=>(n2 a b).2 j,?_⟩
 cases e:G.cl[i]? with
 | none=>trivial
 | some c=>
  cases c with
  | own=>exact⟨o.resolve_left (λz=>z e),n1,λa b=>⟨E0.stb.dom a (n2 a b).1,E0.qw (n2 a b).1,λj _=>(n2 a b).2 j⟩⟩
  | loc=>exact⟨n1,λa b=>E0.stb.dom a (n2 a b).1⟩
  | bor=>trivial
  | mk _=>trivial
end
section
variable{X:Cx}{cl:List Cl}{e a b:Expr}{es:QH}{f:Fl}{pos pos':Pos}{ua ub:TU}{ma mb:TM}{x:Str}{i:Nat}{st:Stmt}{sts:QM}{s s2:i6}
def p3:i6:=λT c=>T.nx c
def g6(s u:i6):i6:=λT c=>s { nx:=u T,rt:=T.rt,bk:=T.bk,ct:=T.ct } c
theorem p4:jc X cl [] p3:=.of ⟨_,vz,λG T d c H g R j E h le=>le.nx c H ⟨d,g,E,h⟩⟩
theorem o9(j:J3 X cl st s)(g:jc X cl sts s2):jc X cl (st::sts) (g6 s s2):=.of<|by
 obtain⟨I,v,j⟩:=j.run;obtain⟨C,u,g⟩:=g.run;refine⟨_,iB v u,λG T r p H y R o E h le=>?_⟩;refine j G _ r p H y _ o E h ⟨λc z q=>?_,le.rt,le.bk,le.ct⟩;obtain⟨d,l,B,q⟩:=q;exact g G T d c z l R o B q le
theorem cD(c:J3 X cl st s):jc X cl [st] s:=.of<|let ⟨g,d,c⟩:=c.run;⟨_,Fc d,c⟩
def A5(i:Nat)(u:TU):i6:=λT c=>u c λd=>Nat.blt i c.length=true/\T.nx (c.set i (some d))
theorem kq(J:X.N.Nodup)(y:X.N[i]?=some x)(l:Loc X.env.scope x)(C:PU X cl e f ua)(I:AI cl[i]? f i=true)(u:swapsWith e (some (.Name x pos')) pos.line X.env=pure false:=by rfl)(z:X.fn x=true\/X.env.scope.names.lookup x=some .local:=by first | exact .inl rfl | exact .inr rfl | assumption) :
  J3 X cl (.Assign [.Name x pos'] e pos) (A5 i ua):=.of<|by
 obtain⟨t,p,h⟩:=C.run;refine⟨_,Dl J y l p u z,λG T j g H O R c E o le=>?_⟩;refine h G j g H O _ _ c E o λv Q d B s r M q=>?_;exact le.nx _ _ ⟨_,_,(E.same s).set (t4 q.1) r (jn.of E M (by rw[c];exact I)),q.2⟩
def C7(i:Nat)(u:TM):i6:=λT g=>u g λd c=>Nat.blt i c.length=true/\T.nx (c.set i (some d))
def fO(c:Option Cl)(i:Nat):Bool:=match c with
 | some .own=>decide (i≠0)
 | _=>true
theorem hV{c:Option Cl}{i:Nat}(h:fO c i=true):c≠some .own\/i≠0:=by
 unfold fO at h;split at h
 ·exact .inr (qs h)
 ·rename_i q
  exact .inl λe=>q e
theorem y9(Q:X.N.Nodup)(I:X.N[i]?=some x)(y:Loc X.env.scope x)(M:PM X cl e ma)(O:fO cl[i]? i=true)(C:swapsWith e (some (.Name x pos')) pos.line X.env=pure false:=by rfl)(J:X.fn x=true\/X.env.scope.names.lookup x=some .local:=by first | exact .inl rfl | exact .inr rfl | assumption) :
  J3 X cl (.Assign [.Name x pos'] e pos) (C7 i ma):=.of<|by
 obtain⟨t,p,h⟩:=M.run;refine⟨_,Dl Q I y p C J,λG T u l H U R g E z le=>?_⟩;refine h G u l H U _ _ g E z λv Y d B o S j c r n1 n2 q=>?_;exact le.nx _ _ ⟨_,_,j.set (t4 q.1) r (jn.new j E n1 n2 (by rw[g];exact hV O)),q.2⟩
def M9(c:uU)(s u:i6):i6:=λT g=>c g λk d=>Br k (s T d) (u T d)
theorem y8{c:Expr}{A B:QM}{o:uU}(j:KR X cl c o)(J:jc X cl A s)(I:jc X cl B s2):J3 X cl (.If c A B pos) (M9 o s s2):=.of<|by
 obtain⟨t,p,j⟩:=j.run;obtain⟨U,z,O⟩:=J.run;obtain⟨S,y,M⟩:=I.run;refine⟨_,La p z y,λG T v h H Q R l E C le=>j G v h H Q _ _ l E C λb r d g u c q=>?_⟩
 cases b with
 | true=>rw[qq rfl];exact O G T d h r g R l u (q.t rfl) le
 | false=>rw[qc nT];exact M G T d h r g R l u (q.f rfl) le
def r8(u:TU):i6:=λT c=>u c λd=>T.rt d c
theorem l4(z:PU X cl e f ua)(y:er f .locl=true):J3 X cl (.Return (some e) pos) (r8 ua):=.of<|by
 obtain⟨t,p,h⟩:=z.run;refine⟨_,tI p,λG T j g H l R I E o le=>h G j g H l _ _ I E o λv M d B s r J q=>?_⟩;have c:=J.weak E y;exact le.rt v M ⟨d,j,g,l,B,E.same s,r,c.2.2,c.2.1,λi _ u a C=>c.1 i u a C,q⟩
def bj(u:TM):i6:=λT g=>u g λd c=>T.rt d c
theorem Y3(z:PM X cl e ma):J3 X cl (.Return (some e) pos) (bj ma):=.of<|by
 obtain⟨t,p,h⟩:=z.run;refine⟨_,tI p,λG T u o H I R C E y le=>h G u o H I _ _ C E y λv J d B g l M c r n1 n2 q=>?_⟩;exact le.rt v J ⟨d,g,o,l,B,M,r,n1,λa j=>E.stb.dom a (n2 a j).1,λi _ O a j=>(n2 a j).2 i,q⟩
theorem mY(i:Nat){c:Pos}(h:PE X (.Name x c) (T9 i))(g:i≠0)(I:cl[i]?=some .own):J3 X cl (.Return (some (.Name x c)) pos) (r8 (c8 i)):=.of<|by
 refine⟨_,tI h,λG T u p H l R M E y le=>?_⟩;obtain⟨d,e,q⟩:=y7 y;obtain⟨v,O,r⟩:=E.rep i d e;have o:G.own i:=by unfold Ent.own;rw[M];exact I
 refine⟨v,O,le.rt v H ⟨d,u,p,l,l i,E,r,E.nd i (.inl o),E.new i (.inr ⟨o,λz=>g (E.po.one i z o)⟩),λj C B a J z=>?_,q⟩⟩;exact E.dj i j (λe=>g (e▸E.po.one j C B)) o a J z
def gz(u:TM):i6:=λT d=>u d λ_ c=>T.nx c
theorem eh(z:PN X cl e ma)(y:swapsWith e none pos.line X.env=pure false:=by rfl):J3 X cl (.Expr e pos) (gz ma):=.of<|by
 obtain⟨t,p,h⟩:=z.run;refine⟨_,Fp p y,λG T o l H I R C E u le=>h G o l H I _ _ C E u λv M d B g j J c r n q=>?_⟩;exact le.nx _ _ ⟨g,j,J,q⟩
end
section
variable{K:QP}{G:Ent}{ρ:Ev}{σ:St}{H H1 H2:Hp}{fa fa1:QO}
theorem E3.put{i:Nat}{v:V}{d:D}{p:Addr}{A:QE}(E:E3 K G ρ σ H1 fa1)(o:G.own i)(M:i<ρ.length)(T:σ[i]?=some (some v))(x:p∈fa1 i)(k:∀a,a≠p->H2 a=H1 a)(I:H2 p≠none)
  (r:Rep K H2 v d A) (n1:A.Nodup) (n2:∀a∈A,a∈fa1 i\/(G.H₀ a=none/\¬G.Z a/\∀j,a∉fa1 j)):E3 K G (ρ.set i (some d)) σ H2 (λj=>if j=i then A else fa1 j):=by
 have B:=E.cR i p x
 have stb:W3 H1 H2:=⟨λb Y h=>by
   by_cases e:b=p
   ·subst e;rw[h] at B;exact B.elim
   ·rw[k b e];exact h,λb u w h=>by
   by_cases e:b=p
   ·subst e;rw[h] at B;exact B.elim
   ·rw[k b e];exact h,λb h=>by
   by_cases e:b=p
   ·subst e;exact absurd h I
   ·rw[k b e] at h;exact h⟩
 have S:∀j,j≠i->p∉fa1 j:=λj n z=>E.dj i j (wh n) o p x z;have hs:i<σ.length:=by rw[<-E.len];exact M
 refine⟨λj X e=>?_,λj e=>?_,by simp[E.len],λj g=>?_,λj l n g a c=>?_,E.par,λj g Q a c=>?_,λj g a c=>?_,λa u h n=>?_,E.stb.trans stb,λa z=>?_,E.zn,λj g a c=>?_,E.po⟩
 ·by_cases q:j=i
  ·subst q;rw[sm M] at e;cases e;exact⟨v,T,by rw[qq rfl];exact r⟩
  ·rw[sf (wh q)] at e;obtain⟨w,U,R⟩:=E.rep j X e;refine⟨w,U,?_⟩;rw[qc q];exact R.mono stb λa c=>k a λe=>S j q (e▸c)
 ·by_cases q:j=i
  ·subst q;exact absurd (sm M) (e d)
  ·rw[qc q];exact E.emp j λd z=>e d (by rw[sf (wh q)];exact z)
 ·by_cases q:j=i
  ·rw[qq q];exact n1
  ·rw[qc q];exact E.nd j g
 ·by_cases q:j=i
  ·subst q;rw[qq rfl] at c;rw[qc (wh n)];rcases n2 a c with y | y
   ·exact E.dj j l n o a y
   ·exact y.2.2 l
  ·rw[qc q] at c
   by_cases O:l=i
   ·subst O;rw[qq rfl];intro z;rcases n2 a z with y | y
    ·exact E.dj j l q g a c y
    ·exact y.2.2 j c
   ·rw[qc O];exact E.dj j l n g a c
 ·by_cases q:j=i
  ·subst q;rw[qq rfl] at c;rcases n2 a c with y | y
   ·exact E.old j g Q a y
   ·exact .inr y.1
  ·rw[qc q] at c;exact E.old j g Q a c
 ·by_cases q:j=i
  ·subst q;rw[qq rfl] at c;rcases n2 a c with y | y
   ·exact E.new j g a y
   ·exact y.1
  ·rw[qc q] at c;exact E.new j g a c
 ·have J:a≠p:=λe=>by
   subst e
   by_cases C:i<G.vs.length
   ·rcases E.old i C o a x with y | y
    ·exact n i C o y
    ·rw[h] at y;cases y
   ·have y:=E.new i (.inr ⟨o,C⟩) a x;rw[h] at y;cases y
  rw[k a J];exact E.frm a u h n
 ·rw[k a (λe=>E.zo i o p x (e▸z))];exact E.zk a z
 ·by_cases q:j=i
  ·subst q;rw[qq rfl] at c;rcases n2 a c with y | y
   ·exact E.zo j g a y
   ·exact y.2.1
  ·rw[qc q] at c;exact E.zo j g a c
theorem R1.put{i:Nat}{p:Addr}{A:QE}(c:R1 K G H fa H1 fa1)(E:E3 K G ρ σ H1 fa1)(o:G.own i)(x:p∈fa1 i)(k:∀a,a≠p->H2 a=H1 a)(r:H2 p≠none)(n2:∀a∈A,a∈fa1 i\/H a=none):R1 K G H fa H2 (λj=>if j=i then A else fa1 j):=by
 have g:=E.cR i p x;refine⟨λa u h n=>?_,c.stb.trans ⟨λb z h=>?_,λb u w h=>?_,λb h=>?_⟩,λj d a l=>?_,λj d=>?_⟩
 ·have v:a≠p:=λe=>by
   subst e;rcases c.new i o a x with y | y
   ·exact n i o y
   ·rw[h] at y;cases y
  rw[k a v];exact c.frm a u h n
 ·by_cases e:b=p
  ·subst e;rw[h] at g;exact g.elim
  ·rw[k b e];exact h
 ·by_cases e:b=p
  ·subst e;rw[h] at g;exact g.elim
  ·rw[k b e];exact h
 ·by_cases e:b=p
  ·subst e;exact absurd h r
  ·rw[k b e] at h;exact h
 ·by_cases q:j=i
  ·subst q;rw[qq rfl] at l;rcases n2 a l with y | y
   ·exact c.new j d a y
   ·exact .inr y
  ·rw[qc q] at l;exact c.new j d a l
 ·exact(qc λe:j=i=>d (by rw[e];exact o)).trans (c.bor j d)
theorem fQ{H:Hp}{p:Addr}{o:HO}:∀a,a≠p->upd H p o a=H a:=λa n=>i4 n
end
section
variable{X:Cx}{cl:List Cl}{e a b:Expr}{es:QH}{f:Fl}{pos pos':Pos}{ua ub:TU}{ma mb:TM}{x:Str}{i:Nat}{st:Stmt}{sts:QM}{s s2:i6}
def KU:D->Bool
 | .lst _=>true
 | _=>false
def IY(i:Nat)(d:D)(g:Ev)(Q:Ev->Prop):D->Prop
 | .lst c=>c.length<sizeLine/\Q (g.set i (some (.lst (c++[d]))))
 | _=>False
def sY(i:Nat)(ma:TM):TM:=λg Q=>c8 i g λl=>KU l=true/\ma g λd c=>c8 i c (IY i d c (Q .p7))
theorem R7{r:V->List V->Hp->VK->Prop}{j Y:Pos}(i:Nat)(hv:PE X (.Name x Y) (T9 i))(hi:cl[i]?=some .own)(he:PM X cl e ma)(a2:isStar e=false)
  (mk:∀{t},PA X [e] t->PE X (.Call (.Attribute (.Name x Y) "append" j) [e] [] pos) (MS X.K "list" U7 (T9 i) t)):PM X cl (.Call (.Attribute (.Name x Y) "append" j) [e] [] pos) (sY i ma):=.of<|by
 obtain⟨t,p,h⟩:=he.run;refine⟨_,mk (dA p N2 a2),λG ρ σ H fa Q R hG E hu k=>?_⟩;obtain⟨l0,e0,il,hu⟩:=y7 hu;have own:G.own i:=by unfold Ent.own;rw[hG];exact hi
 obtain⟨v,J,r0⟩:=E.rep i l0 e0;cases l0<;>first | cases il | skip
 obtain⟨p,vs,B,rfl,hp,_,_⟩:=K2 r0;refine⟨_,J,.inl ⟨rfl,vs,P7.of hp⟩,h G ρ σ H fa _ _ hG E hu λw H1 d O I M T c1 r1 n1 n2 q=>?_⟩;obtain⟨l1,e1,q⟩:=y7 q;obtain⟨v',o,r2⟩:=T.rep i l1 e1;have ev:v'=.ref p:=by rw[J] at o;cases o;rfl
 subst ev;cases l1<;>first | exact(show False from q).elim | skip
 rename_i U
 obtain⟨p',l,B',ep,C,rs,S⟩:=K2 r2;cases ep;have q:U.length<sizeLine/\Q .p7 (I.set i (some (.lst (U++[d])))):=q;have nd:=T.nd i (.inl own);have pin:p∈M i:=by rw[S];exact pu
 rw[S] at nd;obtain⟨np,a1⟩:=List.nodup_cons.mp nd;have g:p∉O:=λz=>(n2 p z).2 i pin
 have st:W3 H1 (upd H1 p (.lst (l++[w]))):=⟨λb ys h=>by
   by_cases e:b=p
   ·subst e;rw[C] at h;cases h
   ·rw[i4 e];exact h,λb u w' h=>by
   by_cases e:b=p
   ·subst e;rw[C] at h;cases h
   ·rw[i4 e];exact h,λb h=>by
   by_cases e:b=p
   ·subst e;rw[g9] at h;cases h
   ·rw[i4 e] at h;exact h⟩
 have rn:Rep X.K (upd H1 p (.lst (l++[w]))) (.ref p) (.lst (U++[d])) (p::(B'++(O++[]))):=
  .lst g9 ((rs.mono st λa c=>i4 λe=>np (e▸c)).append (.cons (r1.mono st λa c=>i4 λe=>g (e▸c)) .nil))
 rw[sK] at rn
 have n3:∀a∈p::(B'++O),a∈M i\/a∈O:=λa c=>by
  rcases List.mem_cons.mp c with z | z
  ·exact .inl (z▸pin)
  ·rcases List.mem_append.mp z with y | y
   ·exact .inl (by rw[S];exact ol _ y)
   ·exact .inr y
 have a0:(p::(B'++O)).Nodup:=List.nodup_cons.mpr ⟨λz=>(List.mem_append.mp z).elim np g,List.nodup_append.mpr ⟨a1,n1,λa c b hb e=>(n2 b hb).2 i (by rw[S,<-e];exact ol _ c)⟩⟩;have li:i<I.length:=(List.getElem?_eq_some_iff.mp e1).1;refine⟨p,l,w,rfl,rfl,C,by rw[rs.length];exact q.1,?_⟩;refine k .p7 _ .p7 [] _ _ (T.put own li o pin fQ (by rw[g9];exactλz=>nomatch z) rn a0 λa c=>(n3 a c).imp id λy=>⟨E.stb.dom a (n2 a y).1,E.qw (n2 a y).1,(n2 a y).2⟩) (c1.put T own pin fQ (by rw[g9];exactλz=>nomatch z) λa c=>(n3 a c).imp id λy=>(n2 a y).1) .p7 op (λa c=>(by cases c)) q.2
def Kq(i:Nat)(k:Int)(d:D)(g:Ev)(Q:Ev->Prop):D->Prop
 | .lst c=>∃j,ji c.length k=some j/\Q (g.set i (some (.lst (c.set j d))))
 | _=>False
def xZ(i:Nat)(j mk:TM):i6:=λT h=>j h λd g=>c8 i g λ_=>mk g λk c=>match k with
 | .int k=>c8 i c (Kq i k d c T.nx)
 | _=>False
theorem oo{vp tp:Pos}{Q:Expr}{mk:TM}(i:Nat)(hv:PE X (.Name x vp) (T9 i))(hi:cl[i]?=some .own)(he:PM X cl e ma)(hk:PN X cl Q mk)
  (a3:∀{te ti},PE X e te->PE X Q ti->PS X (.Assign [.Subscript (.Name x vp) Q tp] e pos) (xk te (ae (T9 i) ti Gu))):J3 X cl (.Assign [.Subscript (.Name x vp) Q tp] e pos) (xZ i ma mk):=.of<|by
 obtain⟨t,p,h⟩:=he.run;obtain⟨t2,p2,h2⟩:=hk.run;refine⟨_,a3 p p2,λG T ρ σ H fa R hG E hu le=>?_⟩;have own:G.own i:=by unfold Ent.own;rw[hG];exact hi
 refine h G ρ σ H fa _ _ hG E hu λw H1 d B1 U a4 E1 c1 r1 n1 n2 q=>?_;obtain⟨l0,e0,q⟩:=y7 q;obtain⟨v,J,r0⟩:=E1.rep i l0 e0;refine⟨_,J,h2 G U σ H1 a4 _ _ hG E1 q λwk H2 dk Bk I o E2 c2 rk nk q=>?_⟩;cases dk<;>first | exact(show False from q).elim | skip
 rename_i kk
 cases C3 rk;obtain⟨l1,e1,q⟩:=y7 q;obtain⟨v',g,r2⟩:=E2.rep i l1 e1;have ev:v'=v:=by rw[J] at g;cases g;rfl
 subst ev;cases l1<;>first | exact(show False from q).elim | skip
 rename_i Y
 obtain⟨p,vs,B,rfl,hp,rs,S⟩:=K2 r2;obtain⟨j,hj,q⟩:∃j,ji Y.length kk=some j/\T.nx (I.set i (some (.lst (Y.set j d)))):=q;have a0:=c2.keep r1 λi _ a c=>(n2 a c).2 i
 have r:∀a∈B1,∀l,a∉o l:=λa c l z=>by
  by_cases ho:G.own l
  ·rcases c2.new l ho a z with y | y
   ·exact(n2 a c).2 l y
   ·exact r1.there c y
  ·rw[c2.bor l ho] at z;exact(n2 a c).2 l z
 have nd:=E2.nd i (.inl own);have pin:p∈o i:=by rw[S];exact pu
 rw[S] at nd;obtain⟨np,a2⟩:=List.nodup_cons.mp nd;have O:p∉B1:=λz=>r p z i pin
 have st:∀ws,W3 H2 (upd H2 p (.lst ws)):=λws=>⟨λb ys h=>by
   by_cases e:b=p
   ·subst e;rw[hp] at h;cases h
   ·rw[i4 e];exact h,λb u w' h=>by
   by_cases e:b=p
   ·subst e;rw[hp] at h;cases h
   ·rw[i4 e];exact h,λb h=>by
   by_cases e:b=p
   ·subst e;rw[g9] at h;cases h
   ·rw[i4 e] at h;exact h⟩
 obtain⟨C,rC,mC,nC⟩:=j8.set j rs a0;have M:p∉C:=λz=>(mC p z).elim np O;have rn:Rep X.K (upd H2 p (.lst (vs.set j w))) (.ref p) (.lst (Y.set j d)) (p::C):=.lst g9 (rC.mono (st _) λa c=>i4 λe=>M (e▸c))
 have n3:∀a∈p::C,a∈o i\/a∈B1:=λa c=>by
  rcases List.mem_cons.mp c with z | z
  ·exact .inl (z▸pin)
  ·exact(mC a z).imp (λy=>by rw[S];exact ol _ y) id
 have a1:(p::C).Nodup:=List.nodup_cons.mpr ⟨M,nC a2 n1 λa c z=>r a c i (by rw[S];exact ol _ z)⟩;have li:i<I.length:=(List.getElem?_eq_some_iff.mp e1).1;refine⟨p,vs,kk,j,rfl,rfl,hp,by rw[rs.length];exact hj,?_⟩;exact le.nx _ _ ⟨_,_,E2.put own li g pin fQ (by rw[g9];exactλz=>nomatch z) rn a1 λa c=>(n3 a c).imp id λy=>⟨E.stb.dom a (n2 a y).1,E.qw (n2 a y).1,r a y⟩,q⟩
end
def fY(K:QP)(J:It)(xs:List D)(C:QE)(H:Hp):Prop:=∀b,Tf H b->(∀a∈C,b a=H a)->∀i,(xs.length=i->J.stop i b) /\
 ∀d,xs[i]?=some d->J.go i b/\∀x c,J.yld i b x c->i5 b c/\∃B,Rep K c x d B/\B.Sublist C
abbrev yH:=Ev->(List D->Prop)->Prop
abbrev JM:=Ev->(List D->Ev->Prop)->Prop
structure eY(X:Cx)(cl:List Cl)(tg iter:Expr)(f:Fl)(u:yH):Prop where
 of ::
 run:∃wi,PI X tg iter wi/\∀(G:Ent) (ρ:Ev) (σ:St) (H:Hp) (fa:QO) (Q:List D->Prop) (R:It->Hp->Prop),G.cl=cl->E3 X.K G ρ σ H fa->u ρ Q ->
  (∀J H1 xs C,i5 H H1->fY X.K J xs C H1->(∀a∈C,H1 a≠none)->y4 G H fa C f->Q xs->R J H1)->wi σ H R
structure Lh(X:Cx)(cl:List Cl)(tg iter:Expr)(u:JM):Prop where
 of ::
 run:∃wi,PI X tg iter wi/\∀(G:Ent) (ρ:Ev) (σ:St) (H:Hp) (fa:QO) (Q:List D->Ev->Prop) (R:It->Hp->Prop),G.cl=cl->E3 X.K G ρ σ H fa->u ρ Q ->
  (∀J H1 xs C ρ1 fa1,E3 X.K G ρ1 σ H1 fa1->R1 X.K G H fa H1 fa1->fY X.K J xs C H1->(∀a∈C,H1 a≠none)->(∀i,G.own i->∀a∈C,a∉fa1 i)->Q xs ρ1->R J H1)->wi σ H R
section
variable{X:Cx}{cl:List Cl}{tg e a b:Expr}{es:QH}{f:Fl}{pos pos':Pos}{ua ub:TU}{ma mb:TM}{x:Str}{i:Nat}
def iP(u:yH):JM:=λc Q=>u c λd=>Q d c
theorem eY.m{u:yH}(h:eY X cl tg e f u)(v:er f .stab=true):Lh X cl tg e (iP u):=.of<|by
 obtain⟨t,p,h⟩:=h.run;exact⟨t,p,λG c g H d Q R y E r k=>h G c g H d _ _ y E r λJ B j C s o l z q=>k J B j C c d (E.same s) (R1.same s) o l (z.weak E v) q⟩
theorem aM{K:QP}{H c:Hp}{vs:List V}{xs:List D}{C:QE}(r:j8 K H vs xs C)(tf:Tf H c)(k:∀a∈C,c a=H a){i:Nat}{d:D}(e:xs[i]?=some d):∃v B,vs[i]?=some v/\Rep K c v d B/\B.Sublist C:=(r.bU tf k).get e
theorem NU{K:QP}{H:Hp}{p:Addr}{vs:List V}{xs:List D}{C:QE}(h:H p=some (.lst vs))(r:j8 K H vs xs C):fY K (Md K p) xs (p::C) H:=λo tf k i=>by
 have g:o p=some (.lst vs):=(k p pu).trans h;have z:∀a∈C,o a=H a:=λa G=>k a (ol _ G);refine⟨λE=>⟨vs,P7.of g,by rw[r.length];exact OD E⟩,λd e=>?_⟩;obtain⟨v,B,l,u,q⟩:=aM r tf z e;refine⟨⟨vs,v,P7.of g,l⟩,λy J c=>?_⟩;obtain⟨I,c⟩:=c;subst I;have j:=c vs (P7.of g);rw[l] at j;cases j;exact⟨i5.refl _,B,u,q.trans (Lb _ _)⟩
theorem Og{K:QP}{H:Hp}{p:Addr}{vs:List V}{xs:List D}{C:QE}(h:HR K H p vs)(r:j8 K H vs xs C):fY K (Md K p) xs C H:=λE tf k i=>by
 have g:P7 K E p vs:=(tf.Mp h).sq;refine⟨λu=>⟨vs,g,by rw[r.length];exact OD u⟩,λd e=>?_⟩;obtain⟨v,B,l,q,o⟩:=aM r tf k e;refine⟨⟨vs,v,g,l⟩,λy G c=>?_⟩;obtain⟨z,c⟩:=c;subst z;have j:=c vs g;rw[l] at j;cases j;exact⟨i5.refl _,B,q,o⟩
theorem Mb{K:QP}{H:Hp}{p:Addr}{vs:List V}{xs:List D}{C:QE}(h:H p=some (.tup vs))(r:j8 K H vs xs C):fY K (Nd K p) xs C H:=λE tf k i=>by
 have g:T5 K E p vs:=T5.of (tf.D5 _ _ h);refine⟨λu=>⟨vs,g,by rw[r.length];exact OD u⟩,λd e=>?_⟩;obtain⟨v,B,l,q,o⟩:=aM r tf k e;refine⟨⟨vs,v,g,l⟩,λy G c=>?_⟩;obtain⟨z,c⟩:=c;subst z;have j:=c vs g;rw[l] at j;cases j;exact⟨i5.refl _,B,q,o⟩
theorem j8.there{K:QP}{H:Hp}{v:List V}{d:List D}{A:QE}(r:j8 K H v d A):∀x∈A,H x≠none:=λx c z=>by
 have:=r.cR x c;rw[z] at this;exact this
def nO(lo:Int)(n:Nat):List D:=(List.range n).map λ(k:Nat)=>D.int (lo+(k:Int))
theorem itR{K:QP}{H:Hp}(lo:Int)(n:Nat):fY K (LX lo n) (nO lo n) [] H:=λo tf k i=>by
 refine⟨λc=>by unfold nO at c;rw[cC,rm] at c;exact OD c,λd e=>?_⟩;unfold nO at e;rw[rz] at e
 by_cases g:i<n
 ·rw[Pm g] at e;cases e;refine⟨g,λy l h=>?_⟩;obtain⟨j,rfl⟩:=h;subst j;exact⟨i5.refl _,[],.int,OV _⟩
 ·rw[L0 (by rw[rm];omega)] at e;cases e
def JI(u:TM):JM:=λg Q=>u g λd c=>match d with
 | .int j=>(-(2^62)<=j/\j<2^62)/\Q (nO 0 j.toNat) c
 | _=>False
theorem jJ {p:Pos} (T:Gl X "range") (S:X.mg "range"=none) (h:PN X cl e ma) (l:isStar e=false)
  (mk:∀{t},PA X [e] t->PI X tg (.Call (.Name "range" p) [e] [] pos) (Bi t)):Lh X cl tg (.Call (.Name "range" p) [e] [] pos) (JI ma):=.of<|by
 obtain⟨t,pt,h⟩:=h.run;refine⟨_,mk (dA pt N2 l),λG z y H J Q R I E C k=>h G z y H J _ _ I E C λv M d B g u O c r n q=>?_⟩;cases d<;>first | exact(show False from q).elim | skip
 rename_i j
 cases C3 r;have q:(-(2^62)<=j/\j<2^62)/\Q (nO 0 j.toNat) g:=q;exact⟨j,rfl,q.1.1,q.1.2,k _ M _ [] g u O c (itR 0 _) (λa o=>(by cases o)) (λ_ _ a o=>(by cases o)) q.2⟩
def cx(u:TU):yH:=λc Q=>u c λd=>match d with
 | .int j=>(-(2^62)<=j/\j<2^62)/\Q (nO 0 j.toNat)
 | _=>False
theorem P1 {p:Pos} (J:Gl X "range") (I:X.mg "range"=none) (h:PU X cl e f ua) (c:isStar e=false)
  (mk:∀{t},PA X [e] t->PI X tg (.Call (.Name "range" p) [e] [] pos) (Bi t)):eY X cl tg (.Call (.Name "range" p) [e] [] pos) .fresh (cx ua):=.of<|by
 obtain⟨t,pt,h⟩:=h.run;refine⟨_,mk (dA pt N2 c),λG l g H z Q R y E o k=>h G l g H z _ _ y E o λv C d B s r M q=>?_⟩;cases d<;>first | exact(show False from q).elim | skip
 rename_i j
 cases C3 r;have q:(-(2^62)<=j/\j<2^62)/\Q (nO 0 j.toNat):=q;exact⟨j,rfl,q.1.1,q.1.2,k _ C _ [] s (itR 0 _) (λa u=>(by cases u)) (y4.nil _) q.2⟩
def eS:Nat->List D->List D
 | _,[]=>[]
 | k,x::c=>.tup [.int k,x]::eS (k+1) c
theorem V9:∀{xs:List D} {k i:Nat} {d:D},(eS k xs)[i]?=some d->∃x,xs[i]?=some x/\d=.tup [.int ((k+i:Nat):Int),x]
 | [],_,_,_,e=>by simp[eS] at e
 | x::xs,k,0,d,e=>by simp[eS] at e;exact⟨x,rfl,e.symm⟩
 | x::xs,k,i+1,d,e=>by
  rw[eS,t6] at e;obtain⟨y,g,c⟩:=V9 e;exact⟨y,by simpa using g,by rw[c];congr 3;omega⟩
theorem G6:∀{xs:List D} {k:Nat},(eS k xs).length=xs.length
 | [],_=>rfl
 | x::xs,k=>by simp[eS,G6]
def dD:List D->List D->List D
 | x::d,y::c=>.tup [x,y]::dD d c
 | _,_=>[]
theorem gC:∀{xs c:List D} {i:Nat} {d:D},(dD xs c)[i]?=some d->∃x y,xs[i]?=some x/\c[i]?=some y/\d=.tup [x,y]
 | [],c,_,_,e=>by simp[dD] at e
 | x::xs,[],_,_,e=>by simp[dD] at e
 | x::xs,y::c,0,d,e=>by simp[dD] at e;exact⟨x,y,rfl,rfl,e.symm⟩
 | x::xs,y::c,i+1,d,e=>by
  rw[dD,t6] at e;obtain⟨h,g,o,l,j⟩:=gC e;exact⟨h,g,by simpa using o,by simpa using l,j⟩
theorem qh:∀{xs c:List D},(dD xs c).length=min xs.length c.length
 | [],c=>by simp[dD]
 | x::xs,[]=>by simp[dD]
 | x::xs,y::c=>by simp[dD,qh]
def NQ(K:QP)(b:Bool)(H:Hp)(p:Addr)(xs:List D)(C:QE):Prop:=∃vs B,j8 K H vs xs B/\B.Sublist C/\∀c,Tf H c->(∀a∈C,c a=H a)->yF b K c p vs
def kindB(b:Bool)(d:D):Option (List D):=match b,d with
 | false,.lst c=>some c
 | false,.fz c=>some c
 | true,.tup c=>some c
 | _,_=>none
theorem AL{K:QP}{H:Hp}{v:V}{d:D}{A:QE}{xs:List D}(r:Rep K H v d A)(b:Bool)(e:kindB b d=some xs):∃p,v=.ref p/\NQ K b H p xs A:=by
 cases b with
 | false=>
  cases d<;>first | cases e | skip
  ·obtain⟨p,vs,C,rfl,g,c,rfl⟩:=K2 r;exact⟨p,rfl,vs,C,c,Lb _ _,λh tf k=>P7.of ((k p pu).trans g)⟩
  ·obtain⟨p,vs,rfl,g,c⟩:=gX r;exact⟨p,rfl,vs,A,c,Fk _,λh tf k=>(tf.Mp g).sq⟩
 | true=>
  cases d<;>first | cases e | skip
  obtain⟨p,vs,rfl,g,c⟩:=M6 r;exact⟨p,rfl,vs,A,c,Fk _,λh tf k=>T5.of (tf.D5 _ _ g)⟩
def LW(j h:Bool)(ua ub:TU):yH:=λg Q=>ua g λx=>ub g λy=>∃d c,kindB j x=some d/\kindB h y=some c/\l9 d=true/\l9 c=true/\Q (dD d c)
theorem Ke{p:Pos}{fa fb:Fl}(b1 b2:Bool)(c:PU X cl a fa ua)(hb:PU X cl b fb ub)(g:Fl)(hg:er .stab g=true)(a1:er fa g=true)(a0:er fb g=true)(h1:isStar a=false)(h2:isStar b=false)
  (mk:∀{t},PA X [a,b] t->PI X tg (.Call (.Name "zip" p) [a,b] [] pos) (Li X.K b1 b2 t)):eY X cl tg (.Call (.Name "zip" p) [a,b] [] pos) g (LW b1 b2 ua ub):=.of<|by
 obtain⟨ta,pa,c⟩:=c.run;obtain⟨tb,pb,hb⟩:=hb.run;refine⟨_,mk (dA pa (dA pb N2 h2) h1),λG ρ σ H fo Q R hG E hu k=>c G ρ σ H fo _ _ hG E hu λv H1 d A S r1 f1 C=>hb G ρ σ H1 fo _ _ hG (E.same S) C λw H2 e B O r2 f2 u=>?_⟩;obtain⟨xs,ys,e1,e2,i1,i2,q⟩:=u;obtain⟨p1,rfl,vs,B1,l,a5,r⟩:=AL (r1.same O) b1 e1;obtain⟨p2,rfl,I,B2,j,a4,o⟩:=AL r2 b2 e2;have a3:=l.M8 i1;have a2:=j.M8 i2;subst a3;subst a2;refine⟨p1,p2,rfl,⟨vs,r H2 ⟨λ_ _ h=>h,λ_ _ _ h=>h⟩ λ_ _=>rfl⟩,⟨I,o H2 ⟨λ_ _ h=>h,λ_ _ _ h=>h⟩ λ_ _=>rfl⟩,?_⟩;refine k _ H2 (dD xs ys) (A++B) (S.trans O) (λH' tf kk i=>?_) (λx hx=>?_) ?_ q
 ·have C:=r H' tf λa c=>kk a (sd _ c);have u:=o H' tf λa c=>kk a (iL _ c);refine⟨λhl=>⟨vs,I,C,u,by rw[l.length,j.length,<-qh];exact hl.symm⟩,λd e=>?_⟩;obtain⟨x,y,ex,ey,ed⟩:=gC e;obtain⟨M,C1,g1,r3,s3⟩:=aM l tf (λa c=>(by cases c)) ex;obtain⟨J,C2,g2,r4,s4⟩:=aM j tf (λa c=>(by cases c)) ey;refine⟨⟨vs,I,M,J,C,u,g1,g2⟩,λz H3 hz=>?_⟩;obtain⟨p',z1,z2,rfl,Y,rfl,U,T⟩:=hz;have e3:=U vs C;have e4:=T I u;rw[g1] at e3;rw[g2] at e4;cases e3;cases e4;have c1:C1=[]:=List.sublist_nil.mp s3;have c2:C2=[]:=List.sublist_nil.mp s4;subst c1;subst c2;refine⟨i5.j4 Y,[],?_,OV _⟩;rw[ed];have rr:j8 X.K (upd H' p' (.tup [M,J])) [M,J] [x,y] ([]++([]++[])):=.cons (r3.same (i5.j4 Y)) (.cons (r4.same (i5.j4 Y)) .nil);exact .tup g9 rr
 ·rcases List.mem_append.mp hx with z | z
  ·exact(r1.same O).there z
  ·exact r2.there z
 ·have w1:=f1.weak E a1;have w2:=(f2.back S).weak E a0;cases g<;>first | trivial | (cases hg;done) | exactλi hi a c=>(List.mem_append.mp c).elim (w1 i hi a) (w2 i hi a)
end
end L3
namespace L2
open PySem PySem.Spec PyProof.Rows
theorem jI{X:Cx}{N:QF}{scope:Scope}{cap:QB}{a:QE}{pins:QA}{σ:St}{H:Hp}{s:Shared}{Y l a2:Expr}{a6:QH}{an:Pos}{g:QC->QE->Shared->Hp->TG}{tc:QC->QE->Shared->Hp->TT}{te:QC->QE->Shared->Hp->TE}{J:It}{it:Addr}{tn:Nat->Heap->Prop}
  {E:QN} {RR:Value->Addr->Result->Shared->Prop} {Q:VK} (S:X.calm=true) (cf:P0 X N scope cap) (hk:scope.kind=.function)
  (hg:∀cl a s H,PG (Q6 X N scope cl a s H) l (g cl a s H)) (hc:∀cl a s H,Fw (Q6 X N scope cl a s H) a6 (tc cl a s H)) (he:∀cl a s H,PE (Q6 X N scope cl a s H) Y (te cl a s H))
  (I:Inv X pins σ H s) (T:Turn X.prog X.w X.K l J a it tn) (st:tn 0 s.heap) (hf:∀b∈a,T8 X pins H b) (q:∀cl a s z,Mk J (g cl a s z) (tc cl a s z) (te cl a s z) (Q2 cap σ) Q H)
  (b2:∀d C z s' m,Inv X pins σ z s'->s'.heap.Ns C m->T8 X pins z C->Q (.ref d) z->RR (.ref d) C (.ok .next) s') :
  wpAny (model X.prog X.w) X.A (newList []) (λacc B=>wpAny (model X.prog X.w) X.A (newFunctionEnv scope X.env.globals (E6 X.env scope.names []) [] X.env.qual none .none (some X.env)) (λa3 s4=>
   codeAny (model X.prog X.w) X.A (.compStart (.ListComp Y [⟨l,a2,a6,0⟩] scope an) 0 (.ref it) acc { a3 with scope:=relabel scope X.env }) (RR acc a3.locals) s4) E B) E s:=by
 refine z0 (wpAny_newFunctionEnv cf.nocell (by intro y hy;simp at hy) (λh1 ab a7=>?_) hk);have I3:Inv X pins σ (upd H s.heap.objs.size (.lst [])) { s with heap:=s.heap.push { cls:=.type "list",data:=.seq ([]:QG).toArray } }:=I.Ii (its:=[]) (t':=s.toks) .nil (wf _);have b1:H s.heap.objs.size=none:=I.fresh;obtain⟨W,⟨m0,w0⟩,a0⟩:=q (E6 X.env scope.names []) a { s with heap:=s.heap.push { cls:=.type "list",data:=.seq ([]:QG).toArray } } (upd H s.heap.objs.size (.lst [])) s.heap.objs.size b1
 have ao:∀b∈a,b<s.heap.objs.size:=λb j=>by
  obtain⟨o,e,_⟩:=T.obj 0 _ st b j;exact oD e
 have ac:∀b∈a,T8 X pins (upd H s.heap.objs.size (.lst [])) b:=λb j=>⟨by rw[i4 (sx (ao b j))];exact(hf b j).1,(hf b j).2⟩
 have R:∀b∈a,b<(s.heap.push { cls:=.type "list",data:=.seq ([]:QG).toArray }).objs.size:=λb j=>by
  rw[AT];exact Nat.lt_succ_of_lt (ao b j)
 dsimp only at ab a7 ⊢;generalize U:({ s with heap:=s.heap.push { cls:=.type "list",data:=.seq ([]:QG).toArray } }:Shared)=B at I3 a0;have G:B.heap=s.heap.push { cls:=.type "list",data:=.seq ([]:QG).toArray }:=by rw[<-U]
 have b8:B.toks=s.toks:=by rw[<-U]
 rw[<-G] at ab a7 R;have O:∀b o,B.heap.get? b=some o->h1.get? b=some o:=λb o e=>a7.extBut b o (sx (oD e)) (dL _ e);have keep:∀b o,s.heap.get? b=some o->h1.get? b=some o:=λb o e=>O b o (by rw[G];exact dL _ e);have Ic:=oi (tk:=s.toks) I3 cf hk ac R ab O;have am:tn 0 h1:=T.keep 0 _ _ st λb _ o e=>keep b o e;have b4:∀b∈a,(upd H s.heap.objs.size (.lst [])) b=none:=λb j=>(ac b j).1
 have M:∀{z:Hp},(∀b∈a,z b=none)->∀b∈a,T8 (Q6 X N scope (E6 X.env scope.names []) a B (upd H s.heap.objs.size (.lst []))) [] z b:=λhn b j=>
  ⟨hn b j,sx (R b j),Ic.ok.exfs b j,.inl j,λx c h=>(hf b j).2.2.2.2.1 x c (aF h),λp hp=>absurd (show p∈([]:QA) from hp) (by simp)⟩
 have bg:B.os=s.os:=by rw[<-U]
 have bi:B.gens=s.gens:=by rw[<-U]
 have a1:codeAny (model X.prog X.w) X.A (.compLoop (.ListComp Y [⟨l,a2,a6,0⟩] scope an) 0 (.ref it) (.ref s.heap.objs.size) (compEnvC scope (E6 X.env scope.names []) B.heap.objs.size X.env))
   (RR (.ref s.heap.objs.size) B.heap.objs.size) { B with heap:=h1,toks:=s.toks }:=by
  refine mX (λn s'=>∃i z,Inv (Q6 X N scope (E6 X.env scope.names []) a B (upd H s.heap.objs.size (.lst []))) [] (Q2 cap σ) z s'/\tn i s'.heap/\(∀b∈a,z b=none)/\W i n z) ?_ m0 ⟨0,_,Ic,am,b4,w0⟩;rintro n s4 ⟨i,H4,I4,al,ax,w4⟩;rcases a0 i n H4 w4 with⟨stop,qn⟩ | ⟨go,step⟩
  ·refine B4 (T.done (Q6 X N scope (E6 X.env scope.names []) a B (upd H s.heap.objs.size (.lst []))) rfl rfl rfl S i [] s4 _ H4 (λ_ _=>False) I4 (M ax) al stop) λr s5 ⟨hr,I5⟩=>?_;subst hr;obtain⟨m,b0,_⟩:=I5.loc;refine b2 _ _ H4 s5 m ?_ b0 (I3.jd (hI _) I5.free) qn;exact I3.kz I5.os I5.base I5.hok I5.bare λb j=>⟨(hf b j).2.2.2.1,(hf b j).2.1,(hf b j).2.2.2.2.1,(hf b j).2.2.2.2.2⟩
  ·refine B4 (T.item (Q6 X N scope (E6 X.env scope.names []) a B (upd H s.heap.objs.size (.lst []))) rfl rfl rfl S i [] s4 _ H4 (λ_ _=>False) I4 (M ax) al go) λr s5 ⟨u,hr,h5⟩=>?_;subst hr;refine B4 h5 λ_ s6 ⟨x,H6,I6,r6,y6,a5,b3⟩=>?_;have b6:=I6.pinned (M b3) (T.obj _ _ a5);refine B4 (hg _ _ _ _ _ s6 _ H6 x u _ b6 r6 (step x H6 y6)) λ_ s7 ⟨a4,H7,I7,q7⟩=>?_;refine B4 (hc _ _ _ _ _ s7 a4 H7 _ I7 q7) λok s8 ⟨H8,I8,q8⟩=>?_
   have again:∀{ad:St} {H9:Hp} {s9:Shared},Inv (Q6 X N scope (E6 X.env scope.names []) a B (upd H s.heap.objs.size (.lst []))) ([]++dJ a s6.heap) ad H9 s9->(∃m',m'<n/\W (i+1) m' H9) ->
     ∃m,m<n/\∃i z,Inv (Q6 X N scope (E6 X.env scope.names []) a B (upd H s.heap.objs.size (.lst []))) [] (Q2 cap σ) z s9/\tn i s9.heap/\(∀b∈a,z b=none)/\W i m z:=λ{ad H9 s9} I9 ⟨m',hm,w9⟩=>by
    refine⟨m',hm,i+1,H9,jD I3 cf ac I9.af,T.keep _ _ _ a5 λb j o e=>(I9.pin (b,o) (iL _ (iL _ (N5 j e)))).1,λb j=>?_,w9⟩;obtain⟨o,e,d⟩:=T.obj _ _ a5 b j;exact(I9.pin (b,o) (iL _ (iL _ (N5 j e)))).2.1
   cases ok with
   | false=>exact again I8 q8
   | true=>
    show wpAny _ _ (eval Y _) _ _ s8;refine B4 (he _ _ _ _ _ s8 a4 H8 _ I8 q8) λy s9 ⟨v,H9,I9,r9,acc,ar,ap,m',hm,w9⟩=>?_;refine B4 (N1 _ s9 a4 H9 (.ref s.heap.objs.size) [v] (.ref s.heap.objs.size) [y] (λ_ z=>z=upd H9 s.heap.objs.size (.lst (acc++[v]))) I9 rfl (.cons r9 .nil) ⟨_,acc,v,rfl,rfl,ar,ap,rfl⟩) λ_ b9 ⟨_,bm,b7,_,b5⟩=>?_;subst b5;exact again b7 ⟨m',hm,w9⟩
 have e4:({ s with heap:=h1,toks:=s.toks+([]:QD).length }:Shared)={ B with heap:=h1,toks:=s.toks }:=by rw[<-U];rfl
 rw[<-G,e4];exact codeAny_compStart_list a1 (T.self _ 0 _ _ _ am a1)
def LK(cap:QB)(d:TI)(g:QC->QE->Shared->Hp->TG)(tc:QC->QE->Shared->Hp->TT)(te:QC->QE->Shared->Hp->TE):TE:=λc H Q=>d c H λJ e=>∀cl a s b,Mk J (g cl a s b) (tc cl a s b) (te cl a s b) (Q2 cap c) Q e
theorem BN{X:Cx}{XN N:QF}{XS scope:Scope}{cap:QB}{o a b:Expr}{j:QH}{r:Pos}{B:TI}{g:QC->QE->Shared->Hp->TG}{tc:QC->QE->Shared->Hp->TT}{te:QC->QE->Shared->Hp->TE}
  (l:bf XN N XS scope cap=true) (hN:X.N=XN) (hS:X.env.scope=XS) (E:scope.kind=.function) (i:X.calm=true) (U:PI X a b B)
  (Y:∀cl c s H,PG (Q6 X N scope cl c s H) a (g cl c s H)) (hc:∀cl c s H,Fw (Q6 X N scope cl c s H) j (tc cl c s H)) (he:∀cl c s H,PE (Q6 X N scope cl c s H) o (te cl c s H))
  (R:∀x,foldedSetIterable b X.env x=pure x:=by intro _;rfl):PE X (.ListComp o [⟨a,b,j,0⟩] scope r) (LK cap B g tc te):=by
 refine .of ?_;intro e s z H Q I h;have u:=Z4 hN hS l;rw[eval_ListComp];refine Pg (use:=none) rfl R (bR (I.aD u)) E u.loc (B4 (U e s z H _ I h) λv s1 h1=>B4 h1 λO s2 h2=>?_);obtain⟨it,c,tn,J,H2,rfl,I2,T,p,f2,q⟩:=h2;exact jI (RR:=λy C=>compPost (model X.prog X.w) X.A X.xe none (EP X e z Q) y C) i u E Y hc he I2 T p f2 q λd C H' s' m I' S hC M=>⟨m,S,λh' G=>⟨.ref d,H',I'.AE hC G,rfl,M⟩⟩
theorem kd{X:Cx}{i:Nat}{y:Str}{XN N:QF}{XS scope:Scope}{cap:QB}{p b c:Expr}{l:QH}{u r G:Pos}{wi:TI}{g:QC->QE->Shared->Hp->TG}{tc:QC->QE->Shared->Hp->TT}{te:QC->QE->Shared->Hp->TE}
  (Y:X.N.Nodup) (U:X.N[i]?=some y) (hy:X.env.scope.names.lookup y=some .local)
  (M:bf XN N XS scope cap=true) (hN:X.N=XN) (hS:X.env.scope=XS) (hk:scope.kind=.function) (B:X.calm=true) (hi:PI X b c wi)
  (hg:∀cl o s H,PG (Q6 X N scope cl o s H) b (g cl o s H)) (hc:∀cl o s H,Fw (Q6 X N scope cl o s H) l (tc cl o s H)) (he:∀cl o s H,PE (Q6 X N scope cl o s H) p (te cl o s H))
  (S:swapsWith (.ListComp p [⟨b,c,l,0⟩] scope u) (some (.Name y G)) r.line X.env=pure true:=by rfl)
  (hs:∀x,foldedSetIterable c X.env x=pure x:=by intro _;rfl):PS X (.Assign [.Name y G] (.ListComp p [⟨b,c,l,0⟩] scope u) r) (xk (LK cap wi g tc te) (pR i)):=by
 refine .of ?_;intro j s σ H D I h;have cf:=Z4 hN hS M;rw[exec_Assign_Name_used _ _ _ _ S];refine cB (IN (cB ?_));show wpAny _ X.A (do let _ <-comprehension (.ListComp p [⟨b,c,l,0⟩] scope u) scope X.env _ (newList []) false (eval c X.env) (some (assign (.Name y G) X.env))) _ _ s
 refine cB (ux (Pg (use:=some (assign (.Name y G) X.env)) (Q:=λ_ E=>SP X j D .next E) rfl hs (bR (I.aD cf)) hk cf.loc (B4 (hi j s σ H _ I h) λv s1 h1=>B4 h1 λa1 s2 h2=>?_))
  (λ_ E hq=>hH (hH hq)) λ_ _ e=>e)
 obtain⟨it,o,tn,J,H2,rfl,I2,T,O,f2,q⟩:=h2;refine jI (RR:=λa0 C=>compPost (model X.prog X.w) X.A X.xe (some (assign (.Name y G) X.env)) (λ_ E=>SP X j D .next E) a0 C) B cf hk hg hc he I2 T O f2 q λd C H' E m I' hn hC q'=>?_;show wpAny _ _ (assign (.Name y G) X.env (.ref d)) _ _ E;refine P3 (R8 (v:=.ref d) I' Y U (.inl hy) rfl (λs2 I2 ⟨a,sb,ha⟩=>⟨m,hn.sameBut sb ?_,λh' R=>⟨_,H',I2.AE hC R,q'⟩⟩) (.inr hy));rcases ha with z | z
 ·rw[z];exact hC.2.1
 ·exactλe=>hC.2.2.2.2.1 y a z e.symm
end L2
namespace L3
open PySem PySem.Spec L2
abbrev ee:=D->Ev->(Ev->Prop)->Prop
abbrev rq:=List D->Ev->(Ev->Prop)->Prop
structure Bo(X:Cx)(cl:List Cl)(tg:Expr)(g:ee):Prop where
 of ::
 run:∃t,PG X tg t/\∀(G:Ent) (ρ:Ev) (σ:St) (H:Hp) (fa:QO) (v:V) (d:D) (B:QE) (Q:Ev->Prop) (R:St->Hp->Prop),G.cl=cl->E3 X.K G ρ σ H fa->Rep X.K H v d B->(∀i,G.own i->∀a∈B,a∉fa i)->g d ρ Q ->
  (∀σ' ρ' fa',E3 X.K G ρ' σ' H fa'->(∀i,G.own i->fa' i=fa i/\σ'[i]?=σ[i]?)->(∀i,G.own i->ρ'[i]?=ρ[i]?)->Q ρ'->R σ' H)->t v σ H R
structure Es(X:Cx)(cl:List Cl)(tgs:QH)(g:rq):Prop where
 of ::
 run:∃t,Dy X tgs t/\∀(G:Ent) (ρ:Ev) (σ:St) (H:Hp) (fa:QO) (vs:List V) (ds:List D) (B:QE) (Q:Ev->Prop) (R:St->Hp->Prop),G.cl=cl->E3 X.K G ρ σ H fa->j8 X.K H vs ds B->(∀i,G.own i->∀a∈B,a∉fa i)->g ds ρ Q ->
  (∀σ' ρ' fa',E3 X.K G ρ' σ' H fa'->(∀i,G.own i->fa' i=fa i/\σ'[i]?=σ[i]?)->(∀i,G.own i->ρ'[i]?=ρ[i]?)->Q ρ'->R σ' H)->t vs σ H R
section
variable{X:Cx}{cl:List Cl}{tg e a b:Expr}{es:QH}{f:Fl}{pos pos':Pos}{ua ub:TU}{ma mb:TM}{x:Str}{i:Nat}
def g1(i:Nat):ee:=λd c Q=>Nat.blt i c.length=true/\Q (c.set i (some d))
theorem Ip(h:PG X (.Name x pos) (pR i))(l:cl[i]?=some .bor):Bo X cl (.Name x pos) (g1 i):=.of<|by
 refine⟨_,h,λG y u H C v d B Q R p E r n q k=>?_⟩;have g:G.cl[i]?=some .bor:=by rw[p];exact l
 have no:¬G.own i:=λz=>by unfold Ent.own at z;rw[g] at z;cases z
 refine k _ _ _ (E.set (t4 q.1) r ⟨λj _ c a o=>n j c a o,by rw[g];trivial⟩) (λj c=>?_) (λj c=>?_) q.2
 ·exact⟨qc λe:j=i=>no (by rw[<-e];exact c),sf λe=>no (by rw[e];exact c)⟩
 ·exact sf λe=>no (by rw[e];exact c)
def U1:rq:=λd c Q=>match d with
 | []=>Q c
 | _=>False
def p8(g:ee)(gs:rq):rq:=λh j Q=>match h with
 | d::h=>g d j λc=>gs h c Q
 | _=>False
theorem W8:Es X cl [] U1:=.of<|by
 refine⟨_,DU,λG d c H g vs h B Q R j E r n q k=>?_⟩
 cases h with
 | cons _ _=>exact(show False from q).elim
 | nil=>
  cases r;exact⟨rfl,k c d g E (λ_ _=>⟨rfl,rfl⟩) (λ_ _=>rfl) q⟩
theorem x4{g:ee}{gs:rq}(C:Bo X cl e g)(z:Es X cl es gs)(hs:(assignEach (e::es) X.env).map (·.2)=assign e X.env::(assignEach es X.env).map (·.2):=by rfl):Es X cl (e::es) (p8 g gs):=.of<|by
 obtain⟨t1,p1,C⟩:=C.run;obtain⟨t2,p2,z⟩:=z.run;refine⟨_,Bq p1 p2 hs,λG U T H fa vs M B Q R S E r n q k=>?_⟩
 cases M with
 | nil=>exact(show False from q).elim
 | cons d M=>
  cases r with
  | cons r1 Y=>
   refine⟨_,_,rfl,C G U T H fa _ d _ _ _ S E r1 (λi c a y=>n i c a (sd _ y)) q λj o J E' v u q'=>?_⟩;exact z G o j H J _ M _ Q R S E' Y (λi c a y=>by rw[(v i c).1];exact n i c a (iL _ y)) q' λh l I E2 O p q2=>k h l I E2 (λi c=>⟨(O i c).1.trans (v i c).1,(O i c).2.trans (v i c).2⟩) (λi c=>(p i c).trans (u i c)) q2
def gT(gs:rq):ee:=λd c Q=>match d with
 | .tup g=>gs g c Q
 | _=>False
theorem Dy.len{X:Cx}{c:QH}{t:ET}(h:Dy X c t):True:=trivial
theorem cG{gs:rq}{k n:Nat}(h:Es X cl es gs)(u:∀ds c Q,gs ds c Q->ds.length=n)(mk:∀{t},Dy X es t->PG X (.Tuple es k pos) (Ly X.K n t)):Bo X cl (.Tuple es k pos) (gT gs):=.of<|by
 obtain⟨t,p,h⟩:=h.run;refine⟨_,mk p,λG c j H C v d B Q R z E r l q o=>?_⟩;cases d<;>first | exact(show False from q).elim | skip
 rename_i ds
 have q:gs ds c Q:=q;obtain⟨a,vs,rfl,y,g⟩:=M6 r;exact⟨a,vs,rfl,T5.of y,by rw[g.length];exact u ds c Q q,h G c j H C vs ds B Q R z E g l q o⟩
structure Ju(g:ee)(body:i6)(xs:List D)(T:Z7)(ρ:Ev):Prop where
 of ::
 ex:∃W:Nat->Ev->Prop,W 0 ρ/\(∀i d ρ,xs[i]?=some d->W i ρ->g d ρ λρ1=>body { nx:=W (i+1),rt:=T.rt,bk:=T.nx,ct:=W (i+1) } ρ1)/\∀ρ,W xs.length ρ->T.nx ρ
def ah(j:JM)(g:ee)(body:i6):i6:=λT d=>j d λh c=>Ju g body h T c
def frozen(G:Ent)(H:Hp)(C:QE):Ent:={ G with Z:=λa=>G.Z a\/a∈C\/(H a≠none/\¬cS (H a)),Hz:=H }
theorem E3.freeze{K:QP}{G:Ent}{g:Ev}{σ:St}{H:Hp}{d:QO}{C:QE}(E:E3 K G g σ H d)(l:∀a∈C,H a≠none)(j:∀i,G.own i->∀a∈C,a∉d i):E3 K (frozen G H C) g σ H d:=
 ⟨E.rep,E.emp,E.len,E.nd,E.dj,E.par,E.old,E.new,E.frm,E.stb,λa _=>rfl,λa z=>by
  rcases z with z | z | z
  ·show H a≠none;rw[E.zk a z];exact E.zn a z
  ·exact l a z
  ·exact z.1,λi h a c z=>by
  rcases z with z | z | z
  ·exact E.zo i h a c z
  ·exact j i h a z c
  ·exact z.2 (E.cR i a c),⟨E.po.one,E.po.lk⟩⟩
theorem E3.Jn{K:QP}{G:Ent}{d h:Ev}{c σ:St}{l H:Hp}{g j:QO}{C:QE}(E0:E3 K G d c l g)(E:E3 K (frozen G l C) h σ H j):E3 K G h σ H j:=
 ⟨E.rep,E.emp,E.len,E.nd,E.dj,E.par,E.old,E.new,E.frm,E.stb,λa z=>(E.zk a (.inl z)).trans (E0.zk a z),E0.zn,λi o a p z=>E.zo i o a p (.inl z),⟨E.po.one,E.po.lk⟩⟩
theorem Q7{l:Expr}{body:QM}{ui:JM}{g:ee}{sb:i6}(hi:Lh X cl tg l ui)(hg:Bo X cl tg g)(hb:jc X cl body sb)
  (mk:∀{wi g tb},PI X tg l wi->PG X tg g->mn X body tb->PS X (.For tg l body [] pos) (Km wi g tb)):J3 X cl (.For tg l body [] pos) (ah ui g sb):=.of<|by
 obtain⟨wi,pi,hi⟩:=hi.run;obtain⟨al,pg,hg⟩:=hg.run;obtain⟨tb,pb,hb⟩:=hb.run;refine⟨_,mk pi pg pb,λG T ρ σ H fa R hG E hu le=>hi G ρ σ H fa _ _ hG E hu λJ Q r C a5 ab E1 c1 it tr ap q=>?_⟩;have F1:=E1.freeze tr ap;obtain⟨W,w0,step,done⟩:=q.ex;refine⟨λi m I S=>m=r.length-i/\i<=r.length/\∃c p,E3 X.K (frozen G Q C) c I S p/\W i c,⟨r.length,by simp,wf _,a5,ab,F1,w0⟩,?_⟩;rintro i m I S ⟨rfl,am,c,p,U,q'⟩
 have tf:Tf Q S:=⟨λb ys h=>by
   rw[U.zk b (.inr (.inr ⟨(by rw[h];intro z;cases z),(by rw[h];exactλz=>z)⟩))];exact h,λb o u h=>by
   rw[U.zk b (.inr (.inr ⟨(by rw[h];intro z;cases z),(by rw[h];exactλz=>z)⟩))];exact h⟩
 have kC:∀a∈C,S a=Q a:=λa ha=>U.zk a (.inr (.inl ha))
 by_cases Y:i<r.length
 ·right
  have ex:r[i]?=some r[i]:=hL Y;obtain⟨go,yl⟩:=(it S tf kC i).2 _ ex;refine⟨go,BA X.K (frozen G Q C) (W (i+1)),λad H2 hn=>?_,λy H2 hy=>?_⟩
  ·obtain⟨a4,a7,E2,q2⟩:=hn;exact⟨r.length-(i+1),by omega,rfl,Y,a4,a7,E2,q2⟩
  ·obtain⟨s2,B,rB,sB⟩:=yl y H2 hy;refine hg (frozen G Q C) c I H2 p y _ B _ _ hG (U.same s2) rB (λj hj a ha z=>U.zo j hj a z (.inr (.inl (sB.mem ha)))) (step i _ c ex q') λa2 a3 a6 ac _ _ q3=>?_;refine hb (frozen G Q C) _ a3 a2 H2 a6 _ hG ac q3 ⟨λ_ _ h=>h,λv H3 h=>?_,λa1 H4 h=>?_,λ_ _ h=>h⟩
   ·obtain⟨d,M,a0,O,B5,E5,r5,n5,m5,l5,q5⟩:=h;exact le.rt v H3 ⟨d,M,a0,O,B5,E1.Jn E5,r5,n5,m5,l5,q5⟩
   ·obtain⟨M,O,E5,q5⟩:=h;exact le.nx a1 H4 ⟨M,O,E1.Jn E5,q5⟩
 ·have ei:i=r.length:=by omega
  subst ei
  left
  exact⟨(it S tf kC _).1 rfl,le.nx _ _ ⟨c,p,E1.Jn U,done c q'⟩⟩
def Av(j:uU)(body:i6):i6:=λT h=>∃W:Nat->Ev->Prop,(∃m,W m h)/\∀m h,W m h->j h λb d=>Br b (body { nx:=λc=>∃g,g<m/\W g c,rt:=T.rt,bk:=T.nx,ct:=λc=>∃g,g<m/\W g c } d) (T.nx d)
theorem Fu{c:Expr}{body:QM}{M:uU}{J:i6}(hp:PassesOwn (model X.prog X.w) X.A X.env X.xe)(v:KR X cl c M)(y:jc X cl body J):J3 X cl (.While c body [] pos) (Av M J):=.of<|by
 obtain⟨tc,pc,v⟩:=v.run;obtain⟨tb,pb,y⟩:=y.run;refine⟨_,zp hp pc pb,λG T U σ H fa R O E hu le=>?_⟩;obtain⟨W,⟨m0,w0⟩,step⟩:=hu;refine⟨λm r H'=>∃l C,E3 X.K G l r H' C/\W m l,⟨m0,U,fa,E,w0⟩,?_⟩;rintro m g H1 ⟨j,B,E1,w1⟩;refine v G j g H1 B _ _ O E1 (step m j w1) λb H2 d o Q c2 q=>?_
 cases b with
 | true=>
  rw[qq rfl];refine⟨BA X.K G (λd=>∃p,p<m/\W p d),λS H3 h=>?_,y G _ d g H2 o _ O Q (q.t rfl) ⟨λ_ _ h=>h,le.rt,le.nx,λ_ _ h=>h⟩⟩;obtain⟨u,z,I,p,hm,Y⟩:=h;exact⟨p,hm,u,z,I,Y⟩
 | false=>rw[qc nT];exact le.nx _ _ ⟨d,o,Q,q.f rfl⟩
def aw(cap:QB)(c:Ev):Ev:=cap.map λo=>match o with
 | some j=>(c[j]?).join
 | none=>none
def N9(cap:QB):List Cl:=cap.map λ_=>.bor
theorem gK{cap:QB}{σ:St}{p j:Nat}{v:V}(h:cap[p]?=some (some j))(e:σ[j]?=some (some v)):(Q2 cap σ)[p]?=some (some v):=by
 unfold Q2;rw[rz,h];show some ((σ[j]?).join)=_;rw[e];rfl
theorem oz{cap:QB}{c:Ev}{p:Nat}{d:D}(h:(aw cap c)[p]?=some (some d)):∃j,cap[p]?=some (some j)/\c[j]?=some (some d):=by
 unfold aw at h;rw[rz] at h
 cases e:cap[p]? with
 | none=>rw[e] at h;cases h
 | some o=>
  rw[e] at h
  cases o with
  | none=>cases h
  | some j=>
   have h:some ((c[j]?).join)=some (some d):=h
   cases g:c[j]? with
   | none=>rw[g] at h;cases h
   | some o=>rw[g] at h;cases h;exact⟨j,rfl,g⟩
def cL(cap:QB)(c:Ev)(d:QO)(p:Nat):QE:=match (aw cap c)[p]? with
 | some (some _)=>match cap[p]? with
  | some (some j)=>d j
  | _=>[]
 | _=>[]
def gf(cap:QB):Ent:=⟨λ_=>none,λ_=>[],[],N9 cap,λ_=>False,λ_=>none⟩
theorem M3{cap:QB}{i:Nat}(h:(gf cap).own i):False:=by
 have h:(N9 cap)[i]?=some .own:=h;unfold N9 at h;rw[rz] at h
 cases e:cap[i]? with
 | none=>rw[e] at h;cases h
 | some o=>rw[e] at h;cases h
theorem qx{cap:QB}{i:Nat}(h:(gf cap).cl[i]?=some .loc):False:=by
 have h:(N9 cap)[i]?=some .loc:=h;unfold N9 at h;rw[rz] at h
 cases e:cap[i]? with
 | none=>rw[e] at h;cases h
 | some o=>rw[e] at h;cases h
theorem DQ{cap:QB}{i:Nat}{c:Hp}(h:(gf cap).cl[i]?=some (.mk c)):False:=by
 have h:(N9 cap)[i]?=some (.mk c):=h;unfold N9 at h;rw[rz] at h
 cases e:cap[i]? with
 | none=>rw[e] at h;cases h
 | some o=>rw[e] at h;cases h
theorem E3.comp{K:QP}{G:Ent}{c:Ev}{σ:St}{H:Hp}{g:QO}(cap:QB)(E:E3 K G c σ H g):E3 K (gf cap) (aw cap c) (Q2 cap σ) H (cL cap c g):=by
 refine⟨λi d e=>?_,λi e=>?_,by unfold aw Q2;simp,λi h=>h.elim (λz=>(M3 z).elim) λz=>(qx z).elim,λi j _ h=>(M3 h).elim,λi _ h=>(M3 h).elim,λi _ h=>(M3 h).elim,λi h=>h.elim (λz=>(qx z).elim) λz=>(M3 z.1).elim,
  λa o h=>(nomatch h),⟨λb y h=>(nomatch h),λb o u h=>(nomatch h),λ_ _=>rfl⟩,λa z=>z.elim,λa z=>z.elim,λi h=>(M3 h).elim,⟨λi _ h=>(M3 h).elim,λj B h=>(DQ h).elim⟩⟩
 ·obtain⟨j,l,q⟩:=oz e;obtain⟨v,p,r⟩:=E.rep j d q;refine⟨v,gK l p,?_⟩;unfold cL;rw[e,l];exact r
 ·unfold cL;split
  ·rename_i d h
   exact absurd h (e d)
  ·rfl
def lz(g:ee)(tc:cV)(te:TU)(h:Ev):List D->List D->(List D->Prop)->Prop
 | [],c,Q=>Q c
 | x::l,c,Q=>g x h λj=>tc j λb=>Br b (te j λd=>lz g tc te h l (c++[d]) Q) (lz g tc te h l c Q)
def xm(cap:QB)(h:yH)(g:ee)(tc:cV)(te:TU):TU:=λc Q=>h c λd=>d.length<sizeLine/\lz g tc te (aw cap c) d [] λj=>Q (.lst j)
structure AR(X:Cx)(cl:List Cl)(es:QH)(u:cV):Prop where
 of ::
 run:∃t,Fw X es t/\∀(G:Ent) (ρ:Ev) (σ:St) (H:Hp) (fa:QO) (Q:Bool->Prop) (R:Bool->Hp->Prop),G.cl=cl->E3 X.K G ρ σ H fa->u ρ Q ->
  (∀b H',i5 H H'->Q b->R b H')->t σ H R
def bO:cV:=λ_ Q=>Q true
theorem S2:AR X cl [] bO:=.of ⟨_,vt,λG g d H h Q R _ E c k=>k true H (i5.refl H) c⟩
theorem JE{tc:cV}(h:F0 X cl e tc):AR X cl [e] tc:=.of<|let ⟨t,p,h⟩:=h.run;⟨t,El p,h⟩
theorem NI{K:QP}{cap:QB}{g3:ee}{a5:cV}{a4:TU}{J:It}{g:TG}{tc:TT}{te:TE}{xs:List D}{C:QE}{I:Ev}{σ:St}{G:Ent}{M:Hp}{O:QO}{Q:List D->Prop}{R:VK}
  (hg:∀(G:Ent) (I:Ev) (σ:St) (H:Hp) (O:QO) (v:V) (d:D) (B:QE) (Q:Ev->Prop) (R:St->Hp->Prop),G.cl=N9 cap->E3 K G I σ H O->Rep K H v d B->(∀i,G.own i->∀a∈B,a∉O i)->g3 d I Q ->
   (∀a2 a3 ac,E3 K G a3 a2 H ac->(∀i,G.own i->ac i=O i/\a2[i]?=σ[i]?)->(∀i,G.own i->a3[i]?=I[i]?)->Q a3->R a2 H)->g v σ H R)
  (hc:∀(G:Ent) (I:Ev) (σ:St) (H:Hp) (O:QO) (Q:Bool->Prop) (R:Bool->Hp->Prop),G.cl=N9 cap->E3 K G I σ H O->a5 I Q->(∀b S,i5 H S->Q b->R b S)->tc σ H R)
  (he:∀(G:Ent) (I:Ev) (σ:St) (H:Hp) (O:QO) (Q:D->Prop) (R:VK),G.cl=N9 cap->E3 K G I σ H O->a4 I Q->(∀v S d B,i5 H S->Rep K S v d B->y4 G H O B .fresh->Q d->R v S)->te σ H R)
  (E:E3 K G I σ M O) (it:fY K J xs C M) (tr:∀a∈C,M a≠none) (hn:xs.length<sizeLine) (q:lz g3 a5 a4 (aw cap I) xs [] Q)
  (k:∀d S ds B,i5 M S->Rep K S (.ref d) (.lst ds) B->B.Nodup->(∀a∈B,M a=none)->Q ds->R (.ref d) S):Mk J g tc te (Q2 cap σ) R M:=by
 intro d hd
 refine⟨λi m H=>m=xs.length-i/\i<=xs.length/\i5 M H/\∃c ds B,H d=some (.lst c)/\c.length<=i/\j8 K H c ds B/\B.Nodup/\d∉B/\(∀a∈B,M a=none)/\lz g3 a5 a4 (aw cap I) (xs.drop i) ds Q,
  ⟨xs.length,by simp,wf _,i5.j4 hd,[],[],[],g9,hI _,.nil,op,(by simp),(λa r=>by cases r),q⟩,?_⟩
 rintro i m H ⟨rfl,an,s1,c,ds,B,a1,ao,rs,nB,dB,hB,q⟩;have tf:Tf M H:=⟨λb ys h=>s1 _ _ h,λb o u h=>s1 _ _ h⟩
 have kC:∀a∈C,H a=M a:=λa r=>by
  obtain⟨o,eo⟩:=Option.ne_none_iff_exists'.mp (tr a r);rw[eo];exact s1 a o eo
 by_cases T:i<xs.length
 ·right
  obtain⟨go,yl⟩:=(it H tf kC i).2 _ (hL T);rw[v2 T] at q;refine⟨go,λy H2 hy=>?_⟩;obtain⟨Y,By,rB,sB⟩:=yl y H2 hy;have E2:=(E.same (s1.trans Y)).comp cap;refine hg (gf cap) _ _ H2 _ y _ By _ _ rfl E2 rB (λj hj=>(M3 hj).elim) q λa6 a7 ab ad _ _ q3=>?_;refine hc (gf cap) a7 a6 H2 ab _ _ rfl ad q3 λb H3 U q4=>?_;have l:H3 d=some (.lst c):=U _ _ (Y _ _ a1)
  cases b with
  | false=>
   rw[qc nT];exact⟨xs.length-(i+1),by omega,rfl,T,(s1.trans Y).trans U,c,ds,B,l,by omega,(rs.same Y).same U,nB,dB,hB,q4.f rfl⟩
  | true=>
   rw[qq rfl];refine he (gf cap) a7 a6 H3 ab _ _ rfl (ad.same U) (q4.t rfl) λv H4 dv Bv s4 rv fo q5=>?_;have p:H4 d=some (.lst c):=s4 _ _ l;have al:i5 M H4:=((s1.trans Y).trans U).trans s4;have a0:d∉Bv:=λz=>by rw[fo.2 d z] at l;cases l
   have st:W3 H4 (upd H4 d (.lst (c++[v]))):=⟨λb ys h=>by
     by_cases e:b=d
     ·subst e;rw[p] at h;cases h
     ·rw[i4 e];exact h,λb u w' h=>by
     by_cases e:b=d
     ·subst e;rw[p] at h;cases h
     ·rw[i4 e];exact h,λb h=>by
     by_cases e:b=d
     ·subst e;rw[g9] at h;cases h
     ·rw[i4 e] at h;exact h⟩
   have am:=((rs.same Y).same U).same s4;refine⟨c,p,by omega,xs.length-(i+1),by omega,rfl,T,λb o e=>?_,c++[v],ds++[dv],B++(Bv++[]),g9,by rw[hW,pp];omega,?_,?_,?_,λa r=>?_,q5⟩
   ·rw[i4 (w5 e hd)];exact al _ _ e
   ·exact(am.mono st λa r=>i4 λe=>dB (e▸r)).append (.cons (rv.mono st λa r=>i4 λe=>a0 (e▸r)) .nil)
   ·rw[sK];refine List.nodup_append.mpr ⟨nB,fo.1,λa r b hb e=>?_⟩;subst e;exact((rs.same Y).same U).there a r (fo.2 a hb)
   ·rw[sK];exactλz=>(List.mem_append.mp z).elim dB a0
   ·rw[sK] at r;rcases List.mem_append.mp r with z | z
    ·exact hB a z
    ·exact((s1.trans Y).trans U).free (fo.2 a z)
 ·have ei:i=xs.length:=by omega
  subst ei
  left
  rw[On] at q;refine⟨(it H tf kC _).1 rfl,k d H ds (d::B) s1 (.lst a1 rs) (List.nodup_cons.mpr ⟨dB,nB⟩) (λa r=>?_) q⟩;rcases List.mem_cons.mp r with z | z
  ·rw[z];exact hd
  ·exact hB a z
section
variable{XN N:QF}{XS scope:Scope}{cap:QB}{elt target iter:Expr}{ifs:QH}{ui:yH}{g3:ee}{tc3:cV}{te3:TU}
theorem cK(l:bf XN N XS scope cap=true)(hN:X.N=XN)(hS:X.env.scope=XS)(hk:scope.kind=.function)(j:X.calm=true)(p:eY X cl target iter f ui)
  (u:∀c h s H,Bo (Q6 X N scope c h s H) (N9 cap) target g3) (y:∀c h s H,AR (Q6 X N scope c h s H) (N9 cap) ifs tc3) (v:∀c h s H,PU (Q6 X N scope c h s H) (N9 cap) elt .fresh te3)
  (hs:∀x,foldedSetIterable iter X.env x=pure x:=by intro _;rfl):PU X cl (.ListComp elt [⟨target,iter,ifs,0⟩] scope pos) .fresh (xm cap ui g3 tc3 te3):=.of<|by
 obtain⟨wi,U,p⟩:=p.run
 refine⟨_,BN (g:=λc h s H=>Classical.choose (u c h s H).run) (tc:=λc h s H=>Classical.choose (y c h s H).run) (te:=λc h s H=>Classical.choose (v c h s H).run) l hN hS hk j U
  (λc h s H=>(lN (u c h s H).run).1) (λc h s H=>(lN (y c h s H).run).1) (λc h s H=>(lN (v c h s H).run).1) hs,λG M I H fa Q R hG E hu k=>?_⟩
 refine p G M I H fa _ _ hG E hu λJ H1 xs C s Y O fo q=>λc h o z=>?_;refine NI (K:=X.K) (lN (u c h o z).run).2 (lN (y c h o z).run).2 (lN (v c h o z).run).2 (E.same s) Y O q.1 q.2 λd H2 ds B S r n1 n2 T=>?_;exact k _ H2 _ B (s.trans S) r ⟨n1,λa ha=>s.free (n2 a ha)⟩ T
theorem uJ{i:Nat}{y:Str}{j py:Pos}(S:X.N.Nodup)(v:X.N[i]?=some y)(hy:X.env.scope.names.lookup y=some .local)(O:AI cl[i]? .fresh i=true)
  (o:bf XN N XS scope cap=true) (hN:X.N=XN) (hS:X.env.scope=XS) (hk:scope.kind=.function) (l:X.calm=true) (z:eY X cl target iter f ui)
  (I:∀c h s H,Bo (Q6 X N scope c h s H) (N9 cap) target g3) (Q:∀c h s H,AR (Q6 X N scope c h s H) (N9 cap) ifs tc3) (M:∀c h s H,PU (Q6 X N scope c h s H) (N9 cap) elt .fresh te3)
  (u:swapsWith (.ListComp elt [⟨target,iter,ifs,0⟩] scope pos) (some (.Name y py)) j.line X.env=pure true:=by rfl)
  (hs:∀x,foldedSetIterable iter X.env x=pure x:=by intro _;rfl):J3 X cl (.Assign [.Name y py] (.ListComp elt [⟨target,iter,ifs,0⟩] scope pos) j) (A5 i (xm cap ui g3 tc3 te3)):=.of<|by
 obtain⟨wi,pi,z⟩:=z.run
 refine⟨_,kd (g:=λc h s H=>Classical.choose (I c h s H).run) (tc:=λc h s H=>Classical.choose (Q c h s H).run) (te:=λc h s H=>Classical.choose (M c h s H).run) S v hy o hN hS hk l pi
  (λc h s H=>(lN (I c h s H).run).1) (λc h s H=>(lN (Q c h s H).run).1) (λc h s H=>(lN (M c h s H).run).1) u hs,λG T ρ σ H fa R hG E hu le=>?_⟩
 refine z G ρ σ H fa _ _ hG E hu λJ H1 xs C s it tr fo q=>λc h p U=>?_;refine NI (K:=X.K) (lN (I c h p U).run).2 (lN (Q c h p U).run).2 (lN (M c h p U).run).2 (E.same s) it tr q.1 q.2 λd H2 ds B s2 r n1 n2 Y=>?_;exact le.nx _ _ ⟨_,_,(E.same (s.trans s2)).set (t4 Y.1) r (jn.of (f:=.fresh) E ⟨n1,λa ha=>s.free (n2 a ha)⟩ (by rw[hG];exact O)),Y.2⟩
end
end
end L3
namespace L2
open PySem PySem.Spec PyProof.Rows
section
variable{X:Cx}
theorem eL:∀{bs:List Bool} {a:QG},Vals (bs.map V.bl) a->LSm.BoolsAre a bs
 | [],_,r=>by cases r;exact .nil
 | b::bs,_,r=>by
  cases r with
  | cons h t=>cases h;exact .cons b (eL t)
theorem pf(B:X.calm=true):K8 X (.builtin "all") (λxs H Q=>∃(p:Addr) (bs:List Bool),xs=[.ref p]/\P7 X.K H p (bs.map V.bl)/\Q (.bl (bs.all id)) H):=by
 intro g s E H xs G Q I r h;obtain⟨p,bs,rfl,y,q⟩:=h;obtain⟨u,rfl,x⟩:=vals1 r;cases x;obtain⟨a,o,pl,M⟩:=I.list y;have d:=pl.isList;have j:=eL o;have c:p<s.heap.objs.size:=by obtain⟨_,e,_⟩:=d;exact oD e
 refine call_all_walk (PZ d ?_)
 refine⟨s.heap.objs.size,[s.heap.objs.size,p],[s.heap.objs.size],a.toArray.size,_,_,λi=>(bs[i]?).getD true,rfl,Walks.list (A:=X.A.in1) (I.ok.hd B) _ p (sx c) a.toArray,
  ⟨⟨_,ro _ rfl,rfl,rfl⟩,d.push _⟩,λi v J R S C l=>?_,λO tk z=>?_⟩
 ·obtain⟨b,e,rfl⟩:=j.get i v (by simpa using C);simp only[e,Option.getD_some] at l;exact zi l
 ·have e:((List.range a.toArray.size).all λi=>(bs[i]?).getD true)=bs.all id:=by
   rw[qz,j.length];exact LSm.range_all bs
  rw[e];exact⟨.bl _,H,I.kept (t':=tk) (LSm.kept_iter z),rfl,q⟩
theorem gO:∀{bs:QF} {a:QG},Vals (bs.map V.str) a->StrsAre a bs
 | [],_,r=>by cases r;exact .nil
 | b::bs,_,r=>by
  cases r with
  | cons h t=>obtain⟨u,rfl⟩:=h;exact .cons b u (gO t)
def rJoin(K:QP):V->List V->Hp->VK->Prop:=λx vs H Q=>∃z p a,x=.str z/\vs=[.ref p]/\P7 K H p (a.map V.str)/\(a.map (·.length)).sum+a.length*z.length<=16777216/\Q (.str (Txt.join z a)) H
theorem FT:Nn X "str.join" (rJoin X.K):=by
 intro a s l H x r v y Q I b d h;obtain⟨z,p,o,rfl,rfl,i,j,q⟩:=h;obtain⟨t,rfl⟩:=b;obtain⟨u,rfl,e⟩:=vals1 d;cases e;obtain⟨g,c,pl,C⟩:=I.list i;exact join_list pl.isList (by simpa using gO c) j λB k=>⟨.str _,H,I.tok _,⟨_,rfl⟩,q⟩
theorem FH:L8 X (binaryOp .Mult) (λx y H Q=>∃z n,x=.str z/\y=.int n/\MulOk z n/\Q (.str (Txt.mul z n)) H):=by
 intro a s g H x y v u Q I d c h;obtain⟨z,n,rfl,rfl,e,q⟩:=h;obtain⟨t,rfl⟩:=d;obtain⟨b,rfl⟩:=c;exact SB.mul e λb k=>⟨.str _,H,I.tok _,⟨_,rfl⟩,q⟩
end
end L2
namespace L3
open PySem PySem.Spec L2
section
variable{X:Cx}{cl:List Cl}{e a b:Expr}{es:QH}{f:Fl}{pos:Pos}{ua ub:TU}{ma mb:TM}{fa fb:Fl}
def Il:List D->(D->Prop)->Prop:=λg Q=>∃(d:D) (c:List D) (bs:List Bool),g=[d]/\kindB false d=some c/\c=bs.map D.bl/\Q (.bl (bs.all id))
theorem j8.Ny{K:QP}{H:Hp}:∀{bs:List Bool} {vs:List V} {A:QE},j8 K H vs (bs.map D.bl) A->vs=bs.map V.bl
 | [],_,_,r=>by cases r;rfl
 | b::bs,_,_,r=>by
  cases r with
  | cons h t=>rw[N4 h,t.Ny];rfl
theorem j8.strs{K:QP}{H:Hp}:∀{bs:QF} {vs:List V} {A:QE},j8 K H vs (bs.map D.str) A->vs=bs.map V.str
 | [],_,_,r=>by cases r;rfl
 | b::bs,_,_,r=>by
  cases r with
  | cons h t=>rw[D4 h,t.strs];rfl
theorem fu{K:QP}{H:Hp}{v:V}{d:D}{A:QE}{xs:List D}(r:Rep K H v d A)(e:kindB false d=some xs):∃p vs B,v=.ref p/\P7 K H p vs/\j8 K H vs xs B/\B.Sublist A:=by
 cases d<;>first | cases e | skip
 ·obtain⟨p,vs,C,rfl,g,c,rfl⟩:=K2 r;exact⟨p,vs,C,rfl,P7.of g,c,Lb _ _⟩
 ·obtain⟨p,vs,rfl,g,c⟩:=gX r;exact⟨p,vs,A,rfl,g.sq,c,Fk _⟩
theorem GY:Call3 X (λxs H Q=>∃(p:Addr) (bs:List Bool),xs=[.ref p]/\P7 X.K H p (bs.map V.bl)/\Q (.bl (bs.all id)) H) Il:=by
 intro H vs l A Q R r q k;obtain⟨d,xs,bs,rfl,e,rfl,q⟩:=q;obtain⟨v,rfl,c⟩:=r.one;obtain⟨p,j,B,rfl,i,g,_⟩:=fu c e;cases g.Ny;exact⟨p,bs,rfl,i,k _ H _ _ (i5.refl H) .bl op (λ_ h=>(by cases h)) q⟩
def IB:HO->Bool
 | .dE [] _=>true
 | _=>false
def tyName:D->Option String
 | .p7=>some "NoneType"
 | .bl _=>some "bool"
 | .int _=>some "int"
 | .str _=>some "str"
 | .lst _=>some "list"
 | .tup _=>some "tuple"
 | .dic _=>some "dict"
 | .fz _=>some "list"
 | .ob u=>bif IB u then some "dict" else none
 | _=>none
def Ky(a T:String):Bool:=a == T||(a =="bool" && T =="int")
def qU:List String:=["int","bool","str","list","tuple","dict"]
def S3:List D->(D->Prop)->Prop:=λc Q=>∃d a T,c=[d,.ty T]/\tyName d=some a/\qU.contains T=true/\Q (.bl (Ky a T))
theorem EF (K:QP) {a T:String} (c:["NoneType","bool","int","str","list","tuple","dict"].contains a=true) (d:qU.contains T=true):PySem.W.kitOne K (.type a) (.type T)=some (Ky a T):=by
 have h:a="NoneType" \/ a="bool" \/ a="int" \/ a="str" \/ a="list" \/ a="tuple" \/ a="dict":=by simpa using c
 have g:T="int" \/ T="bool" \/ T="str" \/ T="list" \/ T="tuple" \/ T="dict":=by simpa[qU] using d
 rcases h with rfl | rfl | rfl | rfl | rfl | rfl | rfl<;>rcases g with rfl | rfl | rfl | rfl | rfl | rfl<;>first | rfl | decide +kernel
theorem LA{K:QP}{H:Hp}{v:V}{d:D}{A:QE}{n:String}(r:Rep K H v d A)(e:tyName d=some n):Z6 K H v (.type n)/\["NoneType","bool","int","str","list","tuple","dict"].contains n=true:=by
 cases r<;>first | (cases e;done) | skip
 ·cases e;exact⟨.p7,rfl⟩
 ·cases e;exact⟨.bl _,rfl⟩
 ·cases e;exact⟨.int _,rfl⟩
 ·cases e;exact⟨.str _,rfl⟩
 ·cases e;rename_i h _;exact⟨.tup h,rfl⟩
 ·cases e;rename_i h _;exact⟨.lst h,rfl⟩
 ·cases e;rename_i h _;rcases h with⟨o,h⟩ | ⟨o,_,_,h,g,_⟩;exact⟨.frz h,rfl⟩;exact⟨.kl h g,rfl⟩
 ·cases e;rename_i h _;exact⟨.dK (.inr ⟨_,h⟩),rfl⟩
 ·rename_i u h
  cases u with
  | dE c i=>
   cases c with
   | nil=>cases e;exact⟨.frzD h,rfl⟩
   | cons=>cases e
  | _=>cases e
theorem J5:Call3 X (λxs H Q=>∃x c t cv b,xs=[x,c]/\rV c=some cv/\Z6 X.K H x t/\PySem.W.kitOne X.K t cv=some b/\Q (.bl b) H) S3:=by
 intro H vs p A Q R r q k;obtain⟨d,n,T,rfl,e,o,q⟩:=q;obtain⟨v,w,B,C,rfl,l,j,_⟩:=r.two;cases j;obtain⟨i,g⟩:=LA l e;exact⟨_,_,_,_,_,rfl,rfl,i,EF X.K g o,k _ H _ _ (i5.refl H) .bl op (λ_ h=>(by cases h)) q⟩
theorem J4{x:Str}{T:String}(h:PE X (.Name x pos) (tC (.ty T))):PU X cl (.Name x pos) .fresh (uC (.ty T)):=.of ⟨_,h,λG g d H fa Q R _ E c k=>k _ H _ _ (i5.refl H) .ty (y4.nil _) c⟩
def He:D->D->(D->Prop)->Prop:=λd e Q=>∃(z:Str) (g:List D) (c:QF),d=.str z/\kindB false e=some g/\g=c.map D.str/\(c.map (·.length)).sum+c.length*z.length<=16777216/\Q (.str (Txt.join z c))
theorem Fm{H:Hp}{v w:V}{d e:D}{A B:QE}{Q:D->Prop}{R:VK}(i:Rep X.K H v d A)(h:Rep X.K H w e B)(q:He d e Q)(k:∀y,Q (.str y)->R (.str y) H):rJoin X.K v [w] H R:=by
 obtain⟨z,r,c,rfl,o,rfl,l,q⟩:=q;cases D4 i;obtain⟨p,u,B,rfl,j,g,_⟩:=fu h o;cases g.strs;exact⟨z,p,c,rfl,rfl,j,l,k _ q⟩
def Cu(ua ub:TU):TU:=λc Q=>ua c λx=>isStrD x=true/\ub c λy=>He x y Q
where isStrD:D->Bool
 | .str _=>true
 | _=>false
theorem wN{d:D}(h:Cu.isStrD d=true):∃z,d=.str z:=by
 cases d<;>first | exact⟨_,rfl⟩ | cases h
theorem Eu {c:Pos} (j:PU X cl a fa ua) (i:PU X cl b fb ub) (h:isStar b=false) (mk:∀{p t},PE X a p->PA X [b] t->PE X (.Call (.Attribute a "join" c) [b] [] pos) (MS X.K "str" (rJoin X.K) p t)):PU X cl (.Call (.Attribute a "join" c) [b] [] pos) .fresh (Cu ua ub):=.of<|by
 obtain⟨ta,S,j⟩:=j.run;obtain⟨tb,O,i⟩:=i.run;refine⟨_,mk S (dA O N2 h),λG o l H C Q R x E U k=>j G o l H C _ _ x E U λv H1 d A r u f1 g=>?_⟩;obtain⟨T,g⟩:=g;obtain⟨z,rfl⟩:=wN T;cases D4 u;refine⟨rfl,i G o l H1 C _ _ x (E.same r) g λw Y e B q I f2 M=>?_⟩;exact Fm (u.same q) I M λy J=>k _ Y _ _ (r.trans q) .str (y4.nil _) J
def KW:D->D->(D->Prop)->Prop
 | .str z,.int n,Q=>MulOk z n/\Q (.str (Txt.mul z n))
 | _,_,_=>False
theorem Iy:Z3 X (λx y H Q=>∃z n,x=.str z/\y=.int n/\MulOk z n/\Q (.str (Txt.mul z n)) H) KW:=by
 intro H v w d e A B Q R g c q k;cases d<;>cases e<;>first | exact q.elim | skip
 cases D4 g;cases C3 c;exact⟨_,_,rfl,rfl,q.1,k _ H _ _ (i5.refl H) .str op (λ_ h=>(by cases h)) q.2⟩
def MR:D->D->(D->Prop)->Prop
 | .lst d,.lst c,Q=>l9 d=true/\l9 c=true/\d.length+c.length<=sizeLine/\Q (.lst (d++c))
 | _,_,_=>False
theorem Ls:Z3 X HX MR:=by
 intro H v w d e A B Q R o j q k;cases d<;>cases e<;>first | exact q.elim | skip
 obtain⟨r,vs,M,rfl,E,g,_⟩:=K2 o;obtain⟨p,i,J,rfl,C,c,_⟩:=K2 j;obtain⟨x,u,y,q⟩:=q;have I:=g.M8 x;have G:=c.M8 u;subst I;subst G;refine⟨r,p,vs,i,rfl,rfl,E,C,by rw[g.length,c.length];exact y,λl h=>k _ _ _ [l] (i5.j4 h) (.lst g9 ((g.same (i5.j4 h)).append (c.same (i5.j4 h)))) (by simp) (λa z=>?_) q⟩;have:a=l:=by simpa using z
 rw[this];exact h
def cutD(xs:List D)(lo c:Option Int):List D:=(xs.drop (HT.D1 xs.length 0 lo)).take (HT.D1 xs.length xs.length c-HT.D1 xs.length 0 lo)
abbrev HV:=Ev->(Option Int->Prop)->Prop
structure JO(X:Cx)(cl:List Cl)(e:Option Expr)(u:HV):Prop where
 of ::
 run:∃t,PO X e t/\∀(G:Ent) (ρ:Ev) (σ:St) (H:Hp) (fa:QO) (Q:Option Int->Prop) (R:Option Int->Hp->Prop),G.cl=cl->E3 X.K G ρ σ H fa->u ρ Q->(∀o H',i5 H H'->Q o->R o H')->t σ H R
def L9:HV:=λ_ Q=>Q none
def M0(u:TU):HV:=λc Q=>u c λd=>match d with
 | .int i=>Q (some i)
 | _=>False
theorem C0:JO X cl none L9:=.of ⟨_,DJ,λG g d H fa Q R _ E c k=>k none H (i5.refl H) c⟩
theorem B9(h:PU X cl e f ua):JO X cl (some e) (M0 ua):=.of<|by
 obtain⟨t,p,h⟩:=h.run;refine⟨_,FC p,λG g c H fa Q R j E i k=>h G g c H fa _ _ j E i λv l d B s r _ q=>?_⟩;cases d<;>first | exact(show False from q).elim | skip
 cases C3 r;exact⟨_,rfl,k _ l s q⟩
end
def L6:QB->Nat->List Cl
 | [],_=>[]
 | _::r,0=>.own::N9 r
 | _::r,p+1=>.bor::L6 r p
theorem nh{r:QB}{q:Nat}{c:Cl}(h:(N9 r)[q]?=some c):c=.bor:=by
 unfold N9 at h;rw[rz] at h
 cases e:r[q]? with
 | none=>rw[e] at h;cases h
 | some o=>rw[e] at h;cases h;rfl
theorem aJ:∀{cap:QB} {p q:Nat},(L6 cap p)[q]?=some .own->q=p
 | [],_,_,h=>by simp[L6] at h
 | _::r,0,0,_=>rfl
 | _::r,0,q+1,h=>by
  rw[L6,t6] at h;exact nomatch nh h
 | _::r,p+1,0,h=>by rw[L6] at h;cases h
 | _::r,p+1,q+1,h=>by
  rw[L6,t6] at h;rw[aJ h]
theorem pC:∀{cap:QB} {p q:Nat},(L6 cap p)[q]?=some .loc->False
 | [],_,_,h=>by simp[L6] at h
 | _::r,0,0,h=>by rw[L6] at h;cases h
 | _::r,0,q+1,h=>by
  rw[L6,t6] at h;exact nomatch nh h
 | _::r,p+1,0,h=>by rw[L6] at h;cases h
 | _::r,p+1,q+1,h=>by
  rw[L6,t6] at h;exact pC h
theorem uu:∀{cap:QB} {p q:Nat} {a:Hp},(L6 cap p)[q]?=some (.mk a)->False
 | [],_,_,_,h=>by simp[L6] at h
 | _::r,0,0,_,h=>by rw[L6] at h;cases h
 | _::r,0,q+1,_,h=>by
  rw[L6,t6] at h;exact nomatch nh h
 | _::r,p+1,0,_,h=>by rw[L6] at h;cases h
 | _::r,p+1,q+1,_,h=>by
  rw[L6,t6] at h;exact uu h
def jy(cap:QB)(p:Nat):Ent:=⟨λ_=>none,λ_=>[],[],L6 cap p,λ_=>False,λ_=>none⟩
theorem E3.Kp{K:QP}{G:Ent}{g:Ev}{σ:St}{H:Hp}{y:QO}{cap:QB}{p j:Nat}(E:E3 K G g σ H y)(own:G.own j)(I:cap[p]?=some (some j))(O:∀q,cap[q]?=some (some j)->q=p):E3 K (jy cap p) (aw cap g) (Q2 cap σ) H (cL cap g y):=by
 have Q:∀a∈cL cap g y p,a∈y j:=λa c=>by
  unfold cL at c;split at c
  ·rw[I] at c;exact c
  ·cases c
 refine⟨λi d e=>?_,λi e=>?_,by unfold aw Q2;simp,λi h=>?_,λi l n h a c=>?_,λi h=>absurd h (PQ _),λi h=>absurd h (PQ _),λi h a _=>rfl,
  λa o h=>(nomatch h),⟨λb T h=>(nomatch h),λb o u h=>(nomatch h),λ_ _=>rfl⟩,λa z=>z.elim,λa z=>z.elim,λi h a _ z=>z,⟨λi h=>absurd h (PQ _),λj U h=>(uu h).elim⟩⟩
 ·obtain⟨x,M,S⟩:=oz e;obtain⟨v,R,r⟩:=E.rep x d S;refine⟨v,gK M R,?_⟩;unfold cL;rw[e,M];exact r
 ·unfold cL;split
  ·rename_i d h
   exact absurd h (e d)
  ·rfl
 ·rcases h with h | h
  ·have e:=aJ h;subst e;unfold cL;split
   ·rw[I];exact E.nd j (.inl own)
   ·exact op
  ·exact(pC h).elim
 ·have e:=aJ h;subst e;have C:=Q a c;intro z;unfold cL at z;split at z
  ·split at z
   ·rename_i x B
    by_cases J:x=j
    ·subst J;exact n (O l B).symm
    ·exact E.dj j x (wh J) own a C z
   ·cases z
  ·cases z
structure LB(p j:Nat)(cap:QB)(g:ee)(tc:uU)(te:TM)(xs:List D)(ρ:Ev)(Q:List D->Ev->Prop):Prop where
 of ::
 ex:∃W:Nat->List D->Ev->Prop,W 0 [] ρ/\(∀i x acc ρ,xs[i]?=some x->W i acc ρ->g x (aw cap ρ) λρ1=>tc ρ1 λb ρ2=>Br b (te ρ2 λd ρ3=>c8 p ρ3 λl=>W (i+1) (acc++[d]) (ρ.set j (some l))) (c8 p ρ2 λl=>W (i+1) acc (ρ.set j (some l))))/\∀acc ρ,W xs.length acc ρ->Q acc ρ
def Ml(p j:Nat)(cap:QB)(e:JM)(g:ee)(tc:uU)(te:TM):TM:=λd Q=>e d λc a=>c.length<sizeLine/\c8 j a λ_=>LB p j cap g tc te c a λh b=>Q (.lst h) b
theorem zj{K:QP}{G:Ent}{J B:Ev}{σ x:St}{H M r:Hp}{g u:QO}{cap:QB}{p j:Nat}{l:D}(E:E3 K G J σ H g)(own:G.own j)(hp:cap[p]?=some (some j))(hj:∃d,J[j]?=some (some d))(s:i5 H M)
  (Ei:E3 K (jy cap p) B x r u) (cf:∀a o,M a=some o->a∉g j->r a=some o) (cs:W3 M r) (cn:∀a∈u p,a∈g j\/M a=none) (Q:(jy cap p).own p) (O:x[p]?=(Q2 cap σ)[p]?) (el:B[p]?=some (some l)) :
  E3 K G (J.set j (some l)) σ r (λq=>if q=j then u p else g q)/\R1 K G H g r (λq=>if q=j then u p else g q):=by
 obtain⟨d0,Y⟩:=hj;obtain⟨v,T,_⟩:=E.rep j d0 Y;have S:j<J.length:=(List.getElem?_eq_some_iff.mp Y).1;have new:∀a∈u p,a∈g j\/H a=none:=λa b=>(cn a b).imp id λy=>s.free y;have keep:∀a o,H a=some o->a∉g j->r a=some o:=λa o h n=>cf a o (s a o h) n;have stb:W3 H r:=(W3.of s).trans cs
 have ch:R1 K G H g r (λq=>if q=j then u p else g q):=by
  refine⟨λa o h n=>keep a o h (n j own),stb,λi c a b=>?_,λi c=>qc λe:i=j=>c (by rw[e];exact own)⟩
  by_cases q:i=j
  ·subst q;rw[qq rfl] at b;exact new a b
  ·rw[qc q] at b;exact .inl b
 refine⟨E.step ch (by simp) (λi c=>sf λe=>c (by rw[<-e];exact own)) (λi d' c e=>?_) (λi c e=>?_) (λi c=>?_) λi I n c a0 a b z=>?_,ch⟩
 ·by_cases q:i=j
  ·subst q;rw[sm S] at e;cases e;obtain⟨v',X,r1⟩:=Ei.rep p l el;rw[O,gK hp T] at X;cases X;exact⟨v,T,by rw[qq rfl];exact r1⟩
  ·rw[sf (wh q)] at e;obtain⟨w,e2,R⟩:=E.rep i d' e;refine⟨w,e2,?_⟩;rw[qc q];refine R.mono stb λa b=>?_;obtain⟨o,U⟩:=cS.some (R.cR a b);rw[U];exact keep a o U λz=>E.dj i j q c a b z
 ·by_cases q:i=j
  ·subst q;exact absurd (sm S) (e l)
  ·rw[qc q];exact E.emp i λd z=>e d (by rw[sf (wh q)];exact z)
 ·by_cases q:i=j
  ·rw[qq q];exact Ei.nd p (.inl Q)
  ·rw[qc q];exact E.nd i (.inl c)
 ·by_cases q:i=j
  ·rw[qq q] at b;have C:I≠j:=λe=>n (q.trans e.symm);rw[qc C] at z;rcases new a b with y | y
   ·exact E.dj j I (wh C) own a y z
   ·exact E.there I z y
  ·rw[qc q] at b
   by_cases C:I=j
   ·rw[qq C] at z;rcases new a z with y | y
    ·exact E.dj i j q c a b y
    ·exact E.there i b y
   ·rw[qc C] at z;exact E.dj i I n c a b z
theorem Nv{K:QP}{cap:QB}{p j:Nat}{g3:ee}{ax:uU}{ar:TM}{J:It}{g:TG}{tc:TT}{te:TE}{xs:List D}{C:QE}{T:Ev}{σ:St}{G:Ent}{X:Hp}{S:QO}{Q:List D->Ev->Prop}{R:VK}
  (own:G.own j) (hp:cap[p]?=some (some j)) (hq:∀q,cap[q]?=some (some j)->q=p) (a3:(jy cap p).own p) (b8:∃d,T[j]?=some (some d))
  (hg:∀(G:Ent) (T:Ev) (σ:St) (H:Hp) (S:QO) (v:V) (d:D) (B:QE) (Q:Ev->Prop) (R:St->Hp->Prop),G.cl=L6 cap p->E3 K G T σ H S->Rep K H v d B->(∀i,G.own i->∀a∈B,a∉S i)->g3 d T Q ->
   (∀al r c,E3 K G r al H c->(∀i,G.own i->c i=S i/\al[i]?=σ[i]?)->(∀i,G.own i->r[i]?=T[i]?)->Q r->R al H)->g v σ H R)
  (hc:∀(G:Ent) (T:Ev) (σ:St) (H:Hp) (S:QO) (Q:Bool->Ev->Prop) (R:Bool->Hp->Prop),G.cl=L6 cap p->E3 K G T σ H S->ax T Q->(∀b Y r c,E3 K G r σ Y c->R1 K G H S Y c->Q b r->R b Y)->tc σ H R)
  (he:∀(G:Ent) (T:Ev) (σ:St) (H:Hp) (S:QO) (Q:D->Ev->Prop) (R:VK),G.cl=L6 cap p->E3 K G T σ H S->ar T Q->(∀v Y d B r c,E3 K G r σ Y c->R1 K G H S Y c->Rep K Y v d B->B.Nodup->(∀a∈B,H a=none/\∀i,a∉c i)->Q d r->R v Y)->te σ H R)
  (E:E3 K G T σ X S) (it:fY K J xs C X) (tr:∀a∈C,X a≠none) (ap:∀i,G.own i->∀a∈C,a∉S i) (hn:xs.length<sizeLine) (q:LB p j cap g3 ax ar xs T Q)
  (k:∀d Y ds B r c,E3 K G r σ Y c->R1 K G X S Y c->Rep K Y (.ref d) (.lst ds) B->B.Nodup->(∀a∈B,X a=none/\∀i,a∉c i)->Q ds r->R (.ref d) Y):Mk J g tc te (Q2 cap σ) R X:=by
 intro d hd;obtain⟨W,w0,step,done⟩:=q.ex;have E1:E3 K G T σ (upd X d (.lst [])) S:=E.same (i5.j4 hd)
 refine⟨λi m H=>m=xs.length-i/\i<=xs.length/\∃r c I ds B,E3 K G r σ H c/\R1 K G X S H c/\(∃d,r[j]?=some (some d))/\H d=some (.lst I)/\(∀q,d∉c q)/\I.length<=i/\j8 K H I ds B/\B.Nodup/\d∉B/\(∀a∈B,X a=none/\∀q,a∉c q)/\W i ds r,
  ⟨xs.length,by simp,wf _,T,S,[],[],[],E1,R1.same (i5.j4 hd),b8,g9,λq z=>E.there q z hd,hI _,.nil,op,(by simp),(λa x=>by cases x),w0⟩,?_⟩
 rintro i m H ⟨rfl,c2,r,c,I,ds,B,E',c',b9,O,a1,c3,rs,nB,dB,hB,q⟩;have tf:Tf X H:=c'.stb.tf
 have kC:∀a∈C,H a=X a:=λa x=>by
  obtain⟨o,eo⟩:=Option.ne_none_iff_exists'.mp (tr a x);rw[eo];exact c'.frm a o eo λi hi=>ap i hi a x
 by_cases a4:i<xs.length
 ·right
  obtain⟨go,yl⟩:=(it H tf kC i).2 _ (hL a4);refine⟨go,λy H2 hy=>?_⟩;obtain⟨s2,By,rB,sB⟩:=yl y H2 hy;have E2:=(E'.same s2).Kp (cap:=cap) (p:=p) own hp hq
  have ab:∀a∈cL cap r c p,a∈c j:=λa x=>by
   unfold cL at x;split at x
   ·rw[hp] at x;exact x
   ·cases x
  refine hg (jy cap p) _ _ H2 _ y _ By _ _ rfl E2 rB (λl hl a x z=>?_) (step i _ ds r (hL a4) q) λa2 b5 an bv k3 c1 q3=>?_
  ·have e:=aJ hl;subst e;exact c'.apart tr ap j own a (sB.mem x) (ab a z)
  refine hc (jy cap p) b5 a2 H2 an _ _ rfl bv q3 λb H3 b4 bi E4 c4 q4=>?_;have b7:∀i,(jy cap p).own i->i=p:=λi h=>aJ h;obtain⟨d0,e0⟩:=b9
  have b3:cL cap r c p=c j:=by
   have:(aw cap r)[p]?=some (some d0):=by
    unfold aw;rw[rz,hp];show some ((r[j]?).join)=_;rw[e0];rfl
   unfold cL;rw[this,hp]
  have f3:an p=c j:=(k3 p a3).1.trans b3;have ao:a2[p]?=(Q2 cap σ)[p]?:=(k3 p a3).2
  have ac:∀{U:Hp} {fi:QO} {am:Ev} {l:D},E3 K (jy cap p) am a2 U fi->R1 K (jy cap p) H2 an U fi->am[p]?=some (some l) ->
    E3 K G (r.set j (some l)) σ U (λq=>if q=j then fi p else c q)/\R1 K G H c U (λq=>if q=j then fi p else c q):=λ{U fi am l} Ei ci el=>
   zj E' own hp ⟨d0,e0⟩ s2 Ei (λa o h n=>ci.frm a o h λi hi=>by rw[b7 i hi,f3];exact n) ci.stb (λa x=>by rw[<-f3];exact ci.new p a3 a x) a3 ao el
  have lj:j<r.length:=(List.getElem?_eq_some_iff.mp e0).1
  have a7:∀{fi:QO} {U:Hp} {X':Addr},R1 K G H c U (λq=>if q=j then fi p else c q)->H X'≠none->(∀q,X'∉c q)->∀q,X'∉(if q=j then fi p else c q):=λ{fi U X'} cc ht b0 q z=>by
   by_cases a0:q=j
   ·rcases cc.new j own X' (by rw[qq rfl];rw[qq a0] at z;exact z) with y | y
    ·exact b0 j y
    ·exact ht y
   ·rw[qc a0] at z;exact b0 q z
  cases b with
  | false=>
   rw[qc nT];obtain⟨l,el,q5⟩:=y7 (q4.f rfl);obtain⟨Eo,co⟩:=ac E4 c4 el;have M:H3 d=some (.lst I):=co.frm d _ O λi _=>a1 i;refine⟨xs.length-(i+1),by omega,rfl,a4,_,_,I,ds,B,Eo,c'.trans co,⟨l,sm lj⟩,M,a7 co (by rw[O];intro z;cases z) a1,by omega,?_,nB,dB,λa x=>⟨(hB a x).1,a7 co (rs.there a x) (hB a x).2⟩,q5⟩
   exact rs.mono co.stb λa x=>by
    obtain⟨o,eo⟩:=cS.some (rs.cR a x);rw[eo];exact co.frm a o eo λi _=>(hB a x).2 i
  | true=>
   rw[qq rfl];refine he (jy cap p) b4 a2 H3 bi _ _ rfl E4 (q4.t rfl) λv U dv Bv c0 a6 E5 c5 rv nv mv q5=>?_;obtain⟨l,el,q5⟩:=y7 q5;have bn:=c4.trans c5;obtain⟨Eo,co⟩:=ac E5 bn el;have M:U d=some (.lst I):=co.frm d _ O λi _=>a1 i;have b1:=a7 co (by rw[O];intro z;cases z) a1
   have b6:j8 K U I ds B:=rs.mono co.stb λa x=>by
    obtain⟨o,eo⟩:=cS.some (rs.cR a x);rw[eo];exact co.frm a o eo λi _=>(hB a x).2 i
   have bg:∀a∈B,X a=none/\∀q,a∉(if q=j then a6 p else c q):=λa x=>⟨(hB a x).1,a7 co (rs.there a x) (hB a x).2⟩
   have bu:∀a,H3 a=none->H a=none:=λa h=>s2.free (c4.stb.dom a h);have a5:∀a∈Bv,H a=none:=λa x=>bu a (mv a x).1
   have bm:∀a∈Bv,∀q,a∉(if q=j then a6 p else c q):=λa x q z=>by
    by_cases a0:q=j
    ·rw[qq a0] at z;exact(mv a x).2 p z
    ·rw[qc a0] at z;exact E'.there q z (a5 a x)
   have ad:d∉Bv:=λz=>by rw[a5 d z] at O;cases O
   have st:W3 U (upd U d (.lst (I++[v]))):=⟨λb ys h=>by
     by_cases e:b=d
     ·subst e;rw[M] at h;cases h
     ·rw[i4 e];exact h,λb u w' h=>by
     by_cases e:b=d
     ·subst e;rw[M] at h;cases h
     ·rw[i4 e];exact h,λb h=>by
     by_cases e:b=d
     ·subst e;rw[g9] at h;cases h
     ·rw[i4 e] at h;exact h⟩
   have Ef:E3 K G (r.set j (some l)) σ (upd U d (.lst (I++[v]))) (λq=>if q=j then a6 p else c q):=Eo.away (A:=[d]) st (λa o h n=>by rw[i4 (by simpa using n)];exact h)
    (λq a x=>by
     have:a=d:=by simpa using x
     rw[this];exact b1 q)
    (λa x=>by
     have:a=d:=by simpa using x
     rw[this];exact E.stb.dom d hd)
    λa x=>by
     have:a=d:=by simpa using x
     rw[this];exact E.qw hd
   have b2:R1 K G X S (upd U d (.lst (I++[v]))) (λq=>if q=j then a6 p else c q):=by
    have ct:=c'.trans co;exact⟨λa o h n=>by rw[i4 (w5 h hd)];exact ct.frm a o h n,ct.stb.trans st,ct.new,ct.bor⟩
   refine⟨I,M,by omega,xs.length-(i+1),by omega,rfl,a4,_,_,I++[v],ds++[dv],B++(Bv++[]),Ef,b2,⟨l,sm lj⟩,g9,b1,by rw[hW,pp];omega,?_,?_,?_,λa x=>?_,q5⟩
   ·exact(b6.mono st λa x=>i4 λe=>dB (e▸x)).append (.cons (rv.mono st λa x=>i4 λe=>ad (e▸x)) .nil)
   ·rw[sK];refine List.nodup_append.mpr ⟨nB,nv,λa x b hb e=>?_⟩;subst e;exact rs.there a x (a5 a hb)
   ·rw[sK];exactλz=>(List.mem_append.mp z).elim dB ad
   ·rw[sK] at x;rcases List.mem_append.mp x with z | z
    ·exact bg a z
    ·exact⟨c'.stb.dom a (a5 a z),bm a z⟩
 ·have ei:i=xs.length:=by omega
  subst ei
  left
  refine⟨(it H tf kC _).1 rfl,k d H ds (d::B) r c E' c' (.lst O rs) (List.nodup_cons.mpr ⟨dB,nB⟩) (λa x=>?_) (done ds r q)⟩;rcases List.mem_cons.mp x with z | z
  ·rw[z];exact⟨hd,a1⟩
  ·exact hB a z
structure Hu(X:Cx)(cl:List Cl)(es:QH)(u:uU):Prop where
 of ::
 run:∃t,Fw X es t/\∀(G:Ent) (ρ:Ev) (σ:St) (H:Hp) (fa:QO) (Q:Bool->Ev->Prop) (R:Bool->Hp->Prop),G.cl=cl->E3 X.K G ρ σ H fa->u ρ Q ->
  (∀b H' ρ' fa',E3 X.K G ρ' σ H' fa'->R1 X.K G H fa H' fa'->Q b ρ'->R b H')->t σ H R
section
variable{X:Cx}{cl:List Cl}{e:Expr}{pos:Pos}{XN N:QF}{XS scope:Scope}{cap:QB}{elt target iter:Expr}{ifs:QH}{ui:JM}{g3:ee}{tc3:uU}{te3:TM}
def IZ:uU:=λa Q=>Q true a
theorem vU:Hu X cl [] IZ:=.of ⟨_,vt,λG a d H c Q R _ E b k=>k true H a c E R1.refl b⟩
def lL(cap:QB)(p j:Nat):Bool:=(cap[p]? == some (some j))&&(List.range cap.length).all λq=>cap[q]? != some (some j)||q == p
theorem jN{cap:QB}{p j:Nat}(h:lL cap p j=true):cap[p]?=some (some j)/\∀q,cap[q]?=some (some j)->q=p:=by
 unfold lL at h;rw[hD] at h;refine⟨by simpa using h.1,λq e=>?_⟩;have a:q<cap.length:=(List.getElem?_eq_some_iff.mp e).1;have:=(List.all_eq_true.mp h.2) q (List.mem_range.mpr a);rw[e] at this;simpa using this
theorem KH(p j:Nat)(hj:cl[j]?=some .own)(h1:lL cap p j=true)(h2:(L6 cap p)[p]?=some .own)(i:bf XN N XS scope cap=true)(hN:X.N=XN)(hS:X.env.scope=XS)(hk:scope.kind=.function)(h:X.calm=true)(u:Lh X cl target iter ui)
  (v:∀c b s H,Bo (Q6 X N scope c b s H) (L6 cap p) target g3) (z:∀c b s H,Hu (Q6 X N scope c b s H) (L6 cap p) ifs tc3) (y:∀c b s H,PM (Q6 X N scope c b s H) (L6 cap p) elt te3)
  (hs:∀x,foldedSetIterable iter X.env x=pure x:=by intro _;rfl):PM X cl (.ListComp elt [⟨target,iter,ifs,0⟩] scope pos) (Ml p j cap ui g3 tc3 te3):=.of<|by
 obtain⟨wi,pi,u⟩:=u.run;obtain⟨hp,hq⟩:=jN h1
 refine⟨_,BN (g:=λc b s H=>Classical.choose (v c b s H).run) (tc:=λc b s H=>Classical.choose (z c b s H).run) (te:=λc b s H=>Classical.choose (y c b s H).run) i hN hS hk h pi
  (λc b s H=>(lN (v c b s H).run).1) (λc b s H=>(lN (z c b s H).run).1) (λc b s H=>(lN (y c b s H).run).1) hs,λG ρ U H fa Q R S E hu k=>?_⟩
 have own:G.own j:=by unfold Ent.own;rw[S];exact hj
 refine u G ρ U H fa _ _ S E hu λJ H1 xs C Y a0 E1 T it tr ap q=>λc b o M=>?_;obtain⟨d0,e0,q2⟩:=y7 q.2
 exact Nv (K:=X.K) own hp hq h2 ⟨d0,e0⟩ (lN (v c b o M).run).2 (lN (z c b o M).run).2 (lN (y c b o M).run).2 E1 it tr ap q.1 q2
  λd H2 ds B l I E2 c2 r n1 n2 q3=>k _ H2 _ B l I E2 (T.trans c2) r n1 (λa O=>⟨T.stb.dom a (n2 a O).1,(n2 a O).2⟩) q3
theorem Cd{i:Nat}{y:Str}{h py:Pos}(p j:Nat)(U:X.N.Nodup)(z:X.N[i]?=some y)(hy:X.env.scope.names.lookup y=some .local)(Q:fO cl[i]? i=true)(hj:cl[j]?=some .own)(h1:lL cap p j=true)(h2:(L6 cap p)[p]?=some .own)
  (o:bf XN N XS scope cap=true) (hN:X.N=XN) (hS:X.env.scope=XS) (hk:scope.kind=.function) (l:X.calm=true) (I:Lh X cl target iter ui)
  (M:∀c b s H,Bo (Q6 X N scope c b s H) (L6 cap p) target g3) (S:∀c b s H,Hu (Q6 X N scope c b s H) (L6 cap p) ifs tc3) (O:∀c b s H,PM (Q6 X N scope c b s H) (L6 cap p) elt te3)
  (v:swapsWith (.ListComp elt [⟨target,iter,ifs,0⟩] scope pos) (some (.Name y py)) h.line X.env=pure true:=by rfl)
  (hs:∀x,foldedSetIterable iter X.env x=pure x:=by intro _;rfl):J3 X cl (.Assign [.Name y py] (.ListComp elt [⟨target,iter,ifs,0⟩] scope pos) h) (C7 i (Ml p j cap ui g3 tc3 te3)):=.of<|by
 obtain⟨wi,pi,I⟩:=I.run;obtain⟨hp,hq⟩:=jN h1
 refine⟨_,kd (g:=λc b s H=>Classical.choose (M c b s H).run) (tc:=λc b s H=>Classical.choose (S c b s H).run) (te:=λc b s H=>Classical.choose (O c b s H).run) U z hy o hN hS hk l pi
  (λc b s H=>(lN (M c b s H).run).1) (λc b s H=>(lN (S c b s H).run).1) (λc b s H=>(lN (O c b s H).run).1) v hs,λG T ρ σ H fa R Y E hu le=>?_⟩
 have own:G.own j:=by unfold Ent.own;rw[Y];exact hj
 refine I G ρ σ H fa _ _ Y E hu λJ H1 xs C a1 a3 E1 c1 it tr ap q=>λc b u H'=>?_;obtain⟨d0,e0,q2⟩:=y7 q.2
 refine Nv (K:=X.K) own hp hq h2 ⟨d0,e0⟩ (lN (M c b u H').run).2 (lN (S c b u H').run).2 (lN (O c b u H').run).2 E1 it tr ap q.1 q2
  λd H2 ds B a0 a2 E2 c2 r n1 n2 q3=>?_
 exact le.nx _ _ ⟨_,_,E2.set (t4 q3.1) r (jn.new E2 E n1 (λa ha=>⟨c1.stb.dom a (n2 a ha).1,(n2 a ha).2⟩) (by rw[Y];exact hV Q)),q3.2⟩
end
end L3
namespace L2
open PySem PySem.Spec PyProof.Rows
section
variable{κ:Type}[DecidableEq κ]
def bw(kvs:List (κ×V))(k:κ):Option V:=(kvs.find? λa=>decide (a.1=k)).map (·.2)
def putK(kvs:List (κ×V))(k:κ)(v:V):List (κ×V):=
 if (kvs.any λa=>decide (a.1=k))=true then kvs.map (λa=>if a.1=k then(a.1,v) else a) else kvs++[(k,v)]
def GR(kvs:List (κ×V))(k:κ):List (κ×V):=kvs.filter λa=>decide (a.1≠k)
theorem bZ{p:κ×V}{r:List (κ×V)}{k:κ}(e:p.1=k):bw (p::r) k=some p.2:=by simp[bw,wr,e]
theorem aa{p:κ×V}{r:List (κ×V)}{k:κ}(e:¬p.1=k):bw (p::r) k=bw r k:=by simp[bw,wr,e]
theorem pD(k:κ):∀kvs:List (κ×V),(kvs.any λa=>decide (a.1=k))=(bw kvs k).isSome
 | []=>rfl
 | p::r=>by
  rw[FS]
  by_cases e:p.1=k
  ·simp only[bZ e,eH e,Bool.true_or,Option.isSome_some]
  ·rw[aa e,iG e,Bool.false_or];exact pD k r
theorem K9(kvs:List (κ×V))(k:κ)(v:V):(putK kvs k v).length<=kvs.length+1:=by
 unfold putK;split
 ·rw[cC];omega
 ·rw[hW,sw,Pc];omega
theorem ak.V5{o:Option V}{u:QQ}(r:ak o u):o.isSome=u.isSome:=by
 cases o with
 | none=>cases u with
  | none=>rfl
  | some _=>exact(show False from r).elim
 | some _=>cases u with
  | none=>exact(show False from r).elim
  | some _=>rfl
theorem ak.getD{o:Option V}{u:QQ}{d:V}{d':Value}(r:ak o u)(a:RelV d d'):RelV (o.getD d) (u.getD d'):=by
 cases o with
 | none=>cases u with
  | none=>exact a
  | some _=>exact(show False from r).elim
 | some _=>cases u with
  | none=>exact(show False from r).elim
  | some _=>exact r
theorem KV.val{kvs:List (κ×V)}{vs:List (κ×Value)}(r:KV kvs vs)(k:κ):ak (bw kvs k) (valueAt vs k):=by
 unfold KV at r
 induction r with
 | nil=>exact True.intro
 | @cons p q j a h t g=>
  obtain⟨d,i⟩:=h
  by_cases e:p.1=k
  ·have c:q.1=k:=d.symm.trans e;have b:valueAt (q::a) k=some q.2:=by simp[valueAt,wr,c]
   rw[bZ e,b];exact i
  ·have c:¬q.1=k:=λz=>e (d.trans z);have b:valueAt (q::a) k=valueAt a k:=by simp[valueAt,wr,c]
   rw[aa e,b];exact g
theorem KV.any{kvs:List (κ×V)}{vs:List (κ×Value)}(r:KV kvs vs)(k:κ):(kvs.any λa=>decide (a.1=k))=vs.any λa=>decide (a.1=k):=by
 unfold KV at r
 induction r with
 | nil=>rfl
 | cons h t b=>rw[FS,FS,b,h.1]
theorem KV.xC{kvs:List (κ×V)}{vs:List (κ×Value)}(r:KV kvs vs)(k:κ){y:V}{u:Value}(c:RelV y u) :
  KV (kvs.map λa=>if a.1=k then(a.1,y) else a) (vs.map λa=>if a.1=k then(a.1,u) else a):=by
 unfold KV at r ⊢
 induction r with
 | nil=>exact .nil
 | @cons p q j i h t d=>
  rw[rl,rl];refine .cons ?_ d;obtain⟨b,g⟩:=h
  by_cases e:p.1=k
  ·rw[qq e,qq (b.symm.trans e)];exact⟨b,c⟩
  ·rw[qc e,qc (λz=>e (b.trans z))];exact⟨b,g⟩
theorem KV.put{kvs:List (κ×V)}{vs:List (κ×Value)}(r:KV kvs vs)(k:κ){y:V}{u:Value}(a:RelV y u):KV (putK kvs k y) (stored vs k u):=by
 unfold putK stored;rw[r.any k]
 by_cases e:(vs.any λb=>decide (b.1=k))=true
 ·rw[qq e,qq e];exact r.xC k a
 ·rw[qc e,qc e];exact Paired.snoc r ⟨rfl,a⟩
theorem KV.drop{kvs:List (κ×V)}{vs:List (κ×Value)}(r:KV kvs vs)(k:κ):KV (GR kvs k) (without vs k):=by
 unfold KV at r ⊢;unfold GR without
 induction r with
 | nil=>exact .nil
 | @cons p q l j h t d=>
  obtain⟨c,g⟩:=h;rw[OW,OW]
  by_cases e:p.1=k
  ·have a:¬decide (p.1≠k)=true:=by simp[e]
   have b:¬decide (q.1≠k)=true:=by simp[c.symm.trans e]
   rw[qc a,qc b];exact d
  ·have i:¬q.1=k:=λz=>e (c.trans z);have a:decide (p.1≠k)=true:=by simp[e]
   have b:decide (q.1≠k)=true:=by simp[i]
   rw[qq a,qq b];exact .cons ⟨c,g⟩ d
theorem KV.length{kvs:List (κ×V)}{vs:List (κ×Value)}(r:KV kvs vs):kvs.length=vs.length:=PJ r
end
theorem eQ{P:Program}{w:World}{k:Key}{u:Value}(r:RelV (kV k) u):(x3 P w).is k u=true:=by
 cases k with
 | inl i=>obtain⟨t,e⟩:=(show ∃t,u=Value.int i t from r);subst e;exact nM P w i t
 | inr x=>obtain⟨t,e⟩:=(show ∃t,u=Value.str x t from r);subst e;exact qA P w x t
theorem kc{P:Program}{w:World}:∀{a:List Key} {b:QG},Vals (a.map kV) b->ItemsAre (x3 P w) a b
 | [],_,r=>by rw[Px] at r;cases r;exact .nil
 | k::a,_,r=>by
  rw[rl] at r
  cases r with
  | cons h t=>exact .cons (eQ h) (kc t)
abbrev KT(H:Hp):List (List Key×V)->List (List Key×Addr×Value)->Prop:=Paired λp q=>p.1=q.1/\H q.2.1=some (.tup (p.1.map kV))/\RelV p.2 q.2.2
theorem KT.val{H:Hp}{kvs:List (List Key×V)}{xs:List (List Key×Addr×Value)}(r:KT H kvs xs)(k:List Key):ak (bw kvs k) ((atKey xs k).map (·.2)):=by
 induction r with
 | nil=>exact True.intro
 | @cons p q j a h t g=>
  obtain⟨d,_,i⟩:=h
  by_cases e:p.1=k
  ·have c:q.1=k:=d.symm.trans e;have b:atKey (q::a) k=some q.2:=by simp[atKey,wr,c]
   rw[bZ e,b];exact i
  ·have c:¬q.1=k:=λz=>e (d.trans z);have b:atKey (q::a) k=atKey a k:=by simp[atKey,wr,c]
   rw[aa e,b];exact g
theorem KT.xC{H:Hp}{kvs:List (List Key×V)}{xs:List (List Key×Addr×Value)}(r:KT H kvs xs)(k:List Key){y:V}{u:Value}(d:RelV y u) :
  KT H (kvs.map λb=>if b.1=k then(b.1,y) else b) (xs.map (putAt k u)):=by
 induction r with
 | nil=>exact .nil
 | @cons p q l j h t g=>
  rw[rl,rl];refine .cons ?_ g;obtain⟨a,c,i⟩:=h;unfold putAt
  by_cases e:p.1=k
  ·rw[qq e,qq (a.symm.trans e)];exact⟨a,c,d⟩
  ·rw[qc e,qc (λz=>e (a.trans z))];exact⟨a,c,i⟩
theorem KT.put{H:Hp}{kvs:List (List Key×V)}{xs:List (List Key×Addr×Value)}(r:KT H kvs xs)(k:List Key){b:Addr}{y:V}{u:Value}(d:H b=some (.tup (k.map kV)))(a:RelV y u) :
  KT H (putK kvs k y) (storedH xs k b u):=by
 have e:(kvs.any λc=>decide (c.1=k))=(atKey xs k).isSome:=by
  rw[pD,(r.val k).V5,Pv]
 unfold putK storedH;rw[e]
 by_cases q:(atKey xs k).isSome=true
 ·rw[qq q,qq q];exact r.xC k a
 ·rw[qc q,qc q];exact Paired.snoc r ⟨rfl,d,a⟩
theorem KT.keeps{H c:Hp}{kvs:List (List Key×V)}{xs:List (List Key×Addr×Value)}(r:KT H kvs xs)(d:∀b a,H b=some (.tup a)->c b=some (.tup a)):KT c kvs xs:=
 Paired.IC r λ_ _ z=>⟨z.1,d _ _ z.2.1,z.2.2⟩
section
variable{P:Program}{w:World}{H:Hp}{h:Heap}{a:Addr}
theorem Kk{u:HO}(ok:R5 P w H h)(e:Rd H a u):u3 P w H h a u:=e.ok ok
def Jg(H:Hp)(a:Addr)(kvs:List (Key×V)):Prop:=Rd H a (.dK kvs)\/∃b,H a=some (.dE kvs b)
theorem Jg.of{H:Hp}{a:Addr}{kvs:List (Key×V)}(r:Dd H a kvs):Jg H a kvs:=r.elim (λh=>.inl (.inl h)) .inr
theorem Jg.ok{P:Program}{w:World}{H:Hp}{h:Heap}{a:Addr}{kvs:List (Key×V)}(r:Jg H a kvs)(x:R5 P w H h):u3 P w H h a (.dK kvs):=r.elim (λh=>h.ok x) λh=>(show Dd H a kvs from .inr h).ok x
theorem bp{kvs:List (Key×V)}(ok:R5 P w H h)(e:Jg H a kvs):kvs.length<=sizeLine/\(a == sysModules)=false/\∃vs,KV kvs vs/\h.DictOf (x3 P w) a vs:=
 show u3 P w H h a (.dK kvs) from e.ok ok
theorem zY{kvs:List (Key×V)}(ok:R5 P w H h)(e:H a=some (.dK kvs)):kvs.length<=sizeLine/\(a == sysModules)=false/\∃vs,KV kvs vs/\h.DictOf (x3 P w) a vs:=bp ok (.inl (.inl e))
theorem dF{b:List Key}(ok:R5 P w H h)(e:H a=some (.tup (b.map kV))):(tupleKind (x3 P w)).is h b a:=by
 obtain⟨_,c,r,o,i,g,n,d⟩:=(show u3 P w H h a (.tup (b.map kV)) from ok a _ e)
 exact⟨o,c.toArray,n,i,g,d,by simpa using kc r⟩
theorem iT{kvs:List (List Key×V)}(ok:R5 P w H h)(e:Rd H a (.dT kvs)):kvs.length<=sizeLine/\(a == sysModules)=false /\
  ∃xs,KT H kvs xs/\h.DictOfH (tupleKind (x3 P w)) a xs:=by
 obtain⟨z,y,xs,r,o,B,C,v,u,j,i,g⟩:=(show u3 P w H h a (.dT kvs) from Kk ok e)
 refine⟨z,y,xs,r,o,B,C,v,u,j,i,λx b=>?_,g⟩
 have all:∀{l:List (List Key×V)} {m:List (List Key×Addr×Value)},KT H l m->∀x∈m,(tupleKind (x3 P w)).is h x.1 x.2.1:=by
  intro l m q
  induction q with
  | nil=>intro x b;exact nomatch b
  | @cons p q G E c t d=>
   intro x b;rcases List.mem_cons.mp b with e | b
   ·subst e;exact dF ok (by rw[<-c.1];exact c.2.1)
   ·exact d x b
 exact all r x b
theorem LO{kvs:List (List Key×V)}(ok:R5 P w H h)(e:H a=some (.dT kvs)):kvs.length<=sizeLine/\(a == sysModules)=false /\
  ∃xs,KT H kvs xs/\h.DictOfH (tupleKind (x3 P w)) a xs:=iT ok (.inl e)
end
def aI(H:Hp)(a:Addr)(y:V)(r:Option V):Prop:=
 (∃c k,Jg H a c/\y=kV k/\r=bw c k)\/∃c k b,Rd H a (.dT c)/\y=.ref b/\H b=some (.tup (k.map kV))/\r=bw c k
def rP(H:Hp)(a:Addr)(y v:V)(d:Hp):Prop:=
 (∃c k,Dd H a c/\y=kV k/\c.length<sizeLine/\d=upd H a (.dK (putK c k v))) \/
 ∃c k b,H a=some (.dT c)/\y=.ref b/\H b=some (.tup (k.map kV))/\c.length<sizeLine/\d=upd H a (.dT (putK c k v))
theorem aI.k{H:Hp}{a:Addr}{kvs:List (Key×V)}{k:Key}(e:Dd H a kvs):aI H a (kV k) (bw kvs k):=.inl ⟨kvs,k,.of e,rfl,rfl⟩
theorem aI.t{H:Hp}{a b:Addr}{kvs:List (List Key×V)}{k:List Key}(e:H a=some (.dT kvs))(c:H b=some (.tup (k.map kV))):aI H a (.ref b) (bw kvs k):=.inr ⟨kvs,k,b,.inl e,rfl,c,rfl⟩
theorem rP.k{H:Hp}{a:Addr}{kvs:List (Key×V)}{k:Key}{v:V}(e:Dd H a kvs)(b:kvs.length<sizeLine):rP H a (kV k) v (upd H a (.dK (putK kvs k v))):=.inl ⟨kvs,k,e,rfl,b,rfl⟩
theorem rP.t{H:Hp}{a b:Addr}{kvs:List (List Key×V)}{k:List Key}{v:V}(e:H a=some (.dT kvs))(d:H b=some (.tup (k.map kV)))(c:kvs.length<sizeLine) :
  rP H a (.ref b) v (upd H a (.dT (putK kvs k v))):=.inr ⟨kvs,k,b,e,rfl,d,c,rfl⟩
section
variable{X:Cx}{pins:QA}{σ:St}{H:Hp}{s:Shared}{a:Addr}{y v:V}{u r:Value}{o:Option V}{A:Around}{E:QN}
theorem Inv.big(I:Inv X pins σ H s):sysModules<s.heap.objs.size:=by
 have h:mainGlobals<s.heap.objs.size:=(I.mod.glob.keeps I.bk).lt;exact Nat.lt_trans (by decide) h
theorem wB{Q:QN}(J:A.units+1<cLine)(I:Inv X pins σ H s)(g:aI H a y (some v))(C:RelV y u)(h:∀i s',Inv X pins σ H s'->RelV v i->Q i s') :
  wpAny (model X.prog X.w) A (getItem (.ref a) u) Q E s:=by
 rcases g with⟨j,k,e,x,l⟩ | ⟨j,k,b,e,x,O,l⟩
 ·subst x;obtain⟨z,hd,vs,d,B⟩:=bp I.hok e;obtain⟨i,hw,c⟩:=ak.some_of (v:=v) (o:=valueAt vs k) (by rw[l];exact d.val k);exact wpAny_getItem_of (eQ C) B.mapOf hw (h i _ (I.tok _) c)
 ·subst x;cases(show u=Value.ref b from C);obtain⟨z,hd,G,d,B⟩:=iT I.hok e;obtain⟨i,hw,c⟩:=ak.some_of (v:=v) (o:=(atKey G k).map (·.2)) (by rw[l];exact d.val k);obtain⟨p,M,q⟩:=Option.map_eq_some_iff.mp hw;refine wpAny_getItem_heap (Ov J) (dF I.hok O) B M ?_;rw[q];exact h i _ (I.tok _) c
theorem Nf{Q:QN}(x:A.units+1<cLine)(I:Inv X pins σ H s)(g:aI H a y o)(p:RelV y u)(h:∀s',Inv X pins σ H s'->Q (.bool o.isSome) s') :
  wpAny (model X.prog X.w) A (compareOp .In u (.ref a)) Q E s:=by
 rcases g with⟨d,k,e,i,l⟩ | ⟨d,k,b,e,i,B,l⟩
 ·subst i;obtain⟨z,hd,vs,c,j⟩:=bp I.hok e;refine wpAny_in_of (eQ p) hd j.mapOf ?_;rw[<-(c.val k).V5,<-l];exact h _ (I.tok _)
 ·subst i;cases(show u=Value.ref b from p);obtain⟨z,hd,C,c,j⟩:=iT I.hok e;refine wpAny_in_heap (Ov x) (dF I.hok B) hd j ?_;have q:=(c.val k).V5;rw[Pv] at q;rw[<-q,<-l];exact h _ (I.tok _)
theorem FJ{Q:QN}(x:A.units+1<cLine)(I:Inv X pins σ H s)(g:aI H a y o)(p:RelV y u)(h:∀s',Inv X pins σ H s'->Q (.bool (!o.isSome)) s') :
  wpAny (model X.prog X.w) A (compareOp .NotIn u (.ref a)) Q E s:=by
 rcases g with⟨d,k,e,i,l⟩ | ⟨d,k,b,e,i,B,l⟩
 ·subst i;obtain⟨z,hd,vs,c,j⟩:=bp I.hok e;refine wpAny_notIn_of (eQ p) hd j.mapOf ?_;rw[<-(c.val k).V5,<-l];exact h _ (I.tok _)
 ·subst i;cases(show u=Value.ref b from p);obtain⟨z,hd,C,c,j⟩:=iT I.hok e;refine wpAny_notIn_heap (Ov x) (dF I.hok B) hd j ?_;have q:=(c.val k).V5;rw[Pv] at q;rw[<-q,<-l];exact h _ (I.tok _)
theorem fJ{h':Heap}{t':Nat}{ob:HO}(I:Inv X pins σ H s)(c:cS (H a))(d:Heap.SameBut a s.heap h')(g:∃q,h'.get? a=some q)(new:u3 X.prog X.w (upd H a ob) h' a ob) :
  Inv X pins σ (upd H a ob) { s with heap:=h',toks:=t' }:=
 I.write (x:=a) (e:=a) c (.inl rfl) (λb q h z=>(d.2 b h).trans z) g new
theorem lF{P:Program}{w:World}{c:Hp}{h':Heap}{kvs:List (Key×V)}{vs:List (Key×Value)}(z:kvs.length<=sizeLine)(hd:(a == sysModules)=false)(b:KV kvs vs)(dd:h'.DictOf (x3 P w) a vs) :
  u3 P w c h' a (.dK kvs):=⟨z,hd,vs,b,dd⟩
theorem Inv.Bx{kvs:List (Key×V)}(I:Inv X pins σ H s)(e:H a=some (.dK kvs)):∃ep,Inv X pins σ (upd H a (.dE kvs ep)) s:=by
 obtain⟨z,hd,vs,c,d⟩:=zY I.hok e;obtain⟨ep,h⟩:=d.dictAt;exact⟨ep,I.write (x:=a) (e:=a) (h':=s.heap) (t':=s.toks) (o:=.dE kvs ep) (by rw[e];exact True.intro) (.inl rfl) (λb q i z=>z) (let ⟨q,_,_,g,_⟩:=d;⟨q,g⟩) ⟨z,hd,vs,c,h⟩⟩
theorem xr{Y:Hp}{Q:Unit->Shared->Prop}(hu:A.units+1<cLine)(I:Inv X pins σ H s)(g:rP H a y v Y)(O:RelV y u)(R:RelV v r)(h:∀s',Inv X pins σ Y s'->Q () s') :
  wpAny (model X.prog X.w) A (setItem (.ref a) u r) Q E s:=by
 rcases g with⟨i,k,e,G,l,J⟩ | ⟨i,k,b,e,G,U,l,J⟩
 ·subst G J;obtain⟨z,hd,vs,d,M⟩:=bp I.hok (.of e);have x:vs.length<=sizeLine:=by rw[<-d.length];exact z
  have C:(putK i k v).length<=sizeLine:=by have:=K9 i k v;omega
  refine wpAny_setItem_pairs (hsz:=x) (eQ O) M λS j B=>h _ ?_;have he:∃q,S.get? a=some q:=let ⟨q,_,_,p,_⟩:=j;⟨q,p⟩;exact fJ I e.mut B he (lF C hd (d.put k R) j)
 ·subst G J;cases(show u=Value.ref b from O);obtain⟨z,hd,xs,d,M⟩:=LO I.hok e;have x:xs.length<=sizeLine:=by rw[<-PJ d];exact z
  have C:(putK i k v).length<=sizeLine:=by have:=K9 i k v;omega
  refine wpAny_setItem_heap (hsz:=x) (Ov hu) (dF I.hok U) M λS j B=>h _ ?_;obtain⟨q,es,ep,p,h2,h3,h4,_,h5⟩:=j;refine fJ I (by rw[e];exact True.intro) B ⟨q,p⟩ ⟨C,hd,_,(d.put k U R).keeps λc ys T=>?_,q,es,ep,p,h2,h3,h4,h5⟩;rw[i4 (Ah T e (λz=>nomatch z))];exact T
end
section
variable{X:Cx}{pins:QA}{σ:St}{H:Hp}{s:Shared}{a:Addr}{kvs:List (Key×V)}{k:Key}{u:Value}{A:Around}{E:QN}
end
theorem qg{X:Cx}{pins:QA}{σ:St}{H:Hp}{s:Shared}{a:Addr}{y:V}{o:Option V}(I:Inv X pins σ H s)(g:aI H a y o):s.TypeIs (.ref a) "dict":=by
 rcases g with⟨c,k,e,_,_⟩ | ⟨c,k,b,e,_,_,_⟩
 ·obtain⟨_,_,vs,_,d⟩:=bp I.hok e;exact d.typeIs
 ·obtain⟨_,_,h,_,d⟩:=iT I.hok e;exact d.typeIs
def JZ(e ty d:TE):TS:=λD b H=>d b H λv i=>e b i λx h=>ty b h λy g=>∃a c,x=.ref a/\rP g a y v c/\D.nx b c
section
variable{X:Cx}{o i e value:Expr}{pos pos' tpos:Pos}{td ty tv:TE}
theorem FP(G:X.A.units+1<cLine)(M:PE X o td)(O:PE X i ty)(E:PE X value tv)(J:swapsWith value (some (.Subscript o i pos')) pos.line X.env=pure false) :
  PS X (.Assign [.Subscript o i pos'] value pos) (JZ td ty tv):=by
 refine .of ?_;intro b s c H D I h;refine wpAny_Assign_Subscript (B4 (E b s c H _ I h) λr j ⟨v,H1,T,q,C⟩=>B4 (M b j c H1 _ T C) λu d ⟨x,Y,S,p,B⟩=>B4 (O b d c Y _ S B) λiv s3 ⟨y,H3,R,l,a,U,ex,g,z⟩=>?_) J;subst ex;obtain rfl:u=Value.ref a:=p;exact xr G R g l q λs4 Q=>⟨c,U,Q,z⟩
end
theorem bT{P:Program}{w:World}{H:Hp}(h:Heap)(a:sysModules<h.objs.size):u3 P w H (h.push { cls:=.type "dict",data:=.dict #[] }) h.objs.size (.dK []):=
 ⟨wf _,beq_eq_false_iff_ne.mpr (wh (sx a)),[],.nil,Heap.DictOf.new h⟩
def Jl:TE:=λ_ H Q=>∀p,H p=none->Q (.ref p) (upd H p (.dK []))
section
variable{X:Cx}{pos:Pos}
theorem zD:PE X (.Dict [] [] pos) Jl:=.of <| λb s c H Q I h=>
 wpAny_Dict_empty ⟨.ref s.heap.objs.size,_,I.laid (a:=s.heap.objs.size) (o:=.dK []) (t':=s.toks) (λ_ _ q=>dL _ q) (hI _) (bT s.heap I.big),rfl,h _ (I.hok.fresh (hI _))⟩
end
def G7(kvs more:List (Key×V)):List (Key×V):=more.foldl (λa b=>putK a b.1 b.2) kvs
theorem bq:∀(more kvs:List (Key×V)),(G7 kvs more).length<=kvs.length+more.length
 | [],kvs=>by show kvs.length<=kvs.length+0;omega
 | p::r,kvs=>by
  have b:=bq r (putK kvs p.1 p.2);have a:=K9 kvs p.1 p.2;show(G7 (putK kvs p.1 p.2) r).length<=_;rw[sw];omega
structure M2(X:Cx)(o:Expr)(m:Str)(apos:Pos)(e f:Expr)(cpos:Pos):Prop where
 base:attributeBase o m X.env (eval o X.env)=eval o X.env
 few:((backTo cpos (starEach [e,f] X.env)).all (λx=>!x.1)&&(backToKw cpos (keywordEach [] X.env)).all (λx=>x.1.isSome)
  && decide (([e,f]:QH).length+([]:List Keyword).length+(if ([]:List Keyword).isEmpty then 0 else 1)<30))=true
 line:(apos.endLine == cpos.line)=true
 trees:backTo cpos (starEach [e,f] X.env)=[(false,eval e X.env),(false,eval f X.env)]
def Nw(H:Hp)(a:Addr):Prop:=(∃b,Jg H a b)\/∃b,Rd H a (.dT b)
theorem IJ{X:Cx}{pins:QA}{σ:St}{H:Hp}{s:Shared}{a:Addr}(I:Inv X pins σ H s)(d:Nw H a) :
  s.TypeIs (.ref a) "dict" /\ (∀b,Value.ref a=.ref b->∃ob,s.heap.get? b=some ob/\ob.dict=none)/\(a == sysModules)=false:=by
 rcases d with⟨g,e⟩ | ⟨g,e⟩
 ·obtain⟨_,hd,vs,_,c⟩:=bp I.hok e;refine⟨c.typeIs,λb q=>?_,hd⟩;cases q;obtain⟨ob,_,_,i,h,_⟩:=c;exact⟨ob,i,h.2.1⟩
 ·obtain⟨_,hd,j,_,c⟩:=iT I.hok e;refine⟨c.typeIs,λb q=>?_,hd⟩;cases q;obtain⟨ob,_,_,i,h,_⟩:=c;exact⟨ob,i,h.2.1⟩
section
variable{X:Cx}{pins:QA}{σ:St}{H:Hp}{s:Shared}{a:Addr}{y d:V}{u r:Value}{o:Option V}{A:Around}{E:QN}
theorem Je{Q:QN}(C:A.units+1<cLine)(I:Inv X pins σ H s)(g:aI H a y o)(v:RelV y u)(x:RelV d r)(h:∀q s',Inv X pins σ H s'->RelV (o.getD d) q->Q q s') :
  wpAny (model X.prog X.w) A (call (.builtin "dict.get") [.ref a,u,r]) Q E s:=by
 rcases g with⟨j,k,e,p,l⟩ | ⟨j,k,b,e,p,G,l⟩
 ·subst p;obtain⟨z,hd,vs,c,i⟩:=bp I.hok e;refine call_meetsIn Ow i.typeIs OY (OR _ _ _) (meets_dict_get_default (x3 X.prog X.w) a (eQ v) hd r) ⟨_,i.mapOf,h _ _ (I.tok _) ?_⟩;rw[l];exact(c.val k).getD x
 ·subst p;cases(show u=Value.ref b from v);obtain⟨z,hd,B,c,i⟩:=iT I.hok e;refine call_meetsIn Ow i.typeIs OY (OR _ _ _) (meetsH_dict_get_default (tupleKind (x3 X.prog X.w)) a b hd r) ⟨Ov C,k,B,dF I.hok G,i,h _ _ (I.tok _) ?_⟩;rw[l];exact(c.val k).getD x
end
section
variable{X:Cx}{o e f:Expr}{apos cpos:Pos}{td ty tx:TE}
end
section
variable{X:Cx}{pins:QA}{σ:St}{H:Hp}{s:Shared}{a:Addr}{kvs:List (Key×V)}{A:Around}{E:QN}
end
section
variable{X:Cx}{pins:QA}{σ:St}{H:Hp}{s:Shared}{a:Addr}{y:V}{u:Value}{A:Around}{E:QN}
end
section
variable{X:Cx}
end
section
variable{κ:Type}[DecidableEq κ]
end
theorem IV{P:Program}{w:World}{h:Heap}{a:Addr}{f:Key->QQ}(m:h.MapOf (x3 P w) a f):h.MapOf (iN P w) a (λk=>k.bind f):=by
 obtain⟨o,d,u,r,p,l,g,j⟩:=m;refine⟨o,d,u,r,p,l,λe c=>?_,λk=>?_⟩
 ·obtain⟨k,b,v⟩:=g e c;exact⟨some k,b,v⟩
 ·cases k with
  | some k=>exact j k
  | none=>
   show findBy iK d none=none
   have no:∀e∈d,iK none e.key=false:=λe c=>by
    cases q:iK none e.key with
    | false=>rfl
    | true=>
     obtain⟨k,b,_⟩:=g e c;rw[C6 q] at b;rcases u6 (show eK k Value.none=true from b) with⟨i,t,_,e⟩ | ⟨x,t,_,e⟩<;>cases e
   unfold findBy;simp;exact no
def CA(H:Hp)(a:Addr)(y:V)(r:Option V):Prop:=aI H a y r\/(y=.p7/\(∃b,Dd H a b)/\r=none)
def FR(e ty tx:TE):TE:=λb H Q=>e b H λx d=>∃a,x=.ref a/\Nw d a/\ty b d λy g=>tx b g λz c=>∃o,CA c a y o/\Q (o.getD z) c
theorem xW {X:Cx} {o e f:Expr} {i c:Pos} {q ty tx:TE} (hu:X.A.units+1<cLine) (ho:PE X o q) (he:PE X e ty) (hf:PE X f tx) (m:M2 X o "get" i e f c):PE X (.Call (.Attribute o "get" i) [e,f] [] c) (FR q ty tx):=by
 refine .of ?_;intro b s j H Q I h;refine wpAny_Call_method m.base m.few m.line PySem.F.plainAttrs_dict Ow PySem.F.type_dict_get (B4 (ho b s j H _ I h) λu R ⟨x,H1,E,S,a,ex,d,Y⟩=>?_);subst ex;obtain rfl:u=Value.ref a:=S;obtain⟨M,J,_⟩:=IJ E d;refine⟨M,J,?_⟩;rw[m.trees]
 refine Calls.callWith_builtin rfl (Pz (PY (B4 (he b R j H1 _ E Y) λiv O ⟨y,H2,I2,v,U⟩=>
  PY (B4 (hf b O j H2 _ I2 U) λfv s3 ⟨z,G,p,r,ov,g,B⟩=>Calls.spliced_nil ?_))))
 rcases g with g | ⟨rfl,⟨a0,hk⟩,rfl⟩
 ·exact Je hu p g v r λw' s4 I4 l=>⟨_,G,I4,l,B⟩
 ·cases v;obtain⟨zz,hd,vs,T,C⟩:=bp p.hok (.of hk);refine call_meetsIn Ow C.typeIs OY (OR _ _ _) (meets_dict_get_default (iN X.prog X.w) (k:=none) a (by rfl) hd fv) ⟨_,IV C.mapOf,⟨_,G,p.tok _,r,B⟩⟩
def JP(Q:VK):VK:=λv b=>∃p a,v=.ref p/\b p=some (.dK a)/\∀c,Q v (upd b p (.dE a c))
def Ends.JP(D:Ends):Ends:={ D with nx:=λb c=>∃p a,c p=some (.dK a)/\∀d,D.nx b (upd c p (.dE a d)) }
section
variable{X:Cx}
theorem HE{e:Expr}{t:TE}(h:PE X e t):PE X e (λσ H Q=>t σ H (JP Q)):=by
 refine .of ?_;intro a s σ H Q I q;exact B4 (h a s σ H _ I q) λv o ⟨x,u,l,b,p,d,r,i,c⟩=>let ⟨g,j⟩:=l.Bx i;⟨x,_,j,b,c g⟩
theorem Dw{f:Value}{r:List V->Hp->VK->Prop}(h:K8 X f r):K8 X f (λxs H Q=>r xs H (JP Q)):=by
 intro a s b H xs c Q I d q;exact B4 (h a s b H xs c _ I d q) λv y ⟨x,B,u,e,p,i,z,l,g⟩=>let ⟨j,o⟩:=u.Bx l;⟨x,_,o,e,g j⟩
theorem yV{st:Stmt}{t:TS}(h:PS X st t):PS X st (λD σ H=>t D.JP σ H):=by
 refine .of ?_;intro a s σ H D I q;refine B4 (h a s σ H _ I q) λf o b=>?_
 cases f with
 | next=>
  obtain⟨c,r,l,p,g,e,d⟩:=b;obtain⟨i,j⟩:=l.Bx e;exact⟨_,_,j,d i⟩
 | brk=>exact b
 | cont=>exact b
 | ret v=>exact b
end
end L2
namespace L3
open PySem PySem.Spec L2
def cM:D->Option Key
 | .int i=>some (.inl i)
 | .str x=>some (.inr x)
 | _=>none
def B7(kvs:List (Key×D))(k:Key):Option D:=(kvs.find? λa=>decide (a.1=k)).map (·.2)
def putD(kvs:List (Key×D))(k:Key)(v:D):List (Key×D):=
 if (kvs.any λa=>decide (a.1=k))=true then kvs.map (λa=>if a.1=k then(a.1,v) else a) else kvs++[(k,v)]
section
variable{K:QP}{H:Hp}
theorem y3.val:∀{kvs:List (Key×V)} {a:List (Key×D)} {A:QE} (k:Key),y3 K H kvs a A->(∀d,B7 a k=some d->∃v B,bw kvs k=some v/\Rep K H v d B/\B.Sublist A)/\(B7 a k=none->bw kvs k=none)
 | _,_,_,k,.nil=>⟨λd e=>by simp[B7] at e,λ_=>rfl⟩
 | _,_,_,k,.cons (k:=c) (A:=A) (B:=B) h r=>by
  obtain⟨i,g⟩:=r.val k
  by_cases e:c=k
  ·subst e;refine⟨λd e=>?_,λe=>?_⟩
   ·simp[B7,wr] at e;subst e;exact⟨_,_,bZ rfl,h,ON _ _⟩
   ·simp[B7,wr] at e
  ·have l:∀(x:D) (j:List (Key×D)),B7 ((c,x)::j) k=B7 j k:=λx j=>by simp[B7,wr,e]
   refine⟨λd b=>?_,λb=>?_⟩
   ·rw[l] at b;obtain⟨v,B,u,q,o⟩:=i d b;exact⟨v,B,by rw[aa (p:=(c,_)) e];exact u,q,o.trans (OJ _ _)⟩
   ·rw[l] at b;rw[aa (p:=(c,_)) e];exact g b
theorem y3.any{kvs:List (Key×V)}{a:List (Key×D)}{A:QE}(k:Key)(r:y3 K H kvs a A):(kvs.any λb=>decide (b.1=k))=a.any λb=>decide (b.1=k):=
 r.ind (P:=λkvs a _=>(kvs.any λb=>decide (b.1=k))=a.any λb=>decide (b.1=k)) rfl λ_ _ e=>by rw[FS,FS,e]
theorem y3.length{kvs:List (Key×V)}{c:List (Key×D)}{A:QE}(r:y3 K H kvs c A):kvs.length=c.length:=r.ind (P:=λa b _=>a.length=b.length) rfl λ_ _ e=>wv (·+1) e
theorem y3.M8{kvs:List (Key×V)}{a:List (Key×D)}{A:QE}(r:y3 K H kvs a A):(a.all λb=>w8 b.2)=true->A=[]:=
 r.ind (P:=λ_ a A=>(a.all λb=>w8 b.2)=true->A=[]) (λ_=>rfl) λh _ j e=>by
  rw[Gc,hD] at e;rw[h.M8 e.1,j e.2];rfl
theorem y3.xC{v:V}{d:D}(k:Key)(g:Rep K H v d []):∀{kvs:List (Key×V)} {b:List (Key×D)} {A:QE},y3 K H kvs b A->∃C,y3 K H (kvs.map λa=>if a.1=k then(a.1,v) else a) (b.map λa=>if a.1=k then(a.1,d) else a) C/\C.Sublist A
 | _,_,_,.nil=>⟨[],.nil,Fk _⟩
 | _,_,_,.cons (k:=j) (A:=A) (B:=B) h r=>by
  obtain⟨C,i,c⟩:=y3.xC k g r;rw[rl,rl]
  by_cases e:j=k
  ·rw[qq e,qq e];exact⟨[]++C,.cons g i,c.trans (OJ _ _)⟩
  ·rw[qc e,qc e];exact⟨A++C,.cons h i,c.append_left A⟩
theorem y3.snoc{kvs:List (Key×V)}{c:List (Key×D)}{A B:QE}{k:Key}{v:V}{d:D}(r:y3 K H kvs c A)(e:Rep K H v d B):y3 K H (kvs++[(k,v)]) (c++[(k,d)]) (A++B):=by
 refine r.ind (P:=λa b A=>y3 K H (a++[(k,v)]) (b++[(k,d)]) (A++B)) ?_ λh _ i=>by rw[Fa];exact .cons h i
 have q:=y3.cons (k:=k) e y3.nil;rw[sK] at q;exact q
theorem y3.put{kvs:List (Key×V)}{a:List (Key×D)}{A:QE}{v:V}{d:D}(k:Key)(r:y3 K H kvs a A)(b:Rep K H v d []):∃C,y3 K H (putK kvs k v) (putD a k d) C/\C.Sublist A:=by
 unfold putK putD;rw[r.any k]
 by_cases e:(a.any λc=>decide (c.1=k))=true
 ·rw[qq e,qq e];exact r.xC k b
 ·rw[qc e,qc e];have q:=r.snoc (k:=k) b;rw[sK] at q;exact⟨A,q,Fk _⟩
theorem aS{v:V}{a:List (Key×D)}{A:QE}(h:Rep K H v (.dic a) A):∃p kvs B,v=.ref p/\Dd H p kvs/\y3 K H kvs a B/\A=p::B:=by
 cases h with
 | dic h r=>exact⟨_,_,_,rfl,.inr ⟨_,h⟩,r,rfl⟩
theorem W3.LG{p:Addr}{o:HO}(m:cS (H p)):W3 H (upd H p o):=⟨λb a h=>by
  by_cases e:b=p
  ·subst e;rw[h] at m;exact m.elim
  ·rw[i4 e];exact h,λb u c h=>by
  by_cases e:b=p
  ·subst e;rw[h] at m;exact m.elim
  ·rw[i4 e];exact h,λb h=>by
  by_cases e:b=p
  ·subst e;rw[g9] at h;cases h
  ·rw[i4 e] at h;exact h⟩
theorem Eb{c:Hp}{d ep:Nat}{acc:List (Key×V)}{ds:List (Key×D)}(g:i5 c H)(hd:c d=none)(i:H d=some (.dK acc))(r:y3 K H acc ds []):i5 c (upd H d (.dE acc ep))/\Rep K (upd H d (.dE acc ep)) (.ref d) (.dic ds) [d]:=by
 refine⟨λb o e=>?_,.dic g9 (r.mono (W3.LG (by rw[i];exact True.intro)) λa h=>by cases h)⟩;rw[i4 (w5 e hd)];exact g _ _ e
theorem aT{v:V}{d:D}{A:QE}{k:Key}(h:Rep K H v d A)(e:cM d=some k):v=kV k:=by
 cases h<;>first | cases e | skip
 ·rfl
 ·rfl
end
section
variable{X:Cx}{cl:List Cl}{e a b c:Expr}{f:Fl}{pos:Pos}{ua ub uc:TU}{ma mb mc:TM}{fa fb fc:Fl}{x:Str}{i:Nat}
theorem fD:PU X cl (.Dict [] [] pos) .fresh (uC (.dic [])):=.of<|by
 refine⟨_,HE zD,λG l j H o Q R _ E g k=>λp d=>⟨p,[],rfl,g9,λq=>?_⟩⟩;rw[cj];refine k _ _ _ [p] (i5.j4 d) (.dic g9 .nil) ⟨by simp,λa h=>?_⟩ g;have:a=p:=by simpa using h
 rw[this];exact d
def GK:D->D->(D->Prop)->Prop:=λd y Q=>match d with
 | .dic g=>∃k v,cM y=some k/\B7 g k=some v/\Q v
 | _=>False
theorem Fh{H:Hp}{v w:V}{d e:D}{A B:QE}{Q:D->Prop}(r:Rep X.K H v d A)(o:Rep X.K H w e B)(q:GK d e Q):∃a u z C,v=.ref a/\aI H a w (some u)/\Rep X.K H u z C/\C.Sublist A/\Q z:=by
 cases d<;>first | exact(show False from q).elim | skip
 rename_i g
 obtain⟨k,z,I,E,q⟩:∃k v,cM e=some k/\B7 g k=some v/\Q v:=q;obtain⟨p,y,M,rfl,G,j,rfl⟩:=aS r;cases aT o I;obtain⟨u,C,J,l,h⟩:=(j.val k).1 z E;refine⟨p,u,z,C,rfl,?_,l,h.trans (Lb _ _),q⟩;rw[<-J];exact aI.k G
def Cj:D->D->D->(D->Prop)->Prop:=λd y z Q=>match d with
 | .dic g=>match y with
  | .p7=>w8 z=true/\Q z
  | y=>∃k,cM y=some k/\w8 ((B7 g k).getD z)=true/\Q ((B7 g k).getD z)
 | _=>False
def Kd:D->Bool
 | .dic _=>true
 | _=>false
def lH(ua ub uc:TU):TU:=λd Q=>ua d λx=>Kd x=true/\ub d λy=>uc d λz=>Cj x y z Q
theorem Ax{H:Hp}{v w u:V}{d e z:D}{A B C:QE}{Q:D->Prop}(O:Rep X.K H v d A)(J:Rep X.K H w e B)(r:Rep X.K H u z C)(q:Cj d e z Q):∃a o y,v=.ref a/\CA H a w o/\Rep X.K H (o.getD u) y []/\Q y:=by
 cases d<;>first | exact(show False from q).elim | skip
 rename_i g
 obtain⟨p,j,U,rfl,M,G,rfl⟩:=aS O
 have go:∀k,cM e=some k->w8 ((B7 g k).getD z)=true->Q ((B7 g k).getD z)->∃a o y,V.ref p=.ref a/\CA H a w o/\Rep X.K H (o.getD u) y []/\Q y:=λk h im q=>by
  cases aT J h;refine⟨p,bw j k,_,rfl,.inl (aI.k M),?_,q⟩
  cases E:B7 g k with
  | none=>
   rw[(G.val k).2 E];rw[E] at im;have l:=r.M8 im;subst l;exact r
  | some y=>
   obtain⟨S,T,R,I,_⟩:=(G.val k).1 y E;rw[R];rw[E] at im;have l:=I.M8 im;subst l;exact I
 cases e with
 | p7=>
  have q:w8 z=true/\Q z:=q;cases fK J;have l:=r.M8 q.1;subst l;exact⟨p,none,z,rfl,.inr ⟨rfl,⟨j,M⟩,rfl⟩,r,q.2⟩
 | int i=>obtain⟨k,h,im,q⟩:=q;exact go k h im q
 | str i=>obtain⟨k,h,im,q⟩:=q;exact go k h im q
 | _=>obtain⟨k,h,im,q⟩:=q;cases h
theorem iA {h:Pos} (hu:X.A.units+1<cLine) (Y:PU X cl a fa ua) (U:PU X cl b fb ub) (T:PU X cl c fc uc) (m:M2 X a "get" h b c pos):PU X cl (.Call (.Attribute a "get" h) [b,c] [] pos) .fresh (lH ua ub uc):=.of<|by
 obtain⟨ta,pa,Y⟩:=Y.run;obtain⟨tb,pb,U⟩:=U.run;obtain⟨tc,pc,T⟩:=T.run;refine⟨_,xW hu pa pb pc m,λG l j H fo Q R hG E S k=>Y G l j H fo _ _ hG E S λv H1 d A I r1 f1 M=>?_⟩;obtain⟨hd,M⟩:=M;cases d<;>first | cases hd | skip
 have J:=r1;obtain⟨p,O,B',rfl,hp,rs,rfl⟩:=aS r1;refine⟨p,rfl,.inl ⟨O,.of hp⟩,U G l j H1 fo _ _ hG (E.same I) M λw H2 e B r r2 f2 q2=>T G l j H2 fo _ _ hG (E.same (I.trans r)) q2 λu H3 z C q r3 f3 q3=>?_⟩;obtain⟨p',o,y,ep,g,r4,q4⟩:=Ax ((J.same r).same q) (r2.same q) r3 q3;cases ep;exact⟨o,g,k _ H3 y [] ((I.trans r).trans q) r4 (y4.nil _) q4⟩
def Jv(i:Nat)(y d:D)(h:Ev)(Q:Ev->Prop):D->Prop
 | .dic g=>∃k,cM y=some k/\g.length<sizeLine/\Q (h.set i (some (.dic (putD g k d))))
 | _=>False
def ni(i:Nat)(l mk:TM):i6:=λT j=>l j λd h=>w8 d=true/\c8 i h λ_=>mk h λy g=>c8 i g (Jv i y d g T.nx)
theorem tm{M tp:Pos}{Y:Expr}{mk:TM}(hu:X.A.units+1<cLine)(i:Nat)(hv:PE X (.Name x M) (T9 i))(hi:cl[i]?=some .own)(he:PN X cl e ma)(hk:PN X cl Y mk)(hs:swapsWith e (some (.Subscript (.Name x M) Y tp)) pos.line X.env=pure false:=by rfl) :
  J3 X cl (.Assign [.Subscript (.Name x M) Y tp] e pos) (ni i ma mk):=.of<|by
 obtain⟨t,p,h⟩:=he.run;obtain⟨t2,p2,h2⟩:=hk.run;refine⟨_,yV (FP hu hv p2 p hs),λG T ρ σ H fa R hG E a0 le=>?_⟩;have own:G.own i:=by unfold Ent.own;rw[hG];exact hi
 refine h G ρ σ H fa _ _ hG E a0 λw H1 d B1 J a1 E1 c1 r1 n1 q=>?_;obtain⟨im,q⟩:=q;have eB:=r1.M8 im;subst eB;obtain⟨l0,e0,q⟩:=y7 q;obtain⟨v,r,r0⟩:=E1.rep i l0 e0;refine⟨_,r,h2 G J σ H1 a1 _ _ hG E1 q λwk H2 dk Bk o y E2 c2 rk nk q=>?_⟩;obtain⟨l1,e1,q⟩:=y7 q;obtain⟨v',j,r2⟩:=E2.rep i l1 e1;have ev:v'=v:=by rw[r] at j;cases j;rfl
 subst ev;cases l1<;>first | exact(show False from q).elim | skip
 rename_i g
 obtain⟨k,hk,hn,q⟩:∃k,cM dk=some k/\g.length<sizeLine/\T.nx (o.set i (some (.dic (putD g k d)))):=q;obtain⟨p,U,B,rfl,hp,rs,eA⟩:=aS r2;cases aT rk hk;have Q:Rep X.K H2 w d []:=c2.keep r1 λi _ a l=>(by cases l)
 have nd:=E2.nd i (.inl own);have pin:p∈y i:=by rw[eA];exact pu
 rw[eA] at nd;obtain⟨np,S⟩:=List.nodup_cons.mp nd;obtain⟨C,rC,O⟩:=rs.put k Q;have u:p∉C:=λz=>np (O.mem z);have rn:∀I,Rep X.K (upd H2 p (.dE (putK U k w) I)) (.ref p) (.dic (putD g k d)) (p::C):=λI=>.dic g9 (rC.mono (W3.LG hp.mut) λa l=>i4 λe=>u (e▸l))
 have n3:∀a∈p::C,a∈y i:=λa l=>by
  rcases List.mem_cons.mp l with z | z
  ·exact z▸pin
  ·rw[eA];exact ol _ (O.mem z)
 have li:i<o.length:=(List.getElem?_eq_some_iff.mp e1).1;refine⟨p,_,rfl,rP.k hp (by rw[rs.length];exact hn),p,_,g9,λI=>?_⟩;rw[cj];exact le.nx _ _ ⟨_,_,E2.put own li j pin fQ (by rw[g9];exactλz=>nomatch z) (rn I) (List.nodup_cons.mpr ⟨u,S.sublist O⟩) λa l=>.inl (n3 a l),q⟩
end
section
variable{X:Cx}{cl:List Cl}
theorem J9{b:QM}{c:Stmt}{a:i6}(e:b=[c])(d:J3 X cl c a):jc X cl b a:=by
 rw[e];exact(cD d)
theorem AK{b:QM}{g d:Stmt}{c a:i6}(e:b=[g,d])(i:J3 X cl g c)(h:J3 X cl d a):jc X cl b (g6 c a):=by
 rw[e];exact(o9 i (cD h))
theorem DA{b:QM}{i h g:Stmt}{d c a:i6}(e:b=[i,h,g])(o:J3 X cl i d)(l:J3 X cl h c)(j:J3 X cl g a):jc X cl b (g6 d (g6 c a)):=by
 rw[e];exact(o9 o (o9 l (cD j)))
theorem zZ{b:QM}{l j i h:Stmt}{g d c a:i6}(e:b=[l,j,i,h])(r:J3 X cl l g)(q:J3 X cl j d)(p:J3 X cl i c)(o:J3 X cl h a):jc X cl b (g6 g (g6 d (g6 c a))):=by
 rw[e];exact(o9 r (o9 q (o9 p (cD o))))
theorem Mf{b:QM}{p o l j i:Stmt}{h g d c a:i6}(e:b=[p,o,l,j,i])(x:J3 X cl p h)(v:J3 X cl o g)(u:J3 X cl l d)(r:J3 X cl j c)(q:J3 X cl i a):jc X cl b (g6 h (g6 g (g6 d (g6 c a)))):=by
 rw[e];exact(o9 x (o9 v (o9 u (o9 r (cD q)))))
theorem NK{b:QM}{r q p o l j:Stmt}{i h g d c a:i6}(e:b=[r,q,p,o,l,j])(B:J3 X cl r i)(z:J3 X cl q h)(y:J3 X cl p g)(x:J3 X cl o d)(v:J3 X cl l c)(u:J3 X cl j a):jc X cl b (g6 i (g6 h (g6 g (g6 d (g6 c a))))):=by
 rw[e];exact(o9 B (o9 z (o9 y (o9 x (o9 v (cD u))))))
theorem Mm{b:QM}{v u r q p o l:Stmt}{j i h g d c a:i6}(e:b=[v,u,r,q,p,o,l])(G:J3 X cl v j)(E:J3 X cl u i)(C:J3 X cl r h)(B:J3 X cl q g)(z:J3 X cl p d)(y:J3 X cl o c)(x:J3 X cl l a):jc X cl b (g6 j (g6 i (g6 h (g6 g (g6 d (g6 c a)))))):=by
 rw[e];exact(o9 G (o9 E (o9 C (o9 B (o9 z (o9 y (cD x)))))))
theorem NY{b:QM}{y x v u r q p o:Stmt}{l j i h g d c a:i6}(e:b=[y,x,v,u,r,q,p,o])(J:J3 X cl y l)(I:J3 X cl x j)(H:J3 X cl v i)(G:J3 X cl u h)(E:J3 X cl r g)(C:J3 X cl q d)(B:J3 X cl p c)(z:J3 X cl o a):jc X cl b (g6 l (g6 j (g6 i (g6 h (g6 g (g6 d (g6 c a))))))):=by
 rw[e];exact(o9 J (o9 I (o9 H (o9 G (o9 E (o9 C (o9 B (cD z))))))))
theorem Ms{b:QM}{T S R Q O M J I H l j i h:Stmt}{G E C B z y x v u g d c a:i6}(e:b=[T,S,R,Q,O,M,J,I,H,l,j,i,h])(h1:J3 X cl T G)(h2:J3 X cl S E)(h3:J3 X cl R C)(h4:J3 X cl Q B)(h5:J3 X cl O z)(h6:J3 X cl M y)(h7:J3 X cl J x)(Y:J3 X cl I v)(U:J3 X cl H u)(r:J3 X cl l g)(q:J3 X cl j d)(p:J3 X cl i c)(o:J3 X cl h a):jc X cl b (g6 G (g6 E (g6 C (g6 B (g6 z (g6 y (g6 x (g6 v (g6 u (g6 g (g6 d (g6 c a)))))))))))):=by
 rw[e];exact(o9 h1 (o9 h2 (o9 h3 (o9 h4 (o9 h5 (o9 h6 (o9 h7 (o9 Y (o9 U (o9 r (o9 q (o9 p (cD o)))))))))))))
end
section
variable{X:Cx}{cl:List Cl}{a:Expr}{f:Fl}{pos:Pos}{ua:TU}
def kW:D->(D->Prop)->Prop
 | .int i,Q=>Q (.int (-i))
 | _,_=>False
def DZ(g:D->(D->Prop)->Prop)(ua:TU):TU:=λb Q=>ua b λd=>g d Q
theorem au(g:PU X cl a f ua):PU X cl (.UnaryOp .USub a pos) .fresh (DZ kW ua):=.of<|by
 obtain⟨t,p,h⟩:=g.run;refine⟨_,Ln Ji p,λG c b H j Q R i E e k=>h G c b H j _ _ i E e λv l d B s r _ q=>?_⟩;cases d<;>first | exact(show False from q).elim | skip
 cases C3 r;exact⟨_,rfl,k _ l _ [] s .int (y4.nil _) q⟩
end
abbrev ae:=yg λi j=>D.int (i-j)
abbrev Ft:=gI T4 λi j=>D.int (i/j)
abbrev iE:=gI (λ_ j=>0<j) λi j=>D.int (i%j)
abbrev iV:=gI bP λi j=>D.int (i^j.toNat)
abbrev AA:=yg λi j=>D.bl (decide (i<j))
abbrev Ga:=yg λi j=>D.bl (decide (j<i))
abbrev Of:=yg λi j=>D.bl (decide (j<=i))
theorem gL{i j:Nat}{ds:List D}{a:Ev}{Q:Ev->Prop}(h:p8 (g1 i) (p8 (g1 j) U1) ds a Q):ds.length=2:=by
 match ds,h with
 | [_,_],_=>rfl
 | [_],h=>exact h.2.elim
 | _::_::_::_,h=>exact h.2.2.elim
section
variable{X:Cx}{cl:List Cl}{e a b tg:Expr}{es:QH}{f:Fl}{pos pos':Pos}{ua ub:TU}{ma mb:TM}{fa fb:Fl}{x:Str}{i:Nat}
def BH(g:ee)(u:TU):i6:=λT c=>u c λd=>g d c T.nx
theorem vB{g:ee}(O:PU X cl e f ua)(M:er f .stab=true)(J:Bo X cl tg g)(mk:∀{te g},PE X e te->PG X tg g->PS X (.Assign [tg] e pos) (xk te g)):J3 X cl (.Assign [tg] e pos) (BH g ua):=.of<|by
 obtain⟨t,p,h⟩:=O.run;obtain⟨t2,C,Q⟩:=J.run;refine⟨_,mk p C,λG T o l H fa R u E I le=>h G o l H fa _ _ u E I λv U d B s r S q=>?_⟩;exact Q G o l U fa v d B _ _ u (E.same s) r (S.weak E M) q λy c j Y _ _ z=>le.nx _ _ ⟨c,j,Y,z⟩
def Lg:D->D->(D->Prop)->Prop
 | .tup d,.tup c,Q=>l9 d=true/\l9 c=true/\d.length+c.length<=sizeLine/\Q (.tup (d++c))
 | _,_,_=>False
theorem Hk:Z3 X Am Lg:=by
 intro H v w d e A B Q R l j q k;cases d<;>cases e<;>first | exact q.elim | skip
 obtain⟨p,vs,rfl,I,g⟩:=M6 l;obtain⟨o,h,rfl,G,c⟩:=M6 j;obtain⟨y,u,C,q⟩:=q;have M:=g.M8 y;have J:=c.M8 u;subst M;subst J;exact⟨p,o,vs,h,rfl,rfl,I,G,by rw[g.length,c.length];exact C,λr O s z=>k _ _ _ [] s (.tup z ((g.same s).append (c.same s))) op (λa E=>(by cases E)) q⟩
theorem j8.nums{K:QP}{H:Hp}:∀{bs:QI} {vs:List V} {A:QE},j8 K H vs (bs.map D.int) A->vs=bs.map V.int
 | [],_,_,r=>by cases r;rfl
 | b::bs,_,_,r=>by
  cases r with
  | cons h t=>rw[C3 h,t.nums];rfl
end
end L3
namespace L2
open PySem PySem.Spec PyProof.Rows
theorem jt{prog:Program}{w:World}{A:Around}{R:Result->Shared->Prop}{s:Shared}{q j a d:Expr}{e:QH}{scope:Scope}{i:Pos}{it:Value}{D:Addr}{env:Env}(I:Nat->Shared->Prop)
  (g:∀n s,I n s->wpAny (model prog w) A (pyNext it) (λr p=>match r with
   | none=>R (.ok .next) p
   | some v=>wpAny (model prog w) A (letOwnedTupleGo a it v) (λ_ C=>wpAny (model prog w) A (assign a env v) (λ_ B=>
     wpAny (model prog w) A (forIn e true λc r=>if r=true then do let ok <-isTrue c env (eval c env);pure (ForInStep.yield ok) else pure (ForInStep.yield r)) (λok o=>
      if ok=true then wpAny (model prog w) A (eval q env) (λE z=>wpAny (model prog w) A (eval j env) (λu l=>
       wpAny (model prog w) A (dictSet D E u) (λ_ y=>∃m,m<n/\I m y) (λ_ _=>False) l) (λ_ _=>False) z) (λ_ _=>False) o
      else ∃m,m<n/\I m o) (λ_ _=>False) B) (λ_ _=>False) C) (λ_ _=>False) p) (λ_ _=>False) s)
  (n:Nat) (h:I n s) :
  codeAny (model prog w) A (.compLoop (.DictComp q j [⟨a,d,e,0⟩] scope i) 0 it (.ref D) env) R s:=by
 refine codeAny_loop rfl I (λn s J=>?_) n h;show wpAny _ A ((compTurn (.DictComp q j [⟨a,d,e,0⟩] scope i) 0 it (.ref D) env).onRaise (λx=>do noteFrame x env;theTreesLotGoes x)) _ _ s;refine wpAny_noted ?_;rw[compTurn_dict];refine cB (IN (cB (ux (g n s J) (λr p H=>?_) λ_ _ b=>b.elim)))
 cases r with
 | none=>exact hH H
 | some v=>
  refine cB (ux H (λ_ C T=>?_) λ_ _ b=>b.elim);refine cB (ux T (λ_ B S=>cB (ux S (λok o G=>?_) λ_ _ b=>b.elim)) λ_ _ b=>b.elim)
  cases ok with
  | false=>exact hH ⟨rfl,G⟩
  | true=>
   exact cB (cB (ux G (λE z Q=>cB (u7 (ux Q (λu y O=>cB (IN (u7 (ux O (λ_ U M=>hH ⟨rfl,M⟩) λ_ _ b=>b.elim)))) λ_ _ b=>b.elim))) λ_ _ b=>b.elim))
theorem wW{X:Cx}{pins:QA}{σ:St}{H:Hp}{s:Shared}{a:Addr}{v:V}{u r:Value}{A:Around}{E:QN}{kvs:List (Key×V)}{k:Key}{Q:Unit->Shared->Prop}(I:Inv X pins σ H s)(e:H a=some (.dK kvs))(l:kvs.length<sizeLine)(d:RelV (kV k) u)(g:RelV v r)
  (h:∀s',Inv X pins σ (upd H a (.dK (putK kvs k v))) s'->Q () s'):wpAny (model X.prog X.w) A (dictSet a u r) Q E s:=by
 obtain⟨z,hd,vs,b,B⟩:=zY I.hok e;have i:vs.length<=sizeLine:=by rw[<-b.length];exact z
 have p:(putK kvs k v).length<=sizeLine:=by have:=K9 kvs k v;omega
 refine wpAny_dictSet_pairs (hsz:=i) (eQ d) B λy c j=>h _ ?_;have x:∃q,y.get? a=some q:=let ⟨q,_,_,o,_⟩:=c;⟨q,o⟩;exact fJ I (by rw[e];exact True.intro) j x (lF p hd (b.put k g) c)
def Mo(J:It)(g:TG)(tc:TT)(tk te:TE)(h:St)(Q:VK)(o:Hp):Prop:=∀d,o d=none ->
 ∃W:Nat->Nat->Hp->Prop,(∃m,W 0 m (upd o d (.dK [])))/\∀i m H,W i m H ->
  (J.stop i H/\Q (.ref d) H) \/
  (J.go i H/\∀x p,J.yld i H x p->g x h p λa u=>tc a u λb l=>
   if b=true then tk a l λq r=>te a r λv j=>∃c k,q=kV k/\j d=some (.dK c)/\c.length<sizeLine/\∃e,e<m/\W (i+1) e (upd j d (.dK (putK c k v)))
   else ∃e,e<m/\W (i+1) e l)
theorem xO{X:Cx}{N:QF}{scope:Scope}{cap:QB}{j:QE}{pins:QA}{σ:St}{H:Hp}{s:Shared}{kx vx z a2:Expr}{a6:QH}{an:Pos}{g:QC->QE->Shared->Hp->TG}{tc:QC->QE->Shared->Hp->TT}{tk te:QC->QE->Shared->Hp->TE}{J:It}{it:Addr}{tn:Nat->Heap->Prop}
  {E:QN} {RR:Value->Addr->Result->Shared->Prop} {Q:VK} (U:X.calm=true) (cf:P0 X N scope cap) (hk:scope.kind=.function)
  (hg:∀cl j s H,PG (Q6 X N scope cl j s H) z (g cl j s H)) (hc:∀cl j s H,Fw (Q6 X N scope cl j s H) a6 (tc cl j s H)) (hx:∀cl j s H,PE (Q6 X N scope cl j s H) kx (tk cl j s H)) (he:∀cl j s H,PE (Q6 X N scope cl j s H) vx (te cl j s H))
  (I:Inv X pins σ H s) (T:Turn X.prog X.w X.K z J j it tn) (st:tn 0 s.heap) (hf:∀b∈j,T8 X pins H b) (q:∀cl j s B,Mo J (g cl j s B) (tc cl j s B) (tk cl j s B) (te cl j s B) (Q2 cap σ) Q H)
  (b5:∀d C B s' m,Inv X pins σ B s'->s'.heap.Ns C m->T8 X pins B C->Q (.ref d) B->RR (.ref d) C (.ok .next) s') :
  wpAny (model X.prog X.w) X.A newDict (λacc G=>wpAny (model X.prog X.w) X.A (newFunctionEnv scope X.env.globals (E6 X.env scope.names []) [] X.env.qual none .none (some X.env)) (λa3 s4=>
   codeAny (model X.prog X.w) X.A (.compStart (.DictComp kx vx [⟨z,a2,a6,0⟩] scope an) 0 (.ref it) acc { a3 with scope:=relabel scope X.env }) (RR acc a3.locals) s4) E G) E s:=by
 refine z0 (wpAny_newFunctionEnv cf.nocell (by intro y hy;simp at hy) (λh1 ab a7=>?_) hk);have I3:Inv X pins σ (upd H s.heap.objs.size (.dK [])) { s with heap:=s.heap.push { cls:=.type "dict",data:=.dict #[] } }:=I.laid (a:=s.heap.objs.size) (o:=.dK []) (t':=s.toks) (λ_ _ q=>dL _ q) (hI _) (bT s.heap I.big);have b4:H s.heap.objs.size=none:=I.fresh;obtain⟨W,⟨m0,w0⟩,a0⟩:=q (E6 X.env scope.names []) j { s with heap:=s.heap.push { cls:=.type "dict",data:=.dict #[] } } (upd H s.heap.objs.size (.dK [])) s.heap.objs.size b4
 have ao:∀b∈j,b<s.heap.objs.size:=λb l=>by
  obtain⟨o,e,_⟩:=T.obj 0 _ st b l;exact oD e
 have ac:∀b∈j,T8 X pins (upd H s.heap.objs.size (.dK [])) b:=λb l=>⟨by rw[i4 (sx (ao b l))];exact(hf b l).1,(hf b l).2⟩
 have S:∀b∈j,b<(s.heap.push { cls:=.type "dict",data:=.dict #[] }).objs.size:=λb l=>by
  rw[AT];exact Nat.lt_succ_of_lt (ao b l)
 dsimp only at ab a7 ⊢;generalize Y:({ s with heap:=s.heap.push { cls:=.type "dict",data:=.dict #[] } }:Shared)=G at I3 a0;have M:G.heap=s.heap.push { cls:=.type "dict",data:=.dict #[] }:=by rw[<-Y]
 have bm:G.toks=s.toks:=by rw[<-Y]
 rw[<-M] at ab a7 S;have R:∀b o,G.heap.get? b=some o->h1.get? b=some o:=λb o e=>a7.extBut b o (sx (oD e)) (dL _ e);have keep:∀b o,s.heap.get? b=some o->h1.get? b=some o:=λb o e=>R b o (by rw[M];exact dL _ e);have Ic:=oi (tk:=s.toks) I3 cf hk ac S ab R;have am:tn 0 h1:=T.keep 0 _ _ st λb _ o e=>keep b o e;have b7:∀b∈j,(upd H s.heap.objs.size (.dK [])) b=none:=λb l=>(ac b l).1
 have O:∀{B:Hp},(∀b∈j,B b=none)->∀b∈j,T8 (Q6 X N scope (E6 X.env scope.names []) j G (upd H s.heap.objs.size (.dK []))) [] B b:=λhn b l=>
  ⟨hn b l,sx (S b l),Ic.ok.exfs b l,.inl l,λx c h=>(hf b l).2.2.2.2.1 x c (aF h),λp hp=>absurd (show p∈([]:QA) from hp) (by simp)⟩
 have bu:G.os=s.os:=by rw[<-Y]
 have bv:G.gens=s.gens:=by rw[<-Y]
 have a1:codeAny (model X.prog X.w) X.A (.compLoop (.DictComp kx vx [⟨z,a2,a6,0⟩] scope an) 0 (.ref it) (.ref s.heap.objs.size) (compEnvC scope (E6 X.env scope.names []) G.heap.objs.size X.env))
   (RR (.ref s.heap.objs.size) G.heap.objs.size) { G with heap:=h1,toks:=s.toks }:=by
  refine jt (λn s'=>∃i B,Inv (Q6 X N scope (E6 X.env scope.names []) j G (upd H s.heap.objs.size (.dK []))) [] (Q2 cap σ) B s'/\tn i s'.heap/\(∀b∈j,B b=none)/\W i n B) ?_ m0 ⟨0,_,Ic,am,b7,w0⟩;rintro n s4 ⟨i,H4,I4,al,ax,w4⟩;rcases a0 i n H4 w4 with⟨stop,qn⟩ | ⟨go,step⟩
  ·refine B4 (T.done (Q6 X N scope (E6 X.env scope.names []) j G (upd H s.heap.objs.size (.dK []))) rfl rfl rfl U i [] s4 _ H4 (λ_ _=>False) I4 (O ax) al stop) λr s5 ⟨hr,I5⟩=>?_;subst hr;obtain⟨m,b3,_⟩:=I5.loc;refine b5 _ _ H4 s5 m ?_ b3 (I3.jd (hI _) I5.free) qn;exact I3.kz I5.os I5.base I5.hok I5.bare λb l=>⟨(hf b l).2.2.2.1,(hf b l).2.1,(hf b l).2.2.2.2.1,(hf b l).2.2.2.2.2⟩
  ·refine B4 (T.item (Q6 X N scope (E6 X.env scope.names []) j G (upd H s.heap.objs.size (.dK []))) rfl rfl rfl U i [] s4 _ H4 (λ_ _=>False) I4 (O ax) al go) λr s5 ⟨u,hr,h5⟩=>?_;subst hr;refine B4 h5 λ_ s6 ⟨x,H6,I6,r6,y6,a5,b6⟩=>?_;have b9:=I6.pinned (O b6) (T.obj _ _ a5);refine B4 (hg _ _ _ _ _ s6 _ H6 x u _ b9 r6 (step x H6 y6)) λ_ s7 ⟨a4,H7,I7,q7⟩=>?_;refine B4 (hc _ _ _ _ _ s7 a4 H7 _ I7 q7) λok s8 ⟨H8,I8,q8⟩=>?_
   have again:∀{ad:St} {H9:Hp} {s9:Shared},Inv (Q6 X N scope (E6 X.env scope.names []) j G (upd H s.heap.objs.size (.dK []))) ([]++dJ j s6.heap) ad H9 s9->(∃m',m'<n/\W (i+1) m' H9) ->
     ∃m,m<n/\∃i B,Inv (Q6 X N scope (E6 X.env scope.names []) j G (upd H s.heap.objs.size (.dK []))) [] (Q2 cap σ) B s9/\tn i s9.heap/\(∀b∈j,B b=none)/\W i m B:=λ{ad H9 s9} I9 ⟨m',hm,w9⟩=>by
    refine⟨m',hm,i+1,H9,jD I3 cf ac I9.af,T.keep _ _ _ a5 λb l o e=>(I9.pin (b,o) (iL _ (iL _ (N5 l e)))).1,λb l=>?_,w9⟩;obtain⟨o,e,d⟩:=T.obj _ _ a5 b l;exact(I9.pin (b,o) (iL _ (iL _ (N5 l e)))).2.1
   cases ok with
   | false=>exact again I8 q8
   | true=>
    show wpAny _ _ (eval kx _) _ _ s8;refine B4 (hx _ _ _ _ _ s8 a4 H8 _ I8 q8) λy0 b0 ⟨v0,bi,b8,b1,b2⟩=>?_;refine B4 (he _ _ _ _ _ b0 a4 bi _ b8 b2) λy s9 ⟨v,H9,I9,r9,acc,k,ek,ar,ap,m',hm,w9⟩=>?_;subst ek;exact wW (X:=Q6 X N scope (E6 X.env scope.names []) j G (upd H s.heap.objs.size (.dK []))) I9 ar ap b1 r9 λbn bg=>again bg ⟨m',hm,w9⟩
 have e4:({ s with heap:=h1,toks:=s.toks+([]:QD).length }:Shared)={ G with heap:=h1,toks:=s.toks }:=by rw[<-Y];rfl
 rw[<-M,e4];exact codeAny_compStart_dict a1 (T.self _ 0 _ _ _ am a1)
def MP(cap:QB)(d:TI)(g:QC->QE->Shared->Hp->TG)(tc:QC->QE->Shared->Hp->TT)(tk te:QC->QE->Shared->Hp->TE):TE:=λc H Q=>d c H λJ e=>∀cl a s b,Mo J (g cl a s b) (tc cl a s b) (tk cl a s b) (te cl a s b) (Q2 cap c) Q e
theorem yx{X:Cx}{i:Nat}{y:Str}{XN N:QF}{XS scope:Scope}{cap:QB}{O M b c:Expr}{o:QH}{r p E:Pos}{wi:TI}{g:QC->QE->Shared->Hp->TG}{tc:QC->QE->Shared->Hp->TT}{tk te:QC->QE->Shared->Hp->TE}
  (a0:X.N.Nodup) (Y:X.N[i]?=some y) (hy:X.env.scope.names.lookup y=some .local)
  (G:bf XN N XS scope cap=true) (hN:X.N=XN) (hS:X.env.scope=XS) (hk:scope.kind=.function) (u:X.calm=true) (hi:PI X b c wi)
  (hg:∀cl j s H,PG (Q6 X N scope cl j s H) b (g cl j s H)) (hc:∀cl j s H,Fw (Q6 X N scope cl j s H) o (tc cl j s H)) (hx:∀cl j s H,PE (Q6 X N scope cl j s H) O (tk cl j s H)) (he:∀cl j s H,PE (Q6 X N scope cl j s H) M (te cl j s H))
  (U:swapsWith (.DictComp O M [⟨b,c,o,0⟩] scope r) (some (.Name y E)) p.line X.env=pure true:=by rfl)
  (hs:∀x,foldedSetIterable c X.env x=pure x:=by intro _;rfl):PS X (.Assign [.Name y E] (.DictComp O M [⟨b,c,o,0⟩] scope r) p) (xk (MP cap wi g tc tk te) (pR i)):=by
 refine .of ?_;intro l s σ H D I h;have cf:=Z4 hN hS G;rw[exec_Assign_Name_used _ _ _ _ U];refine cB (IN (cB ?_));show wpAny _ X.A (do let _ <-comprehension (.DictComp O M [⟨b,c,o,0⟩] scope r) scope X.env _ newDict false (eval c X.env) (some (assign (.Name y E) X.env))) _ _ s
 refine cB (ux (Pg (use:=some (assign (.Name y E) X.env)) (Q:=λ_ B=>SP X l D .next B) rfl hs (bR (I.aD cf)) hk cf.loc (B4 (hi l s σ H _ I h) λv s1 h1=>B4 h1 λa2 s2 h2=>?_))
  (λ_ B hq=>hH (hH hq)) λ_ _ e=>e)
 obtain⟨it,j,tn,J,H2,rfl,I2,T,R,f2,q⟩:=h2;refine xO (RR:=λa1 C=>compPost (model X.prog X.w) X.A X.xe (some (assign (.Name y E) X.env)) (λ_ B=>SP X l D .next B) a1 C) u cf hk hg hc hx he I2 T R f2 q λd C H' B m I' hn hC q'=>?_;show wpAny _ _ (assign (.Name y E) X.env (.ref d)) _ _ B;refine P3 (R8 (v:=.ref d) I' a0 Y (.inl hy) rfl (λs2 I2 ⟨a,sb,ha⟩=>⟨m,hn.sameBut sb ?_,λh' S=>⟨_,H',I2.AE hC S,q'⟩⟩) (.inr hy));rcases ha with z | z
 ·rw[z];exact hC.2.1
 ·exactλe=>hC.2.2.2.2.1 y a z e.symm
end L2
namespace L3
open PySem PySem.Spec L2
theorem y3.same{K:QP}{H b:Hp}(s:i5 H b){v:List (Key×V)}{d:List (Key×D)}{A:QE}(r:y3 K H v d A):y3 K b v d A:=
 r.mono (W3.of s) λa c=>by
  obtain⟨o,e⟩:=cS.some (r.cR a c);rw[e];exact s a o e
def se(g:ee)(tc:cV)(tk te:TU)(e:Ev):List D->List (Key×D)->(List (Key×D)->Prop)->Prop
 | [],a,Q=>Q a
 | x::h,a,Q=>g x e λc=>tc c λb=>Br b (tk c λy=>te c λd=>∃k,cM y=some k/\w8 d=true/\se g tc tk te e h (putD a k d) Q) (se g tc tk te e h a Q)
def NH(cap:QB)(c:yH)(g:ee)(tc:cV)(tk te:TU):TU:=λa Q=>c a λb=>b.length<sizeLine/\se g tc tk te (aw cap a) b [] λd=>Q (.dic d)
theorem NW{K:QP}{cap:QB}{g3:ee}{a0:cV}{X Y:TU}{fk fv:Fl}{J:It}{g:TG}{tc:TT}{tk te:TE}{xs:List D}{C:QE}{c:Ev}{σ:St}{G:Ent}{z:Hp}{r:QO}{Q:List (Key×D)->Prop}{R:VK}
  (hg:∀(G:Ent) (c:Ev) (σ:St) (H:Hp) (r:QO) (v:V) (d:D) (B:QE) (Q:Ev->Prop) (R:St->Hp->Prop),G.cl=N9 cap->E3 K G c σ H r->Rep K H v d B->(∀i,G.own i->∀a∈B,a∉r i)->g3 d c Q ->
   (∀S U a3,E3 K G U S H a3->(∀i,G.own i->a3 i=r i/\S[i]?=σ[i]?)->(∀i,G.own i->U[i]?=c[i]?)->Q U->R S H)->g v σ H R)
  (hc:∀(G:Ent) (c:Ev) (σ:St) (H:Hp) (r:QO) (Q:Bool->Prop) (R:Bool->Hp->Prop),G.cl=N9 cap->E3 K G c σ H r->a0 c Q->(∀b p,i5 H p->Q b->R b p)->tc σ H R)
  (hk:∀(G:Ent) (c:Ev) (σ:St) (H:Hp) (r:QO) (Q:D->Prop) (R:VK),G.cl=N9 cap->E3 K G c σ H r->X c Q->(∀v p d B,i5 H p->Rep K p v d B->y4 G H r B fk->Q d->R v p)->tk σ H R)
  (he:∀(G:Ent) (c:Ev) (σ:St) (H:Hp) (r:QO) (Q:D->Prop) (R:VK),G.cl=N9 cap->E3 K G c σ H r->Y c Q->(∀v p d B,i5 H p->Rep K p v d B->y4 G H r B fv->Q d->R v p)->te σ H R)
  (E:E3 K G c σ z r) (it:fY K J xs C z) (tr:∀a∈C,z a≠none) (hn:xs.length<sizeLine) (q:se g3 a0 X Y (aw cap c) xs [] Q)
  (k:∀d p acc ds,i5 z p->z d=none->p d=some (.dK acc)->y3 K p acc ds []->Q ds->R (.ref d) p):Mo J g tc tk te (Q2 cap σ) R z:=by
 intro d hd
 refine⟨λi m H=>m=xs.length-i/\i<=xs.length/\i5 z H/\∃acc ds,H d=some (.dK acc)/\acc.length<=i/\y3 K H acc ds []/\se g3 a0 X Y (aw cap c) (xs.drop i) ds Q,
  ⟨xs.length,by simp,wf _,i5.j4 hd,[],[],g9,hI _,.nil,q⟩,?_⟩
 rintro i m H ⟨rfl,a6,s1,acc,ds,M,a7,rs,q⟩;have tf:Tf z H:=⟨λb ys h=>s1 _ _ h,λb o u h=>s1 _ _ h⟩
 have kC:∀a∈C,H a=z a:=λa ha=>by
  obtain⟨o,eo⟩:=Option.ne_none_iff_exists'.mp (tr a ha);rw[eo];exact s1 a o eo
 by_cases I:i<xs.length
 ·right
  obtain⟨go,yl⟩:=(it H tf kC i).2 _ (hL I);rw[v2 I] at q;refine⟨go,λy H2 hy=>?_⟩;obtain⟨s2,By,rB,sB⟩:=yl y H2 hy;have E2:=(E.same (s1.trans s2)).comp cap;refine hg (gf cap) _ _ H2 _ y _ By _ _ rfl E2 rB (λj hj=>(M3 hj).elim) q λO T a1 a2 _ _ q3=>?_;refine hc (gf cap) T O H2 a1 _ _ rfl a2 q3 λb H3 s3 q4=>?_;have x:H3 d=some (.dK acc):=s3 _ _ (s2 _ _ M)
  cases b with
  | false=>
   rw[qc nT];exact⟨xs.length-(i+1),by omega,rfl,I,(s1.trans s2).trans s3,acc,ds,x,by omega,(rs.same s2).same s3,q4.f rfl⟩
  | true=>
   rw[qq rfl];refine hk (gf cap) T O H3 a1 _ _ rfl (a2.same s3) (q4.t rfl) λvk H4 dk Bk s4 rk ab q5=>?_;refine he (gf cap) T O H4 a1 _ _ rfl ((a2.same s3).same s4) q5 λv H5 dv Bv s5 rv fo q6=>?_;obtain⟨kk,ek,im,q6⟩:=q6;have l:H5 d=some (.dK acc):=s5 _ _ (s4 _ _ x);have a4:i5 z H5:=(((s1.trans s2).trans s3).trans s4).trans s5
   have st:W3 H5 (upd H5 d (.dK (putK acc kk v))):=⟨λb ys h=>by
     by_cases e:b=d
     ·subst e;rw[l] at h;cases h
     ·rw[i4 e];exact h,λb u w' h=>by
     by_cases e:b=d
     ·subst e;rw[l] at h;cases h
     ·rw[i4 e];exact h,λb h=>by
     by_cases e:b=d
     ·subst e;rw[g9] at h;cases h
     ·rw[i4 e] at h;exact h⟩
   have a5:=(((rs.same s2).same s3).same s4).same s5;have eB:=rv.M8 im;subst eB;obtain⟨C',rp,sC⟩:=a5.put kk rv;have eC:C'=[]:=List.sublist_nil.mp sC;subst eC;refine⟨acc,kk,aT rk ek,l,by omega,xs.length-(i+1),by omega,rfl,I,λb o e=>?_,putK acc kk v,putD ds kk dv,g9,by have:=K9 acc kk v;omega,?_,q6⟩
   ·rw[i4 (w5 e hd)];exact a4 _ _ e
   ·exact rp.mono st λa ha=>by cases ha
 ·have ei:i=xs.length:=by omega
  subst ei
  left
  rw[On] at q;refine⟨(it H tf kC _).1 rfl,k d H acc ds s1 hd M rs q⟩
section
variable{X:Cx}{cl:List Cl}{pos:Pos}{f fk fv:Fl}{XN N:QF}{XS scope:Scope}{cap:QB}{kx vx target iter:Expr}{ifs:QH}{ui:yH}{g3:ee}{tc3:cV}{tk3 te3:TU}
theorem FQ{i:Nat}{y:Str}{e py:Pos}(S:X.N.Nodup)(z:X.N[i]?=some y)(hy:X.env.scope.names.lookup y=some .local)(O:AI cl[i]? .fresh i=true)
  (l:bf XN N XS scope cap=true) (hN:X.N=XN) (hS:X.env.scope=XS) (hk:scope.kind=.function) (j:X.calm=true) (B:eY X cl target iter f ui)
  (I:∀c b s H,Bo (Q6 X N scope c b s H) (N9 cap) target g3) (Q:∀c b s H,AR (Q6 X N scope c b s H) (N9 cap) ifs tc3) (u:∀c b s H,PU (Q6 X N scope c b s H) (N9 cap) kx fk tk3) (M:∀c b s H,PU (Q6 X N scope c b s H) (N9 cap) vx fv te3)
  (v:swapsWith (.DictComp kx vx [⟨target,iter,ifs,0⟩] scope pos) (some (.Name y py)) e.line X.env=pure true:=by rfl)
  (hs:∀x,foldedSetIterable iter X.env x=pure x:=by intro _;rfl):J3 X cl (.Assign [.Name y py] (.DictComp kx vx [⟨target,iter,ifs,0⟩] scope pos) e) (A5 i (NH cap ui g3 tc3 tk3 te3)):=.of<|by
 obtain⟨wi,pi,B⟩:=B.run
 refine⟨_,yV<|yx (g:=λc b s H=>Classical.choose (I c b s H).run) (tc:=λc b s H=>Classical.choose (Q c b s H).run) (tk:=λc b s H=>Classical.choose (u c b s H).run) (te:=λc b s H=>Classical.choose (M c b s H).run) S z hy l hN hS hk j pi
  (λc b s H=>(lN (I c b s H).run).1) (λc b s H=>(lN (Q c b s H).run).1) (λc b s H=>(lN (u c b s H).run).1) (λc b s H=>(lN (M c b s H).run).1) v hs,λG T ρ σ H fa R hG E hu le=>?_⟩
 refine B G ρ σ H fa _ _ hG E hu λJ H1 xs C s it tr fo q=>λc b o p=>?_;refine NW (K:=X.K) (lN (I c b o p).run).2 (lN (Q c b o p).run).2 (lN (u c b o p).run).2 (lN (M c b o p).run).2 (E.same s) it tr q.1 q.2 λd H2 U ds s2 hd h rs Y=>⟨d,U,h,λep=>?_⟩
 obtain⟨s3,r⟩:=Eb (ep:=ep) s2 hd h rs;exact le.nx _ _ ⟨_,_,(E.same (s.trans s3)).set (t4 Y.1) r (jn.of (f:=.fresh) E ⟨by simp,λa ha=>by cases List.mem_singleton.mp ha;exact s.free hd⟩ (by rw[hG];exact O)),Y.2⟩
end
mutual
def pyd:D->PyData
 | .bl b=>.bool b
 | .int i=>.int i
 | .str x=>.str x
 | .tup xs=>.tuple (O8 xs)
 | .lst xs=>.list (O8 xs)
 | .fz xs=>.list (O8 xs)
 | .ob u=>bif IB u then .dict [] else .none
 | _=>.none
def O8:List D->List PyData
 | []=>[]
 | x::xs=>pyd x::O8 xs
end
mutual
def Bf:D->Bool
 | .p7=>true
 | .bl _=>true
 | .int _=>true
 | .str _=>true
 | .tup xs=>jx xs
 | .lst xs=>jx xs
 | .fz xs=>jx xs
 | .ob u=>IB u
 | _=>false
def jx:List D->Bool
 | []=>true
 | x::xs=>Bf x&&jx xs
end
section
variable{X:Cx}{pins:QA}{σ:St}{H:Hp}{s:Shared}
theorem Nj(I:Inv X pins σ H s)(a:X.K.lookup sysModules=none){p:Addr}{vs:List V}(h:P7 X.K H p vs)(e:p=sysModules):False:=by
 subst e;rcases h with(h | ⟨o,h⟩) | ⟨o,_,_,h,_⟩
 ·rw[I.sys] at h;cases h
 ·rw[I.sys] at h;cases h
 ·rw[a] at h;cases h
theorem aB(I:Inv X pins σ H s){v:V}{d:D}{A:QE}{u:Value}(h:Rep X.K H v d A):Bf d=true->RelV v u->∃as,Reads s.heap u (pyd d) as/\(X.K.lookup sysModules=none->sysModules∉as):=by
 revert u
 have sq:∀{p:Addr} {vs:List V} {l:List D},P7 X.K H p vs->(∀u:QG,jx l=true->Vals vs u->∃as,ReadsAll s.heap u (O8 l) as/\(X.K.lookup sysModules=none->sysModules∉as))->∀u:Value,jx l=true->RelV (.ref p) u->∃as,Reads s.heap u (.list (O8 l)) as/\(X.K.lookup sysModules=none->sysModules∉as):=λ{p vs l} h i u q r=>by
  cases r;obtain⟨E,x,pl,_⟩:=I.list h;obtain⟨o,g,J,n,hd⟩:=pl.isList;obtain⟨as,q,z⟩:=i _ q x;exact⟨_,.list g J hd (by simpa using q),λc y=>(List.mem_cons.mp y).elim (λe=>Nj I c h e.symm) (z c)⟩
 intro u
 refine Rep.rec (motive_1:=λv d _ _=>∀u:Value,Bf d=true->RelV v u->∃as,Reads s.heap u (pyd d) as/\(X.K.lookup sysModules=none->sysModules∉as)) (motive_2:=λv d _ _=>∀u:QG,jx d=true->Vals v u->∃as,ReadsAll s.heap u (O8 d) as/\(X.K.lookup sysModules=none->sysModules∉as)) (motive_3:=λ_ _ _ _=>True)
  (λ_ _ r=>by cases r;exact⟨_,.none,λ_=>BB⟩) (λ_ _ r=>by cases r;exact⟨_,.bool _,λ_=>BB⟩) (λ_ _ r=>by obtain⟨t,rfl⟩:=r;exact⟨_,.int _ t,λ_=>BB⟩) (λ_ _ r=>by obtain⟨t,rfl⟩:=r;exact⟨_,.str _ t,λ_=>BB⟩) (λh _ i u q r=>?_)
  (λh _ i=>sq (P7.of h) i) (λh _ i=>sq h.sq i) ?_ ?_ ?_ ?_ ?_ ?_ ?_ (λ_ _ r=>by cases r;exact⟨_,.nil,λ_=>BB⟩) (λ_ _ i j u q r=>?_) trivial (λ_ _ _ _=>trivial) h u
 case refine_1=>
  cases r;obtain⟨E,x,⟨o,g,J,n,hd⟩,_⟩:=I.tuple (T5.of h);obtain⟨as,q,z⟩:=i _ (by simpa[Bf] using q) x;exact⟨_,.tuple g J hd (by simpa using q),z⟩
 case refine_8=>
  intro p o w T u q r;cases r
  cases w with
  | dE C U=>
   cases C with
   | nil=>
    obtain⟨_,_,M,vs,B,ob,O,g,hd,G,_,pr,_⟩:=(show u3 X.prog X.w H s.heap p (.frz o (.dE [] U)) from I.hok p _ T)
    cases B
    have Q:O.toList=[]:=by cases h:O.toList with
     | nil=>rfl
     | cons=>rw[h] at pr;cases pr
    exact⟨_,.dict (kvs:=[]) (as:=[]) (bs:=[]) g hd.1 G (by rw[Q];exact .nil) (by rw[Q];exact .nil),λ_ y=>(List.mem_cons.mp y).elim (λe=>by rw[<-e] at M;cases M) (λe=>by cases e)⟩
   | cons=>cases q
  | _=>cases q
 case refine_9=>
  cases r with
  | cons a b=>
   simp only[jx,hD] at q;obtain⟨as,S,z1⟩:=i _ q.1 a;obtain⟨bs,R,z2⟩:=j _ q.2 b;exact⟨_,.cons S R,λc y=>(List.mem_append.mp y).elim (z1 c) (z2 c)⟩
 all_goals intros;rename_i q _;simp[Bf] at q
end
mutual
def K7:D->Bool
 | .p7=>true
 | .bl _=>true
 | .int i=>decide (i.natAbs<10^62)
 | .str x=>x.cps.toList.all λc=>decide (c<16^8)
 | .tup xs=>eW xs
 | .lst xs=>eW xs
 | .fz xs=>eW xs
 | .ob u=>IB u
 | _=>false
def eW:List D->Bool
 | []=>true
 | x::xs=>K7 x&&eW xs
end
mutual
theorem vI:∀d:D,K7 d=true->Bf d=true
 | .p7,_=>rfl
 | .bl _,_=>rfl
 | .int _,_=>rfl
 | .str _,_=>rfl
 | .tup xs,h=>by rw[Bf];exact cy xs (by simpa[K7] using h)
 | .lst xs,h=>by rw[Bf];exact cy xs (by simpa[K7] using h)
 | .fz xs,h=>by rw[Bf];exact cy xs (by simpa[K7] using h)
 | .dic _,h=>by simp[K7] at h
 | .st _,h=>by simp[K7] at h
 | .dn _,h=>by simp[K7] at h
 | .xc _ _ _,h=>by simp[K7] at h
 | .ty _,h=>by simp[K7] at h
 | .adr _,h=>by simp[K7] at h
 | .ob u,h=>by simpa[K7,Bf] using h
theorem cy:∀d:List D,eW d=true->jx d=true
 | [],_=>rfl
 | x::xs,h=>by
  simp only[eW,hD] at h;simp only[jx,hD];exact⟨vI x h.1,cy xs h.2⟩
end
theorem Ao{i:Int}(h:i.natAbs<10^62):i.natAbs.log2<1920:=by
 by_cases e:i.natAbs=0
 ·rw[e];decide
 ·exact(Nat.log2_lt e).mpr (re h (by decide +kernel))
mutual
theorem gh:∀d:D,K7 d=true->(pyd d).showable=true/\(pyd d).leavesShort 63=true 
 | .p7,_=>⟨by simp[pyd,PyData.showable],by simp[pyd,PyData.leavesShort]⟩
 | .bl _,_=>⟨by simp[pyd,PyData.showable],by simp[pyd,PyData.leavesShort]⟩
 | .int i,h=>by
  have h:i.natAbs<10^62:=by simpa[K7] using h
  refine⟨?_,?_⟩
  ·simp only[pyd,PyData.showable];exact eH (Ao h)
  ·simp only[pyd,PyData.leavesShort,PyData.shown];refine eH ?_;rw[ofString_length];exact int_text_length_le10 (by decide) h
 | .str x,h=>⟨by simp[pyd,PyData.showable],by simpa[pyd,PyData.leavesShort,K7] using h⟩
 | .tup xs,h=>by
  have:=aR xs (by simpa[K7] using h);exact⟨by simpa[pyd,PyData.showable] using this.1,by simpa[pyd,PyData.leavesShort] using this.2⟩
 | .lst xs,h=>by
  have:=aR xs (by simpa[K7] using h);exact⟨by simpa[pyd,PyData.showable] using this.1,by simpa[pyd,PyData.leavesShort] using this.2⟩
 | .fz xs,h=>by
  have:=aR xs (by simpa[K7] using h);exact⟨by simpa[pyd,PyData.showable] using this.1,by simpa[pyd,PyData.leavesShort] using this.2⟩
 | .dic _,h=>by simp[K7] at h
 | .st _,h=>by simp[K7] at h
 | .dn _,h=>by simp[K7] at h
 | .xc _ _ _,h=>by simp[K7] at h
 | .ty _,h=>by simp[K7] at h
 | .adr _,h=>by simp[K7] at h
 | .ob u,h=>by
  have e:IB u=true:=by simpa[K7] using h
  simp[pyd,e,PyData.showable,PyData.leavesShort,PyData.showableKv,PyData.leavesShortKv]
theorem aR:∀d:List D,eW d=true->PyData.showableAll (O8 d)=true/\PyData.leavesShortAll 63 (O8 d)=true
 | [],_=>⟨by simp[O8,PyData.showableAll],by simp[O8,PyData.leavesShortAll]⟩
 | x::xs,h=>by
  simp only[eW,hD] at h;have a:=gh x h.1;have b:=aR xs h.2;exact⟨by simp[O8,PyData.showableAll,a.1,b.1],by simp[O8,PyData.leavesShortAll,a.2,b.2]⟩
end
def cX(d:D):Prop:=K7 d=true/\(pyd d).weight<=258000/\(pyd d).depth<=150
theorem cX.fits{d:D}(h:cX d):(pyd d).shown.length<=sizeLine:=by
 have:=PyData.shown_le 63 (by decide) (pyd d) (gh d h.1).2;rw[v1];have:=h.2.1;omega
section
variable{X:Cx}{cl:List Cl}{e a b:Expr}{es:QH}{f:Fl}{pos:Pos}{ua ub:TU}{ma mb:TM}{fa fb:Fl}
def Hh(X:Cx):List V->Hp->VK->Prop:=λc H Q=>∃v d A,c=[v]/\Rep X.K H v d A/\cX d/\Q (.str (pyd d).shown) H
theorem aW{k:Nat}(B:D3 k X.A)(p:X.K.lookup sysModules=none):K8 X (.builtin "repr") (Hh X):=by
 intro j s y H J M Q I r h;obtain⟨v,d,A,rfl,z,c,q⟩:=h;obtain⟨u,rfl,i⟩:=vals1 r
 have g:∀(x:Heap) (u:Tok) (tk:Nat),(∀b o,s.heap.get? b=some o->x.get? b=some o)->EP X j y Q (.str (pyd d).shown u) { s with heap:=x,toks:=tk }:=λx u tk G=>
  ⟨.str _,H,I.kept (t':=tk) G,⟨_,rfl⟩,q⟩
 obtain⟨R,E,l⟩:=aB I z (vI d c.1) i;have l:=l p;have C:=gh d c.1;have O:=B.un;have hd:=c.2.2
 have big:∀{a:Addr},u=.ref a->wpAny (model X.prog X.w) X.A (call (.builtin "repr") [u]) (EP X j y Q) X.xe s:=λ{a} e=>by
  subst e;exact repr_of_reads' E C.1 (λ_=>l) B.gd (by omega) (λ_ _ e=>e) g c.fits
 cases z with
 | p7=>cases i;exact PySem.P.repr_of_none (g _ _ _ λ_ _ e=>e)
 | bl=>cases i;exact PySem.P.repr_of_bool (g _ _ _ λ_ _ e=>e)
 | int=>obtain⟨t,rfl⟩:=i;exact PySem.P.repr_of_int (Ao (by simpa[K7] using c.1)) (g _ _ _ λ_ _ e=>e)
 | str=>obtain⟨t,rfl⟩:=i;exact PySem.P.repr_of_str (g _ _ _ λ_ _ e=>e) c.fits
 | tup _ _=>cases i;exact big rfl
 | lst _ _=>cases i;exact big rfl
 | frz _ _=>cases i;exact big rfl
 | dic _ _=>have:=c.1;simp[K7] at this
 | st _ _=>have:=c.1;simp[K7] at this
 | dn _=>have:=c.1;simp[K7] at this
 | xc _=>have:=c.1;simp[K7] at this
 | ty=>have:=c.1;simp[K7] at this
 | adr=>have:=c.1;simp[K7] at this
 | ob _=>cases i;exact big rfl
def jE:List D->(D->Prop)->Prop
 | [d],Q=>cX d/\Q (.str (pyd d).shown)
 | _,_=>False
theorem nA:Call3 X (Hh X) jE:=by
 intro H vs d A Q R r q k;unfold jE at q;split at q
 ·obtain⟨v,rfl,c⟩:=r.one;exact⟨v,_,_,rfl,c,q.1,k _ H _ _ (i5.refl H) .str op (λ_ h=>(by cases h)) q.2⟩
 ·exact q.elim
def DE(d:D):Prop:=Bf d=true/\(pyd d).canLay0=true/\(pyd d).depth<=64
def DD(X:Cx)(c:Bool):R2:=λx y H Q=>∃d e A B,Rep X.K H x d A/\Rep X.K H y e B/\DE d/\DE e/\Q (.bl (ng c (PyData.eqv (pyd d) (pyd e)))) H
theorem lU{k:Nat}(E:D3 k X.A):L8 X (compareOp .Eq) (DD X false):=by
 intro i s G H x y v u Q I l j h;obtain⟨d,e,A,B,z,r,g,c,q⟩:=h;obtain⟨J,p,_⟩:=aB I z g.1 l;obtain⟨bs,o,_⟩:=aB I r c.1 j;have C:=E.units;exact PySem.SeqAt.compareEq_shaped p o (by unfold PySem.SeqAt.shaped;rw[g.2.1,eH g.2.2];rfl) (by unfold PySem.SeqAt.shaped;rw[c.2.1,eH c.2.2];rfl) C ⟨.bl _,H,I,rfl,q⟩
theorem HH{k:Nat}(E:D3 k X.A):L8 X (compareOp .NotEq) (DD X true):=by
 intro i s G H x y v u Q I l j h;obtain⟨d,e,A,B,z,r,g,c,q⟩:=h;obtain⟨J,p,_⟩:=aB I z g.1 l;obtain⟨bs,o,_⟩:=aB I r c.1 j;have C:=E.units;exact PySem.SeqAt.compareNe_shaped p o (by unfold PySem.SeqAt.shaped;rw[g.2.1,eH g.2.2];rfl) (by unfold PySem.SeqAt.shaped;rw[c.2.1,eH c.2.2];rfl) C ⟨.bl _,H,I,rfl,q⟩
def Kw(c:Bool):D->D->(D->Prop)->Prop:=λd e Q=>DE d/\DE e/\Q (.bl (ng c (PyData.eqv (pyd d) (pyd e))))
theorem KN{c:Bool}:Z3 X (DD X c) (Kw c):=by
 intro H v w d e A B Q R i g q k;exact⟨d,e,A,B,i,g,q.1,q.2.1,k _ H _ _ (i5.refl H) .bl op (λ_ h=>(by cases h)) q.2.2⟩
end
end L3
namespace L2
open PySem PySem.Spec PySem.Builtin PySem.Builtin.Str PyProof.Rows
section
variable{X:Cx}
variable{e:Expr}{es:QH}{te:TE}{pos:Pos}
end
end L2
namespace L3
open PySem PySem.Spec L2
section
variable{X:Cx}{cl:List Cl}{e a b:Expr}{es:QH}{f:Fl}{pos:Pos}{ua ub:TU}{ma mb:TM}{fa fb:Fl}
end
end L3
namespace L2
open PySem PySem.Spec PyProof.Rows
section
variable{X:Cx}
def JY:R2:=λx y H Q=>∃a v,x=.ref a/\aI H a y (some v)/\Q v H
theorem vi(l:X.A.units+1<cLine):DB X JY:=by
 intro b c e s r H x y v u Q I j i h o;obtain⟨a,z,rfl,g,q⟩:=h;cases j;exact tail_any (qg I g) PySem.F.slot_dict_getitem.lookup (wB l I g i λB C p d=>⟨z,H,p,d,q⟩) o
def DP(b:Bool):R2:=λy x H Q=>∃a o,x=.ref a/\aI H a y o/\Q (.bl (match b with | true=>!o.isSome | false=>o.isSome)) H
theorem AY(e:X.A.units+1<cLine):L8 X (compareOp .In) (DP false):=by
 intro b s j H x y v u Q I d c h;obtain⟨a,o,rfl,g,q⟩:=h;cases c;exact Nf e I g d λl i=>⟨.bl o.isSome,H,i,rfl,q⟩
theorem jC(e:X.A.units+1<cLine):L8 X (compareOp .NotIn) (DP true):=by
 intro b s j H x y v u Q I d c h;obtain⟨a,o,rfl,g,q⟩:=h;cases c;exact FJ e I g d λl i=>⟨.bl (!o.isSome),H,i,rfl,q⟩
end
end L2
namespace L3
open PySem PySem.Spec L2
section
variable{X:Cx}{cl:List Cl}{e a b tg:Expr}{es:QH}{f:Fl}{pos:Pos}{ua ub:TU}{ma mb:TM}{fa fb:Fl}
def o6:D->D->(D->Prop)->Prop:=λd e Q=>match d,e with
 | .int i,.int j=>Q (.int (i+j))
 | .str i,.str j=>i.length+j.length<=sizeLine/\Q (.str (i++j))
 | .lst g,.lst c=>l9 g=true/\l9 c=true/\g.length+c.length<=sizeLine/\Q (.lst (g++c))
 | .tup g,.tup c=>l9 g=true/\l9 c=true/\g.length+c.length<=sizeLine/\Q (.tup (g++c))
 | _,_=>False
abbrev KO:R2:=λx y H Q=>∃i j,x=.str i/\y=.str j/\i.length+j.length<=sizeLine/\Q (.str (i++j)) H
def Gx:R2:=λx y H Q=>(yG λi j=>.int (i+j)) x y H Q\/KO x y H Q\/HX x y H Q\/Am x y H Q
theorem vE:L8 X (binaryOp .Add) Gx:=Ib.or (rO.or (Ie.or EL))
theorem BL:Z3 X Gx o6:=by
 intro H v w d e A B Q R g c q k;cases d<;>cases e<;>first | exact(show False from q).elim | skip
 ·exact .inl (sZ H v w _ _ A B Q R g c q k)
 ·exact .inr (.inl (LH H v w _ _ A B Q R g c q k))
 ·exact .inr (.inr (.inr (Hk H v w _ _ A B Q R g c q k)))
 ·exact .inr (.inr (.inl (Ls H v w _ _ A B Q R g c q k)))
theorem l6(d:PU X cl a fa ua)(c:PU X cl b fb ub):PU X cl (.BinOp a .Add b pos) .fresh (o5 o6 ua ub):=jX vE BL d c
theorem D0(d:PN X cl a ma)(c:PN X cl b mb):PM X cl (.BinOp a .Add b pos) (Z0 o6 ma mb):=uj vE BL d c
def P2:D->D->(D->Prop)->Prop:=λd e Q=>match d,e with
 | .int i,.int j=>M1 i j/\Q (.int (i*j))
 | .str z,.int n=>MulOk z n/\Q (.str (Txt.mul z n))
 | .lst c,.int n=>l9 c=true/\-(2^63)<=n/\n<2^63/\c.length*n.toNat<=sizeLine/\Q (.lst (List.replicate n.toNat c).flatten)
 | _,_=>False
abbrev LI:R2:=λx y H Q=>∃z n,x=.str z/\y=.int n/\MulOk z n/\Q (.str (Txt.mul z n)) H
def GN:R2:=λx y H Q=>(rI M1 λi j=>.int (i*j)) x y H Q\/LI x y H Q\/Le x y H Q
theorem uN:L8 X (binaryOp .Mult) GN:=JD.or (FH.or IG)
theorem ku{K:QP}{H:Hp}{vs:List V}{xs:List D}(r:j8 K H vs xs []):∀n:Nat,j8 K H (List.replicate n vs).flatten (List.replicate n xs).flatten []
 | 0=>.nil
 | n+1=>by
  rw[xz,xz,No,No];exact r.append (ku r n)
theorem CS:Z3 X GN P2:=by
 intro H v w d e A B Q R h g q k;cases d<;>cases e<;>first | exact(show False from q).elim | skip
 ·exact .inl (pU H v w _ _ A B Q R h g q k)
 ·exact .inr (.inl (Iy H v w _ _ A B Q R h g q k))
 ·obtain⟨im,x,u,r,q⟩:=q;obtain⟨p,vs,z,rfl,j,c,_⟩:=K2 h;cases C3 g;have y:=c.M8 im;subst y;refine .inr (.inr ⟨p,_,vs,rfl,rfl,j,x,u,by rw[c.length];exact r,λl i=>k _ _ (.lst _) [l] (i5.j4 i) (.lst g9 ((ku c _).same (i5.j4 i))) (by simp) (λa o=>?_) q⟩);have:a=l:=by simpa using o
  rw[this];exact i
theorem O0(d:PU X cl a fa ua)(c:PU X cl b fb ub):PU X cl (.BinOp a .Mult b pos) .fresh (o5 P2 ua ub):=jX uN CS d c
theorem fF(d:PN X cl a ma)(c:PN X cl b mb):PM X cl (.BinOp a .Mult b pos) (Z0 P2 ma mb):=uj uN CS d c
def G0(c:Bool):D->D->(D->Prop)->Prop:=λd e Q=>match Y8 d&&Y8 e with
 | true=>JU c d e Q
 | false=>Kw c d e Q
theorem pe{c:Bool}{r:R2}(o:Z3 X r (JU c)):Z3 X (λx y H Q=>r x y H Q\/DD X c x y H Q) (G0 c):=by
 intro H v w d e A B Q R h g q k;unfold G0 at q;split at q
 ·exact .inl (o H v w d e A B Q R h g q k)
 ·exact .inr (KN H v w d e A B Q R h g q k)
section
variable{kr:Nat}(hr:D3 kr X.A)
include hr
theorem Ce(g:PU X cl a fa ua)(d:PU X cl b fb ub)(c:behindInMarks .Eq b=false):PU X cl (.Compare a [.Eq] [b] pos) .fresh (o5 (G0 false) ua ub):=bA (uz.or (lU hr)) (pe Ep) g d c
theorem T7(g:PU X cl a fa ua)(d:PU X cl b fb ub)(c:behindInMarks .Eq b=false):F0 X cl (.Compare a [.Eq] [b] pos) (uT (o5 (G0 false) ua ub)):=X0 (uz.or (lU hr)) (pe Ep) g d c
theorem V1(g:PU X cl a fa ua)(d:PU X cl b fb ub)(c:behindInMarks .NotEq b=false):F0 X cl (.Compare a [.NotEq] [b] pos) (uT (o5 (G0 true) ua ub)):=X0 (LD.or (HH hr)) (pe MH) g d c
theorem Iq(g:PN X cl a ma)(d:PN X cl b mb)(c:behindInMarks .Eq b=false):PM X cl (.Compare a [.Eq] [b] pos) (Z0 (G0 false) ma mb):=Hw (uz.or (lU hr)) (pe Ep) g d c
theorem nD(g:PN X cl a ma)(d:PN X cl b mb)(c:behindInMarks .Eq b=false):KR X cl (.Compare a [.Eq] [b] pos) (mT (Z0 (G0 false) ma mb)):=Ho (uz.or (lU hr)) (pe Ep) g d c
def Lq(c:Bool):D->D->(D->Prop)->Prop:=λd e Q=>match e with
 | .dic g=>∃k,cM d=some k/\Q (.bl (ng c (B7 g k).isSome))
 | _=>NA c d e Q
end
theorem Kj{c:Bool}:Z3 X (λx y H Q=>KA X.K c x y H Q\/DP c x y H Q) (Lq c):=by
 intro H v w d e A B Q R o l q k
 cases e with
 | dic g=>
  obtain⟨j,I,q⟩:∃k,cM d=some k/\Q (.bl (ng c (B7 g k).isSome)):=q;obtain⟨p,vs,S,rfl,E,G,rfl⟩:=aS l;cases aT o I;have r:=G.val j;refine .inr ?_
  cases i:B7 g j with
  | none=>
   rw[i] at q;exact⟨p,none,rfl,(by have:=aI.k (k:=j) E;rwa [r.2 i] at this),k _ H _ _ (i5.refl H) .bl op (λ_ h=>(by cases h)) (by cases c<;>exact q)⟩
  | some z=>
   rw[i] at q;obtain⟨u,C,J,O,M⟩:=r.1 z i;exact⟨p,some u,rfl,(by have:=aI.k (k:=j) E;rwa [J] at this),k _ H _ _ (i5.refl H) .bl op (λ_ h=>(by cases h)) (by cases c<;>exact q)⟩
 | _=>exact .inl (Mv H v w _ _ A B Q R o l q k)
def Im:D->D->(D->Prop)->Prop:=λd y Q=>match d with
 | .dic c=>∃k v,cM y=some k/\B7 c k=some v/\Q v
 | _=>NM d y Q
theorem uI{v w:V}{H:Hp}{d e:D}{A B:QE}{Q:D->Prop}{R:VK}(i:Rep X.K H v d A)(h:Rep X.K H w e B)(q:Im d e Q)(k:∀x z C,Rep X.K H x z C->C.Sublist A->Q z->R x H):Mg X.K v w H R\/JY v w H R:=by
 cases d with
 | dic c=>
  obtain⟨a,u,z,C,p,g,l,j,o⟩:=Fh i h (show GK (.dic c) e Q from q);exact .inr ⟨a,u,p,g,k u z C l j o⟩
 | _=>exact .inl (II i h q k)
def n8(ua ub:TU):TU:=λc Q=>ua c λx=>ub c λy=>Im x y Q
theorem Jt(y:X.A.units+1<cLine)(O:PU X cl a fa ua)(M:PU X cl b fb ub)(I:fC b):PU X cl (.Subscript a b pos) fa (n8 ua ub):=.of<|by
 obtain⟨ta,tb,u,p,h⟩:=u2 O M;refine⟨_,Gy (ze.or (vi y)) u p I,λG g c H T Q R S E J k=>?_⟩;refine h G g c H T _ _ S E J λv w Y d e A B s l j U f2 q=>?_;exact uI l j q λx z C r i o=>k x Y z C s r (U.sub i) o
def dO(ma mb:TM):TM:=λh Q=>ma h λx g=>mb g λy c=>Im x y λd=>Q d c
theorem Q0(O:X.A.units+1<cLine)(j:PN X cl a ma)(Y:PN X cl b mb)(S:fC b):PN X cl (.Subscript a b pos) (dO ma mb):=.of<|by
 obtain⟨ta,tb,M,J,h⟩:=m2 j Y;refine⟨_,Gy (ze.or (vi O)) M J S,λG p o H fo Q R hG E T k=>?_⟩;refine h G p o H fo _ _ hG E T λv w H' d e A B g l E' c y u n1 _ q=>?_;exact uI y u q λx z C r s I=>k x H' z C g l E' c r (λi U a j=>n1 i U a (s.mem j)) I
def Z9(ua:TU)(lo i:HV):TU:=λg Q=>ua g λd=>lo g λl=>i g λh=>match d with
 | .tup c=>l9 c=true/\Q (.tup (cutD c l h))
 | .lst c=>l9 c=true/\Q (.lst (cutD c l h))
 | .fz c=>l9 c=true/\Q (.lst (cutD c l h))
 | _=>False
theorem J7{lo hi:Option Expr}{ul uh:HV}{p2:Pos}(z:PU X cl a fa ua)(x:JO X cl lo ul)(hh:JO X cl hi uh):PU X cl (.Subscript a (.Slice lo hi none p2) pos) .fresh (Z9 ua ul uh):=.of<|by
 obtain⟨ta,pa,z⟩:=z.run;obtain⟨tl,pl,x⟩:=x.run;obtain⟨th,ph,hh⟩:=hh.run;refine⟨_,px (wg.or yY) pa pl ph,λG J I H fo Q R hG E hu k=>z G J I H fo _ _ hG E hu λv H1 d A S r1 f1 q1=>x G J I H1 fo _ _ hG (E.same S) q1 λh H2 C q2=>hh G J I H2 fo _ _ hG (E.same (S.trans C)) q2 λu H3 O i=>?_⟩;have j:=(S.trans C).trans O
 have g:∀{c:List D},kindB false d=some c->l9 c=true->Q (.lst (cutD c h u))->Kz X.K v h u H3 R:=λ{c} e1 im q=>by
  obtain⟨p,vs,B,rfl,hq,o,_⟩:=fu ((r1.same C).same O) e1;have y:=o.M8 im;subst y;refine⟨p,vs,rfl,hq,λl x=>?_⟩;obtain⟨B,M,Y⟩:=o.cut (HT.D1 c.length 0 h) (HT.D1 c.length c.length u-HT.D1 c.length 0 h);have y:B=[]:=List.sublist_nil.mp M;subst y;refine k _ _ _ [l] (j.trans (i5.j4 x)) (.lst g9 ?_) ⟨by simp,λa z=>?_⟩ q
  ·have T:j8 X.K H3 (fm vs h u) (cutD c h u) []:=by
    unfold fm cutD;rw[o.length];exact Y
   exact T.same (i5.j4 x)
  ·have:a=l:=by simpa using z
   rw[this];exact j.free x
 cases d<;>first | exact(show False from i).elim | skip
 ·rename_i c
  obtain⟨im,i⟩:=i;obtain⟨p,vs,rfl,hq,o⟩:=M6 ((r1.same C).same O);have y:=o.M8 im;subst y;refine .inr ⟨p,vs,rfl,hq,λr H4 s4 hr=>?_⟩;obtain⟨B,M,Y⟩:=o.cut (HT.D1 c.length 0 h) (HT.D1 c.length c.length u-HT.D1 c.length 0 h);have y:B=[]:=List.sublist_nil.mp M;subst y;refine k _ _ (.tup (cutD c h u)) [] (j.trans s4) (.tup hr ?_) (y4.nil _) i;have U:=Y.same s4;unfold fm cutD;rw[o.length];exact U
 ·exact .inl (g rfl i.1 i.2)
 ·exact .inl (g rfl i.1 i.2)
end
theorem GP{i j k l m:Nat}{ds:List D}{g:Ev}{Q:Ev->Prop}(h:p8 (g1 i) (p8 (g1 j) (p8 (g1 k) (p8 (g1 l) (p8 (g1 m) U1)))) ds g Q):ds.length=5:=by
 rcases ds with _ | ⟨a,_ | ⟨b,_ | ⟨c,_ | ⟨d,_ | ⟨e,_ | ⟨f,r⟩⟩⟩⟩⟩⟩<;>first | rfl | (simp[p8,U1,g1] at h)
end L3
namespace L2
open PySem PySem.Spec PySem.Builtin PySem.Builtin.Str PyProof.Rows
section
variable{X:Cx}
def LL:R2:=λx y H Q=>∃i j,x=.str i/\y=.str j/\Q (.bl (!decide (j.cps.toList<i.cps.toList))) H
theorem yk:L8 X (compareOp .LtE) LL:=by
 intro a s d H x y v u Q I c b h;obtain⟨i,j,rfl,rfl,q⟩:=h;obtain⟨t,rfl⟩:=c;obtain⟨e,rfl⟩:=b;exact PySem.P.le_str ⟨.bl _,H,I,rfl,q⟩
def Fg(a:Bool):R2:=λx y H Q=>∃b,y=.bl b/\Q (.bl (match a with | true=>!decide (x=.bl b) | false=>decide (x=.bl b))) H
def MD(x:Str):It:=⟨λi _=>i<x.cps.size,λi H v a=>a=H/\∃c,x.cps[i]?=some c/\v=.str ⟨#[c]⟩,λi _=>i=x.cps.size⟩
theorem oJ{P:Program}{w:World}{K:QP}{Y:Expr}{x:Str}{ty:String}{t:Tok}(it:Addr)
  (W:∀A:Around,A.handled=none->Walks P w A it [it] [it] x.cps.size (SignAt x) (λi h=>h.IsStrIter it ty x t i)) (B:["enumerate","zip","dict_itemiterator","dict_reverseitemiterator","odict_iterator","itertools.zip_longest","itertools.pairwise"].contains ty=false)
  (hs:∀(A:Around) (i:Nat) (s:Shared) (Q:QN) (E:QN),s.heap.IsStrIter it ty x t i->Q (.ref it) s->wpAny (model P w) A (pyIter (.ref it)) Q E s):Turn P w K Y (MD x) [it] it (λi h=>h.IsStrIter it ty x t i) where
 mem:=by simp
 obj:=λi h st b g=>by
  have e:b=it:=by simpa using g
  subst e;obtain⟨o,e,c,d⟩:=st;exact⟨o,e,λv z=>by rw[d] at z;cases z⟩
 keep:=λi h q st k=>let ⟨o,ho,r⟩:=st;⟨o,k it (by simp) o ho,r⟩
 item:=by
  intro X G hw J C i a s U H E I p st l;subst G hw J;obtain⟨T,S,f2,R,O,M⟩:=p it (by simp);refine(W X.A (I.ok.hd C)).item i s _ _ l st λv q tk hv j y=>?_;obtain⟨c,u,hx,rfl⟩:=hv;have I1:Inv X a U H { s with heap:=q,toks:=tk }:=I.turned (λb o g e=>y b o (by simpa using g) e) T S R O M;obtain⟨o,e,cc,d⟩:=id j;exact⟨_,rfl,vh (s:={ s with heap:=q,toks:=tk }) e cc d B ⟨.str ⟨#[c]⟩,H,I1,⟨u,rfl⟩,⟨rfl,c,hx,rfl⟩,j,λb g=>(p b g).1⟩⟩
 done:=by
  intro X G hw J C i a s U H E I p st l;subst G hw J;obtain⟨T,S,f2,R,O,M⟩:=p it (by simp);have l:i=x.cps.size:=l;subst l;exact(W X.A (I.ok.hd C)).done s _ _ st λq tk y=>⟨rfl,I.turned (λb o g e=>y b o (by simpa using g) e) T S R O M⟩
 self:=hs
def Mz(K:QP)(e:TE):TI:=λd H R=>e d H λx b=>(∃z,x=.str z/\R (MD z) b)\/∃a,x=.ref a/\((∃c,P7 K b a c/\R (Md K a) b)\/∃c,T5 K b a c/\R (Nd K a) b)
theorem Ig{U l:Expr}{G:TE}(hl:PE X l G):PI X U l (Mz X.K G):=.of λg s S H R I q=>by
 refine B4 (hl g s S H _ I q) λv c ⟨x,u,d,J,y⟩=>?_;rcases y with⟨z,rfl,q⟩ | ⟨a,rfl,y⟩
 ·obtain⟨t,rfl⟩:=J
  have O:∀b∈[c.heap.objs.size],T8 X g u b:=λb r=>by
   have e:b=c.heap.objs.size:=by simpa using r
   subst e;exact d.jd (hI _) (d.hok.fresh (hI _))
  cases M:z.cps.all (·<128)
  ·exact wpAny_pyIter_wide M ⟨c.heap.objs.size,[c.heap.objs.size],_,_,u,rfl,d.kept (t':=c.toks) λb o e=>dL _ e,oJ (t:=t) _ (λA C=>Walks.strWide C _ z t) (by decide) (λA i s Q E st h=>wpAny_pyIter_striter_wide st h),⟨_,ro _ rfl,rfl,rfl⟩,O,q⟩
  ·exact wpAny_pyIter_ascii M ⟨c.heap.objs.size,[c.heap.objs.size],_,_,u,rfl,d.kept (t':=c.toks) λb o e=>dL _ e,oJ (t:=t) _ (λA C=>Walks.strAscii C _ z t) (by decide) (λA i s Q E st h=>wpAny_pyIter_striter_ascii st h),⟨_,ro _ rfl,rfl,rfl⟩,O,q⟩
 ·cases J;rcases y with⟨T,B,q⟩ | ⟨T,B,q⟩
  ·obtain⟨j,Y,p,hz⟩:=d.list B;refine PZ p.isList ?_;refine⟨c.heap.objs.size,[c.heap.objs.size],_,_,u,rfl,d.kept (t':=c.toks) λb o e=>dL _ e,yE a _,⟨_,ro _ rfl,rfl,rfl⟩,λb r=>?_,q⟩;have e:b=c.heap.objs.size:=by simpa using r
   subst e;exact d.jd (hI _) (d.hok.fresh (hI _))
  ·obtain⟨j,Y,p,hz⟩:=d.tuple B;refine wpAny_pyIter_tuple (show c.heap.IsTuple a j.toArray from p) ?_;refine⟨c.heap.objs.size,[c.heap.objs.size],_,_,u,rfl,d.kept (t':=c.toks) λb o e=>dL _ e,sV a _,⟨_,ro _ rfl,rfl,rfl⟩,λb r=>?_,q⟩;have e:b=c.heap.objs.size:=by simpa using r
   subst e;exact d.jd (hI _) (d.hok.fresh (hI _))
def GQ:List V->Hp->VK->Prop:=λa H Q=>((∃i,a=[.int i]/\Q (.int i) H)\/∃k,a=[.bl k]/\Q (.int (if k then 1 else 0)) H)\/∃x n,a=[.str x]/\PySem.intText? x=some n/\x.length<=640/\Q (.int n) H
theorem yq:K8 X (.type "int") GQ:=by
 intro a s b H c d Q I r h;rcases h with h | ⟨x,n,rfl,e,g,q⟩
 ·exact xF a s b H c d Q I r h
 ·obtain⟨u,rfl,t,rfl⟩:=vals1 r;exact PySem.W.KIN.call_text e g ⟨.int n,H,I.tok _,⟨_,rfl⟩,q⟩
end
end L2
namespace L2
open PySem PySem.Spec PyProof.Rows
section
variable{X:Cx}
theorem pO{x:V}{v:Value}(r:RelV x v)(b:Bool):(v == .bool b)=decide (x=.bl b):=by
 cases x<;>first
  | (cases r;first | rfl | (rename_i c;cases b<;>cases c<;>rfl))
  | (obtain⟨t,rfl⟩:=r;rfl)
theorem zJ:L8 X (compareOp .Is) (Fg false):=by
 intro a s d H x y v u Q I c e h;obtain⟨b,rfl,q⟩:=h;cases e;have f:EP X a d Q (.bool (v == .bool b)) s:=⟨.bl _,H,I,by rw[pO c];rfl,q⟩
 cases x<;>first
  | (cases c;exact hH f)
  | (obtain⟨t,rfl⟩:=c;exact hH f)
theorem yQ:L8 X (compareOp .IsNot) (Fg true):=by
 intro a s d H x y v u Q I c e h;obtain⟨b,rfl,q⟩:=h;cases e;have f:EP X a d Q (.bool (!(v == .bool b))) s:=⟨.bl _,H,I,by rw[pO c];rfl,q⟩
 cases x<;>first
  | (cases c;exact hH f)
  | (obtain⟨t,rfl⟩:=c;exact hH f)
end
end L2
namespace L3
open PySem PySem.Spec L2
section
variable{X:Cx}{cl:List Cl}{e a b tg:Expr}{es:QH}{f:Fl}{pos:Pos}{ua ub uc:TU}{ma mb:TM}{fa fb fc:Fl}
def W0:D->D->(D->Prop)->Prop:=λd e Q=>match d,e with
 | .int i,.int j=>Q (.bl (decide (i<=j)))
 | .str x,.str y=>Q (.bl (!decide (y.cps.toList<x.cps.toList)))
 | _,_=>False
abbrev Lj:R2:=λx y H Q=>(yG λi j=>.bl (decide (i<=j))) x y H Q\/LL x y H Q
theorem G5:L8 X (compareOp .LtE) Lj:=KC.or yk
theorem P5:Z3 X Lj W0:=by
 intro H v w d e A B Q R g c q k;cases d<;>cases e<;>first | exact(show False from q).elim | skip
 ·exact .inl (eR H v w _ _ A B Q R g c q k)
 ·cases D4 g;cases D4 c;exact .inr ⟨_,_,rfl,rfl,k _ H _ _ (i5.refl H) .bl op (λ_ h=>(by cases h)) q⟩
theorem zG(g:PU X cl a fa ua)(d:PU X cl b fb ub)(c:behindInMarks .LtE b=false):PU X cl (.Compare a [.LtE] [b] pos) .fresh (o5 W0 ua ub):=bA G5 P5 g d c
def P4(d:D)(b:Bool):Bool:=match d with
 | .bl c=>c == b
 | _=>false
def eZ(c:Bool):D->D->(D->Prop)->Prop:=λd e Q=>match e with
 | .p7=>Q (.bl (ng c (U4 d)))
 | .bl b=>Q (.bl (ng c (P4 d b)))
 | _=>False
theorem vO{K:QP}{H:Hp}{v:V}{d:D}{A:QE}(h:Rep K H v d A)(b:Bool):decide (v=.bl b)=P4 d b:=by
 cases h<;>first | (simp[P4];done) | skip
 rename_i c
 cases b<;>cases c<;>rfl
abbrev MV:R2:=λx y H Q=>y=.p7/\Q (.bl (decide (x=.p7))) H
abbrev JJ:R2:=λx y H Q=>y=.p7/\Q (.bl (!decide (x=.p7))) H
theorem GL:Z3 X (λx y H Q=>MV x y H Q\/Fg false x y H Q) (eZ false):=by
 intro H v w d e A B Q R g c q k;cases e<;>first | exact(show False from q).elim | skip
 ·exact .inl (MA H v w d .p7 A B Q R g c q k)
 ·cases N4 c;refine .inr ⟨_,rfl,?_⟩;show R (.bl (decide (v=.bl _))) H;rw[vO g];exact k _ H _ _ (i5.refl H) .bl op (λ_ h=>(by cases h)) q
theorem EY:Z3 X (λx y H Q=>JJ x y H Q\/Fg true x y H Q) (eZ true):=by
 intro H v w d e A B Q R g c q k;cases e<;>first | exact(show False from q).elim | skip
 ·exact .inl (Jz H v w d .p7 A B Q R g c q k)
 ·cases N4 c;refine .inr ⟨_,rfl,?_⟩;show R (.bl (!decide (v=.bl _))) H;rw[vO g];exact k _ H _ _ (i5.refl H) .bl op (λ_ h=>(by cases h)) q
theorem tG(g:PU X cl a fa ua)(d:PU X cl b fb ub)(c:behindInMarks .Is b=false):PU X cl (.Compare a [.Is] [b] pos) .fresh (o5 (eZ false) ua ub):=bA (AZ.or zJ) GL g d c
theorem BD(g:PU X cl a fa ua)(d:PU X cl b fb ub)(c:behindInMarks .Is b=false):F0 X cl (.Compare a [.Is] [b] pos) (uT (o5 (eZ false) ua ub)):=X0 (AZ.or zJ) GL g d c
theorem pY(g:PU X cl a fa ua)(d:PU X cl b fb ub)(c:behindInMarks .IsNot b=false):F0 X cl (.Compare a [.IsNot] [b] pos) (uT (o5 (eZ true) ua ub)):=X0 (ES.or yQ) EY g d c
def Nt(x y:Str):Bool:=!(Builtin.Str.occurrences x y 0 x.length 1).isEmpty
def ck(c:Bool):D->D->(D->Prop)->Prop:=λd e Q=>match e with
 | .str z=>(match d with | .str y=>Q (.bl (ng c (Nt z y))) | _=>False)
 | _=>Lq c d e Q
abbrev Hl(c:Bool):R2:=λx y H Q=>∃i j,x=.str i/\y=.str j/\Q (.bl (ng c (Nt j i))) H
theorem CC:L8 X (compareOp .In) (Hl false):=wL
theorem ke:L8 X (compareOp .NotIn) (Hl true):=lu
theorem vc{c:Bool}:Z3 X (λx y H Q=>(KA X.K c x y H Q\/DP c x y H Q)\/Hl c x y H Q) (ck c):=by
 intro H v w d e A B Q R i g q k
 cases e with
 | str z=>
  cases d<;>first | exact(show False from q).elim | skip
  cases D4 i;cases D4 g;exact .inr ⟨_,_,rfl,rfl,k _ H _ _ (i5.refl H) .bl op (λ_ h=>(by cases h)) q⟩
 | _=>exact .inl (Kj H v w _ _ A B Q R i g q k)
theorem IM(c:X.A.units+1<cLine)(h:PU X cl a fa ua)(g:PU X cl b fb ub)(d:behindInMarks .In b=false):PU X cl (.Compare a [.In] [b] pos) .fresh (o5 (ck false) ua ub):=bA ((jH.or (AY c)).or CC) vc h g d
theorem jS(c:X.A.units+1<cLine)(h:PU X cl a fa ua)(g:PU X cl b fb ub)(d:behindInMarks .NotIn b=false):PU X cl (.Compare a [.NotIn] [b] pos) .fresh (o5 (ck true) ua ub):=bA ((cJ.or (jC c)).or ke) vc h g d
theorem rF(c:X.A.units+1<cLine)(h:PU X cl a fa ua)(g:PU X cl b fb ub)(d:behindInMarks .In b=false):F0 X cl (.Compare a [.In] [b] pos) (uT (o5 (ck false) ua ub)):=X0 ((jH.or (AY c)).or CC) vc h g d
theorem cZ(c:X.A.units+1<cLine)(h:PU X cl a fa ua)(g:PU X cl b fb ub)(d:behindInMarks .NotIn b=false):F0 X cl (.Compare a [.NotIn] [b] pos) (uT (o5 (ck true) ua ub)):=X0 ((cJ.or (jC c)).or ke) vc h g d
def wD(z:Str):List D:=z.cps.toList.map λc=>.str ⟨#[c]⟩
def T2(u:TU):yH:=λg Q=>u g λd=>match d with
 | .lst c=>Q c
 | .fz c=>Q c
 | .tup c=>Q c
 | .str z=>Q (wD z)
 | _=>False
theorem NR{K:QP}{H:Hp}(z:Str):fY K (MD z) (wD z) [] H:=λu tf k i=>by
 refine⟨λo=>?_,λd e=>?_⟩
 ·show i=z.cps.size;rw[<-o];simp[wD]
 ·unfold wD at e;rw[rz] at e
  cases g:z.cps.toList[i]? with
  | none=>rw[g] at e;cases e
  | some c=>
   rw[g] at e;cases e
   have p:i<z.cps.size:=by
    have:=(List.getElem?_eq_some_iff.mp g).1;simpa using this
   have h:z.cps[i]?=some c:=by simpa using g
   refine⟨p,λx r l=>?_⟩;obtain⟨rfl,q,j,rfl⟩:=l;rw[h] at j;cases j;exact⟨i5.refl _,[],.str,OV _⟩
theorem K4(h:PU X cl e f ua):eY X cl tg e f (T2 ua):=.of<|by
 obtain⟨t,p,h⟩:=h.run;refine⟨_,Ig p,λG u o H fa Q R z E y k=>h G u o H fa _ _ z E y λv i d B s r l q=>?_⟩;cases d<;>first | exact(show False from q).elim | skip
 ·cases D4 r;exact .inl ⟨_,rfl,k _ i _ [] s (NR _) (λa j=>by cases j) (y4.nil _) q⟩
 ·obtain⟨p,vs,rfl,c,g⟩:=M6 r;exact .inr ⟨p,rfl,.inr ⟨vs,T5.of c,k _ i _ _ s (Mb c g) g.there l q⟩⟩
 ·have x:=r;obtain⟨p,vs,C,rfl,c,g,rfl⟩:=K2 r;exact .inr ⟨p,rfl,.inl ⟨vs,P7.of c,k _ i _ _ s (NU c g) (λa j=>x.there j) l q⟩⟩
 ·obtain⟨p,vs,rfl,c,g⟩:=gX r;exact .inr ⟨p,rfl,.inl ⟨vs,c.sq,k _ i _ _ s (Og c g) g.there l q⟩⟩
def Bj:List D->(D->Prop)->Prop
 | [.int i],Q=>Q (.int i)
 | [.bl k],Q=>Q (.int (if k then 1 else 0))
 | [.str x],Q=>x.length<=640/\∃n,PySem.intText? x=some n/\Q (.int n)
 | _,_=>False
theorem Ja:Call3 X GQ Bj:=by
 intro H vs i A Q R r q k;unfold Bj at q;split at q
 ·exact .inl (GX H vs _ A Q R r q k)
 ·exact .inl (GX H vs _ A Q R r q k)
 ·obtain⟨g,n,d,q⟩:=q;obtain⟨v,rfl,c⟩:=r.one;cases D4 c;exact .inr ⟨_,n,rfl,d,g,k _ H _ _ (i5.refl H) .int op (λ_ h=>(by cases h)) q⟩
 ·exact q.elim
end
end L3
namespace L2
open PySem PySem.Spec PyProof.Rows
end L2
namespace L3
open PySem PySem.Spec L2
section
variable{X:Cx}{cl:List Cl}{e a b tg:Expr}{es:QH}{f:Fl}{pos:Pos}{ua ub uc:TU}{ma mb:TM}{fa fb fc:Fl}
end
end L3
namespace L2
open PySem PySem.Spec PyProof.Rows
def LQ(h:Heap)(e:Addr)(cls d:Value)(T:Addr):Prop:=
 ∃a vs c b,h.get? e=some a/\a.cls=cls/\vs[0]?=some d/\a.data=.fields vs/\vs[1]?=some (.ref T)/\T≠e/\h.get? T=some c/\c.data=.fields b/\b[3]?=some .none
structure HQ(l:List Env)(old:QE)(h h':Heap)(e:Addr)(cls a0:Value)(T:Addr):Prop where
 keep:∀b o,h.get? b=some o->b≠e->b∉old->b∉W4 l->h'.get? b=some o
 slot:∀b o,h.get? b=some o->b∈W4 l->∃sl,h'.get? b=some { o with slots:=sl }
 je:LQ h' e cls a0 T
 new:T∈old\/h.get? T=none
section
variable{M:Model}{A:Around}{E:QN}{s:Shared}{base:Heap}{env:Env}{outer:List Env}{L e:Addr}{Q:Unit->Shared->Prop}
end
theorem u3.is{P:Program}{w:World}{H:Hp}{h:Heap}{a:Addr}{o:HO}(x:u3 P w H h a o):∃u,h.get? a=some u:=by
 cases o with
 | lst c=>obtain⟨_,_,_,_,e⟩:=x;exact⟨_,e⟩
 | tup c=>obtain⟨_,_,_,⟨o,e,_⟩⟩:=x;exact⟨_,e⟩
 | dK b=>obtain⟨_,_,_,_,o,_,_,e,_⟩:=x;exact⟨_,e⟩
 | dE b j=>obtain⟨_,_,_,_,o,_,e,_⟩:=x;exact⟨_,e⟩
 | dN b=>obtain⟨_,_,_,_,o,_,_,e,_⟩:=x;exact⟨_,e⟩
 | dT b=>obtain⟨_,_,_,_,o,_,_,e,_⟩:=x;exact⟨_,e⟩
 | set S n=>obtain⟨o,_,_,_,e,_⟩:=x;exact⟨_,e⟩
 | ins C l fs=>obtain⟨_,_,_,e,_⟩:=x;exact⟨_,e⟩
 | own y=>exact x
 | xd fs=>obtain⟨_,⟨_,_,_,e,_⟩,_⟩:=x;exact⟨_,e⟩
 | rng lo i=>obtain⟨_,_,_,e⟩:=x;exact⟨_,e⟩
 | frz ob u=>obtain⟨e,_⟩:=x;exact⟨_,e⟩
 | tbl g=>exact⟨_,(show h.get? a=some _ from x)⟩
 | met f y=>exact⟨_,(show h.get? a=some _ from x)⟩
 | ext d=>exact x.2.1
theorem R5.none_of{P:Program}{w:World}{H:Hp}{h:Heap}{a:Addr}(x:R5 P w H h)(e:h.get? a=none):H a=none:=by
 cases q:H a with
 | none=>rfl
 | some o=>
  obtain⟨u,b⟩:=(x a o q).is;rw[e] at b;cases b
theorem R5.wc{P:Program}{w:World}{H:Hp}{h h':Heap}(x:R5 P w H h)(k:∀b u,H b≠none->h.get? b=some u->h'.get? b=some u):R5 P w H h':=λa o e=>
 (x a o e).lS (λb u c q=>k b u (c.elim (λc=>by rw[c,e];intro z;cases z) λc=>by rw[c];intro z;cases z) q) (λ_ q=>q) λ_ _ q=>q
theorem DF{P:Program}{w:World}{env:Env}{outer:List Env}{L e T:Addr}{old:QE}{H c:Hp}{h v r:Heap}{cls Y:Value}(M:env.frame=some L)(U:Un (W4 outer) [] H c h v)(ok:R5 P w c v)
  (X:h.get? L=none) (S:h.get? e=none) (J:∀b∈old,h.get? b=none) (O:c L=none) (te:c e=none) (I:∀b∈old,c b=none) (tf:∀b∈W4 outer,c b=none)
  (g:HQ (env::outer) old v r e cls Y T):Un (W4 outer) [] H c h r/\R5 P w c r/\c T=none/\h.get? T=none:=by
 have y:∀b,b∈W4 (env::outer)->b=L\/b∈W4 outer:=λb a=>by
  unfold W4 at a;rw[Op,M] at a;exact List.mem_cons.mp a
 have l:∀b,b∈W4 outer->b∈W4 (env::outer):=λb a=>by
  unfold W4 at a ⊢;rw[Op,M];exact ol _ a
 have G:∀b o,v.get? b=some o->b≠L->b≠e->b∉old->b∉W4 outer->r.get? b=some o:=λb o a n1 n2 p Q=>g.keep b o a n2 p λz=>(y b z).elim n1 Q;have st:∀b o,h.get? b=some o->b≠L/\b≠e/\b∉old:=λb o a=>⟨λz=>(by rw[z,X] at a;cases a),λz=>(by rw[z,S] at a;cases a),λz=>(by rw[J b z] at a;cases a)⟩
 refine⟨⟨λb o a C d _=>?_,λb o a C d B=>?_,U.free,λb o a B=>?_,U.D5,U.frzs,U.tbls,U.low⟩,ok.wc λb u a R=>?_,?_,?_⟩
 ·obtain⟨n1,n2,p⟩:=st b o a;exact G b o (U.keep b o a C d (by simp)) n1 n2 p d
 ·obtain⟨sl,i⟩:=U.slot b o a C d B;obtain⟨j,E⟩:=g.slot b _ i (l b d);exact⟨j,E⟩
 ·obtain⟨n1,n2,p⟩:=st b o a;obtain⟨x,i⟩:=U.there b o a B
  by_cases d:b∈W4 outer
  ·obtain⟨j,E⟩:=g.slot b _ i (l b d);exact⟨_,E⟩
  ·exact⟨x,G b x i n1 n2 p d⟩
 ·exact G b u R (λz=>a (z▸O)) (λz=>a (z▸te)) (λz=>a (I b z)) λz=>a (tf b z)
 ·rcases g.new with z | z
  ·exact I T z
  ·exact ok.none_of z
 ·rcases g.new with z | z
  ·exact J T z
  ·cases q:h.get? T with
   | none=>rfl
   | some o=>
    obtain⟨x,i⟩:=U.there T o q (by simp);rw[z] at i;cases i
section
variable{P:Program}{w:World}{K:QP}{mg:QL}{base:Heap}{N:QF}{qual:Str}{scope:Scope}{f:Addr}{cd:Value}{A:Around}{outer:List Env}{s:Shared}{H:Hp}{E:XK}
 {pins:QA} {σ:St} {H1:Hp} {s1:Shared}
theorem wM:s.heap.get? s.heap.objs.size=none:=by
 cases e:s.heap.get? s.heap.objs.size with
 | none=>rfl
 | some o=>exact absurd (oD e) (Lf _)
end
section
variable{M:Model}{A:Around}{E:QN}{s:Shared}{base:Heap}{env:Env}{outer:List Env}{L e:Addr}{Q:Unit->Shared->Prop}
end
theorem xp{P:Program}{w:World}{l:List Env}{e T:Addr}{old:QE}{H d:Hp}{h C B:Heap}{cls M:Value}(U:Un (W4 l) [] H d h C)(ok:R5 P w d C)
  (J:h.get? e=none) (G:∀b∈old,h.get? b=none) (te:d e=none) (E:∀b∈old,d b=none) (tf:∀b∈W4 l,d b=none)
  (g:HQ l old C B e cls M T):Un (W4 l) [] H d h B/\R5 P w d B/\d T=none/\h.get? T=none:=by
 have st:∀b o,h.get? b=some o->b≠e/\b∉old:=λb o a=>⟨λz=>(by rw[z,J] at a;cases a),λz=>(by rw[G b z] at a;cases a)⟩
 refine⟨⟨λb o a x c _=>?_,λb o a x c v=>?_,U.free,λb o a v=>?_,U.D5,U.frzs,U.tbls,U.low⟩,ok.wc λb u a I=>?_,?_,?_⟩
 ·obtain⟨n2,r⟩:=st b o a;exact g.keep b o (U.keep b o a x c (by simp)) n2 r c
 ·obtain⟨O,i⟩:=U.slot b o a x c v;obtain⟨j,y⟩:=g.slot b _ i c;exact⟨j,y⟩
 ·obtain⟨n2,r⟩:=st b o a;obtain⟨p,i⟩:=U.there b o a v
  by_cases c:b∈W4 l
  ·obtain⟨j,y⟩:=g.slot b _ i c;exact⟨_,y⟩
  ·exact⟨p,g.keep b p i n2 r c⟩
 ·exact g.keep b u I (λz=>a (z▸te)) (λz=>a (E b z)) λz=>a (tf b z)
 ·rcases g.new with z | z
  ·exact E T z
  ·exact ok.none_of z
 ·rcases g.new with z | z
  ·exact G T z
  ·cases q:h.get? T with
   | none=>rfl
   | some o=>
    obtain⟨p,i⟩:=U.there T o q (by simp);rw[z] at i;cases i
section
variable{M:Model}{A:Around}{E:QN}{h:Heap}{g:Array GenState}{d:Drawn}{t:Nat}{os:OsState}{e C C':Addr}{oe:Obj}{Q:Bool->Shared->Prop}
 {nm q:Str} {N:Addr} {bs bm:QG} {hdct:Bool} {sn:QF} {sub:QG} {ab:Bool} {col:Option Bool} {dd:Option Addr} {k0 k1 k2 k3 k5:QQ} {newId:String}
 {nm' q':Str} {N':Addr} {bs' bm':QG} {hdct':Bool} {sn':QF} {sub':QG} {ab':Bool} {col':Option Bool} {dd':Option Addr} {k0' k1' k2' k3' k5':QQ} {newId':String}
theorem jo(p:h.get? C=some (excClassObj nm q C N bs bm hdct sn sub ab col dd k0 k1 k2 k3 k5 newId))(c:h.get? C'=some (excClassObj nm' q' C' N' bs' bm' hdct' sn' sub' ab' col' dd' k0' k1' k2' k3' k5' newId'))(l:h.get? e=some oe)(b:oe.cls=.ref C)
  (a:bm'.contains (.type "BaseException")=true) (j:Q ((Value.ref C::bm).contains (.ref C')) ⟨h,g,d,t,os⟩):wpAny M A (excMatches (.ref e) (.ref C')) Q E ⟨h,g,d,t,os⟩:=by
 have i:(Value.ref C'::bm').contains (.type "BaseException")=true:=by rw[Pp,a,PB]
 have f:=tc_notTuple;unfold excMatches
 repeat (first | (with_reducible refine Ix l ?_;rw[b]) | with_reducible refine Ix c ?_ | (with_reducible refine OK c ?_;rw[i]) | with_reducible refine OK p ?_ | wp_step)
 cases o:(Value.ref C::bm).contains (.ref C')<;>(rw[o] at j;wp_walk;exact j)
end
def Cx.N0(X:Cx)(e:Addr)(a:Obj)(F:QN):Cx:={ X with A:=X.A.mark (some (.ref e)),calm:=false,pn:=X.pn++[(e,a)],xe:=F }
section
variable{X:Cx}{pins:QA}{σ:St}{H:Hp}{s:Shared}{e:Addr}{oe:Obj}{F:QN}
theorem Cx.Ok.N0(ok:X.Ok):(X.N0 e oe F).Ok:=
 ⟨ok.mod,ok.kind,ok.glob,ok.blt,ok.above,ok.inj,ok.has,ok.cab,λz=>absurd (show false=true from z) nT,ok.frames,ok.stk,ok.exf,ok.bs,ok.bsz,ok.noex,ok.exfs,ok.dh,ok.frf,ok.sy⟩
theorem Inv.N0(I:Inv X pins σ H s)(h:s.heap.get? e=some oe)(g:H e=none)(d:e≠X.env.locals)(c:e∉X.fs)(b:∀v,oe.data≠.cell v):Inv (X.N0 e oe F) pins σ H s:=by
 refine⟨I.ok.N0,I.os,I.bare,I.base,I.loc,I.cell,I.free,I.freeC,λp a=>?_,I.hok,I.len⟩;have a:p∈(X.pn++[(e,oe)])++pins:=a;rcases List.mem_append.mp a with z | z
 ·rcases List.mem_append.mp z with z | z
  ·exact I.pin p (sd _ z)
  ·rw[List.mem_singleton.mp z];exact⟨h,g,d,c,b⟩
 ·exact I.pin p (iL _ z)
theorem Inv.uncaught(ok:X.Ok)(I:Inv (X.N0 e oe F) pins σ H s):Inv X pins σ H s:=by
 refine⟨ok,I.os,I.bare,I.base,I.loc,I.cell,I.free,I.freeC,λp a=>I.pin p ?_,I.hok,I.len⟩;show p∈(X.pn++[(e,oe)])++pins;rcases List.mem_append.mp a with z | z
 ·exact sd _ (sd _ z)
 ·exact iL _ z
end
structure HJ(X:Cx)(pins:QA)(σ:St)(H:Hp)(s:Shared)(e T:Addr)(cls a0:Value):Prop where
 inv:Inv X pins σ H s
 je:LQ s.heap e cls a0 T
 te:H e=none
 tT:H T=none
 from_:∃H1 s1,Inv X pins σ H1 s1/\s.os=s1.os/\AllBare s.gens/\Un (W4 X.stack) [] H1 H s1.heap s.heap/\s1.heap.get? e=none/\s1.heap.get? T=none
section
variable{X:Cx}{pins:QA}{σ:St}{H:Hp}{s:Shared}{e T:Addr}{cls a0:Value}{E:XK}{x:Value}{Q:Unit->Shared->Prop}{M:Model}{A:Around}{E2:QN}
theorem LQ.apart{base:Heap}{l:List Env}{h:Heap}(f:LQ h e cls a0 T)(d:h.FunFrames base l):e∉W4 l/\T∉W4 l:=by
 obtain⟨q,vs,r,g,i,u,B,hd,y,j,p,c,v⟩:=f;refine⟨λz=>?_,λz=>?_⟩
 ·obtain⟨_,o,a,b⟩:=d.mem z;rw[i] at a;cases a;exact b vs hd
 ·obtain⟨_,o,a,b⟩:=d.mem z;rw[p] at a;cases a;exact b g c
theorem HJ.pin(a:HJ X pins σ H s e T cls a0){F:QN}:∃c,c.cls=cls/\Inv (X.N0 e c F) pins σ H s:=by
 have y:=a.je.apart a.inv.stack;obtain⟨c,vs,l,j,g,h,p,hd,_⟩:=a.je;refine⟨c,h,a.inv.N0 g a.te (λz=>?_) (λz=>?_) λv z=>by rw[hd] at z;cases z⟩
 ·obtain⟨m,⟨o,r,u,d,b,_⟩,_⟩:=a.inv.loc;rw[<-z,g] at d;cases d;rw[hd] at b;cases b
 ·have i:s.heap.FunFrames X.base X.outer:=by
   rcases a.inv.ok.stk with q | ⟨q,_⟩
   ·rw[<-q];exact a.inv.stack
   ·have:=a.inv.stack;rw[q] at this;exact this.2.2
  exact(a.je.apart i).1 z
end
section
variable{X:Cx}{pins:QA}{σ:St}{H:Hp}{s:Shared}{i:Nat}{n:Str}{M:Model}{A:Around}{E:QN}{Q:Unit->Shared->Prop}
theorem Inv.Mu(I:Inv X pins σ H s)(hN:X.N.Nodup)(hi:X.N[i]?=some n)(G:X.env.scope.names.lookup n=some .local){v:V}(U:σ[i]?=some (some v))(h:∀s',Inv X pins (σ.set i none) H s'->Q () s'):wpAny M A (unbindName X.env n) Q E s:=by
 obtain⟨m,Y,hl⟩:=id I.loc;have B:(X.env.scope.kind == .class||(X.env.scope.kind == .module&&X.env.locals != X.env.globals))=false:=by rw[I.ok.kind];rfl
 have x:i<σ.length:=(List.getElem?_eq_some_iff.mp U).1;have As:=I.As;obtain⟨u,r,lk⟩:=hl i n v hi U (.inl G)
 have hm:m n=some u:=by
  rcases lk with⟨_,q⟩ | ⟨q,_⟩
  ·exact q
  ·rcases q with q | q
   ·rw[show X.env.kindOf n=X.env.scope.names.lookup n from rfl,G] at q;cases q
   ·rw[show X.env.kindOf n=X.env.scope.names.lookup n from rfl,G] at q;cases q
 refine wpAny_unbindName_local G Y hm B λh' O R a=>?_;obtain⟨oL,_,_,a0,_⟩:=id Y;refine h _ ⟨I.ok,I.os,I.bare,⟨λb o e n C l=>?_,λb o e n C l=>?_,I.base.free,λb o e l=>?_,I.base.D5,I.base.frzs,I.base.tbls,I.base.low⟩,⟨_,R,λj y v' g J e3=>?_⟩,λy c e=>?_,I.free,I.freeC,λp hp=>?_,R5.wc I.hok λb u C hu=>(a.2 b λz=>C (z▸I.free)).trans hu,by simpa using I.len⟩
 ·exact(a.2 b (sx (re (oD e) I.ok.above))).trans (I.base.keep b o e n C l)
 ·obtain⟨sl,g⟩:=I.base.slot b o e n C l;exact⟨sl,(a.2 b (sx (re (oD e) I.ok.above))).trans g⟩
 ·obtain⟨o',g⟩:=I.base.there b o e l;exact⟨o',(a.2 b (sx (re (oD e) I.ok.above))).trans g⟩
 ·by_cases S:j=i
  ·subst S;rw[sm x] at J;cases J
  ·rw[sf (wh S)] at J;obtain⟨T,r',q⟩:=hl j y v' g J e3;refine⟨T,r',?_⟩;rcases q with⟨k,e⟩ | ⟨k,c,e,z⟩
   ·refine .inl ⟨k,?_⟩;have:y≠n:=λe=>S (iW hN g (e▸hi));show(if y=n then O else m y)=some T;rw[qc this];exact e
   ·exact .inr ⟨k,c,e,z.sameBut a (As y c e)⟩
 ·obtain⟨O,z⟩:=I.cell y c e;exact⟨O,z.sameBut a (As y c e)⟩
 ·obtain⟨e,n,ne,nf,d⟩:=I.pin p hp;exact⟨(a.2 p.1 ne).trans e,n,ne,nf,d⟩
theorem Inv.bW{b:Pos}(I:Inv X pins σ H s)(e:X.N.Nodup)(d:X.N[i]?=some n)(c:X.env.scope.names.lookup n=some .local)(h:∀s',Inv X pins (σ.set i none) H s'->Q () s') :
  wpAny M A (do bindName X.env n .none;unbindBehindTheSuite X.env n b) Q E s:=by
 have a:i<σ.length:=by rw[I.len];exact(List.getElem?_eq_some_iff.mp d).1
 refine cB (wpAny_bindName (R8 (v:=.p7) I e d (.inl c) rfl (λl j _=>?_) (.inr c)));unfold unbindBehindTheSuite;refine Pf (j.Mu e d c (sm a) λs' g=>h s' ?_);rw[List.set_set] at g;exact g
end
def Under(base:Heap)(C B:Addr)(b:Bool):Prop:=
 (∃nm q N bs e c g sub r d p o l j i h a,base.get? C=some (excClassObj nm q C N bs e c g sub r d p o l j i h a)/\(Value.ref C::e).contains (.ref B)=b) /\
 ∃nm q N bs e c g sub r d p o l j i h a,base.get? B=some (excClassObj nm q B N bs e c g sub r d p o l j i h a)/\e.contains (.type "BaseException")=true
end L2
namespace L3
open PySem PySem.Spec PySem.Calls PyProof.Rows L2
abbrev NT:=List D->(D->Prop)->(Str->Prop)->Prop
def calm(c:NT):Cp:=λa Q=>c a Q λ_=>False
section
variable{X:Cx}{cl:List Cl}{e:Expr}{es:QH}{pos p:Pos}{us:bS}{k:Nat}{fn:Addr}{fd:FuncData}{ps:QF}{x:Str}
end
theorem E3.unset{K:QP}{G:Ent}{p:Ev}{σ:L2.St}{H:Hp}{g:QO}(E:E3 K G p σ H g)(i:Nat)(x:¬G.own i):E3 K G (p.set i none) (σ.set i none) H (λj=>if j=i then[] else g j):=by
 have o:∀j,G.own j->j≠i:=λj c e=>x (e▸c);refine⟨λj d e=>?_,λj e=>?_,by simp[E.len],λj c=>?_,λj l n c a b=>?_,λj c h=>?_,λj c h a b=>?_,λj c a b=>?_,E.frm,E.stb,E.zk,E.zn,λj c a b=>?_,E.po⟩
 ·by_cases q:j=i
  ·subst q
   by_cases u:j<p.length
   ·rw[sm u] at e;cases e
   ·rw[L0 (by simpa using u)] at e;cases e
  ·rw[sf (wh q)] at e;obtain⟨v,y,r⟩:=E.rep j d e;refine⟨v,by rw[sf (wh q)];exact y,?_⟩;rw[qc q];exact r
 ·show(if j=i then[] else g j)=[]
  by_cases q:j=i
  ·rw[qq q]
  ·rw[qc q];refine E.emp j λd z=>e d ?_;rw[sf (wh q)];exact z
 ·show(if j=i then[] else g j).Nodup
  by_cases q:j=i
  ·rw[qq q];exact op
  ·rw[qc q];exact E.nd j c
 ·have b:a∈(if j=i then[] else g j):=b;rw[qc (o j c)] at b;show a∉(if l=i then[] else g l)
  by_cases q:l=i
  ·rw[qq q];intro z;cases z
  ·rw[qc q];exact E.dj j l n c a b
 ·rw[sf (wh (o j h))];exact E.par j c h
 ·have b:a∈(if j=i then[] else g j):=b;rw[qc (o j h)] at b;exact E.old j c h a b
 ·have b:a∈(if j=i then[] else g j):=b
  by_cases q:j=i
  ·rw[qq q] at b;cases b
  ·rw[qc q] at b;exact E.new j c a b
 ·have b:a∈(if j=i then[] else g j):=b;rw[qc (o j c)] at b;exact E.zo j c a b
theorem Oh{CX:tV}{Wt:Type}{Wi:Wt->Hp->XK->Prop}{P:Program}{w:World}{K:QP}{mg:QL}{base:Heap}{x p:Str}{st:Stmt}{f:Addr}{fd:FuncData}{N ps:QF}{k:Nat}{c:List D->(D->Prop)->Wt->Prop}{s:Wt->i6}{cl:List Cl}(F:S6 K x p st f fd)(S:j2 N ps (e6 st))(T:noOwn cl ps.length=true)
  (hl:∀ds Q W,c ds Q W->ds.length=ps.length)
  (hb:∀(W:Wt) (u:Value) (A:Around) (outer:List Env) (X:Shared) (H:Hp) (E:XK),D3 k (A.deeper (envOfC p (e6 st) X.heap.objs.size f u))->Wi W H E->jc (bX CX P w K mg base N p (e6 st) f u A outer X H E) (cl++[.mk H]) (E7 st) (s W))
  (hc:∀ds Q W,c ds Q W->s W { nx:=λ_=>Q .p7,rt:=λd _=>Q d } (i8 N.length ds)):w6 P w K mg base CX (k+1) f fd ps (λvs H Q E=>∃ds A M W,j8 K H vs ds A/\c ds M W/\(∀r v l B,M r->i5 H l->Rep K l v r B->B.Nodup->(∀a∈B,H a=none)->Q v l)/\Wi W H E):=by
 obtain⟨oc,od,kV,a7,pm,an,u,ct,a6,rfl,lk,a3⟩:=F.ex;refine GG lk a3 S (λvs H Q E h=>?_) λA outer X H vs Q E hr h=>?_
 ·obtain⟨ds,A,M,W,r,q,_⟩:=h;rw[r.length];exact hl ds M W q
 ·obtain⟨ds,B,M,W,r,q,kk,wi⟩:=h;have R:=hl ds M W q;obtain⟨t,pt,h⟩:=(hb W u A outer X H E hr wi).run;obtain⟨fa,h1,Y⟩:=r.each
  let G:Ent:=⟨H,λ_=>[],vs,cl++[.mk H],λ_=>False,H⟩
  have vl:vs.length=ps.length:=r.length.trans R
  have bor:∀i,i<vs.length->(cl++[Cl.mk H])[i]?=some .bor:=λi b=>by
   have q:=aU T (show i<ps.length by omega);rw[ri (List.getElem?_eq_some_iff.mp q).1];exact q
  have g:∀i,i<vs.length->¬G.own i:=λi b z=>by
   have y:(cl++[Cl.mk H])[i]?=some .own:=z;rw[bor i b] at y;cases y
  have U:∀i,G.own i->fa i=[]:=λi b=>Y i (by
   have q1:¬i<vs.length:=λq=>g i q b;have q2:=r.length;omega)
  have a2:∀(j:Nat) (l:Hp),(cl++[Cl.mk H])[j]?=some (.mk l)->l=H:=λj l e=>by
   by_cases hj:j<cl.length
   ·rw[ri hj] at e;exact(cu T e).elim
   ·rw[t5 (by omega)] at e
    cases hk:j-cl.length with
    | zero=>rw[hk] at e;cases e;rfl
    | succ m=>rw[hk] at e;cases e
  have E0:E3 K G (i8 N.length ds) (L2.start N vs) H fa:=by
   refine⟨λi d e=>?_,λi e=>Y i ?_,bM r.length.symm,λi b=>?_,λi j _ b a J=>?_,λi b I=>absurd I (g i b),λi b I=>absurd I (g i b),λi b a J=>?_,λa o h _=>h,W3.refl H,λa z=>z.elim,λa z=>z.elim,λi _ a _ z=>z,⟨λi b I=>absurd I (g i b),λj l e a o a4=>?_⟩⟩
   ·obtain⟨v,e1,r1⟩:=h1 i d (bF e);exact⟨v,G9 e1,r1⟩
   ·by_cases b:i<ds.length
    ·exact absurd (aV (hL b)) (e _)
    ·omega
   ·rw[Y i (by
     by_cases q:i<ds.length
     ·rcases b with b | b
      ·exact absurd b (g i (by have:=r.length;omega))
      ·have y:(cl++[Cl.mk H])[i]?=some .loc:=b;rw[bor i (by have:=r.length;omega)] at y;cases y
     ·omega)];exact op
   ·rw[U i b] at J;cases J
   ·rcases b with b | b
    ·have:¬i<vs.length:=λq=>by
      have y:(cl++[Cl.mk H])[i]?=some .loc:=b;rw[bor i q] at y;cases y
     rw[Y i (by have:=r.length;omega)] at J;cases J
    ·rw[U i b.1] at J;cases J
   ·have e:l=H:=a2 j l e;subst e;exact⟨a4,λi b I=>absurd I (g i b)⟩
  refine⟨t,pt,h G _ _ _ H fa _ rfl E0 (hc ds M W q) ⟨λa0 l C=>?_,λv l C=>?_,λ_ _ z=>?_,λ_ _ z=>?_⟩⟩
  ·obtain⟨a1,a5,E',C⟩:=C;exact kk .p7 .p7 l [] C (E'.kept (j:=cl.length) (show(cl++[Cl.mk H])[cl.length]?=some (.mk H) from by rw[t5 (hI _),Om];rfl)) .p7 op (λ_ h=>(by cases h))
  ·obtain⟨d,a1,a0,a5,B',E',r',n',O,_,C⟩:=C;exact kk d v l B' C (E'.kept (j:=cl.length) (show(cl++[Cl.mk H])[cl.length]?=some (.mk H) from by rw[t5 (hI _),Om];rfl)) r' n' O
  ·obtain⟨_,_,_,z⟩:=z;exact z
  ·obtain⟨_,_,_,z⟩:=z;exact z
section
variable{X:Cx}{cl:List Cl}{e:Expr}{es:QH}{pos cpos hpos np p:Pos}{us:bS}{k:Nat}{fn:Addr}{fd:FuncData}{ps:QF}{x y bn n:Str}{i:Nat}
end
end L3
namespace PySem.W
open PySem PySem.Calls PyProof.Rows Builtin Builtin.ObjectAttr Builtin.Getset_descriptor
section
variable{K:Frag}{prog:Program}{w:World}{A:Around}{E:QN}{s:Shared}{e D:Addr}{oe:Obj}
theorem BE {M:Model} {h:Heap} (X:K.In h) {name:Str} {a g:Value} (d:findIn K (.ref D) name=some (some a)) (c:specialIn K a "__get__"=some (some g)) (b:takesIn K a=some true) :
  Looks M h (find (.ref e) (.ref D) name) (.bind g a):=by
 have i:=OP (M:=M) X d;have L2:Looks M h (getOf (some a)) (some g):=looks_specialIn X c;have L3:=looks_takesIn (M:=M) X b;refine i.andThen (L2.andThen ?_);exact(show Looks M h (dataDescriptor? (some a) (some g)) (some (g,a)) from L3.andThen .now).andThen (Looks.tag .now)
end
theorem zI:builtinKind "BaseException.__getattribute__"=some .slot:=by decide +kernel
theorem wt:splitId "BaseException.__getattribute__"=some ("BaseException","__getattribute__"):=by decide +kernel
theorem ki:plainId "BaseException.__getattribute__"=true:=by decide +kernel
theorem pQ(v:Value):bindSpecial (.builtin "BaseException.__getattribute__") v=pure (.builtin "BaseException.__getattribute__",[v]):=by kernel_rfl
section
variable{K:Frag}{prog:Program}{w:World}{A:Around}{E:QN}{s:Shared}{e D:Addr}{oe:Obj}
theorem jF {M:Model} {b:Value} {h:Heap} {g:Array GenState} {d:Drawn} {t:Nat} {os:OsState} {Q:Unit->Shared->Prop} (j:Looks M h (typeOf (.ref e)) (.ref D)) (i:Looks M h (isSubtype (.ref D) (.type "BaseException")) true)
  (c:Q () ⟨h,g,d,t,os⟩):wpAny M A (checkBuiltinCall "BaseException.__getattribute__" ⟨[.ref e,b],[]⟩) Q E ⟨h,g,d,t,os⟩:=by
 have a:=F.args_bexc_ga (.ref e) b;simp only[checkBuiltinCall,zI,wt];refine cB ?_;unfold isInstance;refine cB (j.at (i.at ?_));refine wpAny_of_eq (show _=pure () from ?_) c;unfold argsOk at a
 revert a
 generalize Manifest.signature? "BaseException.__getattribute__"=o;intro a;cases o<;>exact a
theorem xY {Q:QQ->Shared->Prop} (c:findIn K (.ref D) "__getattribute__"=some (some (.builtin "BaseException.__getattribute__"))) (b:findIn K (.ref D) "__getattr__"=some none)
  (r:findIn K (.ref D) "__class__"=some (some (.builtin "object.__class__")))
  (i:specialIn K (.builtin "object.__class__") "__get__"=some (some (.builtin "getset_descriptor.__get__"))) (a:takesIn K (.builtin "object.__class__")=some true) (j:mroIn K D (.type "object")=some true) (q:mroIn K D (.type "BaseException")=some true)
  (X:K.In s.heap) (o:s.heap.get? e=some oe) (p:oe.cls=.ref D) (h:Q (some (.ref D)) { s with toks:=s.toks+1 }):wpAny (model prog w) A (getAttr? (.ref e) "__class__") Q E s:=by
 obtain⟨l,y,d,t,os⟩:=s;have g:Looks (model prog w) l (typeOf (.ref e)) (.ref D):=p▸(Looks.ld o).andThen .now;have x:=OP (M:=model prog w) X c;have L2:=OP (M:=model prog w) X b;have u:=BE (e:=e) (M:=model prog w) X r i a;have z:=looks_mroIn (M:=model prog w) X j;have v:=looks_mroIn (M:=model prog w) X q;unfold getAttr? getAttrBy? getAttrBy;refine cB (wpAny_mkText (cB (OE (u7 (cB (g.at (cB (x.at ?_))))))));show wpAny _ _ (getAttrByItsOwn _ _ _ _ _ _) _ _ _;unfold getAttrByItsOwn hookBefore;refine cB (L2.at ?_);refine cB (OE (u7 ?_));show wpAny _ _ (boundAndCalled _ _ _) _ _ _;unfold boundAndCalled;refine cB (wpAny_of_eq (pQ _) ?_);show wpAny _ _ (call (.builtin "BaseException.__getattribute__") [.ref e,.str "__class__" t]) _ _ _;refine OA (OG ki F.entry_bexc_ga (jF g v ?_));unfold Builtin.«object.__getattribute__»;refine cB (hH (cB (hH (cB (g.at (cB (u.at ?_)))))));show wpAny _ _ (bindTo _ _ (.ref e) (.ref D)) _ _ _;unfold bindTo;refine cB (u7 (OA ?_));refine OG KF.slot_gs.plain KF.entry_gs (KF.slot_gs.check _ _ _ _ _ _ _ _ KF.type_class (KF.args_gs _ _ _) ?_);unfold Builtin.«getset_descriptor.__get__» descrGet;rw[dga_obj];refine cB (hH ?_);unfold descrGetter descrCheckInstance descrNameAndClass isInstance;simp only[KF.owner_class]
 repeat lk
 refine⟨PX _ (by decide +kernel),codeAny_builtin KF.entry_class ?_⟩;unfold Builtin.«object.__class__» shownTypeOf
 repeat lk
 exact h
end
end PySem.W
namespace PySem.W
open PySem PySem.Calls PyProof.Rows
structure bh(K:Frag)(D:Addr):Prop where
 ga:findIn K (.ref D) "__getattribute__"=some (some (.builtin "BaseException.__getattribute__"))
 gn:findIn K (.ref D) "__getattr__"=some none
 cl:findIn K (.ref D) "__class__"=some (some (.builtin "object.__class__"))
 sp:specialIn K (.builtin "object.__class__") "__get__"=some (some (.builtin "getset_descriptor.__get__"))
 tk:takesIn K (.builtin "object.__class__")=some true
 ob:mroIn K D (.type "object")=some true
 be:mroIn K D (.type "BaseException")=some true
section
variable{K:Frag}{D e:Addr}
theorem bh.at(B:bh K D):∃c d b a,K.lookup D=some ⟨c,d,.cls b,a⟩:=by
 have h:=B.ob;unfold mroIn clsIn at h;split at h
 ·rename_i c d b a g
  exact⟨_,_,_,_,g⟩
 ·cases h
theorem yP(B:bh K D):KitX K (.ref e) (.ref D) (λh=>∃a,h.get? e=some a/\a.cls=.ref D) where
 ty:=λM h _ ⟨a,i,j⟩=>j▸(Looks.ld i).andThen .now
 it:=λ_ _ X _=>by
  obtain⟨c,d,r,o,g⟩:=B.at;intro E y C v k q;unfold isType loadHead;exact cB (Oz (k _ _ (X _ _ g)) (hH q))
 ne:=λh u x p n o X b=>by
  obtain⟨c,d,r,l,g⟩:=B.at;refine Bool.eq_false_iff.mpr λq=>?_;cases Value.ref.inj (beq_iff_eq.mp q);have z:=(X _ _ g).symm.trans b;cases z
 ca:=λX ⟨a,i,j⟩ k=>xY B.ga B.gn B.cl B.sp B.tk B.ob B.be X i j k
theorem Ed{h:Heap}{C:Addr}{c:QG}{newId:String}(X:K.In h)(q:excIn K C c newId=true) :
  ∃bm N nm d bs hd sn sub ab col dd k0 k1 k2 k3 k5 o,h.get? C=some (excClassObj nm d C N bs bm hd sn sub ab col dd k0 k1 k2 k3 k5 newId)/\h.Ns N o/\o "__init__"=none/\OwnTail h c bm/\∀v r,mroIn K C v=some r->(Value.ref C::bm).contains v=r:=by
 unfold excIn at q;split at q
 case h_2=>cases q
 rename_i dd E j p
 split at q
 case h_2=>cases q
 rename_i u bm k0 k1 k2 k3 n k5 i z
 simp only[hD,beq_iff_eq,Bool.not_eq_true'] at q;obtain⟨⟨⟨⟨⟨rfl,rfl⟩,a⟩,y⟩,hok⟩,b⟩:=q
 have x:∀v r,mroIn K u v=some r->(Value.ref u::bm).contains v=r:=λv r e=>by
  unfold mroIn clsIn at e;rw[p] at e;simp only[PC,i,List.isEmpty_cons] at e;exact tL e
 obtain⟨nm,bs,mro,ns,d,hd,sn,sub,ab,col,B⟩:=E;dsimp only at i a hok b;subst i a
 have g:j=#[k0,k1,k2,k3,some (.builtin n),k5]:=by
  obtain⟨l⟩:=j;exact wv Array.mk z
 subst g;exact⟨bm,ns,nm,d,bs,hd,sn,sub,ab,col,dd,k0,k1,k2,k3,k5,_,X _ _ p,.of_isNs (isNs_of_in X hok),nsMap_none_of_in X hok b,tail_of_in X y,x⟩
end
end PySem.W
namespace L3
open PySem PySem.Spec PySem.Calls PyProof.Rows PySem.W L2
section
variable{X:Cx}{cl:List Cl}{e C:Addr}{oe:Obj}{pos p p1 p2:Pos}{n y:Str}{i:Nat}{b:Bool}
theorem CP(v:(e,oe)∈X.pn)(E:oe.cls=.ref C)(B:bh X.K C):K8 X (.builtin "isinstance") (λxs H Q=>∃c cv b,xs=[.ref e,c]/\rV c=some cv/\kitOne X.K (.ref C) cv=some b/\Q (.bl b) H):=by
 intro j s J H xs M Q I r h;obtain⟨c,cv,b,rfl,d,x,q⟩:=h;obtain⟨u,l,rfl,o,g⟩:=vals2 r
 have G:l=cv:=by
  cases c with
  | ty n=>cases d;exact g
  | ref a=>cases d;exact g
  | _=>cases d
 subst G;cases(show u=Value.ref e from o);exact kia_one (yP B) I.cU ⟨oe,(I.pin _ (sd _ v)).1,E⟩ x (λz=>nomatch z) λtk=>⟨.bl b,H,I.tok tk,rfl,q⟩
theorem nR:∀{vs:List V} {d cs:QG},Vals vs d->vs.map rV=cs.map some->d=cs
 | [],_,[],.nil,_=>rfl
 | [],_,_::_,.nil,h=>by cases h
 | v::vs,_,[],.cons _ _,h=>by cases h
 | v::vs,_,c::cs,.cons r t,h=>by
  rw[rl,rl,List.cons.injEq] at h;rw[nR t h.2];congr 1
  cases v with
  | ty n=>cases h.1;exact r
  | ref a=>cases h.1;exact r
  | _=>cases h.1
theorem xE(M:(e,oe)∈X.pn)(R:oe.cls=.ref C)(B:bh X.K C):K8 X (.builtin "isinstance") (λxs H Q=>∃a vs cs b,xs=[.ref e,.ref a]/\H a=some (.tup vs)/\vs.map rV=cs.map some/\kitAny X.K (.ref C) cs=some b/\Q (.bl b) H):=by
 intro j s Y H xs us Q I r h;obtain⟨a,vs,cs,b,rfl,J,g,O,q⟩:=h;obtain⟨u,l,rfl,v,E⟩:=vals2 r;cases(show u=Value.ref e from v);cases(show l=Value.ref a from E);obtain⟨_,G,x,o,U,T,n,S⟩:=(show u3 X.prog X.w H s.heap a (.tup vs) from I.hok a _ J)
 cases nR x g;obtain⟨c,d,dt,sl⟩:=o;cases T;cases S;exact kia_tup (yP B) I.cU ⟨oe,(I.pin _ (sd _ M)).1,R⟩ U O (λz=>nomatch z) λtk=>⟨.bl b,H,I.tok tk,rfl,q⟩
def Mj(vs:List V):TA:=λ_ H Q=>Q vs H
theorem Ko:PA X [] (Mj []):=N2
theorem Hs{a:QH}{vs:List V}{v:V}(h:PE X (.Name y p) (tC v))(t:PA X a (Mj vs)):PA X (.Name y p::a) (Mj (v::vs)):=aQ h t
end
end L3
namespace L2
open PySem PySem.Spec PyProof.Rows
end L2
namespace L3
open PySem PySem.Spec PyProof.Rows L2
section
variable{X:Cx}{cl:List Cl}{tg e a kx:Expr}{f fb:Fl}{ua ub:TU}{pos p:Pos}
end
end L3
namespace PySem.SeqAt
open PySem MeetsSeq MeetsSeq2 MeetsSeq3 SeqRoads2
section
variable{A:Around}{s:Shared}
end
end PySem.SeqAt
namespace L2
open PySem PySem.Spec PyProof.Rows
section
variable{X:Cx}
end
end L2
namespace L3
open PySem PySem.Spec PyProof.Rows L2
section
variable{X:Cx}{cl:List Cl}{a b:Expr}{fa fb:Fl}{ua ub:TU}{pos:Pos}
end
end L3
namespace L2
open PySem PySem.Spec PyProof.Rows
section
variable{X:Cx}
end
end L2
namespace L3
open PySem PySem.Spec L2
section
variable{X:Cx}{cl:List Cl}{a:Expr}{fa:Fl}{ua:TU}{pos:Pos}
end
end L3
namespace PySem
theorem nu:typeLookup (.type "list") "keys"=pure none:=by rw[typeLookup_type,builtinLookup_eq_fast];kernel_rfl
theorem FF{prog:Program}{w:World}{A:Around}{E:QN}{s:Shared}{a:Addr}{o:Obj}{xs:QK}{k:Nat}{Q:QQ->Shared->Prop}
  (l:s.heap.get? a=some o) (p:o.cls=.type "list") (b:o.data=.seq xs k) (hd:o.dict=none) (v:A.handled=none)
  (h:∀h' tk e,Heap.NewExcOf s.heap h' e "AttributeError"->Q none { s with heap:=h',toks:=tk }):wpAny (model prog w) A (getAttr? (.ref a) "keys") Q E s:=by
 obtain⟨c,x,y,r⟩:=o;simp only at p b hd;subst p b hd;obtain⟨u,g,d,tk,os⟩:=s;have q:∀i,(⟨u,g,d,i,os⟩:Shared).TypeIs (.ref a) "list":=λ_=>⟨_,l,rfl⟩
 have J:=sub_AttributeError;have I:=F.slot_list_getattribute.lookup;have H:=F.slot_list_getattribute.bind (.ref a);have G:=am_list_getattr_none;unfold getAttr? getAttrBy? getAttrBy
 repeat (any_goals (first | assumption | exact q _ | ((with_reducible show wpAny _ _ (call (Value.builtin "list.__getattribute__") _ _) _ _ _);refine call_meets F.slot_list_getattribute (q _) am_entry_list_getattribute (F.args_list_getattribute_2 _ _) (meets_getattribute_miss_list a xs k r "keys" _ nu (by decide +kernel) (by size_fits)) ⟨l,v,λh' i e j=>?_⟩) | wp_step))
 obtain⟨B,z,C⟩:=j.there;show wpAny _ _ (getattributeRaised _ _ _ _ _ _ _) _ _ _;unfold getattributeRaised
 repeat (any_goals (first | assumption | wp_step))
 exact h _ _ _ j.of
end PySem
namespace L2
open PySem PySem.Spec PyProof.Rows
theorem nQ:entryFor table "dict.update.loop"=some Builtin.«dict.update.loop»:=entryFor_of_tree (by kernel_rfl)
theorem cp:plainId "dict.update.loop"=true:=by decide +kernel
def wb(H:Hp)(t:V)(b:Key×V):Prop:=∃a,t=.ref a/\H a=some (.tup [kV b.1,b.2])
theorem kD{d c:Type}{F:d->c->Prop}:∀{l:List d} {m:List c},Paired F l m->∀(i:Nat) (a:d) (b:c),l[i]?=some a->m[i]?=some b->F a b
 | _,_,.nil,i,a,b,h,_=>by simp at h
 | _,_,.cons r t,0,a,b,h,g=>by simp at h g;subst h g;exact r
 | _,_,.cons r t,i+1,a,b,h,g=>kD t i a b (by simpa using h) (by simpa using g)
section
variable{X:Cx}{pins:QA}{σ:St}
theorem rT{H:Hp}{s:Shared}{a:Addr}{v:V}{u r:Value}{A:Around}{E:QN}{kvs:List (Key×V)}{k:Key}{Q:Unit->Shared->Prop}(I:Inv X pins σ H s)(e:H a=some (.dK kvs))(l:kvs.length<sizeLine)(g:RelV (kV k) u)(i:RelV v r)
  (h:∀s',Inv X pins σ (upd H a (.dK (putK kvs k v))) s'->Heap.SameBut a s.heap s'.heap->Q () s'):wpAny (model X.prog X.w) A (dictSet a u r) Q E s:=by
 obtain⟨z,hd,vs,b,x⟩:=zY I.hok e;have j:vs.length<=sizeLine:=by rw[<-b.length];exact z
 have p:(putK kvs k v).length<=sizeLine:=by have:=K9 kvs k v;omega
 refine wpAny_dictSet_pairs (hsz:=j) (eQ g) x λy c d=>h _ ?_ d;exact fJ I (by rw[e];exact True.intro) d (let ⟨q,_,_,o,_⟩:=c;⟨q,o⟩) (lF p hd (b.put k i) c)
theorem DX{A:Around}{R:Result->Shared->Prop}{H:Hp}{d p it:Addr}{ts:List V}{kvs:List (Key×V)}(hh:A.handled=none)(hp:P7 X.K H p ts)(hd:H d=none)(C:Paired (wb H) ts kvs)(hl:kvs.length<sizeLine)(E:it≠d)(h:∀o,T8 X pins (upd H d o) it)(z:∀s',Inv X pins σ (upd H d (.dK (G7 [] kvs))) s'->R (.ok (.ret .none)) s') :
  ∀(n i:Nat) (s:Shared),kvs.length-i=n->i<=kvs.length->Inv X pins σ (upd H d (.dK (G7 [] (kvs.take i)))) s->s.heap.IsListIter it p i ->
   codeAny (model X.prog X.w) A (.builtin "dict.update.loop" ⟨[.ref d,.ref it,rawInt i,.none],[]⟩) R s:=by
 intro n
 induction n with
 | zero=>
  intro i s hn c I st;have e:i=kvs.length:=by omega
  subst e;rw[OT] at I;have hq:P7 X.K (upd H d (.dK (G7 [] kvs))) p ts:=i5.seq (i5.j4 hd) hp;obtain⟨B,y,pl,hz⟩:=I.list hq;obtain⟨S,Q,f2,O,M,J⟩:=h (.dK (G7 [] kvs));have e1:=C.length;have e2:=y.length;refine codeAny_builtin nQ ?_;rw[Around.under_plainId cp _];show wpAny _ A.in1 (pyNext (.ref it) >>= _) _ _ s;refine cB (wpAny_pyNext_list_end hh st pl.isList (by simp;omega) λj eb=>?_);have l:=I.turned (t':=s.toks) (h':=j) (λb o G e=>eb b o G e) S Q O M J;exact cB (hH (hH (z _ l)))
 | succ n ih=>
  intro i s hn c I st;have c:i<kvs.length:=by omega
  have U:i5 H (upd H d (.dK (G7 [] (kvs.take i)))):=i5.j4 hd;obtain⟨B,y,pl,hz⟩:=I.list (i5.seq U hp);obtain⟨S,Q,f2,O,M,J⟩:=h (.dK (G7 [] (kvs.take i)));have e1:=C.length;have hx:ts[i]?=some (ts[i]'(by omega)):=hL (by omega);have hk:kvs[i]?=some (kvs[i]'c):=hL c;obtain⟨a,ea,ha⟩:=kD C i _ _ hx hk;obtain⟨u,hu,Y⟩:=y.get hx;rw[ea] at Y;cases(show u=Value.ref a from Y);refine codeAny_builtin nQ ?_;rw[Around.under_plainId cp _];show wpAny _ A.in1 (pyNext (.ref it) >>= _) _ _ s;refine cB (wpAny_pyNext_list_item st pl.isList (x:=.ref a) (by simpa using hu) λj q sb=>?_);have l:=I.turned (t':=s.toks) (h':=j) (λb o G e=>(sb.2 b G).trans e) S Q O M J;obtain⟨_,a0,r,o2,g1,g2,n2,g3⟩:=(show u3 X.prog X.w _ j a (.tup _) from l.hok a _ (U _ _ ha))
  obtain⟨k1,T,rfl,rk,v⟩:=vals2 r
  have g:(G7 [] (kvs.take i)).length<sizeLine:=by
   have h1:=bq (kvs.take i) [];rw[t9] at h1;simp at h1;omega
  have em:G7 [] (kvs.take (i+1))=putK (G7 [] (kvs.take i)) (kvs[i]'c).1 (kvs[i]'c).2:=by
   rw[EQ,hk];unfold G7;rw[List.foldl_append];rfl
  refine cB (u7 (cB (wpAny_tryCatch ?_)));unfold Builtin.Dict.pairItems;refine cB (Pk ⟨o2,g1,g2⟩ ?_);rw[qq (by decide)];refine cB (Do g1 g3 (hH ?_));show wpAny _ _ (holding [k1,T] (dictSet d k1 T)) _ _ _;refine u7 (rT l g9 g rk v λs' I2 hs=>?_);rw[cj,<-em] at I2;exact hH ⟨plainId_quiet cp _,ih (i+1) s' (by omega) c I2 (q.at λo e=>(hs.2 it E).trans e)⟩
theorem sM(G:X.calm=true):K8 X (.type "dict") (λxs H Q=>∃p ts kvs,xs=[.ref p]/\P7 X.K H p ts/\Paired (wb H) ts kvs/\kvs.length<sizeLine/\∀d,H d=none->Q (.ref d) (upd H d (.dK (G7 [] kvs)))):=by
 intro pins s σ H xs Y Q I r h;obtain⟨p,ts,kvs,rfl,E,S,T,q⟩:=h;obtain⟨u,rfl,O⟩:=vals1 r;cases(show u=Value.ref p from O);refine callType_codes (Q₁:=λobj C=>obj=.ref s.heap.objs.size/\C={ s with heap:=s.heap.push { cls:=.type "dict",data:=.dict #[] } }) F.kt_called_dict (F.kt_typeCall_dict_1 _) F.entry_dict_init (kt_code_dict_new _ ⟨rfl,rfl⟩) ?_;rintro obj C ⟨rfl,rfl⟩;have v:=I.hok.fresh (hI s.heap.objs.size);have M:=I.laid (a:=s.heap.objs.size) (o:=.dK []) (h':=s.heap.push { cls:=.type "dict",data:=.dict #[] }) (t':=s.toks) (λ_ _ q=>dL _ q) (hI _) (bT s.heap I.big);obtain⟨x,rv,pl,hz⟩:=M.list (i5.seq (i5.j4 v) E);have J:Shared.TypeIs { s with heap:=s.heap.push { cls:=.type "dict",data:=.dict #[] } } (.ref s.heap.objs.size) "dict":=⟨_,ro _ rfl,rfl⟩
 refine⟨J,F.args_dict_init_2 _ _,?_⟩;unfold Builtin.«dict.__init__»;refine cB ?_;unfold Builtin.Dict.selfAndRest;refine cB (wpAny_notOrdered_dict J ?_);show wpAny _ _ (pure (s.heap.objs.size,[Value.ref p])) _ _ _;refine hH ?_;show wpAny _ _ (Builtin.Dict.updateFrom "dict.__init__" s.heap.objs.size (.ref p) [] .none) _ _ _;unfold Builtin.Dict.updateFrom;refine cB (Pk pl.isList.typeIs ?_);rw[qq (by decide)];obtain⟨ob,R,l,j,y,i⟩:=pl;refine cB (FF l j i y (I.ok.hd G) λz c e2 nx=>?_);have B:=M.kept (t':=c) (h':=z) nx.keeps;rw[qq (show(none:QQ).isNone=true from rfl)];refine cB (PP ?_);refine cB (PZ (items:=x.toArray) ⟨ob,nx.keeps _ _ l,j,R,i⟩ ?_);refine hH ⟨plainId_quiet cp _,?_⟩
 have g:s.heap.objs.size<z.objs.size:=by
  have:=oD (nx.keeps _ _ (ro s.heap (o:={ cls:=.type "dict",data:=.dict #[] }) rfl));exact this
 refine DX (X:=X) (pins:=pins) (σ:=σ) (A:=X.A.in1) (H:=H) (d:=s.heap.objs.size) (p:=p) (it:=z.objs.size) (ts:=ts) (kvs:=kvs) (I.ok.hd G) E v S T (IR g) (λo=>?_) (λs' U=>?_) kvs.length 0 _ rfl (wf _) ?_ ?_
 ·exact B.jd (hI _) (by rw[i4 (IR g)];exact(i5.j4 v).free (B.hok.fresh (hI _)))
 ·exact⟨rfl,.ref s.heap.objs.size,_,U,rfl,q _ v⟩
 ·exact B.kept (t':=c) λb o e=>dL _ e
 ·exact⟨_,ro _ rfl,rfl,rfl⟩
end
end L2
namespace L3
open PySem PySem.Spec PyProof.Rows L2
def pairD:D->Option (Key×D)
 | .tup [k,v]=>(cM k).map λj=>(j,v)
 | _=>none
def gP:List D->Option (List (Key×D))
 | []=>some []
 | x::a=>match pairD x,gP a with
  | some p,some b=>some (p::b)
  | _,_=>none
def zh(more:List (Key×D)):List (Key×D):=more.foldl (λa b=>putD a b.1 b.2) []
section
variable{X:Cx}
theorem pL{K:QP}{H:Hp}:∀{ts:List V} {xs:List D} {A:QE} {ps:List (Key×D)},j8 K H ts xs A->gP xs=some ps->l9 xs=true ->
  ∃kvs:List (Key×V),Paired (wb H) ts kvs/\y3 K H kvs ps []/\kvs.length=ps.length
 | _,_,_,_,.nil,e,_=>by cases e;exact⟨[],.nil,.nil,rfl⟩
 | _,_,_,ps,.cons (d:=d) (ds:=r) h t,e,im=>by
  have g:(w8 d&&l9 r)=true:=im;rw[hD] at g;unfold gP at e
  cases i:pairD d with
  | none=>rw[i] at e;cases e
  | some p=>
   cases l:gP r with
   | none=>rw[i,l] at e;cases e
   | some O=>
    rw[i,l] at e;cases e;obtain⟨kvs,a,b,c⟩:=pL t l g.2;unfold pairD at i;split at i
    ·rename_i k v
     obtain⟨j,J,rfl⟩:=Option.map_eq_some_iff.mp i;obtain⟨q,vs,rfl,I,u⟩:=M6 h;obtain⟨x,y,B,C,rfl,E,o,_⟩:=u.two;cases aT E J
     have G:w8 v=true:=by
      have z:(w8 k&&(w8 v&&true))=true:=g.1;simp only[hD] at z;exact z.2.1
     have M:=o.M8 G;subst M;exact⟨(j,y)::kvs,.cons ⟨q,rfl,I⟩ a,y3.cons (A:=[]) (B:=[]) o b,by rw[sw,sw,c]⟩
    ·cases i
theorem kA{K:QP}{H:Hp}:∀{kvs:List (Key×V)} {ps:List (Key×D)} {A:QE} {acc:List (Key×V)} {ad:List (Key×D)},y3 K H kvs ps A->A=[]->y3 K H acc ad []->y3 K H (G7 acc kvs) (ps.foldl (λa c=>putD a c.1 c.2) ad) []
 | _,_,_,_,_,.nil,_,q=>q
 | _,_,_,acc,ad,.cons (k:=k) h t,e,q=>by
  obtain⟨i,g⟩:=List.append_eq_nil_iff.mp e;subst i;obtain⟨C,b,d⟩:=q.put k h;rw[List.sublist_nil.mp d] at b;show y3 K H (G7 (putK acc k _) _) (List.foldl _ (putD ad k _) _) [];exact kA t g b
def CU:List D->(D->Prop)->Prop:=λe Q=>(∃(d:D) (b:List D) (c:List (Key×D)),e=[d]/\kindB false d=some b/\l9 b=true/\gP b=some c/\c.length<sizeLine/\Q (.dic (zh c))) \/
 ∃a:List (Key×D),e=[.dic a]/\(a.all λg=>w8 g.2)=true/\Q (.dic a)
def rX(K:QP)(xs:List V)(H:Hp)(Q:VK):Prop:=(∃p b a,xs=[.ref p]/\P7 K H p b/\Paired (wb H) b a/\a.length<sizeLine/\∀d,H d=none->Q (.ref d) (upd H d (.dK (G7 [] a)))) \/
  ∃p a,xs=[.ref p]/\Dd H p a/\∀d,H d=none->Q (.ref d) (upd H d (.dK a))
theorem om(C:X.calm=true):K8 X (.type "dict") (rX X.K):=by
 intro c s g H i j Q I r h;rcases h with h | ⟨p,v,rfl,y,q⟩
 ·exact sM C c s g H i j Q I r h
 ·obtain⟨u,rfl,l⟩:=vals1 r;cases(show u=Value.ref p from l);obtain⟨z,hd,vs,a,J⟩:=bp I.hok (.of y);refine kt_call_dict hd J (by rw[<-a.length];exact z) λG d x=>?_;have B:=I.hok.fresh (hI s.heap.objs.size)
  have kp:∀b o,s.heap.get? b=some o->G.get? b=some o:=λb o e=>by
   have E:b≠s.heap.objs.size:=sx (oD e);exact(x.2 b E).trans (dL _ e)
  have M:(s.heap.objs.size == sysModules)=false:=(bT (P:=X.prog) (w:=X.w) (H:=H) s.heap I.big).2.1;exact⟨.ref s.heap.objs.size,_,I.laid (t':=s.toks) kp (hI _) (lF z M a d),rfl,q _ B⟩
theorem tS(a:X.calm=true):K8 X (.type "dict") (λxs H Q=>rX X.K xs H (JP Q)):=Dw (om a)
theorem Fs:Call3 X (λxs H Q=>rX X.K xs H (JP Q)) CU:=by
 intro H vs S A Q R r q k;rcases q with⟨d,xs,u,rfl,O,im,M,G,q⟩ | ⟨y,rfl,im,q⟩
 ·obtain⟨v,rfl,i⟩:=r.one;obtain⟨p,j,B,rfl,C,o,_⟩:=fu i O;obtain⟨c,x,h,el⟩:=pL o M im;refine .inl ⟨p,j,c,rfl,C,x,by rw[el];exact G,λa g=>?_⟩;have l:y3 X.K H (G7 [] c) (zh u) []:=kA h rfl .nil;refine⟨a,_,rfl,g9,λJ=>?_⟩;rw[cj];refine k _ _ _ [a] (i5.j4 g) (.dic g9 (l.mono (W3.of (i5.j4 g)) λb e=>by cases e)) (List.nodup_cons.mpr ⟨(λz=>nomatch z),op⟩) (λb e=>by cases List.mem_singleton.mp e;exact g) q
 ·obtain⟨v,rfl,i⟩:=r.one;obtain⟨p,c,B,rfl,E,h,_⟩:=aS i;have I:=h.M8 im;subst I;refine .inr ⟨p,c,rfl,E,λa g=>?_⟩;refine⟨a,_,rfl,g9,λJ=>?_⟩;rw[cj];exact k _ _ _ [a] (i5.j4 g) (.dic g9 (h.mono (W3.of (i5.j4 g)) λb e=>by cases e)) (List.nodup_cons.mpr ⟨(λz=>nomatch z),op⟩) (λb e=>by cases List.mem_singleton.mp e;exact g) q
end
end L3
namespace L2
open PySem PySem.Spec PyProof.Rows
section
variable{X:Cx}{e c:Expr}{te:TE}{pos p2:Pos}
end
end L2
namespace L3
open PySem PySem.Spec L2
section
variable{X:Cx}{cl:List Cl}{a c:Expr}{fa:Fl}{ua uc:TU}{pos p2:Pos}
end
end L3
namespace L2
open PySem PySem.Spec PySem.Calls PyProof.Rows
section
variable{X:Cx}{pins:QA}{σ:St}{H:Hp}{s:Shared}
end
end L2
namespace L3
open PySem PySem.Spec PySem.Calls PyProof.Rows L2
section
variable{X:Cx}{cl:List Cl}{e:Expr}{es:QH}{pos cpos hpos np p:Pos}{us:bS}{k m:Nat}{x y bn n:Str}{i j:Nat}{AP:Addr->Prop}
end
section
variable{X:Cx}{cl:List Cl}{e:Expr}{es:QH}{pos p:Pos}{us:bS}{k:Nat}{fn:Addr}{fd:FuncData}{ps:QF}{x:Str}{ua:TU}{f:Fl}{ma:TM}
end
end L3
namespace L2
open PySem PySem.Spec PyProof.Rows
section
variable{X:Cx}
end
end L2
namespace L3
open PySem PySem.Spec L2
section
variable{X:Cx}{cl:List Cl}{e a b tg:Expr}{es:QH}{f:Fl}{pos:Pos}{ua ub:TU}{fa fb:Fl}{us:bS}{x y:Str}
end
end L3
namespace L2
open PySem PySem.Spec PyProof.Rows
namespace RT
end RT
def Jc(h:Heap)(a t:Addr)(i:Int):Prop:=∃o,h.get? a=some o/\o.cls=.type "reversed" /\ o.data=.fields #[.ref t,rawInt i]
section
variable{prog:Program}{w:World}{A:Around}{E:QN}{s:Shared}
theorem Jc.at{h h':Heap}{a t:Addr}{i:Int}(x:Jc h a t i)(e:∀o,h.get? a=some o->h'.get? a=some o):Jc h' a t i:=let ⟨o,b,r⟩:=x;⟨o,e _ b,r⟩
end
end L2
namespace L3
open PySem PySem.Spec PyProof.Rows L2
section
variable{X:Cx}{cl:List Cl}{tg e:Expr}{f:Fl}{ua:TU}{pos p:Pos}
end
end L3
namespace L2
open PySem PySem.Spec PyProof.Rows
section
variable{X:Cx}
end
end L2
namespace L3
open PySem PySem.Spec PySem.Calls PyProof.Rows L2
section
variable{X:Cx}{cl:List Cl}{e a b:Expr}{es:QH}{pos cpos hpos np p:Pos}{us:bS}{ua ub:TU}{fa fb:Fl}{ma:TM}{k:Nat}{fn:Addr}{fd:FuncData}{ps:QF}{x y bn:Str}{i:Nat}
end
end L3
namespace L2
open PySem PySem.Spec PyProof.Rows
end L2
namespace L3
open PySem PySem.Spec PySem.Calls PyProof.Rows L2
section
variable{X:Cx}{cl:List Cl}{tg e a b:Expr}{es:QH}{pos p2 vp:Pos}{ua ub:TU}{f fa fb:Fl}{ma mb:TM}{x:Str}{i:Nat}
theorem R4{K:QP}{H:Hp}:∀{vs:List V} {ns:QI} {A:QE},j8 K H vs (ns.map D.int) A->vs=ns.map V.int
 | _,[],_,.nil=>rfl
 | _,n::ns,_,.cons h r=>by cases h;rw[R4 r];rfl
end
section
variable{X:Cx}{cl:List Cl}{tg e a b:Expr}{es:QH}{pos p2 vp:Pos}{ua ub:TU}{f fa fb:Fl}{ma mb:TM}{x y:Str}{i j:Nat}
end
end L3
namespace L2
open PySem PySem.Spec PyProof.Rows PySem.SeqAt
end L2
namespace L3
open PySem PySem.Spec PySem.Calls PyProof.Rows L2
section
variable{X:Cx}{cl:List Cl}{e a b:Expr}{pos:Pos}{ua ub:TU}{fa fb:Fl}
end
end L3
namespace L2
open PySem PySem.Spec PyProof.Rows
def qt(h:Heap)(e:Addr)(cls g:Value)(T:Addr)(d:Option Addr):Prop:=
 ∃a vs c b,h.get? e=some a/\a.cls=cls/\a.dict=d/\vs[0]?=some g/\a.data=.fields vs/\vs[1]?=some (.ref T)/\T≠e/\h.get? T=some c/\c.data=.fields b/\b[3]?=some .none
theorem qt.je{h:Heap}{e:Addr}{cls c:Value}{T:Addr}{i:Option Addr}(f:qt h e cls c T i):LQ h e cls c T:=
 let ⟨g,vs,j,d,l,o,_,u,hd,r,b,p,a,q⟩:=f;⟨g,vs,j,d,l,o,u,hd,r,b,p,a,q⟩
structure jz(l:List Env)(old:QE)(h h':Heap)(e:Addr)(cls a0:Value)(T:Addr)(od:Option Addr):Prop where
 keep:∀b o,h.get? b=some o->b≠e->b∉old->b∉W4 l->h'.get? b=some o
 slot:∀b o,h.get? b=some o->b∈W4 l->∃sl,h'.get? b=some { o with slots:=sl }
 je:qt h' e cls a0 T od
 new:T∈old\/h.get? T=none
theorem jz.gone{l:List Env}{old:QE}{h h':Heap}{e:Addr}{cls a:Value}{T:Addr}{b:Option Addr}(g:jz l old h h' e cls a T b):HQ l old h h' e cls a T:=⟨g.keep,g.slot,g.je.je,g.new⟩
theorem iM(o:Obj)(f:QK->QK):(o.mapFields f).dict=o.dict:=by
 obtain⟨c,d,a,b⟩:=o;cases a<;>rfl
section
variable{M:Model}{A:Around}{E:QN}{s:Shared}{base:Heap}{env:Env}{outer:List Env}{L e:Addr}{Q:Unit->Shared->Prop}
theorem vM{d:Obj}{vs:QK}{J j:Value}{hn:Bool}(H:A.frames=some (env::outer))(U:s.heap.FunFrames base (env::outer))(hf:env.frame=some L)(X:s.heap.get? e=some d)(hd:d.data=.fields vs)(hsz:1<vs.size)(h0:vs[0]?=some J)
  (h:∀h' T,jz (env::outer) [] s.heap h' e d.cls J T d.dict->Q () { s with heap:=h' }) :
  wpAny M A (do let a <-frameOf env;let pl <-entryPlaceOf L hn;let b <-EntryCells.newEntry j a .none (rawInt L) .none pl;setField (.ref e) 1 b) (λ_ s2=>wpAny M A (setFlight (.ref e) none) Q E s2) E s:=by
 have Y:e∉W4 (env::outer):=λz=>by
  obtain⟨_,o,S,hx⟩:=U.mem z;rw[X] at S;cases S;exact hx vs hd
 refine cB (wpAny_frameOf_fun H U hf λc v=>cB (wpAny_entryPlaceOf λpl hp=>?_));unfold EntryCells.newEntry newFields;refine cB (z0 ?_ (hp.sizeOk5 _ _ _ _ _));generalize G:({ cls:=.type "traceback",dict:=none,data:=.fields ([j,.ref L,.none,rawInt L,.none]++(if pl.isEmpty then List.replicate 6 Value.none else pl)).toArray }:Obj)=i;obtain⟨C,y,r⟩:∃C,i.data=.fields C/\3<C.size:=⟨_,by rw[<-G],by simp only[qz,hW,sw,Pc];omega⟩
 have e1:c.get? e=some d:=(v.2.1 e Y).trans X;have te:c.objs.size≠e:=IR (oD e1);have e2:(c.push i).get? e=some d:=dL i e1;refine Ps e2 hd hsz ?_;generalize l:(Obj.mapFields λx=>x.setIfInBounds 1 (Value.ref c.objs.size))=g;have d1:(g d).data=.fields (vs.setIfInBounds 1 (Value.ref c.objs.size)):=by rw[<-l];exact At hd _
 have c1:(g d).cls=d.cls:=by rw[<-l];exact Obj.cls_mapFields _ _
 have I:(g d).dict=d.dict:=by rw[<-l];exact iM _ _
 have e3:((c.push i).update e g).get? e=some (g d):=wE g e2 (FM d1);have frz:i.isFreed=false:=FM y;have O:((c.push i).update e g).get? c.objs.size=some i:=(vu _ g te.symm).trans (ro c frz);show wpAny M A (setFlight (.ref e) none) Q E { s with heap:=(c.push i).update e g };refine wpAny_setFlight_none e3 d1 (by simp[hsz]) O y r (h _ c.objs.size ?_);show jz (env::outer) [] s.heap (((c.push i).update e g).update c.objs.size (Obj.mapFields λx=>x.setIfInBounds 3 Value.none)) e d.cls J c.objs.size d.dict;generalize u:(Obj.mapFields λx=>x.setIfInBounds 3 Value.none)=B
 have keep:∀b o,b≠e->c.get? b=some o->(((c.push i).update e g).update c.objs.size B).get? b=some o:=λb o ne p=>by
  rw[vu _ B (IR (oD p)),vu _ g ne.symm];exact dL i p
 refine⟨λb o p n1 _ n3=>keep b o n1 ((v.2.1 b n3).trans p),λb o p hm=>?_,?_,.inr ?_⟩
 ·obtain⟨R,z⟩:=v.2.2 b o p;exact⟨R,keep b _ (λw=>Y (w▸hm)) z⟩
 ·refine⟨g d,_,_,_,(vu _ B te).trans e3,c1,I,?_,d1,by simp[hsz],te,wE B O (FM (by rw[<-u];exact At y _)),by rw[<-u];exact At y _,by simp[r]⟩;rw[Array.getElem?_setIfInBounds_ne (by decide)];exact h0
 ·cases q:s.heap.get? c.objs.size with
  | none=>rfl
  | some o=>
   obtain⟨R,z⟩:=v.2.2 _ o q;exact absurd (oD z) (Lf _)
theorem nI{a:Obj}{vs:QK}{i:Value}(b:A.frames=some (env::outer))(j:s.heap.FunFrames base (env::outer))(c:env.frame=some L)(d:s.heap.get? e=some a)(hd:a.data=.fields vs)(g:vs[1]?=some .none)(l:vs[0]?=some i)
  (h:∀h' T,jz (env::outer) [] s.heap h' e a.cls i T a.dict->Q () { s with heap:=h' }):wpAny M A (leaving env (.ref e)) Q E s:=by
 unfold leaving noteFrame;simp only[c];refine cB (cB (v3 d hd g ?_));rw[qc (show ¬(Value.none != Value.none)=true by decide)];exact vM b j c d hd (Array.getElem?_eq_some_iff.mp g).1 l h
theorem pS{cls R:Value}{d:Addr}{y:Option Addr}(r:A.frames=some (env::outer))(G:s.heap.FunFrames base (env::outer))(H:env.frame=some L)(fl:qt s.heap e cls R d y)
  (h:∀h' T,jz (env::outer) [d] s.heap h' e cls R T y->Q () { s with heap:=h' }):wpAny M A (noteFrame (.ref e) env) (λ_ S=>wpAny M A (setFlight (.ref e) none) Q E S) E s:=by
 obtain⟨oe,vs,U,v,I,rfl,rfl,h0,hd,O,u,j,c,J⟩:=fl;unfold noteFrame;simp only[H];refine cB (v3 I hd O ?_);rw[qq (show(Value.ref d != Value.none)=true by simp)];refine cB (v3 j c J ?_);rw[qc (show ¬(Value.none == rawInt L)=true by simp[rawInt])];have l:=(Array.getElem?_eq_some_iff.mp J).1;refine cB (Ps j c l ?_);generalize hg:(Obj.mapFields λx=>x.setIfInBounds 3 Value.none)=g;have a:∀b,b≠d->(s.heap.update d g).get? b=s.heap.get? b:=λb i=>vu _ g i.symm;have a1:(s.heap.update d g).get? d=some (g U):=wE g j (FM (by rw[<-hg];exact At c _))
 have X:d∉W4 (env::outer):=λz=>by
  obtain⟨_,o,B,p⟩:=G.mem z;rw[j] at B;cases B;exact p v c
 have q:(s.heap.update d g).FunFrames base (env::outer):=G.of_keeps λb o i p=>⟨o,(a b λz=>by rw[z,j] at i;cases i;exact p v c).trans i,rfl⟩
 refine vM (s:={ s with heap:=s.heap.update d g }) r q H ((a e u.symm).trans I) hd (Array.getElem?_eq_some_iff.mp O).1 h0 λh' T gd=>h h' T ⟨λb o i n1 n2 Y=>?_,λb o i C=>?_,gd.je,?_⟩
 ·exact gd.keep b o ((a b λz=>n2 (z▸List.mem_singleton.mpr rfl)).trans i) n1 (λz=>nomatch z) Y
 ·exact gd.slot b o ((a b λz=>X (z▸C)).trans i) C
 ·rcases gd.new with z | z
  ·cases z
  ·by_cases w:T=d
   ·exact .inl (w▸List.mem_singleton.mpr rfl)
   ·exact .inr ((a T w).symm.trans z)
theorem jg{cls p:Value}{g:Addr}{i:Option Addr}(B:qt s.heap e cls p g i)(h:∀h',(∀b,b≠g->h'.get? b=s.heap.get? b)->qt h' e cls p g i->Q () { s with heap:=h' }):wpAny M A (setFlight (.ref e) none) Q E s:=by
 obtain⟨r,vs,C,q,j,v,u,z,hd,o,d,l,a,y⟩:=B;have c:3<q.size:=(Array.getElem?_eq_some_iff.mp y).1;refine wpAny_setFlight_none j hd o l a c (h _ (λb x=>vu _ _ (wh x)) ?_);exact⟨r,vs,_,_,(vu _ _ d).trans j,v,u,z,hd,o,d,wE _ l (FM (At a _)),At a _,by simp[c]⟩
end
section
variable{prog:Program}{w:World}{A:Around}{E:QN}{h:Heap}{g:Array GenState}{d:Drawn}{t:Nat}{os:OsState}
variable{nm q:Str}{C N fI:Addr}{oI:Obj}{bs bm bmB bmN:QG}{hdct:Bool}{sn:QF}{sub:QG}{ab:Bool}{col:Option Bool}{dd:Option Addr}{k0 k1 k2 k3 k5:QQ}{B Bn newId nid initId inN:String}{mN:QL}{rest:QG}
theorem su{Q:PySem.Fin->Shared->Prop}(p:ExcBaseFacts Bn newId inN bmN)(c:bmB.contains (.type Bn)=true)(F:ExcBaseFacts B nid initId bmB)(T:OwnTail h bmB bm)
  (a:h.get? C=some (excClassObj nm q C N bs bm hdct sn sub ab col dd k0 k1 k2 k3 k5 newId)) (x:h.Ns N mN) (y:mN "__init__"=some (.ref fI)) (G:h.get? fI=some oI) (l:oI.cls=.type "function") (u:rest.length<=sizeLine)
  (v:∀h' e,Heap.MadeExcOf h h' e (.ref C) rest->h.objs.size<=e->wpAny (model prog w) A (call (.ref fI) (.ref e::rest)) (λr s'=>r=.none/\Q (.done (.ret (.ref e))) s') E ⟨h',g,d,t,os⟩) :
  wpAny (model prog w) A (Builtin.«type.__call__» ⟨.ref C::rest,[]⟩) Q E ⟨h,g,d,t,os⟩:=by
 repeat (first | with_reducible refine Ix a ?_ | with_reducible refine wpAny_madeBy_exc a ?_ | wp_step)
 refine codeAny_call_builtin_code (PX _ p.quiet) (wpAny_check_new_subU p c T a (codeAny_exc_new_subU p c F T a ?_ u));show wpAny _ _ _ _ _ _;have kp:∀b o,h.get? b=some o->((h.push { cls:=.type "tuple",data:=.seq rest.toArray }).push { cls:=.ref C,data:=.fields #[.ref h.objs.size,.none,.none,.none,.bool false,.none] }).get? b=some o:=λb o z=>dL _ (dL _ z);have i:((h.push { cls:=.type "tuple",data:=.seq rest.toArray }).push { cls:=.ref C,data:=.fields #[.ref h.objs.size,.none,.none,.none,.bool false,.none] }).get? (h.objs.size+1)=some { cls:=.ref C,data:=.fields #[.ref h.objs.size,.none,.none,.none,.bool false,.none] }:=by heap_get
 have mk:Heap.MadeExcOf h ((h.push { cls:=.type "tuple",data:=.seq rest.toArray }).push { cls:=.ref C,data:=.fields #[.ref h.objs.size,.none,.none,.none,.bool false,.none] }) (h.objs.size+1) (.ref C) rest:=
  ⟨kp,OH (PK _),h.objs.size,i,OH (hI _),dL _ (Heap.get?_push_at rfl rfl)⟩
 generalize (h.push { cls:=.type "tuple",data:=.seq rest.toArray }).push { cls:=.ref C,data:=.fields #[.ref h.objs.size,.none,.none,.none,.bool false,.none] }=H at kp i mk;have I:(Value.ref C::bm).contains (.ref C)=true:=by simp
 unfold isInstance
 repeat (first | with_reducible refine Ix i ?_ | (with_reducible refine OK (kp _ _ a) ?_;rw[I]) | wp_step)
 show wpAny _ _ (typeLookup (.ref C) _) _ _ _;refine wpAny_typeLookup_tail (kp _ _ a) (x.keeps kp) (T.keeps kp) F.mroIs F.init.lookup ?_;rw[y];refine u7 (cB ?_);unfold bindSpecial;refine cB (Pk (T:="function") ⟨_,kp _ _ G,l⟩ ?_);rw[qq (by decide)];refine hH (cB (ux (v H _ mk (PK _)) (λr s' j=>?_) λ_ _ z=>z));obtain⟨rfl,z⟩:=j
 wp_walk
 exact z
theorem qR{Q:QN}(u:ExcBaseFacts Bn newId inN bmN)(c:bmB.contains (.type Bn)=true)(F:ExcBaseFacts B nid initId bmB)(T:OwnTail h bmB bm)
  (a:h.get? C=some (excClassObj nm q C N bs bm hdct sn sub ab col dd k0 k1 k2 k3 k5 newId)) (l:h.Ns N mN) (o:mN "__init__"=some (.ref fI)) (p:h.get? fI=some oI) (b:oI.cls=.type "function") (i:rest.length<=sizeLine)
  (j:∀h' e,Heap.MadeExcOf h h' e (.ref C) rest->h.objs.size<=e->wpAny (model prog w) (A.under (.builtin "type.__call__" ⟨.ref C::rest,[]⟩)) (call (.ref fI) (.ref e::rest)) (λr s'=>r=.none/\Q (.ref e) s') E ⟨h',g,d,t,os⟩) :
  wpAny (model prog w) A (call (.ref C) rest) Q E ⟨h,g,d,t,os⟩:=by
 have y:=tc_lookup;have x:=tc_bind (.ref C);have v:(⟨h,g,d,t,os⟩:Shared).TypeIs (.ref C) "type":=⟨_,a,rfl⟩
 refine OA (codeAny_of_tree (show wpAny _ _ (callAny (.ref C) _) _ _ _ from ?_))
 repeat (any_goals (first | assumption | with_reducible refine Ix a ?_ | wp_step))
 exact⟨rfl,codeAny_call_builtin_at (PX _ (by decide +kernel)) entry_typeCall (wpAny_check_type_call_sub a (su u c F T a l o p b i j))⟩
end
section
variable{M:Model}{A:Around}{E:QN}{env:Env}
variable{nm q:Str}{C N:Addr}{bs bm:QG}{hdct:Bool}{sn:QF}{sub:QG}{ab:Bool}{col:Option Bool}{dd:Option Addr}{k0 k1 k2 k3 k5:QQ}{newId:String}
theorem rH {s:Shared} {x:Sem Value} {Q:Flow->Shared->Prop} (a:bm.contains (.type "BaseException")=true) (l:A.handled=none)
  (h:wpAny M A x (λv c=>∃e b vs,v=.ref e/\c.heap.get? C=some (excClassObj nm q C N bs bm hdct sn sub ab col dd k0 k1 k2 k3 k5 newId)/\c.heap.get? e=some b/\b.cls=.ref C/\b.data=.fields vs/\vs[1]?=some .none/\E (.ref e) c) E s) :
  wpAny M A (raiseStmt env (some x) none) Q E s:=by
 have B:(Value.ref C::bm).contains (.type "BaseException")=true:=by rw[Pp,a,PB]
 unfold raiseStmt;refine cB (ux h (λv c i=>?_) λ_ _ z=>z);obtain⟨e,b,vs,rfl,j,p,r,hd,i,u⟩:=i;obtain⟨⟨cl,I,y,G⟩,rfl⟩:∃o,b=o:=⟨b,rfl⟩
 cases(show cl=_ from r);cases(show y=_ from hd);obtain⟨H,g,d,tk,os⟩:=c
 repeat (first | with_reducible refine Ix p ?_ | with_reducible refine Ix j ?_ | (with_reducible refine OK j ?_;rw[B]) | wp_step)
 rw[i];refine hH ?_;rw[qc (show ¬(Value.none != Value.none)=true by decide)];exact hH (wpAny_raiseNew_none l u)
end
def wF:QG:=[.type "ValueError",.type "Exception",.type "BaseException",.type "object"]
theorem jP(self:Value):∀a:QE,refuseLoop self "__setattr__" (a.map Value.ref++wF)=pure ()
 | []=>PySem.F.store_ValueError.passes self
 | c::r=>by rw[rl,PF,refuseLoop_ref];exact jP self r
theorem pI{n:String}(a:wF.contains (.type n)=true):∀b:QE,(b.map Value.ref++wF).contains (.type n)=true
 | []=>a
 | c::r=>by rw[rl,PF,Pp,pI a r,PB]
structure mi(K:QP)(C:Addr)(name:Str):Prop where
 cls:∃(cd:ClassData) (rs:QE),PySem.W.clsIn K C=some cd/\cd.mro=rs.map Value.ref++wF/\cd.hasDict=true
 set:PySem.W.findIn K (.ref C) "__setattr__"=some (some (.builtin "object.__setattr__"))
 no:PySem.W.findIn K (.ref C) name=some none
def RQ(Q:Unit->Shared->Prop)(E:QN):Result->Shared->Prop:=λr a=>match r with
 | .ok (.ret _)=>Q () a
 | .ok _=>False
 | .error e=>E e a
section
variable{prog:Program}{w:World}{A:Around}{E:QN}{s:Shared}{K:QP}{x C:Addr}{ox:Obj}{name:Str}{v:Value}
theorem jU{Q:Unit->Shared->Prop}(X:K.In s.heap)(u:s.heap.get? x=some ox)(d:ox.cls=.ref C)(F:mi K C name)
  (h:∀b:Bool,wpAny (model prog w) A.in1 (Builtin.ObjectAttr.storeInOwnDict (.ref x) (.ref C) (.str name s.toks) name v b) (λg s'=>match g with | .done f=>RQ Q E (.ok f) s' | .again l=>l.quiet=true/\codeAny (model prog w) A l (RQ Q E) s') (λe s'=>RQ Q E (.error e) s') { s with toks:=s.toks+1 }) :
  wpAny (model prog w) A (setAttr (.ref x) name v) Q E s:=by
 obtain⟨j,o,i,c,y⟩:=F.cls
 have ty:PySem.W.Looks (model prog w) s.heap (typeOf (.ref x)) (.ref C):=λA Q E s' k q=>by
  have:=k _ _ u;unfold typeOf;refine cB (Oz this ?_);rw[d];exact hH q
 have p:PySem.W.Looks (model prog w) s.heap (mroOf (.ref C)) j.mro:=(Pl X i).andThen .now;have a:=PySem.F.store_object;have ne:j.mro.isEmpty=false:=by rw[c];cases o<;>rfl
 have sub:PySem.W.Looks (model prog w) s.heap (isInstance (.ref x) (.type "object")) true:=ty.andThen (PySem.W.looks_mroIn X (by unfold PySem.W.mroIn;rw[i,PC,qc (by rw[ne];decide),c,pI (by decide)]));unfold setAttr callSpecial? specialOf;refine cB (wpAny_mkText (cB (cB (cB ((ty.keeps λ_ _ e=>e).here (s:={ s with toks:=s.toks+1 }) (((PySem.W.looks_findIn X F.set).keeps λ_ _ e=>e).here (s:={ s with toks:=s.toks+1 }) (u7 ?_)))))));rw[a.slot.bind];refine cB (hH (cB (OA (OL (R:=RQ Q E) ?_ λr s' z=>?_))))
 rotate_left
 ·rcases r with e | (v | _ | _ | _)<;>first | exact z | exact hH (hH z)
 refine OG a.slot.plain a.entry (@PySem.W.check_slot (model prog w) _ _ { s with toks:=s.toks+1 } "object.__setattr__" "object" "__setattr__" (.ref x) [.str name s.toks,v] [] _ a.kind a.split sub (a.args (.ref x) (.str name s.toks) v) ?_);show wpAny (model prog w) A.in1 (Builtin.«object.__setattr__» ⟨[.ref x,.str name s.toks,v],[]⟩) _ _ _;rw[PySem.W.osa_eq,refuse_eq];refine cB (cB (ty.here (s:={ s with toks:=s.toks+1 }) (cB (p.here (s:={ s with toks:=s.toks+1 }) ?_))));rw[c,jP];refine hH (cB (ty.here (s:={ s with toks:=s.toks+1 }) (cB ((PySem.W.looks_findIn X F.no).here (s:={ s with toks:=s.toks+1 }) (cB (PySem.W.Looks.now.here (r:=(none:QQ)) ?_))))));exact h _
theorem gZ{Q:Unit->Shared->Prop}{d:Addr}{m:QL}{ns:QF}{tk:Tok}(l:s.heap.Ns1 d m)(hw:Within m ns)(p:ns.length<sizeLine)
  (h:∀h',h'.Ns1 d (λy=>if y=name then some v else m y)->Heap.SameBut d s.heap h'->Q () { s with heap:=h',toks:=s.toks+1 }) :
  wpAny (model prog w) A.in1 (Builtin.ObjectAttr.storeInDict d (.str name tk) name v) (λg s'=>match g with | .done f=>RQ Q E (.ok f) s' | .again i=>i.quiet=true/\codeAny (model prog w) A i (RQ Q E) s') (λe s'=>RQ Q E (.error e) s') s:=by
 refine cB (hH (cB (wpAny_nsSet1 l λh' n2 j=>?_)));obtain⟨o,q,r,a,b,c⟩:=n2.count (Within.cons name v hw);refine cB (wpAny_lookBehind a (by rw[b];exact pastItsLine_dict (sr c (by rw[sw];omega))) ?_);exact hH (h h' n2 j)
theorem Bt{Q:Unit->Shared->Prop}(X:K.In s.heap)(g:s.heap.get? x=some ox)(d:ox.cls=.ref C)(F:mi K C name){vs:QK}(hd:ox.data=.fields vs)(G:ox.dict=none)
  (h:∀h' tk,h'.get? x=some { ox with dict:=some s.heap.objs.size }->h'.Ns1 s.heap.objs.size (λy=>if y=name then some v else none)->(∀b o,b≠x->s.heap.get? b=some o->h'.get? b=some o)->Q () { s with heap:=h',toks:=tk }) :
  wpAny (model prog w) A (setAttr (.ref x) name v) Q E s:=by
 refine jU X g d F λb=>?_;obtain⟨U,S,J,T,H⟩:=F.cls;obtain⟨R,O,p,a⟩:=ox;cases(show R=_ from d);cases(show O=_ from G);cases(show p=_ from hd);have ld:=(Pl (M:=model prog w) X J)
 refine cB (hH (cB (cB (Oz g (cB (ld.here (s:={ s with toks:=s.toks+1 }) ?_))))));rw[H,qc (by decide)];have c:(s.heap.push { cls:=.type "dict",data:=.dict #[] }).get? x=some { cls:=.ref C,data:=.fields vs,slots:=a }:=dL _ g;have q:x≠s.heap.objs.size:=sx (oD g);refine cB (wpAny_alloc' (cB (wpAny_update' c ?_)));refine hH ?_;have z:((s.heap.push { cls:=.type "dict",data:=.dict #[] }).update x λo=>{ cls:=o.cls,dict:=some s.heap.objs.size,data:=o.data,slots:=o.slots }).get? x=some { cls:=.ref C,dict:=some s.heap.objs.size,data:=.fields vs,slots:=a }:=wE _ c rfl;have gd:((s.heap.push { cls:=.type "dict",data:=.dict #[] }).update x λo=>{ cls:=o.cls,dict:=some s.heap.objs.size,data:=o.data,slots:=o.slots }).get? s.heap.objs.size=some { cls:=.type "dict",data:=.dict #[] }:=(Heap.get?_update_ne _ _ _ _ q.symm).trans (Heap.get?_push_at rfl rfl);have B:∀b o,b≠x->s.heap.get? b=some o->((s.heap.push { cls:=.type "dict",data:=.dict #[] }).update x λo=>{ cls:=o.cls,dict:=some s.heap.objs.size,data:=o.data,slots:=o.slots }).get? b=some o:=λb o j i=>(Heap.get?_update_ne _ _ _ _ j).trans (dL _ i);generalize (s.heap.push { cls:=.type "dict",data:=.dict #[] }).update x (λo=>{ cls:=o.cls,dict:=some s.heap.objs.size,data:=o.data,slots:=o.slots })=u at z gd B;have l:u.Ns1 s.heap.objs.size (λ_=>none):=Heap.Ns1.of_empty ⟨_,#[],_,gd,rfl,λe I=>absurd I (by simp),λ_=>rfl⟩;refine gZ (s:={ s with heap:=u,toks:=s.toks+1 }) (ns:=[]) l Within.nil (by show 0<sizeLine;rw[v1];decide) λh' n2 r=>h h' _ ((r.2 x q).trans z) n2 λb o j i=>(r.2 b (sx (oD i))).trans (B b o j i)
theorem yv{Q:Unit->Shared->Prop}(X:K.In s.heap)(c:s.heap.get? x=some ox)(a:ox.cls=.ref C)(F:mi K C name){d:Addr}{m:QL}{ns:QF}(hd:ox.dict=some d)(j:s.heap.Ns1 d m)(hw:Within m ns)(i:ns.length<sizeLine)
  (h:∀h' tk,h'.Ns1 d (λy=>if y=name then some v else m y)->Heap.SameBut d s.heap h'->Q () { s with heap:=h',toks:=tk }) :
  wpAny (model prog w) A (setAttr (.ref x) name v) Q E s:=by
 refine jU X c a F λb=>?_;obtain⟨B,u,o,z,l⟩:=F.cls;obtain⟨r,q,p,e⟩:=ox;cases(show r=_ from a);cases(show q=_ from hd);have ld:=(Pl (M:=model prog w) X o)
 refine cB (hH (cB (cB (Oz c (cB (ld.here (s:={ s with toks:=s.toks+1 }) ?_))))));rw[l,qc (by decide)];refine hH ?_;exact gZ (s:={ s with toks:=s.toks+1 }) j hw i λh' n2 g=>h h' _ n2 g
end
end L2
namespace PySem.W
open PySem PySem.Calls PyProof.Rows Builtin Builtin.ObjectAttr Builtin.Getset_descriptor
section
variable{K:Frag}{prog:Program}{w:World}{A:Around}{E:QN}{s:Shared}{e D dx:Addr}{oe:Obj}{name:Str}{m:QL}{v:Value}{cd:ClassData}
theorem FX {a:Bool} {Q:QN} (c:findIn K (.ref D) "__getattribute__"=some (some (.builtin "BaseException.__getattribute__"))) (b:findIn K (.ref D) "__getattr__"=some none)
  (C:findIn K (.ref D) name=some none) (B:mroIn K D (.type "BaseException")=some true) (i:clsIn K D=some cd) (y:cd.hasDict=true)
  (X:K.In s.heap) (g:s.heap.get? e=some oe) (o:oe.cls=.ref D) (hd:oe.dict=some dx) (x:s.heap.Ns1 dx m) (q:m name=some v) {vs:QK} (z:oe.data=.fields vs) (u:handedOut v=pure v) (h:Q v { s with toks:=s.toks+1 }):wpAny (model prog w) A (getAttr (.ref e) name a) Q E s:=by
 obtain⟨r,R,d,t,os⟩:=s;have l:Looks (model prog w) r (typeOf (.ref e)) (.ref D):=o▸(Looks.ld g).andThen .now;have O:=OP (M:=model prog w) X c;have L2:=OP (M:=model prog w) X b;have L3:=OP (M:=model prog w) X C;have J:=looks_mroIn (M:=model prog w) X B;have I:=looks_clsIn (M:=model prog w) X i;unfold getAttr getAttrBy;refine cB (wpAny_mkText (u7 (cB (l.at (cB (O.at ?_))))));show wpAny _ _ (getAttrByItsOwn _ _ _ _ _ _) _ _ _;unfold getAttrByItsOwn hookBefore;refine cB (L2.at ?_);refine cB (OE (u7 ?_));unfold callGetattribute;rw[show(a&&onTheHeap (Value.builtin "BaseException.__getattribute__"))=false by cases a<;>rfl];rw[qc nT];unfold boundAndCalled;refine cB (wpAny_of_eq (pQ _) ?_);show wpAny _ _ (call (.builtin "BaseException.__getattribute__") [.ref e,.str name t]) _ _ _;refine OA (OG ki F.entry_bexc_ga (jF l J ?_));unfold Builtin.«object.__getattribute__»;refine cB (hH (cB (hH (cB (l.at (cB ?_))))));unfold find;refine cB (L3.at (cB (hH (cB (hH ?_)))));obtain⟨H,G,j,p⟩:=oe;cases(show H=_ from o);cases(show G=_ from hd);cases(show j=_ from z);show wpAny _ _ (inOwnDict name (.ref e) >>= _) _ _ _;refine cB ?_;show wpAny _ _ (Builtin.ObjectAttr.ownDict e >>= inDict name) _ _ _;refine cB ?_;unfold Builtin.ObjectAttr.ownDict loadHead instanceDict;refine cB (Oz g (cB (Oz g (cB (I.at ?_)))));rw[y,qc (by decide)];refine hH (wpAny_nsGet x.ns ?_);rw[q];refine cB (PP (hH (hH ?_)));show wpAny _ _ (handedOut v) _ _ _;rw[u];exact hH h
end
end PySem.W
namespace L2
open PySem PySem.Spec PyProof.Rows
def Ea(P:Program)(w:World):tV:=λouter H s E x a=>∃(e:Addr) (cls d:Value) (T:Addr) (c:Option Addr) (b:Hp),x=.ref e/\qt a.heap e cls d T c/\s.heap.get? e=none/\s.heap.get? T=none/\b e=none/\b T=none /\
 a.os=s.os/\AllBare a.gens/\Un (W4 outer) [] H b s.heap a.heap/\R5 P w b a.heap/\E cls c b
section
variable{P:Program}{w:World}{K:QP}{mg:QL}{base:Heap}{N:QF}{qual:Str}{scope:Scope}{f:Addr}{cd:Value}{A:Around}{outer:List Env}{s:Shared}{H:Hp}{E:XK}
 {pins:QA} {σ:St} {H1:Hp} {s1:Shared}
theorem BW{e:Addr}{i:Obj}{vs:QK}{u:Value}(I:Inv (bX (Ea P w) P w K mg base N qual scope f cd A outer s H E) pins σ H1 s1)(o:s1.heap.get? e=some i)(hd:i.data=.fields vs)(r:vs[0]?=some u)(q:vs[1]?=some .none)
  (l:s.heap.get? e=none) (te:H1 e=none) (p:E i.cls i.dict H1):(bX (Ea P w) P w K mg base N qual scope f cd A outer s H E).xe (.ref e) s1:=by
 have j:s1.heap.FunFrames base (envOfC qual scope s.heap.objs.size f cd::outer):=I.stack;have v:Un (W4 outer) [] H H1 s.heap s1.heap:=I.base;refine nI (L:=s.heap.objs.size) (I.ok.frames) j rfl o hd q r λx T g=>?_
 obtain⟨a,b,c,d⟩:=DF (L:=s.heap.objs.size) rfl v I.hok wM l (λb h=>by cases h) I.free te (λb h=>by cases h) (λb h=>I.fA b (by
  show b∈W4 (envOfC qual scope s.heap.objs.size f cd::outer);exact ol _ h)) g.gone
 exact⟨e,_,_,T,_,H1,rfl,g.je,l,d,te,c,I.os,I.bare,a,b,p⟩
end
section
variable{X:Cx}{pins:QA}{σ:St}{H:Hp}{s:Shared}
def zc(X:Cx)(pins:QA)(σ:St)(E:XK)(x:Value)(s':Shared):Prop:=∃b a,Inv X pins σ b a/\Ea X.prog X.w X.stack b a E x s'
theorem xa{k:Nat}{f:Addr}{G:FuncData}{ps:QF}{sp:Sp}{b:List V}{ds:QG}{x:Str}{p c:Pos}{e:Expr}{i:QH}{t:TA}{E:XK}{Q:VK}(J:w6 X.prog X.w X.K X.mg X.base (Ea X.prog X.w) k f G ps sp)(O:D3 k X.A)(U:Gl X x)(R:X.mg x=some (.ref f))(T:PySem.W.keepIn X.K (.ref f)=true)(hb:Binds X.K G ps ds)(hd:Vals b ds)
  (ha:PA (X.Z1 λ_ _=>False) (e::i) t) (I:Inv X pins σ H s) (h:t σ H λvs l=>sp (vs++b) l Q E) (y:(x == ("__debug__" : Str))=false:=by decide) (Y:starEach (e::i) X.env=(false,eval e X.env)::starEach i X.env:=by rfl) (v:(backTo c (starEach i X.env)).any (·.1)=false:=by rfl) :
  wpAny (model X.prog X.w) X.A (eval (.Call (.Name x p) (e::i) [] c) X.env) (EP X pins σ Q) (zc X pins σ E) s:=by
 refine OO (cA I U R ?_ y);have I':Inv (X.Z1 λ_ _=>False) pins σ H s:=⟨I.ok.Z1 _,I.os,I.bare,I.base,I.loc,I.cell,I.free,I.freeC,I.pin,I.hok,I.len⟩
 have B:=ha c pins s σ H _ I' h;refine PySem.W.callWith_K (h₀:=X.base) I.ok.mod.kin T (ux B (λd o h1=>?_) λ_ _ z=>z.elim) Y v;obtain⟨vs,l,a,r,q⟩:=h1;have j:Inv X pins σ l o:=⟨I.ok,a.os,a.bare,a.base,a.loc,a.cell,a.free,a.freeC,a.pin,a.hok,a.len⟩
 refine⟨j.cU,?_⟩;have C:Vals (vs++b) (d++ds):=r.append hd;have S:(d++ds).length=ps.length:=by rw[<-C.length];exact J.len _ _ _ _ q
 refine OA (OL (J.run X.A X.stack o l ⟨d,[]⟩ (d++ds) (vs++b) Q E O j.IL (hb o d j.cU S) C q) λM s' g=>?_)
 cases M with
 | error e=>exact⟨l,o,j,g⟩
 | ok fl=>
  cases fl with
  | ret u=>exact j.after g
  | next=>exact False.elim g
  | brk=>exact False.elim g
  | cont=>exact False.elim g
end
structure jK(X:Cx)(pins:QA)(σ:St)(H:Hp)(s:Shared)(e T:Addr)(cls a0:Value)(od:Option Addr):Prop where
 held:HJ X pins σ H s e T cls a0
 je:qt s.heap e cls a0 T od
section
variable{X:Cx}{pins:QA}{σ:St}{H:Hp}{s:Shared}{e T:Addr}{cls a0:Value}{od:Option Addr}{E:XK}{x:Value}{Q:Unit->Shared->Prop}{M:Model}{A:Around}{E2:QN}
theorem xM{s':Shared}(I:A.frames=some X.stack)(i:X.stack=X.env::X.outer)(C:X.env.frame=some X.env.locals)(c:zc X pins σ E x s')
  (h:∀e T cls a0 od j q,x=.ref e->jK X pins σ j q e T cls a0 od->E cls od j->Q () q):wpAny M A (noteFrame x X.env) (λ_ u=>wpAny M A (setFlight x none) Q E2 u) E2 s':=by
 obtain⟨Y,v,p,e,cls,a0,T,od,j,rfl,O,ne,y,te,tT,os,bare,U,ok,G⟩:=c;have J:=p.kz os U ok bare (λb z=>absurd z (by simp));have B:s'.heap.FunFrames X.base (X.env::X.outer):=i▸J.stack;refine pS (i▸I) B C O λr R g=>?_;obtain⟨a,b,c,d⟩:=xp (l:=X.stack) U ok ne (λb o=>by rw[List.mem_singleton.mp o];exact y) te (λb o=>by rw[List.mem_singleton.mp o];exact tT) J.fA (by rw[i];exact g.gone);have S:Inv X pins σ j { s' with heap:=r }:=p.kz (s':={ s' with heap:=r }) os a b bare (λb z=>absurd z (by simp));exact h e R cls a0 od j _ rfl ⟨⟨S,g.je.je,te,c,Y,v,p,os,bare,a,ne,d⟩,g.je⟩ G
theorem jK.again(c:jK X pins σ H s e T cls a0 od)(h:∀s',jK X pins σ H s' e T cls a0 od->Q () s'):wpAny M A (setFlight (.ref e) none) Q E2 s:=by
 obtain⟨C,g,B,os,bare,U,ne,r⟩:=c.held.from_;refine jg c.je λp k v=>?_;have st:∀b o,g.heap.get? b=some o->b≠T:=λb o a z=>by rw[z,r] at a;cases a
 have y:Un (W4 X.stack) [] C H g.heap p:=⟨λb o a j l d=>(k b (st b o a)).trans (U.keep b o a j l d),λb o a j l d=>by
   obtain⟨G,q⟩:=U.slot b o a j l d;exact⟨G,(k b (st b o a)).trans q⟩,U.free,λb o a d=>by
   obtain⟨I,q⟩:=U.there b o a d;exact⟨I,(k b (st b o a)).trans q⟩,U.D5,U.frzs,U.tbls,U.low⟩
 have i:R5 X.prog X.w H p:=R5.wc c.held.inv.hok λb u a J=>(k b λz=>a (z▸c.held.tT)).trans J;exact h _ ⟨⟨B.kz (s':={ s with heap:=p }) os y i bare (λb z=>absurd z (by simp)),v.je,c.held.te,c.held.tT,C,g,B,os,bare,y,ne,r⟩,v⟩
theorem jK.pin(c:jK X pins σ H s e T cls a0 od){F:QN}:∃a,a.cls=cls/\a.dict=od/\(∃vs,a.data=.fields vs)/\Inv (X.N0 e a F) pins σ H s:=by
 have l:=c.je.je.apart c.held.inv.stack;obtain⟨a,j,I⟩:=c.held.pin (F:=F);obtain⟨b,vs,_,_,g,_,h,_,d,_⟩:=c.je;obtain⟨i,_⟩:=I.pin (e,a) (sd _ (iL _ (List.mem_singleton.mpr rfl)));have:b=a:=tL (g.symm.trans i);subst this;exact⟨b,j,h,⟨vs,d⟩,I⟩
end
def zt:V->Bool
 | .int _=>true
 | .str _=>true
 | _=>false
theorem CQ{v:V}{u:Value}(h:zt v=true)(r:RelV v u):handedOut u=pure u:=by
 cases v<;>first | cases h | skip
 ·obtain⟨t,rfl⟩:=r;rfl
 ·obtain⟨t,rfl⟩:=r;rfl
structure oH(K:QP)(C:Addr)(f:Str):Prop where
 cls:∃cd,PySem.W.clsIn K C=some cd/\cd.hasDict=true
 no:PySem.W.findIn K (.ref C) f=some none
def Oc(e a:Addr)(d:TE)(f:Str):TE:=λc H Q=>d c H λx b=>x=.ref e/\∃fs v,b a=some (qP a fs)/\fs.lookup f=some v/\zt v=true/\Q v b
section
variable{X:Cx}{o:Expr}{f:Str}{pos:Pos}{ta:TE}{e dx C:Addr}{oe:Obj}{vs:QK}
theorem EV(G:(e,oe)∈X.pn)(T:oe.cls=.ref C)(hd:oe.dict=some dx)(R:oe.data=.fields vs)(B:PySem.W.bh X.K C)(F:oH X.K C f)(S:PE X o ta)(U:attributeBase o f X.env (eval o X.env)=eval o X.env):PE X (.Attribute o f pos) (Oc e dx ta f):=by
 refine .of ?_;intro b s j H Q I h;obtain⟨Y,d,O⟩:=F.cls;refine Fe U (B4 (S b s j H _ I h) λu l ⟨x,i,c,p,ex,fs,v,z,M,y,q⟩=>?_);subst ex;obtain rfl:u=Value.ref e:=p;obtain⟨⟨r,J,E,_⟩,_⟩:=(show u3 X.prog X.w i l.heap dx (qP dx fs) from c.hok dx _ z)
 have a:=E f;rw[M] at a
 cases g:r f with
 | none=>rw[g] at a;exact a.elim
 | some u=>
  rw[g] at a;exact PySem.W.FX B.ga B.gn F.no B.be d O c.cU (c.pin (e,oe) (sd _ G)).1 T hd J g R (CQ y a) ⟨v,i,c.tok _,a,q⟩
end
def xo(a:Addr)(b:Obj):HO:=.ext λh=>h.get? a=some b
theorem Gw{P:Program}{w:World}{H:Hp}{h:Heap}{a:Addr}{b:Obj}(e:h.get? a=some b):u3 P w H h a (xo a b):=⟨e,⟨_,e⟩,λd c q k=>k _ q⟩
def oC(K:QP)(h g:TE)(f:Str):TS:=λD e H=>g e H λy i=>h e i λx d=>∃a c C vs,x=.ref a/\d a=some (xo a c)/\c.cls=.ref C/\c.data=.fields vs/\mi K C f /\
  ((c.dict=none/\∀b,d b=none->b≠a->D.nx e (upd (upd d b (qP b [(f,y)])) a (xo a { c with dict:=some b }))) \/
   ∃b fs,c.dict=some b/\b≠a/\d b=some (qP b fs)/\fs.length<1000/\D.nx e (upd d b (qP b ((f,y)::fs))))
theorem cb{f g:Str}{y:V}{u:Value}{fs:List (Str×V)}{mA:QL}(r:∀f,ak (fs.lookup f) (mA f))(a:RelV y u):ak (((f,y)::fs).lookup g) (if g=f then some u else mA g):=by
 by_cases h:g=f
 ·subst h;rw[qq rfl,List.lookup_cons_self];exact a
 ·rw[qc h];have:(g == f)=false:=beq_eq_false_iff_ne.mpr h;rw[ut,this];exact r g
section
variable{X:Cx}{o e value:Expr}{f:Str}{pos pos':Pos}{ta tv:TE}
theorem vD(ha:PE X o ta)(hv:PE X value tv)(hs:swapsWith value (some (.Attribute o f pos')) pos.line X.env=pure false):PS X (.Assign [.Attribute o f pos'] value pos) (oC X.K ta tv f):=by
 refine .of ?_;intro j s G H D I h;refine plainObj_wpAny_Assign_Attribute (B4 (hv j s G H _ I h) λu s1 ⟨y,H1,I1,Y,q⟩=>B4 (ha j s1 G H1 _ I1 q) λov i ⟨x,H2,p,rx,a,O,C,vs,ex,ea,R,hd,F,B⟩=>?_) hs;subst ex;obtain rfl:ov=Value.ref a:=rx;obtain⟨r,_⟩:=(show u3 X.prog X.w H2 i.heap a (xo a O) from p.hok a _ ea)
 have r:i.heap.get? a=some O:=r;rcases B with⟨J,B⟩ | ⟨v,fs,Q,ne,E,hl,B⟩
 ·refine Bt p.cU r R F hd J λl tk S n2 k2=>?_;have U:a≠i.heap.objs.size:=sx (oD r);obtain⟨c0,d0,T,c⟩:=O;cases(show c0=_ from R);cases(show d0=_ from J);cases(show T=_ from hd);have fr:Obj.isFreed { cls:=.ref C,dict:=none,data:=.fields vs,slots:=c }=false:=rfl;have g1:(l.update a λ_=>{ cls:=.ref C,dict:=none,data:=.fields vs,slots:=c }).get? a=some { cls:=.ref C,dict:=none,data:=.fields vs,slots:=c }:=wE _ S fr;have M:∀b,b≠a->(l.update a λ_=>{ cls:=.ref C,dict:=none,data:=.fields vs,slots:=c }).get? b=l.get? b:=λb d=>vu _ _ d.symm;generalize (l.update a λ_=>{ cls:=.ref C,dict:=none,data:=.fields vs,slots:=c })=h1 at g1 M;have n3:h1.Ns1 i.heap.objs.size (λy=>if y=f then some u else none):=n2.at λo z=>(M _ U.symm).trans z
  have J1:=p.laid (a:=i.heap.objs.size) (o:=qP i.heap.objs.size [(f,y)]) (h':=h1) (t':=tk) (λb o z=>by
   by_cases d:b=a
   ·subst d;rw[r] at z;cases z;exact g1
   ·exact(M b d).trans (k2 b o d z)) (hI _) (zH n3 (λg=>cb (fs:=[]) (mA:=λ_=>none) (λ_=>trivial) Y) (Within.cons f u Within.nil))
  have J2:=J1.write (x:=a) (e:=a) (o:=xo a { cls:=.ref C,dict:=some i.heap.objs.size,data:=.fields vs,slots:=c }) (h':=l) (t':=tk) (by rw[i4 U,ea];exact True.intro) (.inl rfl) (λb u d z=>(M b d).symm.trans z) ⟨_,S⟩ (Gw S);exact⟨G,_,J2,B _ (p.hok.fresh (hI _)) U.symm⟩
 ·obtain⟨⟨mA,J,hr,hw⟩,_⟩:=(show u3 X.prog X.w H2 i.heap v (qP v fs) from p.hok v _ E)
  refine yv p.cU r R F Q J hw (by rw[cC,v1];omega) λl tk n2 s3=>?_;exact⟨G,_,p.write (x:=v) (e:=v) (o:=qP v ((f,y)::fs)) (h':=l) (t':=tk) (by rw[E];exact True.intro) (.inl rfl) (λb u d z=>(s3.2 b d).trans z) (let ⟨o,_,_,e,_⟩:=n2;⟨o,e⟩) (zH n2 (λg=>cb hr Y) (Within.cons f u hw)),B⟩
end
def forget(H:Hp)(e:Addr):Hp:=λb=>if b=e then none else H b
theorem I0{H:Hp}{e b:Addr}(h:b≠e):forget H e b=H b:=qc h
theorem Un.forget{fs ex:QE}{H d:Hp}{h h':Heap}{e:Addr}(u:Un fs ex H d h h')(n:H e=none):Un fs ex H (L2.forget d e) h h' where
 keep:=u.keep
 slot:=u.slot
 free:=λb o q z c=>by
  unfold L2.forget
  by_cases a:b=e
  ·rw[qq a]
  ·rw[qc a];exact u.free b o q z c
 there:=u.there
 D5:=λb g z=>by rw[I0 λw=>by rw[w,n] at z;cases z];exact u.D5 b g z
 frzs:=λb o v z=>by rw[I0 λw=>by rw[w,n] at z;cases z];exact u.frzs b o v z
 tbls:=λb i z=>by rw[I0 λw=>by rw[w,n] at z;cases z];exact u.tbls b i z
 low:=λc q z=>by
  unfold L2.forget
  by_cases a:sysModules=e
  ·rw[qq a]
  ·rw[qc a];exact u.low c q z
theorem R5.forget{P:Program}{w:World}{H:Hp}{h:Heap}{e:Addr}{c:Obj}(ok:R5 P w H h)(z:H e=some (xo e c)):R5 P w (L2.forget H e) h:=λa o q=>by
 have ne:a≠e:=λw=>by unfold L2.forget at q;rw[qq w] at q;cases q
 rw[I0 ne] at q;exact(ok a o q).lS (λb u _ y=>y) (λb y=>by rw[I0 λw=>by rw[w,z] at y;cases y];exact y) λb d y=>by rw[I0 λw=>by rw[w,z] at y;cases y];exact y
def Z8(C:Addr)(names:QF):Sp:=λvs H Q _=>∃e d h a,vs=.ref e::a/\a.length=names.length/\H e=some (xo e d)/\d.cls=.ref C/\d.dict=none/\d.data=.fields h /\
 ∀c g,H c=none->c≠e->g c=some (qP c (names.zip a).reverse)->g e=some (xo e { d with dict:=some c })->(∀b,b≠c->b≠e->g b=H b)->Q .p7 g
def rE(X:Cx)(E:XK):Prop:=∀(a:QA) (g:St) (d:Hp) (c:Shared) (e:Addr) (b:Obj) (vs:QK) (h:Value),Inv X a g d c->c.heap.get? e=some b->b.data=.fields vs->vs[0]?=some h->vs[1]?=some .none->X.s₀.heap.get? e=none->d e=none->E b.cls b.dict d->X.xe (.ref e) c
theorem bJ{P:Program}{w:World}{K:QP}{mg:QL}{base:Heap}{N:QF}{a:Str}{scope:Scope}{f:Addr}{j:Value}{A:Around}{outer:List Env}{s:Shared}{H:Hp}{E:XK} :
  rE (bX (Ea P w) P w K mg base N a scope f j A outer s H E) E:=λb l r o e p vs q I c hd h g i te d=>BW I c hd h g i te d
structure DW(x:Str)(C fI:Addr)(bmB:QG)(newId:String)(mg:QL)(base:Heap):Prop where
 bound:mg x=some (.ref C)
 obj:∃tl N nm q bs hdct sn sub ab col dd k0 k1 k2 k3 k5 mN oI,base.get? C=some (excClassObj nm q C N bs tl hdct sn sub ab col dd k0 k1 k2 k3 k5 newId)/\base.Ns N mN/\mN "__init__"=some (.ref fI)/\OwnTail base bmB tl/\base.get? fI=some oI/\oI.cls=.type "function"
def DN(C:Addr)(names:QF)(E:XK)(t:TA):TS:=λ_ e H=>t e H λvs d=>vs.length=names.length/\vs.length<=sizeLine/\∀a c,d a=none->c a=some (qP a (names.zip vs).reverse)->(∀b,b≠a->d b≠none->c b=d b)->(∀b,c b=none->d b=none)->E (.ref C) (some a) c
theorem yh{X:Cx}{x:Str}{C fI:Addr}{k:Nat}{a5:FuncData}{Y names:QF}{B Bn newId ac R ad:String}{bm b3:QG}{np j a6:Pos}{i:Expr}{c:QH}{E:XK}{t:TA}(O:DW x C fI bm newId X.mg X.base)(FI:w6 X.prog X.w X.K X.mg X.base P9 k fI a5 Y (Z8 C names))(hr:D3 (k+1) X.A)(hb:Binds X.K a5 Y [])
  (Fn:ExcBaseFacts Bn newId ad b3) (b1:bm.contains (.type Bn)=true) (FB:ExcBaseFacts B ac R bm) (hc:X.calm=true) (mk:rE X E) (hg:Gl X x) (ha:PA X (i::c) t) (b0:(x == ("__debug__" : Str))=false:=by decide)
  (he:starEach (i::c) X.env=(false,eval i X.env)::starEach c X.env:=by rfl) (an:(backTo j (starEach c X.env)).any (·.1)=false:=by rfl) :
  PS X (.Raise (some (.Call (.Name x np) (i::c) [] j)) none a6) (DN C names E t):=by
 refine .of ?_;intro p s σ H D I h;obtain⟨tl,N,nm,q,bs,a2,sn,sub,ab,b2,dd,k0,k1,k2,k3,k5,mN,oI,hC,hN,hi,T,hf,ar⟩:=O.obj;rw[arm_exec_Raise];refine cB (IN (rH (C:=C) (nm:=nm) (q:=q) (N:=N) (bs:=bs) (bm:=tl) (hdct:=a2) (sn:=sn) (sub:=sub) (ab:=ab) (col:=b2) (dd:=dd) (k0:=k0) (k1:=k1) (k2:=k2) (k3:=k3) (k5:=k5) (newId:=newId) (T.hasType FB.hasBase) (I.ok.hd hc) ?_));refine cB (ux (wpAny_Call_ofName (cA I hg O.bound ?_ b0)) (λv s3 h3=>cB (IN (hH h3))) λ_ _ z=>z);have a3:=ha j p s σ H _ I h;have a0:(backTo j ((false,eval i X.env)::starEach c X.env)).any (·.1)=false:=by show(false||(backTo j (starEach c X.env)).any (·.1))=false;rw[an];rfl
 unfold callWith;rw[he] at a3 ⊢;have hA:wpAny (model X.prog X.w) X.A (evalArgs (.ref C) true (backTo j ((false,eval i X.env)::starEach c X.env)) []) (λa s2=>a.kw=[]/\∃vs G,Inv X p σ G s2/\Vals vs a.pos/\vs.length=names.length/\vs.length<=sizeLine/\∀l H2,G l=none->H2 l=some (qP l (names.zip vs).reverse)->(∀b,b≠l->G b≠none->H2 b=G b)->(∀b,H2 b=none->G b=none)->E (.ref C) (some l) H2) X.xe s:=Pz (B4 a3 λQ s1 ⟨vs,G,M,r,q⟩=>⟨rfl,vs,G,M,r,q⟩);refine cB (u7 (ux hA (λa s2 h2=>cB (IN ?_)) λ_ _ z=>z));obtain⟨Q,kw⟩:=a;obtain⟨ap,vs,G,M,r,a1,am,hE⟩:=h2;obtain rfl:kw=[]:=ap;have a4:=M.bk _ _ hC;have ax:=M.bk _ _ hf;simp only[a0];obtain⟨hp,g,d,tk,os⟩:=s2;have ao:Q.length<=sizeLine:=by rw[<-r.length];exact am
 refine cB (wpAny_keeperOf_exc a4 ?_);refine cB (qR Fn b1 FB (T.keeps M.bk) a4 (hN.keeps M.bk) hi ax ar ao λh' e hm S=>?_);obtain⟨t0,al,_,_⟩:=hm.there;have n1:G e=none:=M.hok.fresh S;have I2:=M.laid (a:=e) (o:=xo e { cls:=.ref C,data:=.fields #[.ref t0,.none,.none,.none,.bool false,.none] }) (h':=h') (t':=tk) hm.keeps S (Gw al);have r2:Vals (V.ref e::vs) (Value.ref e::Q):=.cons rfl r
 have sp:Z8 C names (V.ref e::vs) (upd G e (xo e { cls:=.ref C,data:=.fields #[.ref t0,.none,.none,.none,.bool false,.none] })) (λv U=>v=.p7/\∃l,l≠e/\G l=none/\U l=some (qP l (names.zip vs).reverse)/\U e=some (xo e { cls:=.ref C,dict:=some l,data:=.fields #[.ref t0,.none,.none,.none,.bool false,.none] })/\∀b,b≠l->b≠e->U b=G b) E0:=
  ⟨e,_,_,vs,rfl,a1,g9,rfl,rfl,rfl,λl U z1 z2 z3 z4 z5=>⟨rfl,l,z2,by rw[<-z1,i4 z2],z3,z4,λb y1 y2=>(z5 b y1 y2).trans (i4 y2)⟩⟩
 have hl:(Value.ref e::Q++[]).length=Y.length:=by
  have q:=r2.length;rw[FI.len _ _ _ _ sp] at q;rw[sK];exact q.symm
 have run:=FI.run _ X.stack _ _ ⟨Value.ref e::Q,[]⟩ (Value.ref e::Q) _ _ E0 (hr.make C Q []) (I2.IL.make C Q []) (by have:=hb _ (Value.ref e::Q) I2.cU hl;rw[sK] at this;exact this) r2 sp;refine OA (OL run λrr s' hq=>?_)
 cases rr with
 | error x=>exact(show False from hq).elim
 | ok fl=>
  cases fl with
  | next=>exact(show False from hq).elim
  | brk=>exact(show False from hq).elim
  | cont=>exact(show False from hq).elim
  | ret u=>
   obtain⟨v,U,a7,bare,un,ok,rv,ev,l,ne,nd,z3,z4,z5⟩:=hq;subst ev;have b4:Un (W4 X.stack) [] G (upd G e (xo e { cls:=.ref C,data:=.fields #[.ref t0,.none,.none,.none,.bool false,.none] })) hp h':=Un.laid hm.keeps S n1;have UT:=(b4.trans un).forget n1;have J:Inv X p σ (forget U e) s':=M.kz a7 UT (ok.forget z4) bare (λb z=>absurd z (by simp));obtain⟨ge,_⟩:=(show u3 X.prog X.w U s'.heap e (xo e _) from ok e _ z4)
   have ge:s'.heap.get? e=some { cls:=.ref C,dict:=some l,data:=.fields #[.ref t0,.none,.none,.none,.bool false,.none] }:=ge;have en:X.s₀.heap.get? e=none:=OH (sr M.sz S);refine⟨rv,cB (u7 (wpAny_point (hH ?_)))⟩;refine⟨e,_,_,rfl,J.bk _ _ hC,ge,rfl,rfl,rfl,mk p σ _ s' e _ _ _ J ge rfl rfl rfl en (qq rfl) (hE l (forget U e) nd ((I0 ne).trans z3) (λb y1 y2=>?_) λb y=>?_)⟩
   ·have be:b≠e:=λz=>y2 (z▸n1);exact(I0 be).trans (z5 b y1 be)
   ·by_cases be:b=e
    ·rw[be];exact n1
    ·by_cases bd:b=l
     ·rw[bd];exact nd
     ·exact(z5 b bd be).symm.trans ((I0 (H:=U) be).symm.trans y)
section
variable{K:QP}{C:Addr}{f1 f2 f3:Str}{vs:List V}{H:Hp}{Q:VK}{E:XK}{N:QF}
theorem Co(y:mi K C f1)(x:mi K C f2)(h:Z8 C [f1,f2] vs H Q E):yR (oC K (T9 0) (T9 1) f1) (yR (oC K (T9 0) (T9 2) f2) Ct) { nx:=λ_ v=>Q .p7 v,rt:=Q } (start N vs) H:=by
 obtain⟨e,o,j,c,rfl,q,r,g,p,d,k⟩:=h
 match c,q with
 | [a,b],_=>
  refine⟨a,L3.G9 rfl,.ref e,L3.G9 rfl,e,o,C,j,rfl,r,g,d,y,.inl ⟨p,λl nd ne=>?_⟩⟩;refine⟨b,L3.G9 rfl,.ref e,L3.G9 rfl,e,_,C,j,rfl,g9,g,d,x,.inr ⟨l,[(f1,a)],rfl,ne,by rw[i4 ne,g9],(show 1<1000 by decide),?_⟩⟩;exact k l _ nd ne g9 (by rw[i4 ne.symm,g9]) λb i u=>by rw[i4 i,i4 u,i4 i]
theorem sR{ns ps:QF}(h:Z8 C ns vs H Q E)(b:ps.length=ns.length+1):vs.length=ps.length:=by
 obtain⟨e,d,g,a,rfl,c,_⟩:=h;rw[sw,c,b]
end
theorem zq{P:Program}{w:World}{K:QP}{mg:QL}{base:Heap}{x a e d:Str}{C c:Addr}{st:Stmt}{g:FuncData}{N ps:QF}{k:Nat}(F:S6 K x a st c g)(S:j2 N ps (e6 st))(i:ps.length=3)(o:mi K C e)(l:mi K C d)
  (j:∀(b:Value) (A:Around) (outer:List Env) (s:Shared) (H:Hp) (E:XK),mn (bX P9 P w K mg base N a (e6 st) c b A outer s H E).IQ (E7 st) (yR (oC K (T9 0) (T9 1) e) (yR (oC K (T9 0) (T9 2) d) Ct))):w6 P w K mg base P9 (k+1) c g ps (Z8 C [e,d]):=
 F.ok S (λvs H Q E h=>sR h i) λb A outer s H vs Q E p h=>⟨_,j b A outer s H E,Co o l h⟩
end L2
namespace L3
open PySem PySem.Spec PySem.Calls PyProof.Rows L2
abbrev LF:=List D->(D->Prop)->(Str->List V->Prop)->Prop
def fV(Fo:Str->QF)(mg:QL)(W:Str->List V->Prop)(H:Hp)(E:XK):Prop:=∀(y:Str) (C:Addr) (vs:List V) (a:Addr) (b:Hp),W y vs->mg y=some (.ref C)->i5 H b->H a=none->b a=some (qP a ((Fo y).zip vs).reverse)->E (.ref C) (some a) b
def JV(Fo:Str->QF)(K:QP)(mg:QL)(c:LF):Sp:=λvs H Q E=>∃d A e W,j8 K H vs d A/\c d e W/\(∀r v b B,e r->i5 H b->Rep K b v r B->B.Nodup->(∀a∈B,H a=none)->Q v b)/\fV Fo mg W H E
structure IW(P:Program)(w:World)(K:QP)(mg:QL)(base:Heap)(x:Str)(k:Nat)(ps:QF)(sp:Sp)(f:Addr)(fd:FuncData):Prop where
 ok:w6 P w K mg base (Ea P w) k f fd ps sp
 mgf:mg x=some (.ref f)
 kp:PySem.W.keepIn K (.ref f)=true
 bd:Binds K fd ps []
theorem NX{Fo:Str->QF}{P:Program}{w:World}{K:QP}{mg:QL}{base:Heap}{x a:Str}{st:Stmt}{f:Addr}{h:FuncData}{N ps:QF}{k:Nat}{c:LF}{s:(Str->List V->Prop)->i6}{cl:List Cl}(F:S6 K x a st f h)(S:j2 N ps (e6 st))(e:noOwn cl ps.length=true)
  (i:∀ds Q W,c ds Q W->ds.length=ps.length)
  (l:∀(W:Str->List V->Prop) (b:Value) (A:Around) (outer:List Env) (g:Shared) (H:Hp) (E:XK),D3 k (A.deeper (envOfC a (e6 st) g.heap.objs.size f b))->fV Fo mg W H E->jc (bX (Ea P w) P w K mg base N a (e6 st) f b A outer g H E) (cl++[.mk H]) (E7 st) (s W))
  (j:∀ds Q W,c ds Q W->s W { nx:=λ_=>Q .p7,rt:=λd _=>Q d } (i8 N.length ds)):w6 P w K mg base (Ea P w) (k+1) f h ps (JV Fo K mg c):=Oh (Wi:=λW H E=>fV Fo mg W H E) F S e i l j
def GC:D->Bool
 | .int _=>true
 | .str _=>true
 | _=>false
def leafOf:D->V
 | .int i=>.int i
 | .str x=>.str x
 | _=>.p7
def NS:V->D
 | .int i=>.int i
 | .str x=>.str x
 | _=>.p7
theorem jQ{K:QP}{H:Hp}:∀{vs:List V} {ds:List D} {A:QE},j8 K H vs ds A->ds.all GC=true->vs=ds.map leafOf
 | _,_,_,.nil,_=>rfl
 | _,_,_,.cons (d:=d) h r,e=>by
  rw[Gc,hD] at e;rw[rl,<-jQ r e.2];congr 1;cases h<;>first | rfl | (have:=e.1;cases this)
section
variable{X:Cx}{cl:List Cl}{e:Expr}{es:QH}{pos cpos hpos np p p1:Pos}{us:bS}{k kI:Nat}{fn:Addr}{fd:FuncData}{ps:QF}{x y bn n f:Str}{i:Nat}{Fo:Str->QF}
def fN(Fo:Str->QF)(W:Str->List V->Prop)(y:Str)(us:bS):i6:=λ_ b=>us b λa=>a.all GC=true/\Nat.beq a.length (Fo y).length=true/\Nat.ble a.length 9=true/\W y (a.map leafOf)
theorem hZ{C fI:Addr}{l:FuncData}{g:QF}{B Bn newId v a I:String}{bm U:QG}{W:Str->List V->Prop}{Y:Hp}{Ew:XK}{j:Nat}(O:DW y C fI bm newId X.mg X.base)(FI:w6 X.prog X.w X.K X.mg X.base P9 kI fI l g (Z8 C (Fo y)))(hr:D3 (kI+1) X.A)(c:Binds X.K l g [])
  (Fn:ExcBaseFacts Bn newId I U) (S:bm.contains (.type Bn)=true) (FB:ExcBaseFacts B v a bm) (hc:X.calm=true)
  (mk:rE X Ew) (wi:fV Fo X.mg W Y Ew) (hj:cl[j]?=some (.mk Y)) (hg:Gl X y) (ha:Dx X cl (e::es) us) (J:isStar e=false) (Q:(y == ("__debug__" : Str))=false:=by decide) (M:(backTo cpos (starEach es X.env)).any (·.1)=false:=by rfl) :
  J3 X cl (.Raise (some (.Call (.Name y np) (e::es) [] cpos)) none pos) (fN Fo W y us):=.of<|by
 obtain⟨t,pt,h⟩:=ha.run;refine⟨_,yh O FI hr c Fn S FB hc mk hg pt Q (R9 J) M,λG T ρ σ H fa R hG E hu le=>?_⟩;refine h G ρ σ H fa _ _ hG E hu λvs H1 ds A s r n3 q=>?_;have ev:=jQ r q.1;subst ev;have d:i5 Y H1:=(E.same s).kept (j:=j) (by rw[hG];exact hj);refine⟨by rw[cC];exact Nat.eq_of_beq_eq_true q.2.1,by rw[cC,v1];have:=t4 q.2.2.1;omega,λdx H2 nd hd hk _=>?_⟩;have u:i5 H1 H2:=λb o c=>by rw[hk b (λz=>by rw[z,nd] at c;cases c) (by rw[c];exactλz=>nomatch z)];exact c
 exact wi y C _ dx H2 q.2.2.2 O.bound (d.trans u) (d.free nd) hd
theorem tF{K:QP}{H:Hp}{v:V}{e a:Addr}{fs:List (Str×V)}{A:QE}(h:Rep K H v (.xc e a fs) A):v=.ref e/\H a=some (qP a fs):=by
 cases h with
 | xc h=>exact⟨rfl,h⟩
def ME(e b:Addr)(i:Nat)(f:Str):TU:=λa Q=>∃fs v,a[i]?=some (some (.xc e b fs))/\fs.lookup f=some v/\zt v=true/\Q (NS v)
theorem vA{e d C:Addr}{a:Obj}(j:(e,a)∈X.pn)(u:a.cls=.ref C)(hd:a.dict=some d)(b:∃vs,a.data=.fields vs)(B:PySem.W.bh X.K C)(F:oH X.K C f)(o:PE X (.Name n p1) (T9 i))(z:attributeBase (.Name n p1) f X.env (eval (.Name n p1) X.env)=eval (.Name n p1) X.env) :
  PU X cl (.Attribute (.Name n p1) f pos) .fresh (ME e d i f):=.of<|by
 obtain⟨vs,b⟩:=b;refine⟨_,EV j u hd b B F o z,λG O M H T Q R S E g k=>?_⟩;obtain⟨fs,v,J,l,c,q⟩:=g;obtain⟨w,I,r⟩:=E.rep i _ J;obtain⟨rfl,h⟩:=tF r;refine⟨_,I,rfl,fs,v,h,l,c,?_⟩;cases v<;>first | (cases c;done) | skip
 ·exact k _ H _ [] (i5.refl H) .int (y4.nil _) q
 ·exact k _ H _ [] (i5.refl H) .str (y4.nil _) q
end
end L3
namespace PySem.W
open PySem PySem.Calls PyProof.Rows
section
variable{K:Frag}
theorem EK{h:Heap}{N:Addr}{m:QL}{n:Str}{v:Value}(X:K.In h)(G:h.Ns N m)(e:nsIn K N n=some (some v)):m n=some v:=by
 obtain⟨o,b,d,a,hd,_,c⟩:=G;unfold nsIn at e;split at e
 case h_2=>cases e
 rename_i k l q
 have w:=X _ _ q;rw[w] at a;cases a;cases hd;rw[<-c n]
 cases z:List.find? (λx=>x.key.isStr n) b.toList with
 | none=>
  rw[z] at e;dsimp only at e;split at e<;>cases e
 | some g=>
  rw[z] at e;cases e;show(Array.find? _ b).map (·.val)=_;rw[<-Array.find?_toList];exact wv (Option.map (·.val)) z
def gw(K:Frag)(C:Addr)(a:QG)(newId:String)(f:Addr):Bool:=
  match K.lookup C with
  | some ⟨.type "type",_,.cls k,l⟩=>
    (match k.mro,l.toList with
     | .ref D::b,[_,_,_,_,some (.builtin n),_]=>D == C&&n == newId&&!k.hasDel&&tailIn K a b&&nsOkIn K k.ns&&nsIn K k.ns "__init__" == some (some (.ref f))&&k.hasDict
     | _,_=>false)
  | _=>false
theorem ql{h:Heap}{C f:Addr}{d:QG}{newId:String}(X:K.In h)(q:gw K C d newId f=true) :
  ∃bm N nm g bs hd sn sub ab col dd k0 k1 k2 k3 k5 p,h.get? C=some (excClassObj nm g C N bs bm hd sn sub ab col dd k0 k1 k2 k3 k5 newId)/\h.Ns N p/\p "__init__"=some (.ref f)/\OwnTail h d bm/\∀v r,mroIn K C v=some r->(Value.ref C::bm).contains v=r:=by
 unfold gw at q;split at q
 case h_2=>cases q
 rename_i dd E o u
 split at q
 case h_2=>cases q
 rename_i D bm k0 k1 k2 k3 n k5 j z
 simp only[hD,beq_iff_eq,Bool.not_eq_true'] at q;obtain⟨⟨⟨⟨⟨⟨rfl,rfl⟩,a⟩,y⟩,hok⟩,c⟩,_⟩:=q
 have x:∀v r,mroIn K D v=some r->(Value.ref D::bm).contains v=r:=λv r e=>by
  unfold mroIn clsIn at e;rw[u] at e;simp only[PC,j,List.isEmpty_cons] at e;exact tL e
 obtain⟨nm,bs,mro,ns,g,hd,sn,sub,ab,col,B⟩:=E;dsimp only at j a hok c;subst j a
 have i:o=#[k0,k1,k2,k3,some (.builtin n),k5]:=by
  obtain⟨l⟩:=o;exact wv Array.mk z
 subst i;have b:h.Ns ns (h.nsMap ns):=.of_isNs (isNs_of_in X hok);exact⟨bm,ns,nm,g,bs,hd,sn,sub,ab,col,dd,k0,k1,k2,k3,k5,_,X _ _ u,b,EK X b c,tail_of_in X y,x⟩
theorem IE {h:Heap} {C f:Addr} {i:Obj} {g:QG} {newId:String} {mg:QL} {x:Str} (X:K.In h) (G:h.Ns mainGlobals mg) (e:nsIn K mainGlobals x=some (some (.ref C))) (q:gw K C g newId f=true) (B:K.lookup f=some i) (E:i.cls=.type "function"):L2.DW x C f g newId mg h:=by
 obtain⟨I,N,nm,o,bs,hd,l,sub,J,j,H,z,y,v,u,r,p,a,b,c,d,_⟩:=ql X q;exact⟨mg_of X G e,I,N,nm,o,bs,hd,l,sub,J,j,H,z,y,v,u,r,p,i,a,b,c,d,X _ _ B,E⟩
theorem BR {h:Heap} {C B f:Addr} {H d:QG} {newId c:String} {b:Bool} (X:K.In h) (q:gw K C H newId f=true) (Q:excIn K B d c=true) (m:mroIn K C (.ref B)=some b) (hb:d.contains (.type "BaseException")=true):L2.Under h C B b:=by
 obtain⟨bm,N,nm,O,bs,hd,M,sub,ab,E,dd,k0,Y,U,T,S,mN,a,_,_,_,v⟩:=ql X q;obtain⟨I,N',l,j,G,y,i,e,J,g,z,x,u,r,p,o,R,a',_,_,d',_⟩:=Ed X Q;exact⟨⟨nm,O,N,bs,bm,hd,M,sub,ab,E,dd,k0,Y,U,T,S,newId,a,v _ _ m⟩,l,j,N',G,I,y,i,e,J,g,z,x,u,r,p,o,c,a',d'.hasType hb⟩
def vK:QG->Bool
 | []=>false
 | v::r=>(v::r) == L2.wF||(match v with
  | .ref _=>vK r
  | _=>false)
theorem pX:∀{l:QG},vK l=true->∃b:QE,l=b.map Value.ref++L2.wF
 | [],e=>by cases e
 | v::r,e=>by
  unfold vK at e;rw[Lc] at e;rcases e with e | e
  ·exact⟨[],eq_of_beq e⟩
  ·cases v with
   | ref a=>
    obtain⟨b,z⟩:=pX (l:=r) e;exact⟨a::b,by rw[z];rfl⟩
   | _=>cases e
def Ac(K:Frag)(C:Addr)(fs:QF):Bool:=(clsIn K C).any (λa=>vK a.mro&&a.hasDict)&&findIn K (.ref C) "__setattr__" == some (some (.builtin "object.__setattr__"))&&fs.all λf=>findIn K (.ref C) f == some none
theorem fw{C:Addr}{fs:QF}{f:Str}(q:Ac K C fs=true)(h:f∈fs):L2.mi K C f/\L2.oH K C f:=by
 unfold Ac at q;rw[hD,hD] at q;obtain⟨⟨a,g⟩,e⟩:=q;obtain⟨c,b,a⟩:=any_some a;rw[hD] at a;obtain⟨d,i⟩:=pX a.1;have no:=beq_iff_eq.mp (List.all_eq_true.mp e f h);exact⟨⟨⟨c,d,b,i,a.2⟩,beq_iff_eq.mp g,no⟩,⟨⟨c,b,a.2⟩,no⟩⟩
end
end PySem.W
namespace L3
open PySem PySem.Spec PySem.Calls PyProof.Rows PySem.W L2
section
variable{X:Cx}{cl:List Cl}{e:Expr}{es:QH}{pos p:Pos}{us:bS}{k:Nat}{fn:Addr}{fd:FuncData}{ps:QF}{x:Str}{Fo:Str->QF}
end
section
variable{X:Cx}{cl:List Cl}{e dx C:Addr}{oe:Obj}{pos p p1 p2:Pos}{n y:Str}{i:Nat}{b:Bool}
def yM(e dx:Addr)(i:Nat)(b:Bool):TU:=λa Q=>∃fs,a[i]?=some (some (.xc e dx fs))/\Q (.bl b)
theorem Bz{c:V}{cv:Value}(h:(e,oe)∈X.pn)(u:oe.cls=.ref C)(B:bh X.K C)(o:PE X (.Name n p1) (T9 i))(d:PE X (.Name y p2) (tC c))(a:rV c=some cv)(l:kitOne X.K (.ref C) cv=some b)
  (q:Gl X "isinstance") (j:X.mg "isinstance"=none):PU X cl (.Call (.Name "isinstance" p) [.Name n p1,.Name y p2] [] pos) .fresh (yM e dx i b):=.of<|by
 refine⟨_,iY (CP h u B) q j og (aQ o (aQ d N2)),λG M J H S Q R O E g k=>?_⟩;obtain⟨fs,z,x⟩:=g;obtain⟨v,I,r⟩:=E.rep i _ z;obtain⟨rfl,_⟩:=tF r;exact⟨_,I,_,_,_,rfl,a,l,k _ H _ [] (i5.refl H) .bl (y4.nil _) x⟩
theorem DO{d:QH}{vs:List V}{cs:QG}{g}(o:(e,oe)∈X.pn)(J:oe.cls=.ref C)(B:bh X.K C)(z:PE X (.Name n p1) (T9 i))(h:PA X d (Mj vs))(a:vs.map rV=cs.map some)(x:kitAny X.K (.ref C) cs=some b)(c:Nat.ble vs.length 100=true)
  (I:Gl X "isinstance") (u:X.mg "isinstance"=none):PU X cl (.Call (.Name "isinstance" p) [.Name n p1,.Tuple d g p2] [] pos) .fresh (yM e dx i b):=.of<|by
 refine⟨_,iY (xE o J B) I u og (aQ z (aQ (sL h) N2)),λG U T H fa Q R Y E j k=>?_⟩;obtain⟨fs,O,M⟩:=j;obtain⟨v,S,r⟩:=E.rep i _ O;obtain⟨rfl,_⟩:=tF r;have c:=t4 c;refine⟨_,S,by rw[v1];omega,λq l=>⟨_,_,_,_,rfl,g9,a,x,?_⟩⟩;exact k _ _ _ [] (i5.j4 l) .bl (y4.nil _) M
end
end L3
namespace PySem
open Sem (wp)
open AutoSeq1 (wpAny_loadPart')
theorem aC(l:Addr)(items:QK)(n:Nat)(e:Option Addr)(j:Array (QQ)) :
  Meets (Builtin.«enumerate.__new__» ⟨[.type "enumerate",.ref l],[]⟩) (λ_ R s=>s.heap.get? l=some { cls:=.type "tuple",dict:=e,data:=.seq items n,slots:=j } /\
   R (.ok (.ret (.ref (s.heap.push { cls:=.type "tuple_iterator",data:=.fields #[.ref l,.int 0 0] }).objs.size)))
    { s with heap:=(s.heap.push { cls:=.type "tuple_iterator",data:=.fields #[.ref l,.int 0 0] }).push { cls:=.type "enumerate",data:=.fields #[.none,.bool false,.ref s.heap.objs.size,rawInt 0,.none,.none] } }):=
 .of_wp λprog w A R s h=>by
  obtain⟨o,g,d,tk,os⟩:=s;obtain⟨a,h⟩:=h;have i:=sub_enumerate;have b:Heap.IsTuple (Shared.heap ⟨o,g,d,tk,os⟩) l items:=⟨_,a,rfl,n,rfl⟩
  wp_walk using wpAny_loadPart' a
  refine wpAny_stack_any λst=>hH ?_;split
  ·rename_i c _ _ _ _ _
   cases(c == Value.type "enumerate")
   ·wp_walk using wpAny_loadPart' a,wpAny_pyIter_tuple b
    exact⟨_,rfl,h⟩
   ·wp_walk using wpAny_loadPart' a,wpAny_pyIter_tuple b
    exact⟨_,rfl,h⟩
  ·wp_walk using wpAny_loadPart' a,wpAny_pyIter_tuple b
   exact⟨_,rfl,h⟩
theorem aG{prog:Program}{w:World}{A:Around}{E:QN}{s:Shared}{l:Addr}{items:QK}{Q:QN}(p:s.heap.IsTuple l items)
  (h:∀h',IsEnum h' (s.heap.objs.size+1) s.heap.objs.size 0 .none->h'.IsTupleIter s.heap.objs.size l 0->h'.objs.size=s.heap.objs.size+2 ->
   (∀b o,s.heap.get? b=some o->h'.get? b=some o)->Q (.ref (s.heap.objs.size+1)) { s with heap:=h' }) :
  wpAny (model prog w) A (call (.type "enumerate") [.ref l]) Q E s:=by
 obtain⟨⟨c,e,q,i⟩,j,d,n,hd⟩:=p
 replace d:c=.type "tuple":=d
 replace hd:q=.seq items n:=hd
 subst d hd
 refine callType_new F.called_enumerate (by decide) (F.typeCall_enumerate_1 _) (F.newCall_enumerate_1 _) (λobj=>F.args_object_init_2 obj _) F.entry_enumerate_new
  (aC l items n e i) ⟨j,?_⟩
 have a:(s.heap.push { cls:=.type "tuple_iterator",data:=.fields #[.ref l,.int 0 0] }).objs.size=s.heap.objs.size+1:=AT ..;show _/\_;rw[a]
 have g:IsEnum ((s.heap.push { cls:=.type "tuple_iterator",data:=.fields #[.ref l,.int 0 0] }).push
   { cls:=.type "enumerate",data:=.fields #[.none,.bool false,.ref s.heap.objs.size,rawInt 0,.none,.none] }) (s.heap.objs.size+1) s.heap.objs.size 0 .none:=by
  have:=ro (s.heap.push { cls:=.type "tuple_iterator",data:=.fields #[.ref l,.int 0 0] })
   (o:={ cls:=.type "enumerate",data:=.fields #[.none,.bool false,.ref s.heap.objs.size,rawInt 0,.none,.none] }) rfl
  rw[a] at this;exact this
 refine⟨⟨_,g,rfl⟩,h _ g ⟨_,dL _ (ro _ rfl),rfl,rfl⟩ (by rw[AT,a]) λb o x=>dL _ (dL _ x)⟩
end PySem
namespace L2
open PySem PySem.Spec PyProof.Rows
def zF(K:QP)(a:Addr):It:=
 ⟨λi H=>∃b x,T5 K H a b/\b[i]?=some x,λi H x c=>∃p y,x=.ref p/\H p=none/\c=upd H p (.tup [.int i,y])/\∀b,T5 K H a b->b[i]?=some y,λi H=>∃b,T5 K H a b/\b.length<=i⟩
theorem yr{prog:Program}{w:World}{A:Around}{E:QN}{s:Shared}{e it l:Addr}{i:Nat}{j:Int}{items:QK}{old:Value}{Q:QQ->Shared->Prop}(u:A.handled=none)
  (g:IsEnum s.heap e it j old) (c:s.heap.IsTupleIter it l i) (r:s.heap.IsTuple l items) (p:items[i]?=none)
  (y:∀h',Heap.ExtBut it s.heap h'->Q none { s with heap:=h' }):wpAny (model prog w) A (pyNext (.ref e)) Q E s:=by
 have h:s.TypeIs (.ref e) "enumerate":=⟨_,g,rfl⟩
 unfold pyNext
 refine cB (OE (wS (name:=Str.ofString "__next__") h F.slot_enumerate_next
  (Da F.slot_enumerate_next h F.entry_enumerate_next ?_ (F.args_enumerate_next_1 _))))
 show wpAny _ _ (field (.ref e) 2 >>= _) _ _ _;refine cB (v3 g rfl (x:=.ref it) rfl ?_);refine cB (ay u c r p λh' x d a=>?_);obtain⟨o,q,v⟩:=a;refine cB (wpAny_isInstance (T:="StopIteration") (b:=true) ⟨o,q,v⟩ isSubtype_stop ?_);exact hH (y _ d)
theorem qS{P:Program}{w:World}{K:QP}{a0:QH}{x1:Nat}{tp:Pos}(a e it:Addr)(M:e≠it):Turn P w K (.Tuple a0 x1 tp) (zF K a) [e,it] e (λi h=>(∃old,IsEnum h e it (i:Nat) old)/\h.IsTupleIter it a i) where
 mem:=by simp
 obj:=λi h st b j=>by
  obtain⟨⟨old,y⟩,o,ho,c,d⟩:=st;rcases List.mem_cons.mp j with rfl | j
  ·exact⟨_,y,λv z=>by
    have z':Data.fields _=Data.cell v:=z;cases z'⟩
  ·have z:b=it:=by simpa using j
   subst z;exact⟨o,ho,λv z=>by rw[d] at z;cases z⟩
 keep:=λi h h' st k=>by
  obtain⟨⟨old,y⟩,g⟩:=st;exact⟨⟨old,k e (by simp) _ y⟩,g.at λo q=>k it (by simp) o q⟩
 item:=by
  intro X G hw hK hc i B s σ H E I U st hg;subst G hw hK;obtain⟨⟨old,y⟩,g⟩:=st;obtain⟨xs,x,hq,hx⟩:=hg;obtain⟨r,rv,p,hz⟩:=I.tuple hq;obtain⟨u,hu,ru⟩:=rv.get hx
  have a5:a≠it:=λz=>by
   subst z;obtain⟨o,Q,O,_⟩:=p;obtain⟨o',l,Y,_⟩:=g;rw[Q] at l;cases l;rw[O] at Y;exact absurd Y (by decide)
  have a6:e≠a:=λz=>by
   subst z;obtain⟨o,Q,O,_⟩:=p;have l:s.heap.get? e=some _:=y;rw[Q] at l;cases l;exact absurd (show Value.type "enumerate"=.type "tuple" from O) (by decide)
  have a2:i<r.toArray.size:=by
   have:=(List.getElem?_eq_some_iff.mp hu).1;simpa using this
  refine wpAny_pyNext_enum_itemD (dg true (A:=X.A.in1) (I.ok.hd hc) it a a5 r.toArray) y ⟨g,p⟩ a2 M (by simp[M,a6]) λx' Q tk G a3 R hT a7 hk=>?_;obtain⟨S,_⟩:=R;have G:r.toArray[i]?=some x':=G
  have ex:x'=u:=by
   rw[List.getElem?_toArray,hu] at G;exact(tL G).symm
  subst ex;refine⟨_,rfl,wpAny_letOwnedTupleGo_enum a3 λO a4 J=>?_⟩;have C:e<s.heap.objs.size:=oD y;have T:it<s.heap.objs.size:=by obtain⟨o,ho,_⟩:=g;exact oD ho
  have a1:IsTup O s.heap.objs.size [Value.int i tk,x'].toArray:=⟨_,(J.2 _ (IR C)).trans hT,rfl,_,rfl⟩
  have I2:Inv X B σ (upd H s.heap.objs.size (.tup [.int i,x])) { s with heap:=O,toks:=tk+1 }:=by
   refine I.kf (ch:=[e,it]) U (λb o j q=>?_) (hI _) (.cons ⟨_,rfl⟩ (.cons ru .nil)) (by show 2<=sizeLine;decide) a1;have b1:b≠e:=λz=>j (by simp[z]);have b2:b≠it:=λz=>j (by simp[z]);exact(J.2 b b1).trans (hk b o b1 b2 q)
  refine⟨.ref s.heap.objs.size,_,I2,rfl,⟨s.heap.objs.size,x,rfl,I.fresh,rfl,λys hy=>by rw[I.cW hy hq];exact hx⟩,⟨⟨x',by simpa using a4⟩,(show Q.IsTupleIter it a (i+1) from S).at λo q=>(J.2 it (wh M)).trans q⟩,λb j=>?_⟩;rcases List.mem_cons.mp j with rfl | j
  ·rw[i4 (sx C)];exact(U _ (by simp)).1
  ·have z:b=it:=by simpa using j
   subst z;rw[i4 (sx T)];exact(U _ (by simp)).1
 done:=by
  intro X G hw hK hc i B s σ H E I U st hg;subst G hw hK;obtain⟨⟨old,y⟩,g⟩:=st;obtain⟨xs,hq,hx⟩:=hg;obtain⟨r,rv,p,hz⟩:=I.tuple hq;have hl:=rv.length;refine yr (I.ok.hd hc) y g p (by simp;omega) λQ eb=>⟨rfl,I.va (t':=s.toks) (ch:=[e,it]) U λb o j q=>eb b o (λz=>j (by simp[z])) q⟩
 self:=λ_ _ _ _ _ st h=>wpAny_pyIter_enum st.1.choose_spec h
def zT(K:QP)(e:TA):TI:=λc H R=>e c H λvs b=>∃a,vs=[.ref a]/\(∃d,T5 K b a d)/\R (zF K a) b
theorem cq {X:Cx} {j:QH} {C:Nat} {E:Pos} {a:Expr} {x:TA} {p i:Pos} (hg:Gl X "enumerate") (U:X.mg "enumerate"=none) (ha:PA X [a] x) (S:starEach [a] X.env=[(false,eval a X.env)]:=by rfl) :
  PI X (.Tuple j C E) (.Call (.Name "enumerate" p) [a] [] i) (zT X.K x):=by
 refine .of ?_;intro c s v H R I h;refine Call_ (dR I hg U boot_enumerate (L1 (B4 (ha i c s v H _ I h) λus d ⟨vs,B,g,J,M⟩=>?_) S rfl));obtain⟨l,e,⟨xs,T⟩,q⟩:=M;subst e
 cases J with
 | cons r G=>
  cases G;cases r;obtain⟨O,rv,pl,hz⟩:=g.tuple T;refine aG pl λh' y o Q Y=>wpAny_pyIter_enum y ?_;have I2:Inv X c v B { d with heap:=h' }:=g.kept (t':=d.toks) Y;refine⟨d.heap.objs.size+1,[d.heap.objs.size+1,d.heap.objs.size],_,_,B,rfl,I2,qS l _ _ (Nat.succ_ne_self _),⟨⟨_,y⟩,o⟩,λb u=>?_,q⟩;rcases List.mem_cons.mp u with rfl | u
  ·exact g.jd (PK _) (g.hok.fresh (PK _))
  ·have z:b=d.heap.objs.size:=by simpa using u
   subst z;exact g.jd (hI _) (g.hok.fresh (hI _))
end L2
namespace L3
open PySem PySem.Spec PySem.Calls PyProof.Rows PySem.W L2
theorem Mt{K:QP}{H:Hp}{p:Addr}{vs:List V}{xs:List D}{C:QE}(h:H p=some (.tup vs))(r:j8 K H vs xs C):fY K (zF K p) (eS 0 xs) C H:=λl tf k i=>by
 have a:T5 K l p vs:=T5.of (tf.D5 _ _ h);refine⟨λI=>⟨vs,a,by rw[r.length,<-G6 (xs:=xs) (k:=0)];exact OD I⟩,λd e=>?_⟩;obtain⟨x,M,J⟩:=V9 e;obtain⟨v,B,j,q,o⟩:=aM r tf k M;refine⟨⟨vs,v,a,j⟩,λy O G=>?_⟩;obtain⟨u,z,rfl,c,rfl,E⟩:=G;have g:=E vs a;rw[j] at g;cases g;refine⟨i5.j4 c,B,?_,o⟩;rw[J];have b:j8 K (upd l u (.tup [.int i,v])) [.int i,v] [.int ((0+i:Nat):Int),x] ([]++(B++[])):=.cons (by rw[Pa];exact .int) (.cons (q.same (i5.j4 c)) .nil);rw[sK,xL] at b;exact .tup g9 b
section
variable{X:Cx}{cl:List Cl}{tg e:Expr}{pos p:Pos}{f:Fl}{ua:TU}
def AV(u:TU):yH:=λa Q=>u a λd=>match d with
 | .tup b=>Q (eS 0 b)
 | _=>False
theorem fM{p:Pos}(h:PU X cl e f ua)(a:isStar e=false)
  (mk:∀{t},PA X [e] t->PI X tg (.Call (.Name "enumerate" p) [e] [] pos) (zT X.K t)):eY X cl tg (.Call (.Name "enumerate" p) [e] [] pos) f (AV ua):=.of<|by
 obtain⟨t,pt,h⟩:=h.run;refine⟨_,mk (dA pt N2 a),λG i g H u Q R l E j k=>h G i g H u _ _ l E j λv x d B s r o q=>?_⟩;cases d<;>first | exact(show False from q).elim | skip
 obtain⟨p,vs,rfl,c,b⟩:=M6 r;exact⟨p,rfl,⟨vs,T5.of c⟩,k _ x _ _ s (Mt c b) b.there o q⟩
def Hn(ua:TU)(lo c:HV):TU:=λa Q=>ua a λd=>lo a λl=>c a λh=>match d with
 | .tup b=>l9 (cutD b l h)=true/\Q (.tup (cutD b l h))
 | _=>False
theorem Af{a:Expr}{fa:Fl}{lo Y:Option Expr}{I J:HV}{p2:Pos}(y:PU X cl a fa ua)(u:JO X cl lo I)(x:JO X cl Y J):PU X cl (.Subscript a (.Slice lo Y none p2) pos) .fresh (Hn ua I J):=.of<|by
 obtain⟨ta,pa,y⟩:=y.run;obtain⟨tl,pl,u⟩:=u.run;obtain⟨th,ph,x⟩:=x.run;refine⟨_,px (wg.or yY) pa pl ph,λG h g H C Q R z E hu k=>y G h g H C _ _ z E hu λv H1 d A l r1 f1 q1=>u G h g H1 C _ _ z (E.same l) q1 λq H2 i q2=>x G h g H2 C _ _ z (E.same (l.trans i)) q2 λU H3 O c=>?_⟩;have j:=(l.trans i).trans O;cases d<;>first | exact(show False from c).elim | skip
 rename_i b
 obtain⟨im,c⟩:=c;obtain⟨p,vs,rfl,hq,S⟩:=M6 ((r1.same i).same O);refine .inr ⟨p,vs,rfl,hq,λr H4 M hr=>?_⟩;obtain⟨B,sB,T⟩:=S.cut (HT.D1 b.length 0 q) (HT.D1 b.length b.length U-HT.D1 b.length 0 q);have eB:=j8.M8 T (show l9 _=true from im);subst eB;refine k _ _ (.tup (cutD b q U)) [] (j.trans M) (.tup hr ?_) (y4.nil _) c;have o:=T.same M;unfold fm cutD;rw[S.length];exact o
end
def Fo(y:Str):QF:=bif y =="NoBoard" then["word","number"] else bif y =="NoText" then["line"] else bif y =="NoEvent" then["number"] else bif y =="Loud" then["guard"] else bif y =="Blind" then["lower","upper","greatness"] else[]
example:Fo "NoBoard"=(["word","number"]:QF):=rfl
example:Fo "Blind"=(["lower","upper","greatness"]:QF):=rfl
section
variable{X:Cx}{cl:List Cl}{tg a b:Expr}{pos p:Pos}{us:bS}
end
section
variable{X:Cx}{cl:List Cl}{a b:Expr}{pos:Pos}{fa fb:Fl}{ua ub:TU}
end
end L3
namespace PySem
open Sem (wp)
open Builtin
open AutoSeq1 (wpAny_loadPart')
end PySem
namespace L2
open PySem PySem.Spec PyProof.Rows
section
variable{X:Cx}
end
end L2
namespace L3
open PySem PySem.Spec PySem.Calls PyProof.Rows PySem.W L2
section
variable{X:Cx}{cl:List Cl}{a b:Expr}{pos:Pos}{fa fb:Fl}{ua ub:TU}
end
end L3
namespace PySem
open AutoSeq1 (wpAny_loadPart')
open AutoSeq1
end PySem
namespace L2
open PySem PySem.Spec PyProof.Rows
section
variable{X:Cx}
end
section
variable{X:Cx}{pins:QA}{σ:St}{H:Hp}{s:Shared}{a:Addr}
theorem Inv.freeze{xs:List V}(I:Inv X pins σ H s)(e:H a=some (.lst xs)):∃ob,Inv X pins σ (upd H a (.frz ob (.lst xs))) s:=by
 obtain⟨z,c,n,r,d⟩:=(show u3 X.prog X.w H s.heap a (.lst xs) from I.hok a _ e)
 exact⟨_,I.write (x:=a) (e:=a) (h':=s.heap) (t':=s.toks) (o:=.frz { cls:=.type "list",data:=.seq c.toArray n } (.lst xs)) (by rw[e];exact True.intro) (.inl rfl) (λb q g z=>z) ⟨_,d⟩ ⟨d,z,c,n,r,d⟩⟩
def MQ(Q:VK):VK:=λv c=>∃p b,v=.ref p/\c p=some (.lst b)/\∀ob,Q v (upd c p (.frz ob (.lst b)))
theorem Ij{e:Expr}{t:TE}(h:PE X e t):PE X e (λσ H Q=>t σ H (MQ Q)):=by
 refine .of ?_;intro pins s σ H Q I q;exact B4 (h pins s σ H _ I q) λv l ⟨x,r,i,b,p,j,o,d,c⟩=>let ⟨ob,g⟩:=i.freeze d;⟨x,_,g,b,c ob⟩
end
end L2
namespace L3
open PySem PySem.Spec PySem.Calls PyProof.Rows PySem.W L2
section
variable{X:Cx}{cl:List Cl}{e a b:Expr}{ua ub:TU}{fa fb:Fl}{pos:Pos}
def oP(u:TU):TU:=λg Q=>u g λd=>∃c,d=.lst c/\l9 c=true/\Q (.fz c)
theorem bN(h:PU X cl e .fresh ua):PU X cl e .fresh (oP ua):=.of<|by
 obtain⟨t,I,h⟩:=h.run;refine⟨_,Ij I,λG l j H S Q R O E C k=>h G l j H S _ _ O E C λv H1 d A s r T q=>?_⟩;obtain⟨x,rfl,im,q⟩:=q;obtain⟨p,vs,B,rfl,g,i,Y⟩:=K2 r;have U:=i.M8 im;subst U;refine⟨p,vs,rfl,g,λob=>?_⟩;have J:H p=none:=T.2 p (by rw[Y];exact pu)
 have y:i5 H (upd H1 p (.frz ob (.lst vs))):=λb o c=>by
  rw[i4 (λz=>by rw[z,J] at c;cases c)];exact s b o c
 refine k _ _ (.fz x) [] y (.frz (.inl ⟨ob,g9⟩) ?_) (y4.nil _) q;exact i.bU ⟨λb ys c=>by rw[i4 (Ah c g (λz=>nomatch z))];exact c,λb o u c=>by rw[i4 (Ah c g (λz=>nomatch z))];exact c⟩ λa M=>by cases M
end
end L3
namespace L2
open PySem PySem.Spec PyProof.Rows
section
variable{X:Cx}{o e f i value:Expr}{pos pos' apos cpos:Pos}{td ty tx tv:TE}
end
end L2
namespace L3
open PySem PySem.Spec PySem.Calls PyProof.Rows PySem.W L2
section
variable{X:Cx}{cl:List Cl}{e a b c:Expr}{ua ub uc:TU}{fa fb fc:Fl}{pos:Pos}{ma:TM}{x:Str}
end
end L3
namespace HT
open PySem PySem.Spec PyProof.Rows
section
variable{prog:Program}{w:World}{A:Around}{E:QN}{s:Shared}
end
end HT
namespace L2
open PySem PySem.Spec PyProof.Rows
section
variable{X:Cx}{e c:Expr}{te:TE}{pos p2:Pos}
end
end L2
namespace L3
open PySem PySem.Spec L2
section
variable{X:Cx}{cl:List Cl}{a c:Expr}{fa:Fl}{ua uc:TU}{pos p2:Pos}
end
end L3
namespace PySem
open SetTable
def TG(t:SetTable):Prop:=t.plain=true->t.place.toList.Pairwise (·<·)/\t.dummies=#[]
theorem TG.NF(t:SetTable)(n:Nat):TG (t.standIn n):=λh=>by cases h
end PySem
namespace PySem
section
variable{prog:Program}{w:World}{A:Around}{E:QN}{s:Shared}{a:Addr}
structure qr(prog:Program)(w:World)(led:Bool)(h:Heap)(a:Addr)(es:Array (Int×Value)):Prop where
 at_:∃o ep t,h.get? a=some o/\o.ExactSet/\o.data=.set es ep t/\t.fits es.size=true/\TG t/\t.led=led
 el:ElemsOf (intKind prog w) es.toList
 small:es.size<scanBound
end
end PySem
namespace L2
open PySem PySem.Spec PyProof.Rows
def EI(c:Array (Int×Value))(b:QI):Prop:=∃a,IntsAre (c.toList.map (·.2)) a/\a.Perm b
theorem pV:∀{vs:QG} {a:QI},IntsAre vs a->vs.length=a.length
 | _,_,.nil=>rfl
 | _,_,.cons n t h=>by rw[sw,sw,pV h]
theorem EI.size{b:Array (Int×Value)}{a:QI}(h:EI b a):b.size=a.length:=by
 obtain⟨c,e,d⟩:=h;have:=pV e;rw[cC,GM] at this;rw[this,d.length_eq]
end L2
namespace PySem
namespace L4
end L4
section
variable{M:Model}{A:Around}{E:QN}
end
section
variable{prog:Program}{w:World}{A:Around}{E:QN}{s:Shared}{it a:Addr}
end
section
variable{prog:Program}{w:World}{A:Around}{E:QN}{s:Shared}{I a:Addr}
end
end PySem
namespace PySem
open PyProof.Rows
section
variable{prog:Program}{w:World}{A:Around}{E:QN}{s:Shared}{a:Addr}
theorem qr.keep{led:Bool}{h h':Heap}{d:Array (Int×Value)}(x:qr prog w led h a d)(k:∀o,h.get? a=some o->h'.get? a=some o):qr prog w led h' a d:=
 let ⟨⟨o,g,t,e,r⟩,b,c⟩:=x;⟨⟨o,g,t,k o e,r⟩,b,c⟩
theorem qr.lt{led:Bool}{h:Heap}{c:Array (Int×Value)}(x:qr prog w led h a c):a<h.objs.size:=let ⟨⟨o,_,_,b,_⟩,_,_⟩:=x;oD b
end
end PySem
namespace L2
open PySem PySem.Spec PyProof.Rows
section
variable{prog:Program}{w:World}{A:Around}{E:QN}{s:Shared}
end
section
variable{X:Cx}
end
end L2
namespace L3
open PySem PySem.Spec PySem.Calls PyProof.Rows PySem.W L2
section
variable{X:Cx}{cl:List Cl}{e:Expr}{us:bS}{x y:Str}{p1 p2 pos pos2:Pos}
end
end L3
namespace L2
open PySem PySem.Spec PyProof.Rows
section
variable(elt t1 i1 t2 i2:Expr)(ifs1 ifs2:QH)(scope:Scope)(pos:Pos)
abbrev two:Expr:=.ListComp elt [⟨t1,i1,ifs1,0⟩,⟨t2,i2,ifs2,0⟩] scope pos
end
section
variable{prog:Program}{w:World}{A:Around}{R:Result->Shared->Prop}{s:Shared}{elt t1 i1 t2 i2:Expr}{ifs1 ifs2:QH}{scope:Scope}{pos:Pos}{it acc:Value}{env:Env}
end
section
variable{X:Cx}{N:QF}{scope:Scope}{cl:QC}{fp0:QE}{s0:Shared}{H0:Hp}{elt t1 i1 t2 i2:Expr}{ifs1 ifs2:QH}{pos:Pos}
end
end L2
namespace L3
open PySem PySem.Spec PySem.Calls PySem.W L2
open PyProof.Rows hiding St
section
variable{X:Cx}{cl:List Cl}{tg e:Expr}{f:Fl}{pos:Pos}{ua:TU}
variable{XN N:QF}{XS scope:Scope}{cap:QB}{elt target iter t2 i2:Expr}{ifs ifs2:QH}{ui ui2:yH}{g3 g23:ee}{tc3 tc23:cV}{te3:TU}
end
end L3
namespace PySem
open PyProof.Rows PySem.SeqAt
section
variable{prog:Program}{w:World}{A:Around}{E:QN}
end
end PySem
namespace L2
open PySem PySem.Spec PyProof.Rows
section
variable{X:Cx}
end
end L2
namespace L3
open PySem PySem.Spec PySem.Calls PyProof.Rows PySem.W L2
section
variable{X:Cx}
end
end L3
namespace L3
open PySem PySem.Spec PySem.Calls PyProof.Rows L2
section
variable{X:Cx}{cl:List Cl}{e a b:Expr}{es:QH}{f fa fb:Fl}{pos pos' p vp:Pos}{ua ub:TU}{us:bS}{ms:nJ}{k k':Nat}{fn:Addr}{fd:FuncData}{ps:QF}{x y:Str}
theorem uv (i:Nat) (g:JC cl[i]?=f) (h:X.N[i]?=some x:=by rfl) (d:Kl X.env.scope x:=by first | exact Or.inl rfl | exact Or.inr (Or.inl rfl) | exact Or.inr (Or.inr rfl)) (hd:(x == ("__debug__" : Str))=false:=by decide) (c:(x == ("__classdict__" : Str))=false:=by decide):PU X cl (.Name x pos) f (c8 i):=JF i (pv i h d hd c) g
theorem C8(d:D3 k X.A)(h:PU X cl a fa ua)(g:PU X cl b fb ub)(c:fC b:=by exactλ_ _=>rfl):PU X cl (.Subscript a b pos) fa (n8 ua ub):=Jt (C9 d) h g c
theorem gn(i:Nat)(j:X.N.Nodup)(d:X.N[i]?=some x:=by rfl)(c:Loc X.env.scope x:=by exact Or.inl rfl)(g:X.fn x=true\/X.env.scope.names.lookup x=some .local:=by first | exact .inl rfl | exact .inr rfl | assumption)(h:cl[i]?=some .bor:=by rfl):Bo X cl (.Name x pos) (g1 i):=Ip (FU j d c g) h
theorem ss(i:Nat)(o:X.N.Nodup)(j:PU X cl e f ua)(l:AI cl[i]? f i=true)(g:X.N[i]?=some x:=by rfl)(c:Loc X.env.scope x:=by exact Or.inl rfl)(d:swapsWith e (some (.Name x pos')) pos.line X.env=pure false:=by rfl)(h:X.fn x=true\/X.env.scope.names.lookup x=some .local:=by first | exact .inl rfl | exact .inr rfl | assumption) :
  J3 X cl (.Assign [.Name x pos'] e pos) (A5 i ua):=kq o g c j l d h
theorem pc {c:Cp} (C:JN X.prog X.w X.K X.mg X.base x k ps (bb X.K c) fn fd) (i:D3 k' X.A) (o:Dx X cl (e::es) us) (d:isStar e=false) (j:k<=k':=by decide) (l:Gl X x:=by rfl) (h:(x == ("__debug__" : Str))=false:=by decide)
  (g:(backTo pos (starEach es X.env)).any (·.1)=false:=by rfl):PU X cl (.Call (.Name x p) (e::es) [] pos) .fresh (o8 c us):=Gi C (i.mono j) l o d h g
theorem pl {c:Cm} (j:Nat) (C:JN X.prog X.w X.K X.mg X.base x k ps (vg X.K c) fn fd) (i:D3 k' X.A) (r:JL X cl es ms) (h:PE X (.Name y vp) (T9 j):=by exact pv _) (o:cl[j]?=some .own:=by rfl) (l:k<=k':=by decide) (q:Gl X x:=by rfl) (g:(x == ("__debug__" : Str))=false:=by decide)
  (d:(backTo pos (starEach es X.env)).any (·.1)=false:=by rfl):PM X cl (.Call (.Name x p) (.Name y vp::es) [] pos) (o7 j c ms):=FN j h o C (i.mono l) q r g d
end
end L3
namespace L2
open PySem PySem.Spec PyProof.Rows
def Jr(tx:St->Hp->VK->XK->Prop)(l i:Nat)(C:Addr)(ts:Addr->Addr->Obj->TS):TS:=λD d H=>tx d H (λv c=>v=.bl true/\D.nx (d.set l (some (.bl true))) c) λcls j c=>cls=.ref C/\∃h,j=some h /\
 ∀e g,c e=none->g.cls=.ref C->g.dict=some h->ts h e g { nx:=λa b=>D.nx (a.set i none) b,rt:=D.rt,bk:=λa b=>D.bk (a.set i none) b,ct:=λa b=>D.ct (a.set i none) b } (d.set i (some (.ref e))) c
theorem zA{X:Cx}{call b:Expr}{j Y a6 np o g:Pos}{B C:Addr}{bn n n0:Str}{i i0:Nat}{l:Stmt}{c:QM}{tx:St->Hp->VK->XK->Prop}{ts:Addr->Addr->Obj->TS}
  (hx:∀pins s σ H Q E,Inv X pins σ H s->tx σ H Q E->wpAny (model X.prog X.w) X.A (eval call X.env) (EP X pins σ Q) (zc X pins σ E) s) (hb:∀E,PE (X.Z1 E) b (tC (.bl true)))
  (am:X.stack=X.env::X.outer) (hf:X.env.frame=some X.env.locals) (hg:Gl X bn) (hm:X.mg bn=some (.ref B)) (un:Under X.base C B true)
  (U:X.N.Nodup) (an:X.N[i0]?=some n0) (a1:X.env.scope.names.lookup n0=some .local) (hi:X.N[i]?=some n) (R:X.env.scope.names.lookup n=some .local)
  (hs:∀dx e O,O.cls=.ref C->O.dict=some dx->(∃vs,O.data=.fields vs)->mn (X.N0 e O λ_ _=>False) (l::c) (ts dx e O)) (ax:(bn == ("__debug__" : Str))=false:=by decide)
  (al:swapsWith (.Compare call [.Is] [b] j) (some (.Name n0 g)) o.line X.env=pure false:=by rfl) (b1:behindInMarks .Is b=false:=by rfl) :
  PS X (.Try [.Assign [.Name n0 g] (.Compare call [.Is] [b] j) o] [.ExceptHandler (some (.Name bn np)) (some n) (l::c) Y] [] [] a6) (Jr tx i0 i C ts):=by
 refine .of ?_;intro pins s σ H D I h;refine wpAny_Try_except (wpAny_execs_cons (wpAny_Assign_Name (wpAny_Compare1 (ux (hx pins s σ H _ _ I h) (λv s1 h1=>?_) λx s1 h1=>?_) b1) al))
 ·obtain⟨x,H1,a,rv,rfl,q⟩:=h1;cases rv;have I':Inv (X.Z1 λ_ _=>False) pins σ H1 s1:=⟨a.ok.Z1 _,a.os,a.bare,a.base,a.loc,a.cell,a.free,a.freeC,a.pin,a.hok,a.len⟩
  refine ux (hb (λ_ _=>False) pins s1 σ H1 (λv H'=>v=.bl true/\D.nx (σ.set i0 (some (.bl true))) H') I' ⟨rfl,q⟩) (λu s2 h2=>?_) λ_ _ z=>z.elim;obtain⟨y,H2,d,rv,rfl,q⟩:=h2;cases rv;refine hH (R8 (X:=X) (v:=.bl true) ⟨a.ok,d.os,d.bare,d.base,d.loc,d.cell,d.free,d.freeC,d.pin,d.hok,d.len⟩ U an (.inl a1) rfl (λs3 I3 _=>?_) (.inr a1));exact Ou (Ou ⟨_,H2,I3,q⟩)
 ·refine xM I.ok.frames am hf h1 λe T cls a0 od H' s3 ad S hE=>?_;subst ad;obtain⟨rfl,dx,rfl,hq⟩:=hE;obtain⟨a7,_,_,_,Ic⟩:=S.pin (F:=λ_ _=>False);obtain⟨⟨nm,q,N,bs,bm,b5,sn,sub,ab,c2,dd,k0,k1,k2,k3,k5,ac,hC,a3⟩,⟨b9,q',N',c3,c4,ar,b8,b4,c5,b6,c1,c0,bv,bu,bi,bg,a5,hB,b0⟩⟩:=un;refine wpAny_handleBy_cons (codeAny_handlers_test (cA (X:=X.N0 e a7 λ_ _=>False) Ic hg hm ?_ ax)) (by intro z;cases z);obtain⟨O,vs,oT,b7,he,hc,_⟩:=id S.je.je;have b2:=S.held.inv.bk _ _ hC;have b3:=S.held.inv.bk _ _ hB;obtain⟨h3,g3,d3,t3,o3⟩:=s3;refine jo b2 b3 he hc b0 ?_;rw[a3];show codeAny _ _ _ _ _;refine codeAny_handlers_suite_as (S.again λs4 ao=>?_);obtain⟨G,a4,a2,ap,I4⟩:=ao.pin (F:=λ_ _=>False);refine R8 (X:=X.N0 e G λ_ _=>False) (v:=.ref e) I4 U hi (.inl R) rfl (λs5 I5 _=>?_) (.inr R);refine ux (hs dx e G a4 a2 ap pins s5 _ H' _ I5 (hq e G S.held.te a4 a2)) (λf s6 h6=>?_) λ_ _ z=>z.elim
  cases f with
  | next=>obtain⟨p,H6,M,r⟩:=h6;exact(M.uncaught I.ok).bW U hi R λs7 J=>⟨_,_,J,r⟩
  | brk=>obtain⟨p,H6,M,r⟩:=h6;exact(M.uncaught I.ok).bW U hi R λs7 J=>⟨_,_,J,r⟩
  | cont=>obtain⟨p,H6,M,r⟩:=h6;exact(M.uncaught I.ok).bW U hi R λs7 J=>⟨_,_,J,r⟩
  | ret u=>obtain⟨v,p,H6,M,r6,r⟩:=h6;exact(M.uncaught I.ok).bW U hi R λs7 J=>⟨v,_,_,J,r6,r⟩
section
variable{X:Cx}{pins:QA}{σ:St}{H:Hp}{s:Shared}{a:Addr}
theorem Inv.Fq{kvs:List (Key×V)}{ep:Nat}(I:Inv X pins σ H s)(e:H a=some (.dE kvs ep)):∃ob,Inv X pins σ (upd H a (.frz ob (.dE kvs ep))) s:=by
 obtain⟨d,g,vs,r,o,h,c,q⟩:=(show u3 X.prog X.w H s.heap a (.dE kvs ep) from I.hok a _ e)
 exact⟨o,I.write (x:=a) (e:=a) (h':=s.heap) (t':=s.toks) (o:=.frz o (.dE kvs ep)) (by rw[e];exact True.intro) (.inl rfl) (λb q i z=>z) ⟨_,c⟩ ⟨c,d,g,vs,r,o,h,c,q⟩⟩
theorem EE{e:Expr}{t:TE}(h:PE X e t):PE X e (λσ H Q=>t σ H λv b=>∃p kvs ep,v=.ref p/\b p=some (.dE kvs ep)/\∀ob,Q v (upd b p (.frz ob (.dE kvs ep)))):=by
 refine .of ?_;intro pins s σ H Q I q;exact B4 (h pins s σ H _ I q) λv l ⟨x,r,j,c,p,kvs,ep,o,g,d⟩=>let ⟨ob,i⟩:=j.Fq g;⟨x,_,i,c,d ob⟩
end
end L2
namespace L3
open PySem PySem.Spec PySem.Calls PyProof.Rows L2
section
variable{X:Cx}{cl:List Cl}{e:Expr}{es:QH}{pos cpos hpos np p p1:Pos}{us:bS}{k kI:Nat}{fn:Addr}{fd:FuncData}{ps:QF}{x y bn n f:Str}{i:Nat}{Fo:Str->QF}
def AB(Fo:Str->QF)(c:LF)(us:bS)(g i:Nat)(y:Str)(ts:Addr->Addr->i6):i6:=λT b=>us b λj=>c j (λd=>d=.bl true/\Nat.blt g b.length=true/\T.nx (b.set g (some (.bl true)))) λz fs=>z=y/\Nat.blt i b.length=true /\
 ∀e h,ts e h { nx:=λa=>T.nx (a.set i none),rt:=T.rt,bk:=λa=>T.bk (a.set i none),ct:=λa=>T.ct (a.set i none) } (b.set i (some (.xc e h ((Fo y).zip fs).reverse)))
theorem FD{ab Y M O:Pos}{c:LF}{B C:Addr}{b:Expr}{U:Stmt}{o:QM}{ts:Addr->Addr->i6}{n0:Str}{i0:Nat}(F:IW X.prog X.w X.K X.mg X.base x k ps (JV Fo X.K X.mg c) fn fd)(hr:D3 k X.A)(ap:Gl X x)(ha:Dx (X.Z1 λ_ _=>False) cl (e::es) us)(ad:isStar e=false)(hb:∀E,PE (X.Z1 E) b (tC (.bl true)))
  (a4:X.stack=X.env::X.outer) (hf:X.env.frame=some X.env.locals) (hg:Gl X bn) (hm:X.mg bn=some (.ref B)) (am:X.mg y=some (.ref C)) (un:Under X.base C B true)
  (hN:X.N.Nodup) (ao:X.N[i0]?=some n0) (an:X.env.scope.names.lookup n0=some .local) (a5:cl[i0]?=some .bor) (hi:X.N[i]?=some n) (hk:X.env.scope.names.lookup n=some .local) (b2:cl[i]?=some .bor)
  (hs:∀e l g,g.cls=.ref C->g.dict=some l->(∃vs,g.data=.fields vs)->jc (X.N0 e g λ_ _=>False) cl (U::o) (ts e l))
  (ar:(x == ("__debug__" : Str))=false:=by decide) (al:(backTo p (starEach es X.env)).any (·.1)=false:=by rfl) (ax:(bn == ("__debug__" : Str))=false:=by decide) (ac:swapsWith (.Compare (.Call (.Name x np) (e::es) [] p) [.Is] [b] O) (some (.Name n0 M)) Y.line X.env=pure false:=by rfl) (b4:behindInMarks .Is b=false:=by rfl) :
  J3 X cl (.Try [.Assign [.Name n0 M] (.Compare (.Call (.Name x np) (e::es) [] p) [.Is] [b] O) Y] [.ExceptHandler (some (.Name bn ab)) (some n) (U::o) hpos] [] [] pos) (AB Fo c us i0 i y ts):=.of<|by
 obtain⟨t,pt,h⟩:=ha.run;have a0:=λe l g hc hd S=>(hs e l g hc hd S).run
 refine⟨_,zA (tx:=λu H Q E=>t u H λvs H1=>JV Fo X.K X.mg c (vs++[]) H1 Q E) (ts:=λl e g R u H=>∀(hc:g.cls=.ref C) (hd:g.dict=some l) (S:∃vs,g.data=.fields vs),Classical.choose (a0 e l g hc hd S) R u H)
  (λJ s u H Q E I q=>xa F.ok hr ap F.mgf F.kp F.bd .nil pt I q ar (R9 ad) al) hb a4 hf hg hm un hN ao an hi hk (λl e g hc hd S=>?_) ax ac b4,λG T ρ u H fa R hG E hu le=>?_⟩
 ·refine .of ?_;intro J s u H D I q;exact(lN (a0 e l g hc hd S)).1 J s u H D I (q hc hd S)
 ·have a6:G.cl[i]?=some .bor:=by rw[hG];exact b2
  have b5:G.cl[i0]?=some .bor:=by rw[hG];exact a5
  have no:¬G.own i:=λz=>by
   unfold Ent.own at z;rw[a6] at z;cases z
  refine h G ρ u H fa _ _ hG E hu λvs H1 ds A s r n3 q=>?_;rw[sK];refine⟨ds,A,_,_,r,q,λr v H2 B qd s2 rp _ _=>?_,λz C' fs l H2 w hz s2 nd b0=>?_⟩
  ·obtain⟨rfl,a1,qd⟩:=qd;cases rp;have E1:=(E.same (s.trans s2)).set (v:=.bl true) (d:=.bl true) (B:=[]) (t4 a1) .bl ⟨λj _ hj a ha=>(by cases ha),by rw[b5];trivial⟩;exact⟨rfl,le.nx _ H2 ⟨_,_,E1,qd⟩⟩
  obtain⟨rfl,a1,w⟩:=w;have eC:C'=C:=by rw[am] at hz;cases hz;rfl
  subst eC;refine⟨rfl,l,rfl,λe g he hc hd b3 b1 S=>?_⟩;have E1:=E.same s;have E2:=(E1.same s2).set (t4 a1) (.xc (e:=e) b0) ⟨λj _ hj a ha z=>by cases List.mem_singleton.mp ha;exact E1.there j z nd,by rw[a6];trivial⟩;refine(lN (a0 e l g b3 b1 S)).2 G _ _ _ _ _ _ hG E2 (w e l) ⟨λa2 H' z=>?_,le.rt,λa2 H' z=>?_,λa2 H' z=>?_⟩
  ·obtain⟨a3,a7,E',z⟩:=z;exact le.nx _ _ ⟨_,_,E'.unset i no,z⟩
  ·obtain⟨a3,a7,E',z⟩:=z;exact le.bk _ _ ⟨_,_,E'.unset i no,z⟩
  ·obtain⟨a3,a7,E',z⟩:=z;exact le.ct _ _ ⟨_,_,E'.unset i no,z⟩
variable{ua:TU}
def Cb(u:TU):TU:=λa Q=>u a λd=>d=.dic []/\∀b,Q (.ob (.dE [] b))
theorem uE(h:PU X cl e .fresh ua):PU X cl e .fresh (Cb ua):=.of<|by
 obtain⟨t,I,h⟩:=h.run;refine⟨_,EE I,λG j g H S Q R O E C k=>h G j g H S _ _ O E C λv U d A s r T q=>?_⟩;obtain⟨rfl,q⟩:=q
 cases r with
 | @dic p u _ B c J l=>
  cases l;refine⟨p,[],c,rfl,J,λob=>?_⟩;have M:H p=none:=T.2 p pu;exact k _ _ (.ob _) [] (λb o a=>by rw[i4 (λz=>by rw[z,M] at a;cases a)];exact s b o a) (.ob g9) (y4.nil _) (q c)
end
end L3
namespace My
open PySem L2 L3
theorem aZ{a:Type}(x:a)(xs:List a):O7 (x::xs) 0=some x:=by
 have:(0:Int)<((xs.length+1:Nat):Int):=by omega
 unfold O7 ji;rw[qq (PL 0),sw,qq this];rfl
theorem V3{e:Type}{g:ee}{tc:cV}{te:TU}{d:Ev}{F f:e->D}{Q:List D->Prop}:∀(as:List e) (acc:List D),(∀a∈as,∀(K:D->Prop) (R:Prop),K (f a)->g (F a) d λc=>tc c λb=>Br b (te c K) R)->Q (acc++as.map f)->lz g tc te d (as.map F) acc Q
 | [],acc,_,q=>by
  rw[Px,sK] at q;exact q
 | a::as,acc,h,q=>by
  rw[rl];refine h a pu _ _ (V3 as (acc++[f a]) (λb i=>h b (ol _ i)) ?_);rw[Fa];exact q
theorem dX{i:Type}{g:ee}{tc:cV}{te:TU}{d:Ev}{F f:i->D}{Q:List D->Prop}(p:i->Bool):∀(as:List i) (acc:List D),(∀a∈as,∀(K:D->Prop) (R:Prop),(p a=true->K (f a))->(p a=false->R)->g (F a) d λc=>tc c λb=>Br b (te c K) R)->Q (acc++(as.filter p).map f)->lz g tc te d (as.map F) acc Q
 | [],acc,_,q=>by
  rw[List.filter_nil,Px,sK] at q;exact q
 | a::as,acc,h,q=>by
  rw[rl];refine h a pu _ _ (λe=>dX p as (acc++[f a]) (λb j=>h b (ol _ j)) ?_) (λe=>dX p as acc (λb j=>h b (ol _ j)) ?_)
  ·rw[OW,qq e,rl] at q;rw[Fa];exact q
  ·rw[OW,qc (by rw[e];exact nT)] at q;exact q
theorem get_map{b:Type}{F:b->D}{as:List b}{i:Nat}{d:D}(h:(as.map F)[i]?=some d):∃a,as[i]?=some a/\d=F a:=by
 rw[rz] at h
 cases e:as[i]? with
 | none=>rw[e] at h;cases h
 | some a=>rw[e] at h;cases h;exact⟨a,rfl,rfl⟩
theorem A9{n:Nat}(h:n<=100000):n<sizeLine:=by rw[v1];omega
theorem Df(ns:QI):l9 (ns.map D.int)=true:=by
 induction ns with
 | nil=>rfl
 | cons n ns a=>rw[rl];exact a
theorem nY(ns:QF):l9 (ns.map D.str)=true:=by
 induction ns with
 | nil=>rfl
 | cons n ns a=>rw[rl];exact a
theorem x8{xs:List D}(h:∀x∈xs,w8 x=true):l9 xs=true:=by
 induction xs with
 | nil=>rfl
 | cons n ns a=>
  show(w8 n&&l9 ns)=true;rw[h n pu,a λx b=>h x (ol _ b)];rfl
theorem E8{b:Type}{f:b->D}{xs:List b}{i:Int}(d:0<=i)(c:i<xs.length):∃x,x∈xs/\xs[i.toNat]?=some x/\O7 (xs.map f) i=some (f x):=by
 have a:i.toNat<xs.length:=by omega
 refine⟨xs[i.toNat],Oy a,hL a,?_⟩;unfold O7 ji;rw[qq d,cC,qq c];simp[a]
theorem KS{n:Int}(h:n<=10^70)(b:0<n):n.natAbs.log2<9000:=by
 have a:n.natAbs<2^9000:=KM (m:=10^70) (by omega) (by decide +kernel);exact(Nat.log2_lt (by omega)).mpr a
abbrev EM(Q:D->D->Prop):Z7:={ nx:=λa=>c8 0 a λl=>Q .p7 l,rt:=λd a=>c8 0 a λl=>Q d l }
abbrev EP(Q:D->Prop):Z7:={ nx:=λ_=>Q .p7,rt:=λd _=>Q d }
def nums(xs:QI):D:=.lst (xs.map D.int)
theorem qH{a:Type}{f:a->D}{xs:List a}(h:0<xs.length):∃x,x∈xs/\O7 (xs.map f) (-1)=some (f x):=by
 refine⟨xs[xs.length-1],Oy (by omega),?_⟩;unfold O7 ji;have d:¬(0:Int)<=-1:=by decide
 have c:-((xs.map f).length:Int)<=-1:=by rw[cC];omega
 have b:((-1:Int)+((xs.map f).length:Int)).toNat=xs.length-1:=by rw[cC];omega
 rw[qc d,qq c,b];show(xs.map f)[xs.length-1]?=_;rw[rz,hL (by omega)];rfl
theorem p6(n:Nat):nO 0 n=(List.range n).map λ(k:Nat)=>D.int (0+(k:Int)):=rfl
theorem dP(p:Key×D)(r:List (Key×D))(j:Key):B7 (p::r) j=if p.1=j then some p.2 else B7 r j:=by
 unfold B7;rw[wr]
 by_cases e:p.1=j
 ·rw[qq e,eH e];rfl
 ·rw[qc e,iG e]
theorem kE(k j:Key)(y:D):∀kvs:List (Key×D),B7 (kvs.map λc=>if c.1=k then(c.1,y) else c) j=if j=k then(B7 kvs j).map (λ_=>y) else B7 kvs j
 | []=>by simp[B7]
 | p::r=>by
  rw[rl,dP,dP,kE k j y r]
  by_cases b:p.1=k
  ·rw[qq b]
   by_cases a:p.1=j
   ·have d:j=k:=a.symm.trans b;simp[a,d]
   ·simp[a]
  ·rw[qc b]
   by_cases a:p.1=j
   ·have d:¬j=k:=λz=>b (a.trans z);simp[a,d]
   ·simp[a]
theorem iC(k:Key):∀kvs:List (Key×D),(kvs.any λa=>decide (a.1=k))=(B7 kvs k).isSome
 | []=>rfl
 | p::r=>by
  rw[FS,iC k r,dP]
  by_cases e:p.1=k
  ·simp[e]
  ·simp[e]
theorem qJ(k j:Key)(y:D):∀kvs:List (Key×D),B7 (kvs++[(k,y)]) j=(B7 kvs j).or (if k=j then some y else none)
 | []=>by rw[xL,dP];simp[B7]
 | p::r=>by
  rw[PF,dP,dP,qJ k j y r]
  by_cases e:p.1=j
  ·simp[e]
  ·simp[e]
theorem az(kvs:List (Key×D))(k j:Key)(y:D):B7 (putD kvs k y) j=if j=k then some y else B7 kvs j:=by
 unfold putD
 by_cases a:(kvs.any λb=>decide (b.1=k))=true
 ·rw[qq a,kE];rw[iC] at a;obtain⟨v,c⟩:=Option.isSome_iff_exists.mp a
  by_cases e:j=k
  ·subst e;simp[c]
  ·simp[e]
 ·rw[qc a,qJ];rw[iC] at a
  have d:B7 kvs k=none:=by
   cases q:B7 kvs k with
   | none=>rfl
   | some v=>rw[q] at a;exact(a rfl).elim
  by_cases e:j=k
  ·subst e;simp[d]
  ·have g:¬k=j:=λz=>e z.symm;simp[e,g]
theorem gv(kvs:List (Key×D))(k:Key)(v:D):(putD kvs k v).length<=kvs.length+1:=by
 unfold putD;split
 ·rw[cC];omega
 ·rw[hW];simp
theorem dZ(a b:D)(l:List D):O7 (a::b::l) 1=some b:=by
 unfold O7 ji;rw[qq (by decide),qq (by simp only[sw];omega)];rfl
theorem Dc{i:Type}{g:ee}{tc:cV}{tk te:TU}{e:Ev}{F v:i->D}{k:i->Key}{Q:List (Key×D)->Prop}:∀(as:List i) (acc:List (Key×D)),(∀a∈as,∀(K:Key->D->Prop) (R:Prop),K (k a) (v a)->g (F a) e λc=>tc c λb=>Br b (tk c λy=>te c λd=>∃k,cM y=some k/\w8 d=true/\K k d) R) ->
  Q (as.foldl (λacc a=>putD acc (k a) (v a)) acc)->se g tc tk te e (as.map F) acc Q
 | [],acc,_,q=>q
 | a::as,acc,h,q=>by
  rw[rl];exact h a pu (λk d=>se g tc tk te e (as.map F) (putD acc k d) Q) _ (Dc as _ (λb j=>h b (ol _ j)) q)
theorem kF{c:Type}{v:c->D}{k:c->Key}(j:Key):∀(as:List c) (acc:List (Key×D)),(∀a∈as,k a≠j)->B7 (as.foldl (λacc a=>putD acc (k a) (v a)) acc) j=B7 acc j
 | [],acc,_=>rfl
 | a::as,acc,h=>by
  rw[Pd,kF j as _ λb d=>h b (ol _ d),az,qc λz=>h a pu z.symm]
theorem pF{d:Type}{v:d->D}{k:d->Key}:∀(as:List d) (acc:List (Key×D)),(as.map k).Nodup->∀a∈as,B7 (as.foldl (λacc a=>putD acc (k a) (v a)) acc) (k a)=some (v a)
 | [],_,_,a,g=>by cases g
 | b::as,acc,h,a,g=>by
  rw[rl] at h;obtain⟨l,j⟩:=List.nodup_cons.mp h;rw[Pd];rcases List.mem_cons.mp g with e | e
  ·subst e;rw[kF (k a) as _ λc i z=>l (List.mem_map.mpr ⟨c,i,z⟩),az,qq rfl]
  ·exact pF as _ j a e
def HY(d:D)(ns:QI):Prop:=d=.fz (ns.map D.int)\/d=.lst (ns.map D.int)
def feed(c d k:Int):D:=.lst [.int c,.int d,.int k]
abbrev Rw:=Str×List D
def row(r:Rw):D:=.tup (.str r.1::r.2)
def zE(a:List Rw):D:=.tup (a.map row)
def NB(gs ls:List Rw):D:=.tup [zE gs,zE ls]
def cP(xs:QF):D:=.lst (xs.map D.str)
theorem DS{r:Rw}(h:l9 r.2=true):w8 (row r)=true:=h
theorem jL{gs:List Rw}(h:∀g∈gs,l9 g.2=true):l9 (gs.map row)=true:=x8 λx a=>by
 obtain⟨g,b,rfl⟩:=List.mem_map.mp a;exact DS (h g b)
def uD:Option Str->D
 | none=>.p7
 | some x=>.str x
abbrev Pr:=Int×Int
def pr(p:Pr):D:=.tup [.int p.1,.int p.2]
def cT(ps:List Pr):D:=.tup (ps.map pr)
def IU(p:Pr):Prop:=1<=p.1/\p.1<10^59/\0<=p.2/\p.2<10^60
theorem bY:∀ps:List Pr,l9 (ps.map pr)=true
 | []=>rfl
 | p::ps=>by
  show((true&&(true&&true))&&l9 (ps.map pr))=true;rw[bY ps];rfl
def ny(ps:List Pr):Prop:=1<=ps.length/\ps.length<=5/\(∀p∈ps,1<=p.1/\p.1<10^60/\1<=p.2/\p.2<10^60)/\ps.Pairwise λp q=>p.1<q.1/\q.2<p.2
def nm(n:Nat)(x:Str):Prop:=1<=x.cps.toList.length/\x.cps.toList.length<=n/\∀c∈x.cps.toList,97<=c/\c<=122
instance (n:Nat) (x:Str):Decidable (nm n x):=by unfold nm;infer_instance
theorem fH(ps:List Pr):w8 (cT ps)=true:=bY ps
def W9:Cp:=λa Q=>∃(d:D) (ns:QI) (k:Int),a=[d,.int k]/\HY d ns/\0<=k/\∀c,Q (.int c)
def Z5:Cp:=λa Q=>∃(d:D) (ns:QI) (k:Int),a=[d,.int k]/\HY d ns/\0<=k/\k<=1000/\∀c,Q (feed c c (100*k))
def u5:Cm:=λa Q=>∃(c d k n:Int),a=[feed c d k,.int n]/\0<=k/\k<=10^9/\0<n/\n<=10^70/\∀(r b:Int),0<=r->r<n->Q (.int r) (feed c b (k+1))
def Q1:Cm:=λb Q=>∃(c d k:Int),b=[feed c d k]/\0<=k/\k<=10^8/\∀(r e a:Int),1<=r->r<10^59->k<=a->a<=k+3->Q (.int r) (feed c e a)
def O1:Cm:=λb Q=>∃(c d k:Int),b=[feed c d k]/\0<=k/\k<=10^7/\∀(r e a:Int),0<=r->r<10^60->k<=a->a<=k+4->Q (.int r) (feed c e a)
def kT:i6:=(r8 (A6 (n8 (c8 0) (c8 1))))
def xG:i6:=(r8 (uC (.int 0)))
def vd:i6:=(g6 (M9 (tP (uT (o5 AA (c8 1) (E9 K1 (a9 (c8 0) e7))))) kT p3) xG)
def EH:i6:=(r8 (O5 (a9 (A6 (c8 2)) (a9 (A6 (c8 2)) (a9 (o5 P2 (uC (.int 100)) (c8 1)) e7)))))
def GV:i6:=(g6 (A5 2 (o8 W9 (a9 (c8 0) (a9 (c8 1) e7)))) EH)
def rA:i6:=(r8 (A6 (c8 2)))
def sG:i6:=(g6 (xZ 0 (mP (o5 Ft (n8 (c8 0) (uC (.int 1))) (c8 1))) (mP (uC (.int 1)))) rA)
def qX:i6:=(g6 (A5 2 (o5 iE (n8 (c8 0) (uC (.int 1))) (c8 1))) sG)
def DT:i6:=(r8 (o5 iE (o5 Ft (o5 iE (o5 P2 (c8 3) (o5 o6 (o5 iE (c8 3) (uC (.int 65521))) (uC (.int 3)))) (uC (.int 2147483629))) (uC (.int 5))) (c8 1)))
def FZ:i6:=(g6 (A5 3 (o5 iE (o5 o6 (o5 o6 (c8 3) (o5 P2 (o5 P2 (n8 (c8 0) (uC (.int 2))) (n8 (c8 0) (uC (.int 2)))) (uC (.int 69621)))) (uC (.int 11))) (uC (.int 2147483647)))) DT)
def DC:i6:=(g6 (A5 3 (o5 o6 (o5 P2 (o5 iE (n8 (c8 0) (uC (.int 0))) (uC (.int 2147483629))) (uC (.int 48271))) (o5 P2 (uC (.int 7919)) (n8 (c8 0) (uC (.int 2)))))) FZ)
def FO:i6:=(g6 (M9 (tP (Ar (uT (o5 Of (n8 (c8 0) (uC (.int 0))) (o5 iV (uC (.int 10)) (uC (.int 18))))) (uT (o5 Ga (n8 (c8 0) (uC (.int 1))) (uC (.int 0)))))) qX p3) DC)
def GU:i6:=(g6 (xZ 0 (mP (o5 o6 (n8 (c8 0) (uC (.int 2))) (uC (.int 1)))) (mP (uC (.int 2)))) FO)
def qE:i6:=(bj (Z0 o6 (mP (uC (.int 1))) (Z0 P2 (mP (c8 1)) (o7 0 u5 (j9 (mP (uC (.int 4))) u9)))))
def oZ:i6:=(bj (Z0 o6 (mP (uC (.int 1))) (o7 0 u5 (j9 (mP (o5 iV (uC (.int 10)) (uC (.int 6)))) u9))))
def zl:i6:=(bj (Z0 o6 (Z0 P2 (Z0 o6 (mP (uC (.int 1))) (o7 0 u5 (j9 (mP (o5 iV (uC (.int 10)) (uC (.int 9)))) u9))) (mP (o5 iV (uC (.int 10)) (uC (.int 49))))) (o7 0 u5 (j9 (mP (o5 iV (uC (.int 10)) (uC (.int 40)))) u9))))
def Ai:i6:=(g6 (M9 (tP (uT (o5 (G0 false) (c8 1) (uC (.int 2))))) oZ p3) zl)
def zV:i6:=(g6 (M9 (tP (uT (o5 AA (c8 1) (uC (.int 2))))) qE p3) Ai)
def Az:i6:=(g6 (C7 1 (o7 0 u5 (j9 (mP (uC (.int 4))) u9))) zV)
def lJ:i6:=(bj (o7 0 u5 (j9 (mP (uC (.int 4))) u9)))
def lI:i6:=(bj (o7 0 Q1 u9))
def xS:i6:=(bj (Z0 ae (mP (o5 ae (o5 iV (uC (.int 10)) (uC (.int 60))) (uC (.int 1)))) (o7 0 u5 (j9 (mP (uC (.int 3))) u9))))
def xl:i6:=(g6 (M9 (tP (uT (o5 AA (c8 1) (uC (.int 4))))) lI p3) xS)
def yf:i6:=(g6 (M9 (tP (uT (o5 AA (c8 1) (uC (.int 2))))) lJ p3) xl)
def vP:i6:=(g6 (C7 1 (o7 0 u5 (j9 (mP (uC (.int 5))) u9))) yf)
abbrev HP(n:Str)(k:Nat)(ps:QF)(c:Cp)(P:Program)(w:World)(K:QP)(mg:QL)(base:Heap)(f:Addr)(a:FuncData):=JN P w K mg base n k ps (bb K c) f a
abbrev HM(n:Str)(k:Nat)(ps:QF)(c:Cm)(P:Program)(w:World)(K:QP)(mg:QL)(base:Heap)(f:Addr)(a:FuncData):=JN P w K mg base n k ps (vg K c) f a
abbrev O2(c:Cp)(n:Nat):Prop:=∀a Q,c a Q->a.length=n
abbrev qQ(c:Cm)(n:Nat):Prop:=∀a Q,c a Q->a.length=n
abbrev dM(c:Cp)(t:i6)(n:Nat):Prop:=∀a Q,c a Q->t (EP Q) (i8 n a)
abbrev GO(c:Cm)(t:i6)(n:Nat):Prop:=∀a Q,c a Q->t (EM Q) (i8 n a)
def Z2(K:QP)(f:Addr)(x:Str)(st:Stmt):Prop:=PySem.W.nsIn K mainGlobals x=some (some (.ref f))/\∃(e:Value) (d h:Option Addr) (b:Array (QQ)) (kV g c a ct:Value),K.lookup f=some ⟨e,d,.func (PySem.W.fnOf x x (U5 st) (E7 st) (e6 st) .none kV g c h a ct),b⟩/\PySem.W.codeIn K a x=true/\PySem.W.keepIn K (.ref f)=true
theorem Z2.mk{K:QP}{h:Heap}{mg:QL}{f:Addr}{x:Str}{st:Stmt}(X:K.In h)(G:h.Ns mainGlobals mg)(d:Z2 K f x st):∃b,S6 K x x st f b/\mg x=some (.ref f)/\PySem.W.keepIn K (.ref f)=true:=
 let ⟨a,_,_,_,_,_,_,_,_,_,l,c,k⟩:=d;⟨_,tN l c k,wn X G a,k⟩
def lb:Str:="abcdefghijklmnopqrstuvwxyz"
def jb(i:Int):Nat:=(O7 lb.cps.toList i).getD 0
theorem EN:∀n:Nat,n<26->jb (n:Int)=97+n:=by decide +kernel
theorem mx{i:Int}(a:0<=i)(b:i<26):jb i=97+i.toNat:=by
 have e:((i.toNat:Nat):Int)=i:=Int.toNat_of_nonneg a;have q:=EN i.toNat (by omega);rw[e] at q;exact q
theorem uO{i j:Int}(d:0<=i)(c:i<26)(b:0<=j)(a:j<26)(h:jb i=jb j):i=j:=by
 rw[mx d c,mx b a] at h;omega
theorem tq{i:Int}(b:0<=i)(a:i<26):97<=jb i/\jb i<=122:=by rw[mx b a];omega
theorem uq{c:Nat}{n:Int}(b:0<=n)(a:n<=4):(Txt.mul ⟨#[c]⟩ n).cps.toList=List.replicate n.toNat c:=by
 have h:n=0\/n=1\/n=2\/n=3\/n=4:=by omega
 rcases h with rfl | rfl | rfl | rfl | rfl
 all_goals rfl
theorem yB(xs:QI):∀acc:Array Nat,((xs.map λb=>(⟨#[jb b]⟩:Str)).foldl (λacc p=>acc++(Str.cps "")++p.cps) acc).toList=acc.toList++xs.map jb:=by
 induction xs with
 | nil=>intro acc;simp
 | cons b B a=>
  intro acc;rw[rl,Pd,a,rl];show(acc++#[]++#[jb b]).toList++_=_;simp
theorem yU(xs:QI):(Txt.join "" (xs.map λb=>(⟨#[jb b]⟩:Str))).cps.toList=xs.map jb:=by
 unfold Txt.join Builtin.Str.glued
 cases xs with
 | nil=>rfl
 | cons b B=>
  exact(yB B #[jb b]).trans rfl
theorem Fb(x y:Str):(x++y).cps.toList=x.cps.toList++y.cps.toList:=by
 show(x.cps++y.cps).toList=_;simp
theorem Y7{d:Type}(f:Nat->d)(n:Nat)(h:∀i j,i<n->j<n->f i=f j->i=j):((List.range n).map f).Nodup:=by
 rw[List.Nodup,Pw];refine List.Pairwise.imp_of_mem ?_ (List.nodup_range (n:=n));intro a b l g c e;exact c (h a b (List.mem_range.mp l) (List.mem_range.mp g) e)
theorem jA{b:Type}{x:b}:∀{xs:List b} (i:Nat),xs.Nodup->x∉xs->(xs.set i x).Nodup
 | [],_,_,_=>op
 | y::c,0,h,a=>List.nodup_cons.mpr ⟨λz=>a (ol _ z),(List.nodup_cons.mp h).2⟩
 | y::c,i+1,h,a=>by
  rw[List.set_cons_succ];refine List.nodup_cons.mpr ⟨λz=>?_,jA i (List.nodup_cons.mp h).2 λz=>a (ol _ z)⟩;rcases x2 z with w | w
  ·exact(List.nodup_cons.mp h).1 w
  ·exact a (w▸pu)
def nameA(f:Int)(i:Nat):Str:=Txt.mul ⟨#[jb ((f+(0+(i:Int)))%26)]⟩ (1+(0+(i:Int))/26)
theorem dw{f:Int}{i:Nat}(a:i<100):(nameA f i).cps.toList=List.replicate (1+i/26) (jb ((f+(0+(i:Int)))%26)):=by
 unfold nameA;rw[uq (by omega) (by omega)];congr 1;omega
theorem yu{f:Int}{i j:Nat}(b:i<100)(a:j<100)(h:nameA f i=nameA f j):i=j:=by
 have e:=wv (λx:Str=>x.cps.toList) h;rw[dw b,dw a] at e;have el:=wv List.length e;rw[Lm,Lm] at el;rw[el] at e
 have d:jb ((f+(0+(i:Int)))%26)=jb ((f+(0+(j:Int)))%26):=by
  have c:=wv (λl:QJ=>l.head?) e;simpa[Nat.add_comm 1,xz] using c
 have g:=uO (v9 _ (by decide)) (uy _ (by decide)) (v9 _ (by decide)) (uy _ (by decide)) d;omega
theorem zB{f:Int}{i n:Nat}(a:i<100)(h:1+i/26<=n):nm n (nameA f i):=by
 unfold nm;rw[dw a,Lm];refine⟨by omega,h,λc b=>?_⟩;rw[(List.mem_replicate.mp b).2];exact tq (v9 _ (by decide)) (uy _ (by decide))
def ft(bs:QI)(a o c b:Int)(i:Nat):QI:=(bs.set a.toNat ((c+(0+(i:Int)))%26)).set o.toNat ((b+(0+(i:Int))/26)%26)
def eD(bs:QI)(a o d c f l:Int)(i:Nat):Str:=Txt.join "" ((ft bs a o d c i).map λb=>(⟨#[jb b]⟩:Str))++Txt.mul ⟨#[jb f]⟩ (l*((0+(i:Int))%2))
theorem ag{bs:QI}{a o c b:Int}{i:Nat}:(ft bs a o c b i).length=bs.length:=by unfold ft;rw[Db,Db]
theorem lP{bs:QI}{a o g e:Int}{i:Nat}(d:∀b∈bs,0<=b/\b<26):∀b∈ft bs a o g e i,0<=b/\b<26:=λb c=>by
 rcases x2 c with w | w
 ·rcases x2 w with w | w
  ·exact d b w
  ·rw[w];exact⟨v9 _ (by decide),uy _ (by decide)⟩
 ·rw[w];exact⟨v9 _ (by decide),uy _ (by decide)⟩
theorem Kv{l:Int}(b:0<=l)(a:l<=1)(i:Nat):0<=l*((0+(i:Int))%2)/\l*((0+(i:Int))%2)<=1:=by
 have h:l=0\/l=1:=by omega
 rcases h with rfl | rfl<;>omega
theorem dI{bs:QI}{a o c b f l:Int}{i:Nat}(e:0<=l)(d:l<=1):(eD bs a o c b f l i).cps.toList=(ft bs a o c b i).map jb++List.replicate (l*((0+(i:Int))%2)).toNat (jb f):=by
 unfold eD;have:=Kv e d i;rw[Fb,yU,uq this.1 (by omega)]
theorem xH{bs:QI}{a o d c f l:Int}{i j:Nat}(J:i<100)(I:j<100)(p:0<=l)(g:l<=1)(Q:0<=a)(O:a<bs.length)(H:0<=o)(G:o<bs.length)(M:a≠o)(u:∀b∈bs,0<=b/\b<26)
  (h:eD bs a o d c f l i=eD bs a o d c f l j):i=j:=by
 have e:=wv (λx:Str=>x.cps.toList) h;rw[dI p g,dI p g] at e;have B:=(List.append_inj e (by rw[cC,cC,ag,ag])).1
 have at_:∀(n:Nat) (x y:Int),(ft bs a o d c i)[n]?=some x->(ft bs a o d c j)[n]?=some y->x=y:=λn x y r q=>by
  have v:=wv (λz:QJ=>z[n]?) B;rw[rz,rz,r,q] at v;have:=lP u x (rc r);have:=lP u y (rc q);exact uO (by omega) (by omega) (by omega) (by omega) (tL v)
 have ga:∀k:Nat,(ft bs a o d c k)[a.toNat]?=some ((d+(0+(k:Int)))%26):=λk=>by
  unfold ft;rw[sf (by omega),sm (by omega)]
 have go:∀k:Nat,(ft bs a o d c k)[o.toNat]?=some ((c+(0+(k:Int))/26)%26):=λk=>by
  unfold ft;rw[sm (by rw[Db];omega)]
 have E:=at_ _ _ _ (ga i) (ga j);have C:=at_ _ _ _ (go i) (go j);omega
theorem CW{bs:QI}{a o v u f l:Int}{i n:Nat}(g:0<=l)(e:l<=1)(r:0<=f)(q:f<26)(p:∀b∈bs,0<=b/\b<26)(y:1<=bs.length)(x:bs.length+l<=n):nm n (eD bs a o v u f l i):=by
 have:=Kv g e i;have h:l=0\/l=1:=by omega
 unfold nm;rw[dI g e,hW,cC,ag,Lm];refine⟨by omega,?_,λc j=>?_⟩
 ·rcases h with rfl | rfl
  ·rw[Int.zero_mul];show bs.length+0<=n;omega
  ·omega
 ·rcases List.mem_append.mp j with w | w
  ·obtain⟨b,d,rfl⟩:=List.mem_map.mp w;have:=lP p b d;exact tq this.1 this.2
  ·rw[(List.mem_replicate.mp w).2];exact tq r q
theorem yW{a r n:Int}(i:0<=a)(g:a<n)(d:0<=r)(c:r<n-1):a≠(a+1+r)%n:=by
 by_cases h:a+1+r<n
 ·rw[Int.emod_eq_of_lt (by omega) h];omega
 ·have e:(a+1+r)%n=a+1+r-n:=by
   have b:a+1+r=(a+1+r-n)+n:=by omega
   rw[b,Int.add_emod_right,Int.emod_eq_of_lt (by omega) (by omega)];omega
  rw[e];omega
def bQ:Cm:=λe Q=>∃(c d k m:Int),e=[feed c d k,.int m]/\0<=k/\k<=10^6/\1<=m/\m<=100/\∀(a:QF) (g b:Int),a.length=m->a.Nodup->(∀x∈a,nm 8 x)->Q (cP a) (feed c g b)
local macro_rules | `(tactic| walk_at "w")=>`(tactic| conv=>whnf)
local macro_rules | `(tactic| walk_at "a")=>`(tactic| first | refine⟨rfl,?_⟩ | refine⟨_,rfl,?_⟩ | refine Br.yes rfl ?_ | refine Br.no rfl ?_ | refine⟨(show(0:Int)<_ from by decide),?_⟩ | refine⟨(show T4 _ _ from⟨by decide,by decide⟩),?_⟩ | refine⟨(show bP _ _ from⟨by decide,by decide,by decide⟩),?_⟩ | refine⟨(show M1 _ _ from .inr ⟨by decide,by decide⟩),?_⟩ | refine⟨(show M1 _ _ from .inl ⟨by decide,by decide⟩),?_⟩ | refine⟨_,_,_,rfl,rfl,rfl,?_⟩ | refine⟨_,aZ _ _,?_⟩ | refine⟨_,dZ _ _ _,?_⟩ | refine⟨_,_,rfl,rfl,?_⟩)
local macro_rules | `(tactic| walk_at "r")=>`(tactic| ((repeat ((conv=>whnf);(walk_at "a")));(try (conv=>whnf))))
structure HF(xs:QF)(gs:List Rw)(ds:QJ)(i:Nat)(g:Rw)(u:Option Str)(e:Nat)(cv:List Pr)(n1 n2:Int):Prop where
 name:xs[i]?=some g.1
 row:g.2=[uD u,cT cv,.int n1,.int n2]
 cv:ny cv
 n1:0<=n1/\n1<10^60
 n2:0<=n2/\n2<10^60
 dep:ds[i]?=some e
 top:u=none->e=1
 under:∀y,u=some y->∃j f gj,j<i/\gs[j]?=some gj/\gj.1=y/\ds[j]?=some f/\e=f+1
 ge:1<=e
 le:e<=8
def DY(xs:QF)(gs:List Rw)(ds:QJ):Prop:=ds.length=gs.length/\∀i g,gs[i]?=some g->∃u e cv n1 n2,HF xs gs ds i g u e cv n1 n2
theorem DY.l9{xs:QF}{gs:List Rw}{ds:QJ}(h:DY xs gs ds):∀g∈gs,l9 g.2=true:=λg c=>by
 obtain⟨i,b⟩:=u8 c;obtain⟨u,e,cv,n1,n2,a⟩:=h.2 i g b;rw[a.row];show(w8 (uD u)&&(w8 (cT cv)&&(true&&(true&&true))))=true;rw[fH];cases u<;>rfl
theorem HF.more{xs:QF}{gs:List Rw}{ds:QJ}{i:Nat}{g:Rw}{u:Option Str}{e:Nat}{cv:List Pr}{n1 n2:Int}(a:HF xs gs ds i g u e cv n1 n2)(b:List Rw)(c:QJ):HF xs (gs++b) (ds++c) i g u e cv n1 n2:=by
 refine⟨a.name,a.row,a.cv,a.n1,a.n2,?_,a.top,λy l=>?_,a.ge,a.le⟩
 ·rw[ri (List.getElem?_eq_some_iff.mp a.dep).1];exact a.dep
 ·obtain⟨j,f,r,q,h,p,d,o⟩:=a.under y l;exact⟨j,f,r,q,by rw[ri (List.getElem?_eq_some_iff.mp h).1];exact h,p,by rw[ri (List.getElem?_eq_some_iff.mp d).1];exact d,o⟩
theorem DY.snoc{xs:QF}{gs:List Rw}{ds:QJ}{g:Rw}{e:Nat}{u:Option Str}{cv:List Pr}{n1 n2:Int}(h:DY xs gs ds)(a:HF xs (gs++[g]) (ds++[e]) gs.length g u e cv n1 n2):DY xs (gs++[g]) (ds++[e]):=by
 refine⟨by simp[h.1],λi x b=>?_⟩
 by_cases p:i<gs.length
 ·rw[ri p] at b;obtain⟨o,r,l,d,c,v⟩:=h.2 i x b;exact⟨o,r,l,d,c,v.more _ _⟩
 ·have j:=(List.getElem?_eq_some_iff.mp b).1;rw[hW,pp] at j;have q:i=gs.length:=by omega
  subst q;rw[t5 (hI _),Om] at b;cases b;exact⟨_,_,_,_,_,a⟩
structure JR(xs:QF)(gs:List Rw)(i:Nat)(l:Rw)(y:Str)(ps:List Pr)(n:Int)(b:Bool):Prop where
 name:xs[i]?=some l.1
 row:l.2=[.str y,cT ps,.int n,.bl b]
 at_:∃g∈gs,g.1=y
 len:ps.length<=4
 prs:∀p∈ps,IU p
 n:0<=n/\n<10^60
def Mi(xs:QF)(gs ls:List Rw):Prop:=ls.length=xs.length/\∀i l,ls[i]?=some l->∃y a n b,JR xs gs i l y a n b
theorem JR.l9{xs:QF}{gs:List Rw}{i:Nat}{l:Rw}{y:Str}{ps:List Pr}{n:Int}{b:Bool}(a:JR xs gs i l y ps n b):l9 l.2=true:=by
 rw[a.row];show(true&&(L3.l9 (ps.map pr)&&(true&&(true&&true))))=true;rw[bY];rfl
theorem Mi.l9{xs:QF}{gs ls:List Rw}(h:Mi xs gs ls):∀l∈ls,l9 l.2=true:=λl c=>by
 obtain⟨i,d⟩:=u8 c;obtain⟨y,e,n,b,a⟩:=h.2 i l d;exact a.l9
def bK:Cm:=λe Q=>∃(c d k:Int),e=[feed c d k]/\0<=k/\k<=10^6/\∀(b:List Pr) (g a:Int),ny b->k<=a->a<=k+50->Q (cT b) (feed c g a)
def Y0:Cp:=λc Q=>∃(d:D) (ns:QI) (a:QF) (m:Int),c=[d,cP a,.int m]/\HY d ns/\1<=m/\m<=16/\m<=a.length/\a.Nodup/\∀(gs:List Rw) (b:QJ),gs.length=m->DY a gs b->Q (.lst (gs.map row))
def bz:Cp:=λb Q=>∃(d:D) (ns:QI) (a:QF) (gs:List Rw),b=[d,cP a,.lst (gs.map row)]/\HY d ns/\a.length<=24/\0<gs.length/\gs.length<=100/\(∀g∈gs,l9 g.2=true)/\∀ls:List Rw,Mi a gs ls->Q (.lst (ls.map row))
structure Gd where
 nm:Str
 un:Option Str
 cv:List Pr
 de:Int
 wa:Int
structure Ld where
 nm:Str
 at_:Str
 cs:List Pr
 la:Int
 on:Bool
structure Bd where
 gs:List Gd
 ls:List Ld
def gD(g:Gd):D:=.tup [.str g.nm,uD g.un,cT g.cv,.int g.de,.int g.wa]
def lD(l:Ld):D:=.tup [.str l.nm,.str l.at_,cT l.cs,.int l.la,.bl l.on]
def bD(b:Bd):D:=.tup [.tup (b.gs.map gD),.tup (b.ls.map lD)]
def Kr(gs:List Gd):Prop:=∃dp:Nat->Nat,∀i g,gs[i]?=some g->1<=dp i/\dp i<=8/\(g.un=none->dp i=1)/\∀y,g.un=some y->∃j a,j<i/\gs[j]?=some a/\a.nm=y/\dp i=dp j+1
abbrev NV:Int:=10^60
structure R0(b:Bd):Prop where
 g1:1<=b.gs.length
 g16:b.gs.length<=16
 l24:b.ls.length<=24
 nd:(b.gs.map (·.nm)++b.ls.map (·.nm)).Nodup
 nmg:∀g∈b.gs,nm 8 g.nm
 nml:∀l∈b.ls,nm 8 l.nm
 cv:∀g∈b.gs,ny g.cv
 de:∀g∈b.gs,0<=g.de/\g.de<NV
 wa:∀g∈b.gs,0<=g.wa/\g.wa<10^60
 un:Kr b.gs
 cs4:∀l∈b.ls,l.cs.length<=4
 cs:∀l∈b.ls,∀p∈l.cs,1<=p.1/\p.1<10^60/\0<=p.2/\p.2<10^60
 la:∀l∈b.ls,0<=l.la/\l.la<10^60
 at_:∀l∈b.ls,∃g∈b.gs,g.nm=l.at_
theorem Dr(u:Option Str):w8 (uD u)=true:=by cases u<;>rfl
theorem BY(g:Gd):w8 (gD g)=true:=by
 show(true&&(w8 (uD g.un)&&(w8 (cT g.cv)&&(true&&(true&&true)))))=true;rw[Dr,fH];rfl
theorem HW(g:Ld):w8 (lD g)=true:=by
 show(true&&(true&&(w8 (cT g.cs)&&(true&&(true&&true)))))=true;rw[fH];rfl
theorem CJ{b:Type}{f:b->D}(h:∀a,w8 (f a)=true)(as:List b):l9 (as.map f)=true:=x8 λx c=>by
 obtain⟨a,_,rfl⟩:=List.mem_map.mp c;exact h a
theorem EZ(gs:List Gd):l9 (gs.map gD)=true:=CJ BY gs
def JT:D->Option Str
 | .str y=>some y
 | _=>none
def Dz:D->Pr
 | .tup [.int a,.int b]=>(a,b)
 | _=>(0,0)
def toG(r:Rw):Gd:=match r.2 with
 | [u,.tup c,.int a,.int b]=>⟨r.1,JT u,c.map Dz,a,b⟩
 | _=>⟨r.1,none,[],0,0⟩
def Fi(r:Rw):Ld:=match r.2 with
 | [.str y,.tup c,.int a,.bl b]=>⟨r.1,y,c.map Dz,a,b⟩
 | _=>⟨r.1,"",[],0,false⟩
theorem lR(ps:List Pr):(ps.map pr).map Dz=ps:=by
 rw[vv]
 conv=>rhs;rw[<-List.map_id ps]
 exact Oo λp _=>rfl
theorem Hx{x:Str}{u:Option Str}{cv:List Pr}{a b:Int}:toG (x,[uD u,cT cv,.int a,.int b])=⟨x,u,cv,a,b⟩:=by
 show(⟨x,JT (uD u),(cv.map pr).map Dz,a,b⟩:Gd)=_;rw[lR];cases u<;>rfl
theorem Hj{x y:Str}{cs:List Pr}{a:Int}{b:Bool}:Fi (x,[.str y,cT cs,.int a,.bl b])=⟨x,y,cs,a,b⟩:=by
 show(⟨x,y,(cs.map pr).map Dz,a,b⟩:Ld)=_;rw[lR]
theorem KG{xs z:QF}{gs ls:List Rw}{M:QJ}(gk:DY xs gs M)(lk:Mi z gs ls)(hx:gs.length<=xs.length)(S:1<=gs.length)(R:gs.length<=16)(Q:z.length<=24)(J:z=xs.drop gs.length)(nd:xs.Nodup)(X:∀x∈xs,nm 8 x) :
  ∃b:Bd,R0 b/\NB gs ls=bD b:=by
 have G:∀i g,gs[i]?=some g->∃u e cv n1 n2,HF xs gs M i g u e cv n1 n2/\toG g=⟨g.1,u,cv,n1,n2⟩:=λi g c=>by
  obtain⟨u,e,cv,n1,n2,a⟩:=gk.2 i g c;refine⟨u,e,cv,n1,n2,a,?_⟩;obtain⟨x,r⟩:=g;have I:=a.row;dsimp only at I;subst I;exact Hx
 have L:∀i l,ls[i]?=some l->∃y h n b,JR z gs i l y h n b/\Fi l=⟨l.1,y,h,n,b⟩:=λi l o=>by
  obtain⟨y,h,n,b,a⟩:=lk.2 i l o;refine⟨y,h,n,b,a,?_⟩;obtain⟨x,r⟩:=l;have I:=a.row;dsimp only at I;subst I;exact Hj
 have C:∀g∈gs,∃i u e cv n1 n2,gs[i]?=some g/\HF xs gs M i g u e cv n1 n2/\toG g=⟨g.1,u,cv,n1,n2⟩:=λg c=>by
  obtain⟨i,q⟩:=u8 c;obtain⟨u,e,cv,n1,n2,a⟩:=G i g q;exact⟨i,u,e,cv,n1,n2,q,a⟩
 have B:∀l∈ls,∃i y h n b,ls[i]?=some l/\JR z gs i l y h n b/\Fi l=⟨l.1,y,h,n,b⟩:=λl o=>by
  obtain⟨i,q⟩:=u8 o;obtain⟨y,h,n,b,a⟩:=L i l q;exact⟨i,y,h,n,b,q,a⟩
 have gn:gs.map (·.1)=xs.take gs.length:=by
  refine List.ext_getElem? λi=>?_;rw[rz,List.getElem?_take]
  by_cases q:i<gs.length
  ·obtain⟨u,e,cv,n1,n2,a,_⟩:=G i gs[i] (hL q);rw[qq q,a.name,hL q];rfl
  ·rw[qc q,L0 (by omega)];rfl
 have ln:ls.map (·.1)=z:=by
  refine List.ext_getElem? λi=>?_;rw[rz]
  by_cases q:i<ls.length
  ·obtain⟨y,h,n,b,a,_⟩:=L i ls[i] (hL q);rw[a.name,hL q];rfl
  ·rw[L0 (by omega),L0 (by rw[<-lk.1];omega)];rfl
 have v:∀g∈gs,(toG g).nm=g.1:=λg c=>by obtain⟨_,_,_,_,_,_,_,_,e⟩:=C g c;rw[e]
 have E:∀l∈ls,(Fi l).nm=l.1:=λl o=>by obtain⟨_,_,_,_,_,_,_,e⟩:=B l o;rw[e]
 have T:(gs.map toG).map (·.nm)=xs.take gs.length:=by
  rw[vv,<-gn];exact Oo λg c=>v g c
 have O:(ls.map Fi).map (·.nm)=z:=by
  rw[vv,<-ln];exact Oo λg c=>E g c
 refine⟨⟨gs.map toG,ls.map Fi⟩,?_,?_⟩
 ·refine⟨by simpa using S,by simpa using R,by rw[List.length_map,lk.1];exact Q,?_,?_,?_,?_,?_,?_,?_,?_,?_,?_,?_⟩
  ·show((gs.map toG).map (·.nm)++(ls.map Fi).map (·.nm)).Nodup;rw[T,O,J,List.take_append_drop];exact nd
  ·intro g c;obtain⟨r,d,rfl⟩:=List.mem_map.mp c;obtain⟨i,u,e,cv,n1,n2,_,a,e⟩:=C r d;rw[v r d];exact X _ (rc a.name)
  ·intro l o;obtain⟨r,d,rfl⟩:=List.mem_map.mp o;obtain⟨i,y,h,n,b,_,a,e⟩:=B r d;rw[E r d];refine X _ ?_;have:=rc a.name;rw[J] at this;exact wl this
  ·intro g c;obtain⟨r,d,rfl⟩:=List.mem_map.mp c;obtain⟨i,u,e,cv,n1,n2,_,a,e⟩:=C r d;rw[e];exact a.cv
  ·intro g c;obtain⟨r,d,rfl⟩:=List.mem_map.mp c;obtain⟨i,u,e,cv,n1,n2,_,a,e⟩:=C r d;rw[e];exact a.n1
  ·intro g c;obtain⟨r,d,rfl⟩:=List.mem_map.mp c;obtain⟨i,u,e,cv,n1,n2,_,a,e⟩:=C r d;rw[e];exact a.n2
  ·refine⟨λi=>(M[i]?).getD 1,λi g c=>?_⟩
   obtain⟨r,d,rfl⟩:∃r,gs[i]?=some r/\toG r=g:=by
    rw[rz] at c
    cases e:gs[i]? with
    | none=>rw[e] at c;cases c
    | some r=>rw[e] at c;exact⟨r,rfl,by simpa using c⟩
   obtain⟨u,e,cv,n1,n2,a,H⟩:=G i r d;dsimp only;rw[a.dep,H];refine⟨a.ge,a.le,a.top,λy J=>?_⟩;obtain⟨j,f,gj,S,Y,h3,h4,h5⟩:=a.under y J;refine⟨j,toG gj,S,by rw[rz,Y];rfl,by rw[v gj (rc Y)];exact h3,?_⟩;rw[h4];exact h5
  ·intro l o;obtain⟨r,d,rfl⟩:=List.mem_map.mp o;obtain⟨i,y,h,n,b,_,a,e⟩:=B r d;rw[e];exact a.len
  ·intro l o p U;obtain⟨r,d,rfl⟩:=List.mem_map.mp o;obtain⟨i,y,h,n,b,_,a,e⟩:=B r d;rw[e] at U;have:=a.prs p U;unfold IU at this;omega
  ·intro l o;obtain⟨r,d,rfl⟩:=List.mem_map.mp o;obtain⟨i,y,h,n,b,_,a,e⟩:=B r d;rw[e];exact a.n
  ·intro l o;obtain⟨r,d,rfl⟩:=List.mem_map.mp o;obtain⟨i,y,h,n,b,_,a,e⟩:=B r d;obtain⟨g,c,eg⟩:=a.at_;refine⟨toG g,List.mem_map.mpr ⟨g,c,rfl⟩,?_⟩;rw[v g c,e];exact eg
 ·unfold NB bD zE
  have e1:gs.map row=(gs.map toG).map gD:=by
   rw[vv];refine Oo λg c=>?_;obtain⟨i,u,e,cv,n1,n2,_,a,H⟩:=C g c;show D.tup (.str g.1::g.2)=gD (toG g);rw[H,a.row];rfl
  have e2:ls.map row=(ls.map Fi).map lD:=by
   rw[vv];refine Oo λg c=>?_;obtain⟨i,y,h,n,b,_,a,H⟩:=B g c;show D.tup (.str g.1::g.2)=lD (Fi g);rw[H,a.row];rfl
  rw[e1,e2]
def bB:Cp:=λa Q=>∃(d:D) (ns:QI),a=[d]/\HY d ns/\∀b:Bd,R0 b->Q (bD b)
abbrev cs(x:Str):QJ:=x.cps.toList
def nt(n:Int):Str:=Str.ofString (toString n)
theorem IK{n:Int}(h:0<=n)(a:n<10^60):(nt n).length<=61:=by
 unfold nt;rw[ofString_length];exact int_text_length_le10 (by decide) (by omega)
def num(n:Int):Prop:=0<=n/\n<10^60
def zW(ps:List Pr):Prop:=ps.length<=5/\∀p∈ps,num p.1/\num p.2
structure GT(g:Gd):Prop where
 nm:nm 8 g.nm
 un:∀y,g.un=some y->My.nm 8 y
 cv:zW g.cv
 de:num g.de
 wa:num g.wa
structure LT(l:Ld):Prop where
 nm:nm 8 l.nm
 at_:My.nm 8 l.at_
 cs:zW l.cs
 la:num l.la
theorem num.len{n:Int}(h:num n):(nt n).length<=61:=IK h.1 h.2
theorem mH{n:Nat}{x:Str}(h:nm n x):x.length<=n:=by
 have:=h.2.1;simpa[Str.length] using this
def Ks(x:Str):Prop:=10∉cs x
instance (x:Str):Decidable (Ks x):=by unfold Ks;infer_instance
theorem R0.gt{b:Bd}(h:R0 b):∀g∈b.gs,GT g:=λg a=>by
 refine⟨h.nmg g a,λy c=>?_,⟨(h.cv g a).2.1,λp d=>?_⟩,h.de g a,h.wa g a⟩
 ·obtain⟨dp,hd⟩:=h.un;obtain⟨i,l⟩:=u8 a;obtain⟨j,o,_,e,rfl,_⟩:=(hd i g l).2.2.2 y c;exact h.nmg o (rc e)
 ·have:=(h.cv g a).2.2.1 p d;unfold num;omega
theorem R0.lt{b:Bd}(h:R0 b):∀l∈b.ls,LT l:=λl a=>by
 refine⟨h.nml l a,?_,⟨sr (h.cs4 l a) (by decide),λp c=>?_⟩,h.la l a⟩
 ·obtain⟨g,d,e⟩:=h.at_ l a;rw[<-e];exact h.nmg g d
 ·have:=h.cs l a p c;unfold num;omega
mutual
def kn:D->Bool
 | .p7=>true
 | .bl _=>true
 | .int _=>true
 | .str x=>decide (x.length<=100000)
 | .tup xs=>cQ xs
 | .lst xs=>cQ xs
 | .dic _=>true
 | .fz xs=>cQ xs
 | .ob u=>IB u
 | _=>false
def cQ:List D->Bool
 | []=>true
 | x::xs=>kn x&&cQ xs
end
theorem B8:∀{xs:List D},cQ xs=true->∀x∈xs,kn x=true
 | [],_,x,a=>by cases a
 | y::xs,h,x,a=>by
  simp only[cQ,hD] at h;rcases List.mem_cons.mp a with rfl | a
  ·exact h.1
  ·exact B8 h.2 x a
theorem J6{u:HO}(h:kn (.ob u)=true):∃ep,u=.dE [] ep:=by
 have e:IB u=true:=by simpa[kn] using h
 cases u with
 | dE a ep=>cases a with
  | nil=>exact⟨_,rfl⟩
  | cons=>cases e
 | _=>cases e
def HD:D->Bool
 | .int _=>true
 | _=>false
def D9:D->Bool
 | .int i=>decide (0<=i)&&decide (i<10^60)
 | _=>false
def posB(d:D):Bool:=D9 d&&(match d with | .int i=>!decide (i=0) | _=>true)
def bI(c:Nat):Bool:=decide (97<=c)&&decide (c<=122)
def p5:D->Bool
 | .str x=>decide (1<=x.length)&&decide (x.length<=8)&&(cs x).all bI
 | _=>false
def P6:D->Bool
 | .tup [a,b]=>posB a&&posB b
 | _=>false
def xn:D->D->Bool
 | .tup [.int a,.int b],.tup [.int c,.int d]=>decide (a<c)&&decide (d<b)
 | _,_=>false
def N8:List D->Bool
 | x::y::r=>xn x y&&N8 (y::r)
 | _=>true
def G1:D->Bool
 | .tup a=>decide (1<=a.length)&&decide (a.length<=5)&&a.all P6&&N8 a
 | _=>false
def jm:D->Bool
 | .tup [a,b]=>posB a&&D9 b
 | _=>false
def K3:D->Bool
 | .tup a=>decide (a.length<=4)&&a.all jm
 | _=>false
def N3:D->Bool
 | .tup [n,u,c,de,wa]=>p5 n&&(U4 u||p5 u)&&G1 c&&D9 de&&D9 wa
 | _=>false
def av:D->Bool
 | .tup [n,a,c,la,on]=>p5 n&&p5 a&&K3 c&&D9 la&&(P4 on true||P4 on false)
 | _=>false
def T3:Cp:=λa Q=>∃d:D,a=[d]/\kn d=true/\Q (.bl (HD d))
def B0:Cp:=λa Q=>∃d:D,a=[d]/\kn d=true/\Q (.bl (D9 d))
def O3:Cp:=λa Q=>∃d:D,a=[d]/\kn d=true/\Q (.bl (p5 d))
def Y4:Cp:=λa Q=>∃d:D,a=[d]/\kn d=true/\Q (.bl (P6 d))
def S4:Cp:=λe Q=>∃(a b c d:Int),e=[.tup [.int a,.int b],.tup [.int c,.int d]]/\Q (.bl (decide (a<c)&&decide (d<b)))
def S5:Cp:=λa Q=>∃d:D,a=[d]/\kn d=true/\Q (.bl (G1 d))
def N7:Cp:=λa Q=>∃d:D,a=[d]/\kn d=true/\Q (.bl (K3 d))
def S7:Cp:=λa Q=>∃d:D,a=[d]/\kn d=true/\Q (.bl (N3 d))
def Y1:Cp:=λa Q=>∃d:D,a=[d]/\kn d=true/\Q (.bl (av d))
def oU:i6:=(r8 (Q3 (E9 S3 (a9 (c8 0) (a9 (uC (.ty "int")) e7))) (Gp (E9 S3 (a9 (c8 0) (a9 (uC (.ty "bool")) e7))))))
def jY:i6:=(r8 (Q3 (o8 T3 (a9 (c8 0) e7)) (Q5 W0 AA (uC (.int 0)) (c8 0) (uC (.int (10^60))))))
def mS:i6:=(r8 (uC (.bl false)))
def mj:i6:=(r8 (uC (.bl false)))
def mI:i6:=(M9 (tP (C5 (uT (Q5 W0 W0 (uC (.str "a")) (c8 1) (uC (.str "z")))))) mj p3)
def xi:i6:=(r8 (uC (.bl true)))
def kh:i6:=(g6 (ah (iP (T2 (c8 0))) (g1 1) mI) xi)
def vW:i6:=(g6 (M9 (tP (ba (C5 (D2 (E9 S3 (a9 (c8 0) (a9 (uC (.ty "str")) e7))))) (C5 (uT (Q5 W0 W0 (uC (.int 1)) (E9 K1 (a9 (c8 0) e7)) (uC (.int 8))))))) mS p3) kh)
def mF:i6:=(r8 (uC (.bl false)))
def mw:i6:=(r8 (uC (.bl false)))
def X7:i6:=(M9 (tP (ba (C5 (D2 (o8 B0 (a9 (c8 1) e7)))) (uT (o5 (G0 false) (c8 1) (uC (.int 0)))))) mw p3)
def xg:i6:=(r8 (uC (.bl true)))
def yc:i6:=(g6 (ah (iP (T2 (c8 0))) (g1 1) X7) xg)
def uF:i6:=(g6 (M9 (tP (ba (C5 (D2 (E9 S3 (a9 (c8 0) (a9 (uC (.ty "tuple")) e7))))) (uT (o5 (G0 true) (E9 K1 (a9 (c8 0) e7)) (uC (.int 2)))))) mF p3) yc)
def pT:i6:=(r8 (Q3 (o5 AA (n8 (c8 0) (uC (.int 0))) (n8 (c8 1) (uC (.int 0)))) (o5 Ga (n8 (c8 0) (uC (.int 1))) (n8 (c8 1) (uC (.int 1))))))
def jr:i6:=(r8 (uC (.bl false)))
def jj:i6:=(r8 (uC (.bl false)))
def jw:i6:=(M9 (tP (C5 (D2 (o8 Y4 (a9 (c8 1) e7))))) jj p3)
def js:i6:=(r8 (uC (.bl false)))
def jh:i6:=(M9 (tP (C5 (D2 (o8 S4 (a9 (c8 2) (a9 (c8 1) e7)))))) js p3)
def tH:i6:=(r8 (uC (.bl true)))
def iO:i6:=(g6 (ah (iP (LW true true (c8 0) (Z9 (c8 0) (M0 (uC (.int 1))) L9))) (gT (p8 (g1 2) (p8 (g1 1) U1))) jh) tH)
def hX:i6:=(g6 (ah (iP (T2 (c8 0))) (g1 1) jw) iO)
def nK:i6:=(g6 (M9 (tP (ba (C5 (D2 (E9 S3 (a9 (c8 0) (a9 (uC (.ty "tuple")) e7))))) (C5 (uT (Q5 W0 W0 (uC (.int 1)) (E9 K1 (a9 (c8 0) e7)) (uC (.int 5))))))) jr p3) hX)
def gm:i6:=(r8 (uC (.bl false)))
def iQ:i6:=(r8 (uC (.bl false)))
def gA:i6:=(r8 (uC (.bl false)))
def gQ:i6:=(M9 (tP (ba (C5 (D2 (o8 B0 (a9 (c8 2) e7)))) (ba (uT (o5 (G0 false) (c8 2) (uC (.int 0)))) (C5 (D2 (o8 B0 (a9 (c8 3) e7))))))) gA p3)
def gR:i6:=(g6 (BH (gT (p8 (g1 2) (p8 (g1 3) U1))) (c8 1)) gQ)
def ie:i6:=(g6 (M9 (tP (ba (C5 (D2 (E9 S3 (a9 (c8 1) (a9 (uC (.ty "tuple")) e7))))) (uT (o5 (G0 true) (E9 K1 (a9 (c8 1) e7)) (uC (.int 2)))))) iQ p3) gR)
def oX:i6:=(r8 (uC (.bl true)))
def eE:i6:=(g6 (ah (iP (T2 (c8 0))) (g1 1) ie) oX)
def kg:i6:=(g6 (M9 (tP (ba (C5 (D2 (E9 S3 (a9 (c8 0) (a9 (uC (.ty "tuple")) e7))))) (uT (o5 Ga (E9 K1 (a9 (c8 0) e7)) (uC (.int 4)))))) gm p3) eE)
def jv:i6:=(r8 (uC (.bl false)))
def jf:i6:=(r8 (uC (.bl false)))
def gM:i6:=(r8 (Q3 (o8 S5 (a9 (c8 3) e7)) (Q3 (o8 B0 (a9 (c8 4) e7)) (o8 B0 (a9 (c8 5) e7)))))
def rY:i6:=(g6 (M9 (tP (ba (C5 (D2 (o8 O3 (a9 (c8 1) e7)))) (C5 (ba (uT (o5 (eZ false) (c8 2) (uC .p7))) (D2 (o8 O3 (a9 (c8 2) e7))))))) jf p3) gM)
def tX:i6:=(g6 (BH (gT (p8 (g1 1) (p8 (g1 2) (p8 (g1 3) (p8 (g1 4) (p8 (g1 5) U1)))))) (c8 0)) rY)
def pW:i6:=(g6 (M9 (tP (ba (C5 (D2 (E9 S3 (a9 (c8 0) (a9 (uC (.ty "tuple")) e7))))) (uT (o5 (G0 true) (E9 K1 (a9 (c8 0) e7)) (uC (.int 5)))))) jv p3) tX)
def nr:i6:=(r8 (uC (.bl false)))
def mW:i6:=(r8 (uC (.bl false)))
def jT:i6:=(r8 (Q3 (o8 N7 (a9 (c8 3) e7)) (Q3 (o8 B0 (a9 (c8 4) e7)) (ML (o5 (eZ false) (c8 5) (uC (.bl true))) (o5 (eZ false) (c8 5) (uC (.bl false)))))))
def wV:i6:=(g6 (M9 (tP (ba (C5 (D2 (o8 O3 (a9 (c8 1) e7)))) (C5 (D2 (o8 O3 (a9 (c8 2) e7)))))) mW p3) jT)
def wU:i6:=(g6 (BH (gT (p8 (g1 1) (p8 (g1 2) (p8 (g1 3) (p8 (g1 4) (p8 (g1 5) U1)))))) (c8 0)) wV)
def vb:i6:=(g6 (M9 (tP (ba (C5 (D2 (E9 S3 (a9 (c8 0) (a9 (uC (.ty "tuple")) e7))))) (uT (o5 (G0 true) (E9 K1 (a9 (c8 0) e7)) (uC (.int 5)))))) nr p3) wU)
def Dh(q:D)(xs:List D):Prop:=q=.tup xs\/q=.lst xs
def O9:D->Str
 | .tup (.str x::_)=>x
 | _=>Str.empty
def tD(d:D):Prop:=∃x r,d=.tup (.str x::r)
def G4:Cp:=λb Q=>∃(q:D) (a:List D),b=[q]/\Dh q a/\a.length<=100/\(∀x∈a,tD x)/\Q (cP (a.map O9))
structure aY(gs:List Gd):Prop where
 len:gs.length<=16
 nd:(gs.map (·.nm)).Nodup
 un:Kr gs
def jq(gs:List Gd)(x:Str):Option Str:=match gs.find? (λg=>decide (g.nm=x)) with
 | some g=>g.un
 | none=>none
def ups(gs:List Gd):Nat->Option Str->QF
 | 0,_=>[]
 | _+1,none=>[]
 | n+1,some x=>x::ups gs n (jq gs x)
def bL:Cp:=λa Q=>∃(q:D) (gs:List Gd) (x:Str),a=[q,.str x]/\Dh q (gs.map gD)/\aY gs/\(∃g∈gs,g.nm=x)/\Q (cP (ups gs 8 (some x)))
def K0(gs:List Gd)(d:D):Bool:=N3 d&&match d with
 | .tup (.str n::.str y::_)=>!decide (n∈gs.map (·.nm))&&decide (y∈gs.map (·.nm))&&decide ((ups gs 8 (some y)).length<=7)
 | .tup (.str n::_)=>!decide (n∈gs.map (·.nm))
 | _=>false
def Q8(xs b:QF)(d:D):Bool:=av d&&match d with
 | .tup (.str n::.str a::_)=>decide (a∈xs)&&!decide (n∈xs)&&!decide (n∈b)
 | _=>false
def K5:Cp:=λa Q=>∃(q:D) (gs:List Gd) (d:D),a=[q,d]/\Dh q (gs.map gD)/\aY gs/\kn d=true/\Q (.bl (K0 gs d))
def N6:Cp:=λc Q=>∃(q:D) (b:List D) (p:D) (a:List D) (d:D),c=[q,p,d]/\Dh q b/\Dh p a/\b.length<=100/\a.length<=100/\(∀x∈b,tD x)/\(∀x∈a,tD x)/\kn d=true/\Q (.bl (Q8 (b.map O9) (a.map O9) d))
def bc:D->Bool
 | .tup [.tup gs,.tup ls]=>decide (1<=gs.length)&&decide (gs.length<=16)&&decide (ls.length<=24)
 | _=>false
def dG:D->Gd
 | .tup [.str n,u,.tup c,.int a,.int b]=>⟨n,JT u,c.map Dz,a,b⟩
 | _=>⟨"",none,[],0,0⟩
def M4:List Gd->List D->QR
 | _,[]=>none
 | gs,x::r=>bif K0 gs x then M4 (gs++[dG x]) r else some gs.length
def S0(xs:QF):QF->List D->QR
 | _,[]=>none
 | a,y::r=>bif Q8 xs a y then S0 xs (a++[O9 y]) r else some a.length
def br:D->Option (Str×Int)
 | .tup [.tup gs,.tup ls]=>bif bc (.tup [.tup gs,.tup ls]) then(match M4 [] gs with
  | some i=>some ("guard",i)
  | none=>match S0 (gs.map O9) [] ls with
   | some i=>some ("load",i)
   | none=>none) else some ("board",0)
 | _=>some ("board",0)
def K6:Cp:=λa Q=>∃d:D,a=[d]/\kn d=true/\Q (.bl (bc d))
def U9:LF:=λa Q W=>∃d:D,a=[d]/\kn d=true/\(match br d with
 | none=>Q (.bl true)
 | some (w,i)=>W "NoBoard" [.str w,.int i])
def eT:i6:=(r8 (uC (.bl false)))
def fh:i6:=(r8 (uC (.bl false)))
def fq:i6:=(M9 (tP (C5 (D2 (E9 S3 (a9 (c8 1) (a9 (uC (.ty "tuple")) e7)))))) fh p3)
def my:i6:=(r8 (Q3 (Q5 W0 W0 (uC (.int 1)) (E9 K1 (a9 (n8 (c8 0) (uC (.int 0))) e7)) (uC (.int 16))) (o5 W0 (E9 K1 (a9 (n8 (c8 0) (uC (.int 1))) e7)) (uC (.int 24)))))
def lh:i6:=(g6 (ah (iP (T2 (c8 0))) (g1 1) fq) my)
def gF:i6:=(g6 (M9 (tP (ba (C5 (D2 (E9 S3 (a9 (c8 0) (a9 (uC (.ty "tuple")) e7))))) (uT (o5 (G0 true) (E9 K1 (a9 (c8 0) e7)) (uC (.int 2)))))) eT p3) lh)
def lY(W:Str->List V->Prop):i6:=(fN Fo W "NoBoard" (a9 (uC (.str "board")) (a9 (uC (.int 0)) e7)))
def mL(W:Str->List V->Prop):i6:=(fN Fo W "NoBoard" (a9 (uC (.str "guard")) (a9 (c8 3) e7)))
def cz(W:Str->List V->Prop):i6:=(M9 (tP (C5 (D2 (o8 K5 (a9 (Hn (c8 1) L9 (M0 (c8 3))) (a9 (c8 4) e7)))))) (mL W) p3)
def mD(W:Str->List V->Prop):i6:=(fN Fo W "NoBoard" (a9 (uC (.str "load")) (a9 (c8 3) e7)))
def X3(W:Str->List V->Prop):i6:=(M9 (tP (C5 (D2 (o8 N6 (a9 (c8 1) (a9 (Hn (c8 2) L9 (M0 (c8 3))) (a9 (c8 5) e7))))))) (mD W) p3)
def km(W:Str->List V->Prop):i6:=(r8 (uC (.bl true)))
def yw(W:Str->List V->Prop):i6:=(g6 (ah (iP (AV (c8 2))) (gT (p8 (g1 3) (p8 (g1 5) U1))) (X3 W)) (km W))
def wO(W:Str->List V->Prop):i6:=(g6 (ah (iP (AV (c8 1))) (gT (p8 (g1 3) (p8 (g1 4) U1))) (cz W)) (yw W))
def wA(W:Str->List V->Prop):i6:=(g6 (BH (gT (p8 (g1 1) (p8 (g1 2) U1))) (c8 0)) (wO W))
def vo(W:Str->List V->Prop):i6:=(g6 (M9 (tP (C5 (D2 (o8 K6 (a9 (c8 0) e7))))) (lY W) p3) (wA W))
def nS:i6:=(r8 (xm [none] (T2 (c8 0)) (g1 0) bO (A6 (n8 (c8 0) (uC (.int 0))))))
def nP:i6:=(A5 1 (n8 (c8 2) (c8 1)))
def ot:i6:=(g6 (gz (sY 4 (mP (A6 (c8 1))))) nP)
def yJ:i6:=(r8 (c8 4))
def AN:i6:=(g6 (Av (tP (uT (o5 (eZ true) (c8 1) (uC .p7)))) ot) yJ)
def qb:i6:=(g6 (A5 4 (O5 e7)) AN)
def Bg:i6:=(g6 (A5 2 (NH [none] (T2 (c8 0)) (g1 0) bO (n8 (c8 0) (uC (.int 0))) (n8 (c8 0) (uC (.int 1))))) qb)
def eU:i6:=(r8 (uC (.bl false)))
def eV:i6:=(r8 (uC (.bl true)))
def nc:i6:=(r8 (Q3 (o5 (ck false) (c8 2) (o8 G4 (a9 (c8 0) e7))) (o5 W0 (E9 K1 (a9 (o8 bL (a9 (c8 0) (a9 (c8 2) e7))) e7)) (uC (.int 7)))))
def mG:i6:=(g6 (M9 (tP (uT (o5 (eZ false) (c8 2) (uC .p7)))) eV p3) nc)
def kY:i6:=(g6 (A5 2 (n8 (c8 1) (uC (.int 1)))) mG)
def iH:i6:=(g6 (M9 (tP (ba (C5 (D2 (o8 S7 (a9 (c8 1) e7)))) (uT (o5 (ck false) (n8 (c8 1) (uC (.int 0))) (o8 G4 (a9 (c8 0) e7)))))) eU p3) kY)
def iD:i6:=(r8 (uC (.bl false)))
def qL:i6:=(r8 (Q3 (o5 (ck true) (n8 (c8 2) (uC (.int 0))) (o8 G4 (a9 (c8 0) e7))) (o5 (ck true) (n8 (c8 2) (uC (.int 0))) (o8 G4 (a9 (c8 1) e7)))))
def jR:i6:=(g6 (M9 (tP (ba (C5 (D2 (o8 Y1 (a9 (c8 2) e7)))) (uT (o5 (ck true) (n8 (c8 2) (uC (.int 1))) (o8 G4 (a9 (c8 0) e7)))))) iD p3) qL)
def qD:i6:=(A5 4 (xm [none,some 2,some 3] (cx (c8 1)) (g1 0) bO (o5 P2 (n8 (c8 1) (o5 iE (o5 o6 (c8 2) (c8 0)) (uC (.int 26)))) (o5 o6 (uC (.int 1)) (o5 Ft (c8 0) (uC (.int 26)))))))
def oK:i6:=(gz (sY 4 (mP (o5 o6 (Cu (uC (.str "")) (xm [none,some 2] (T2 (c8 11)) (g1 0) bO (A6 (n8 (c8 1) (c8 0))))) (o5 P2 (n8 (c8 2) (c8 3)) (o5 P2 (c8 9) (o5 iE (c8 10) (uC (.int 2)))))))))
def oR:i6:=(g6 (xZ 11 (mP (o5 iE (o5 o6 (n8 (c8 6) (c8 8)) (o5 Ft (c8 10) (uC (.int 26)))) (uC (.int 26)))) (mP (c8 8))) oK)
def qi:i6:=(g6 (xZ 11 (mP (o5 iE (o5 o6 (n8 (c8 6) (c8 7)) (c8 10)) (uC (.int 26)))) (mP (c8 7))) oR)
def oq:i6:=(g6 (A5 11 (E9 gq (a9 (c8 6) e7))) qi)
def ow:i6:=(ah (iP (cx (c8 1))) (g1 10) oq)
def pG:i6:=(g6 (A5 4 (O5 e7)) ow)
def qI:i6:=(g6 (C7 9 (Z0 P2 (o7 0 u5 (j9 (mP (uC (.int 2))) u9)) (mP (E9 Bj (a9 (o5 AA (c8 5) (uC (.int 8))) e7))))) pG)
def nU:i6:=(g6 (C7 8 (Z0 iE (Z0 o6 (mP (o5 o6 (c8 7) (uC (.int 1)))) (o7 0 u5 (j9 (mP (o5 ae (c8 5) (uC (.int 1)))) u9))) (mP (c8 5)))) qI)
def pN:i6:=(g6 (C7 7 (o7 0 u5 (j9 (mP (c8 5)) u9))) nU)
def oj:i6:=(g6 (C7 6 (Ml 1 0 [none,some 0] (iP (cx (c8 5))) (g1 0) IZ (o7 1 u5 (j9 (mP (uC (.int 26))) u9)))) pN)
def qk:i6:=(g6 (C7 5 (Z0 o6 (mP (uC (.int 2))) (o7 0 u5 (j9 (mP (uC (.int 7))) u9)))) oj)
def nL:i6:=(xZ 4 (mP (A6 (c8 12))) (o7 0 u5 (j9 (mP (c8 1)) u9)))
def BF:i6:=(r8 (c8 4))
def ou:i6:=(g6 (M9 (tP (Ar (uT (o5 (G0 true) (c8 12) (uC (.str "")))) (uT (o5 (ck true) (c8 12) (c8 4))))) nL p3) BF)
def pP:i6:=(g6 (C7 12 (kZ (dO (mP (O5 (a9 (uC (.str "guard")) (a9 (uC (.str "load")) (a9 (uC (.str "on")) (a9 (uC (.str "off")) (a9 (uC (.str "board")) (a9 (uC (.str "map")) (a9 (uC (.str "least")) (a9 (uC (.str "")) (a9 (uC (.str "")) (a9 (uC (.str "")) (a9 (uC (.str "")) e7))))))))))))) (o7 0 u5 (j9 (mP (uC (.int 11))) u9))))) ou)
def Bc:i6:=(g6 (M9 (mT (Z0 (G0 false) (o7 0 u5 (j9 (mP (uC (.int 5))) u9)) (mP (uC (.int 0))))) qD qk) pP)
def zK:i6:=(g6 (C7 3 (o7 0 u5 (j9 (mP (uC (.int 26))) u9))) Bc)
def yK:i6:=(g6 (A5 2 (uC (.str "abcdefghijklmnopqrstuvwxyz"))) zK)
def oO:i6:=(gz (sY 3 (Z0 o6 (mP (A6 (n8 (c8 3) (DZ kW (uC (.int 1)))))) (o7 0 Q1 u9))))
def oy:i6:=(g6 (gz (sY 2 (Z0 o6 (mP (A6 (n8 (c8 2) (DZ kW (uC (.int 1)))))) (o7 0 Q1 u9)))) oO)
def oh:i6:=(A5 2 (xm [none,some 2] (T2 (c8 2)) (g1 0) bO (o5 o6 (o5 ae (o5 ae (o5 iV (uC (.int 10)) (uC (.int 60))) (uC (.int 1))) (n8 (c8 1) (DZ kW (uC (.int 1))))) (c8 0))))
def pq:i6:=(A5 3 (xm [none,some 3] (T2 (c8 3)) (g1 0) bO (o5 o6 (o5 ae (o5 ae (o5 iV (uC (.int 10)) (uC (.int 60))) (uC (.int 1))) (n8 (c8 1) (DZ kW (uC (.int 1))))) (c8 0))))
def qf:i6:=(r8 (E9 bC (a9 (xm [none,some 2,some 3,some 1] (cx (c8 1)) (g1 0) bO (x9 (a9 (A6 (n8 (c8 1) (c8 0))) (a9 (A6 (n8 (c8 2) (o5 ae (o5 ae (c8 3) (uC (.int 1))) (c8 0)))) e7)))) e7)))
def pd:i6:=(g6 (M9 (mT (Z0 (G0 false) (o7 0 u5 (j9 (mP (uC (.int 4))) u9)) (mP (uC (.int 0))))) pq p3) qf)
def qu:i6:=(g6 (M9 (mT (Z0 (G0 false) (o7 0 u5 (j9 (mP (uC (.int 4))) u9)) (mP (uC (.int 0))))) oh p3) pd)
def CO:i6:=(g6 (ah (iP (cx (o5 ae (c8 1) (uC (.int 1))))) (g1 4) oy) qu)
def Ae:i6:=(g6 (C7 3 (Eh (j9 (o7 0 Q1 u9) u9))) CO)
def zr:i6:=(g6 (C7 2 (Eh (j9 (o7 0 Q1 u9) u9))) Ae)
def BP:i6:=(g6 (C7 1 (Z0 o6 (mP (uC (.int 1))) (o7 0 u5 (j9 (mP (uC (.int 5))) u9)))) zr)
def lX:i6:=(C7 9 (kZ (dO (Eh (j9 (mP (A6 (n8 (c8 7) (DZ kW (uC (.int 1)))))) (j9 (mP (A6 (n8 (c8 7) (DZ kW (uC (.int 1)))))) (j9 (kZ (dO (mP (c8 7)) (o7 6 u5 (j9 (mP (E9 K1 (a9 (c8 7) e7))) u9)))) u9)))) (mP (o5 ae (c8 8) (uC (.int 1)))))))
def Y2:i6:=(gz (sY 3 (AX (j9 (mP (A6 (n8 (c8 1) (c8 5)))) (j9 (mP (A6 (c8 9))) (j9 (o7 6 bK u9) (j9 (o7 6 O1 u9) (j9 (o7 6 O1 u9) u9))))))))
def Q9:i6:=(g6 (ni 4 (mP (o5 o6 (uC (.int 1)) (lH (c8 4) (c8 9) (uC (.int 0))))) (mP (n8 (c8 1) (c8 5)))) Y2)
def mK:i6:=(g6 (M9 (tP (Ar (uT (o5 Ga (c8 8) (uC (.int 0)))) (uT (o5 Ga (E9 K1 (a9 (c8 7) e7)) (uC (.int 0)))))) lX p3) Q9)
def kP:i6:=(g6 (A5 9 (uC .p7)) mK)
def mV:i6:=(g6 (C7 8 (o7 6 u5 (j9 (mP (uC (.int 4))) u9))) kP)
def mm:i6:=(g6 (A5 7 (xm [none,some 4] (T2 (c8 3)) (g1 0) (uT (o5 AA (n8 (c8 1) (n8 (c8 0) (uC (.int 0)))) (uC (.int 8)))) (A6 (n8 (c8 0) (uC (.int 0)))))) mV)
def nE:i6:=(g6 (A5 6 (o8 Z5 (a9 (c8 0) (a9 (o5 o6 (uC (.int 2)) (c8 5)) e7)))) mm)
def yj:i6:=(r8 (c8 3))
def xy:i6:=(g6 (ah (iP (cx (c8 2))) (g1 5) nE) yj)
def xu:i6:=(g6 (A5 4 (uC (.dic []))) xy)
def uP:i6:=(g6 (A5 3 (O5 e7)) xu)
def qa:i6:=(gz (sY 3 (AX (j9 (mP (A6 (n8 (c8 1) (c8 4)))) (j9 (mP (A6 (c8 6))) (j9 (mP (A6 (c8 7))) (j9 (o7 5 O1 u9) (j9 (Z0 (G0 false) (o7 5 u5 (j9 (mP (uC (.int 2))) u9)) (mP (uC (.int 1)))) u9))))))))
def oE:i6:=(g6 (C7 7 (MU bC (j9 (Ml 1 5 [none,some 5] (JI (o7 5 u5 (j9 (mP (uC (.int 5))) u9))) (g1 0) IZ (AX (j9 (o7 1 Q1 u9) (j9 (o7 1 O1 u9) u9)))) u9))) qa)
def nV:i6:=(g6 (C7 6 (kZ (dO (dO (mP (c8 2)) (o7 5 u5 (j9 (mP (E9 K1 (a9 (c8 2) e7))) u9))) (mP (uC (.int 0)))))) oE)
def nW:i6:=(g6 (A5 5 (o8 Z5 (a9 (c8 0) (a9 (o5 o6 (uC (.int 18)) (c8 4)) e7)))) nV)
def BQ:i6:=(r8 (c8 3))
def yT:i6:=(g6 (ah (iP (cx (E9 K1 (a9 (c8 1) e7)))) (g1 4) nW) BQ)
def BV:i6:=(g6 (A5 3 (O5 e7)) yT)
def AH:i6:=(r8 (x9 (a9 (E9 bC (a9 (c8 4) e7)) (a9 (E9 bC (a9 (o8 bz (a9 (c8 0) (a9 (Z9 (c8 3) (M0 (c8 2)) L9) (a9 (c8 4) e7)))) e7)) e7))))
def Ds:i6:=(g6 (A5 4 (o8 Y0 (a9 (c8 0) (a9 (c8 3) (a9 (c8 2) e7))))) AH)
def yN:i6:=(g6 (C7 3 (CI bQ (mP (o8 Z5 (a9 (c8 0) (a9 (uC (.int 1)) e7)))) (j9 (Z0 o6 (mP (c8 2)) (o7 1 u5 (j9 (dO (mP (O5 (a9 (uC (.int 6)) (a9 (uC (.int 25)) e7)))) (o7 1 u5 (j9 (mP (uC (.int 2))) u9))) u9))) u9))) Ds)
def CG:i6:=(g6 (C7 2 (Z0 o6 (mP (uC (.int 1))) (o7 1 u5 (j9 (dO (mP (O5 (a9 (uC (.int 4)) (a9 (uC (.int 16)) e7)))) (o7 1 u5 (j9 (mP (uC (.int 2))) u9))) u9)))) yN)
def AU:i6:=(g6 (A5 1 (o8 Z5 (a9 (c8 0) (a9 (uC (.int 0)) e7)))) CG)
def G3(lo:Int):D->Bool
 | .int i=>decide (lo<=i)&&decide (i<10^60)
 | _=>false
def eG(lo:Int):D->Bool
 | .tup [a,b]=>G3 1 a&&G3 lo b
 | _=>false
def gu(n lo:Int):D->Bool
 | .tup a=>decide ((a.length:Int)<=n)&&a.all (eG lo)
 | _=>false
def CY:Option (Str×Int)->D
 | none=>.p7
 | some (w,i)=>.tup [.str w,.int i]
def G2:Cp:=λa Q=>∃(d:D) (lo:Int),a=[d,.int lo]/\kn d=true/\Q (.bl (G3 lo d))
def X8:Cp:=λa Q=>∃d:D,a=[d]/\kn d=true/\Q (.bl (p5 d))
def U3:Cp:=λa Q=>∃(d:D) (n lo:Int),a=[d,.int n,.int lo]/\kn d=true/\Q (.bl (gu n lo d))
def X5:Cp:=λa Q=>∃d:D,a=[d]/\kn d=true/\Q (.bl (G1 d))
def L5:Cp:=λa Q=>∃(d:D) (x:Str),a=[d,.str x]/\kn d=true/\Q (.bl (bif decide (x="guard") then N3 d else av d))
def gU:Cp:=λa Q=>∃d:D,a=[d]/\kn d=true/\Q (CY (br d))
def U8:Cp:=λa Q=>∃d:D,a=[d]/\kn d=true/\w8 d=true/\cX d/\Q (.bl true)
structure P8(d:D)(w n:Nat):Prop where
 k:kn d=true
 im:w8 d=true
 sh:K7 d=true
 we:(pyd d).weight<=w
 de:(pyd d).depth<=n
def Nu(xs:List D)(k:Nat):Prop:=∀x∈xs,kn x=true/\w8 x=true/\K7 x=true/\(pyd x).depth<=4+2*k
def bG(xs:List D):Nat:=(xs.map λx=>(pyd x).weight).sum
def oF:i6:=(r8 (Q3 (E9 S3 (a9 (c8 0) (a9 (uC (.ty "int")) e7))) (Q3 (Gp (E9 S3 (a9 (c8 0) (a9 (uC (.ty "bool")) e7)))) (Q5 W0 AA (c8 1) (c8 0) (o5 iV (uC (.int 10)) (uC (.int 60)))))))
def zU:i6:=(r8 (Q3 (E9 S3 (a9 (c8 0) (a9 (uC (.ty "str")) e7))) (Q3 (Q5 W0 W0 (uC (.int 1)) (E9 K1 (a9 (c8 0) e7)) (uC (.int 8))) (E9 Il (a9 (xm [none] (T2 (c8 0)) (g1 0) bO (Q5 W0 W0 (uC (.str "a")) (c8 0) (uC (.str "z")))) e7)))))
def mJ:i6:=(r8 (uC (.bl false)))
def kU:i6:=(r8 (uC (.bl false)))
def mO:i6:=(r8 (uC (.bl false)))
def lB:i6:=(M9 (tP (ba (C5 (D2 (o8 G2 (a9 (n8 (c8 3) (uC (.int 0))) (a9 (uC (.int 1)) e7))))) (C5 (D2 (o8 G2 (a9 (n8 (c8 3) (uC (.int 1))) (a9 (c8 2) e7))))))) mO p3)
def kN:i6:=(g6 (M9 (tP (ba (C5 (D2 (E9 S3 (a9 (c8 3) (a9 (uC (.ty "tuple")) e7))))) (uT (o5 (G0 true) (E9 K1 (a9 (c8 3) e7)) (uC (.int 2)))))) kU p3) lB)
def xP:i6:=(r8 (uC (.bl true)))
def wJ:i6:=(g6 (ah (iP (T2 (c8 0))) (g1 3) kN) xP)
def uA:i6:=(g6 (M9 (tP (ba (C5 (D2 (E9 S3 (a9 (c8 0) (a9 (uC (.ty "tuple")) e7))))) (uT (o5 Ga (E9 K1 (a9 (c8 0) e7)) (c8 1))))) mJ p3) wJ)
def mQ:i6:=(r8 (uC (.bl false)))
def xf:i6:=(r8 (E9 Il (a9 (xm [none,some 0] (cx (o5 ae (E9 K1 (a9 (c8 0) e7)) (uC (.int 1)))) (g1 0) bO (Q3 (o5 AA (n8 (n8 (c8 1) (c8 0)) (uC (.int 0))) (n8 (n8 (c8 1) (o5 o6 (c8 0) (uC (.int 1)))) (uC (.int 0)))) (o5 Ga (n8 (n8 (c8 1) (c8 0)) (uC (.int 1))) (n8 (n8 (c8 1) (o5 o6 (c8 0) (uC (.int 1)))) (uC (.int 1)))))) e7)))
def vQ:i6:=(g6 (M9 (tP (ba (C5 (D2 (o8 U3 (a9 (c8 0) (a9 (uC (.int 5)) (a9 (uC (.int 1)) e7)))))) (uT (o5 (G0 false) (E9 K1 (a9 (c8 0) e7)) (uC (.int 0)))))) mQ p3) xf)
def ir:i6:=(r8 (uC (.bl false)))
def aH:i6:=(r8 (Q3 (c8 2) (Q3 (o8 X5 (a9 (n8 (c8 0) (uC (.int 2))) e7)) (Q3 (o8 G2 (a9 (n8 (c8 0) (uC (.int 3))) (a9 (uC (.int 0)) e7))) (o8 G2 (a9 (n8 (c8 0) (uC (.int 4))) (a9 (uC (.int 0)) e7)))))))
def iS:i6:=(g6 (A5 2 (ML (o5 (eZ false) (n8 (c8 0) (uC (.int 1))) (uC .p7)) (o8 X8 (a9 (n8 (c8 0) (uC (.int 1))) e7)))) aH)
def iq:i6:=(r8 (uC (.bl false)))
def oa:i6:=(r8 (Q3 (o8 G2 (a9 (n8 (c8 0) (uC (.int 3))) (a9 (uC (.int 0)) e7))) (E9 S3 (a9 (n8 (c8 0) (uC (.int 4))) (a9 (uC (.ty "bool")) e7)))))
def eJ:i6:=(g6 (M9 (tP (ba (C5 (D2 (o8 X8 (a9 (n8 (c8 0) (uC (.int 1))) e7)))) (C5 (D2 (o8 U3 (a9 (n8 (c8 0) (uC (.int 2))) (a9 (uC (.int 4)) (a9 (uC (.int 0)) e7)))))))) iq p3) oa)
def pB:i6:=(g6 (M9 (tP (uT (o5 (G0 false) (c8 1) (uC (.str "guard"))))) iS p3) eJ)
def kH:i6:=(g6 (M9 (tP (ba (C5 (D2 (E9 S3 (a9 (c8 0) (a9 (uC (.ty "tuple")) e7))))) (ba (uT (o5 (G0 true) (E9 K1 (a9 (c8 0) e7)) (uC (.int 5)))) (C5 (D2 (o8 X8 (a9 (n8 (c8 0) (uC (.int 0))) e7))))))) ir p3) pB)
def tW:i6:=(r8 (x9 (a9 (uC (.str "board")) (a9 (uC (.int 0)) e7))))
def sF:i6:=(r8 (x9 (a9 (uC (.str "board")) (a9 (uC (.int 0)) e7))))
def tU:i6:=(r8 (x9 (a9 (uC (.str "guard")) (a9 (A6 (c8 2)) e7))))
def sE:i6:=(r8 (x9 (a9 (uC (.str "guard")) (a9 (A6 (c8 2)) e7))))
def sT:i6:=(ni 1 (mP (o5 o6 (uC (.int 1)) (lH (c8 1) (n8 (c8 3) (uC (.int 1))) (uC (.int 0))))) (mP (n8 (c8 3) (uC (.int 0)))))
def ra:i6:=(g6 (M9 (tP (Ar (uT (o5 (eZ true) (n8 (c8 3) (uC (.int 1))) (uC .p7))) (uT (o5 Ga (lH (c8 1) (n8 (c8 3) (uC (.int 1))) (uC (.int 8))) (uC (.int 7)))))) sE p3) sT)
def ja:i6:=(g6 (M9 (tP (ba (C5 (D2 (o8 L5 (a9 (c8 3) (a9 (uC (.str "guard")) e7))))) (uT (o5 (ck false) (n8 (c8 3) (uC (.int 0))) (c8 1))))) tU p3) ra)
def rW:i6:=(r8 (x9 (a9 (uC (.str "load")) (a9 (A6 (c8 2)) e7))))
def qW:i6:=(ni 4 (mP (uC (.int 1))) (mP (n8 (c8 5) (uC (.int 0)))))
def iR:i6:=(g6 (M9 (tP (ba (C5 (D2 (o8 L5 (a9 (c8 5) (a9 (uC (.str "load")) e7))))) (ba (uT (o5 (ck false) (n8 (c8 5) (uC (.int 0))) (c8 4))) (uT (o5 (ck true) (n8 (c8 5) (uC (.int 1))) (c8 1)))))) rW p3) qW)
def Gk:i6:=(r8 (uC .p7))
def Gn:i6:=(g6 (ah (iP (AV (n8 (c8 0) (uC (.int 1))))) (gT (p8 (g1 2) (p8 (g1 5) U1))) iR) Gk)
def uG:i6:=(g6 (A5 4 (E9 CU (a9 (c8 1) e7))) Gn)
def Gh:i6:=(g6 (ah (iP (AV (n8 (c8 0) (uC (.int 0))))) (gT (p8 (g1 2) (p8 (g1 3) U1))) ja) uG)
def vq:i6:=(g6 (A5 1 (uC (.dic []))) Gh)
def EW:i6:=(g6 (M9 (tP (ba (C5 (D2 (E9 S3 (a9 (n8 (c8 0) (uC (.int 1))) (a9 (uC (.ty "tuple")) e7))))) (ba (C5 (uT (Q5 W0 W0 (uC (.int 1)) (E9 K1 (a9 (n8 (c8 0) (uC (.int 0))) e7)) (uC (.int 16))))) (uT (o5 Ga (E9 K1 (a9 (n8 (c8 0) (uC (.int 1))) e7)) (uC (.int 24))))))) sF p3) vq)
def GA:i6:=(g6 (M9 (tP (ba (C5 (D2 (E9 S3 (a9 (c8 0) (a9 (uC (.ty "tuple")) e7))))) (ba (uT (o5 (G0 true) (E9 K1 (a9 (c8 0) e7)) (uC (.int 2)))) (C5 (D2 (E9 S3 (a9 (n8 (c8 0) (uC (.int 0))) (a9 (uC (.ty "tuple")) e7)))))))) tW p3) EW)
def mz(e a:Addr):i6:=(A5 3 (x9 (a9 (ME e a 5 "word") (a9 (ME e a 5 "number") e7))))
def kR(e a:Addr):i6:=(g6 (A5 4 (Q3 (yM e a 5 true) (Q3 (yM e a 5 true) (Gp (yM e a 5 false))))) (mz e a))
def jB:i6:=(r8 (Q3 (c8 4) (Q3 (o5 (G0 false) (E9 jE (a9 (c8 3) e7)) (E9 jE (a9 (c8 1) e7))) (o5 (G0 false) (E9 jE (a9 (c8 0) e7)) (c8 2)))))
def wy:i6:=(g6 (AB Fo U9 (a9 (c8 0) e7) 4 5 "NoBoard" λe a=>(kR e a)) jB)
def xj:i6:=(g6 (A5 4 (uC (.bl true))) wy)
def xv:i6:=(g6 (A5 3 (uC .p7)) xj)
def yb:i6:=(g6 (A5 2 (E9 jE (a9 (c8 0) e7))) xv)
def vJ:i6:=(g6 (A5 1 (o8 gU (a9 (c8 0) e7))) yb)
structure A4(xs:List D)(t:Nat):Prop where
 ok:∀x∈xs,P8 x (2500+310*t) (4+2*t)
 len:xs.length<=24+t
def sH:Cm:=λa Q=>∃(c d k:Int) (one:D) (w n:Nat),a=[feed c d k,one]/\0<=k/\k<=10^9/\300<=w/\4<=n/\P8 one w n/\∀(r:D) (b:Int),P8 r w n->Q r (feed c b (k+1))
def eO:Cm:=λh Q=>∃(c d k:Int) (g:List D) (a:QF) (t:Nat),h=[feed c d k,.lst g,cP a]/\0<=k/\k<=10^8/\A4 g t/\t<=1/\1<=a.length/\a.length<=40/\(∀y∈a,nm 8 y)/\∀(e:List D) (i b:Int),A4 e (t+1)->k<=b->b<=k+8->Q (.lst e) (feed c i b)
def W7:Cm:=λe Q=>∃(c d k:Int) (b a:List D),e=[feed c d k,.tup b,.tup a]/\0<=k/\k<=10^9/\A4 b 2/\A4 a 2/\∀(r:D) (g:Int),kn r=true->w8 r=true->cX r->Q r (feed c g (k+1))
def bE:Cp:=λa Q=>∃(d:D) (ns:QI),a=[d]/\HY d ns/\ns.length<=63/\Q (.bl true)
def Iz:i6:=(bj (kZ (dO (mP (c8 2)) (o7 0 u5 (j9 (mP (uC (.int 29))) u9)))))
def Jx:i6:=(g6 (A5 2 (o5 o6 (c8 2) (O5 (a9 (x9 (a9 (x9 (a9 (uC (.int 1)) (a9 (uC (.int 9)) e7))) (a9 (x9 (a9 (uC (.int 2)) (a9 (uC (.int 8)) e7))) (a9 (x9 (a9 (uC (.int 3)) (a9 (uC (.int 7)) e7))) (a9 (x9 (a9 (uC (.int 4)) (a9 (uC (.int 6)) e7))) (a9 (x9 (a9 (uC (.int 5)) (a9 (uC (.int 5)) e7))) (a9 (x9 (a9 (uC (.int 6)) (a9 (uC (.int 4)) e7))) e7))))))) (a9 (x9 (a9 (x9 (a9 (uC (.int 1)) (a9 (uC (.bl true)) e7))) e7)) (a9 (x9 (a9 (x9 (a9 (uC (.int 1)) (a9 (uC (.int 1)) e7))) (a9 (uC (.int 2)) e7))) (a9 (x9 (a9 (oP (O5 (a9 (uC (.int 1)) (a9 (uC (.int 1)) e7)))) e7)) (a9 (A6 (c8 1)) e7)))))))) Iz)
def IP:i6:=(g6 (A5 2 (o5 o6 (c8 2) (O5 (a9 (x9 (a9 (x9 (a9 (uC (.int 2)) (a9 (uC (.int 2)) e7))) (a9 (x9 (a9 (uC (.int 1)) (a9 (uC (.int 1)) e7))) e7))) e7)))) Jx)
def Hi:i6:=(g6 (A5 2 (o5 o6 (c8 2) (O5 (a9 (x9 (a9 (x9 (a9 (uC (.int 1)) (a9 (uC (.int 1)) e7))) e7)) (a9 (x9 (a9 (x9 (a9 (uC (.int 0)) (a9 (uC (.int 1)) e7))) e7)) (a9 (x9 (a9 (x9 (a9 (uC (.int 1)) (a9 (uC (.int 0)) e7))) e7)) (a9 (x9 (a9 (x9 (a9 (uC (.int 1)) (a9 (uC (.int 0)) (a9 (uC (.int 0)) e7)))) e7)) (a9 (oP (O5 (a9 (x9 (a9 (uC (.int 1)) (a9 (uC (.int 1)) e7))) e7))) (a9 (x9 (a9 (x9 (a9 (uC (.int 1)) (a9 (uC (.int 1)) e7))) (a9 (x9 (a9 (uC (.int 1)) (a9 (uC (.int 1)) e7))) e7))) (a9 (x9 (a9 (x9 (a9 (uC (.int 1)) (a9 (uC (.int 2)) e7))) (a9 (x9 (a9 (uC (.int 2)) (a9 (uC (.int 2)) e7))) e7))) e7)))))))))) IP)
def Kc:i6:=(g6 (A5 2 (O5 (a9 (uC .p7) (a9 (uC (.bl true)) (a9 (uC (.bl false)) (a9 (uC (.int 0)) (a9 (uC (.int 1)) (a9 (DZ kW (uC (.int 1))) (a9 (o5 iV (uC (.int 10)) (uC (.int 60))) (a9 (o5 ae (o5 iV (uC (.int 10)) (uC (.int 60))) (uC (.int 1))) (a9 (uC (.str "")) (a9 (uC (.str "a")) (a9 (uC (.str "A")) (a9 (uC (.str "abcdefghi")) (a9 (uC (.str "b\n")) (a9 (x9 e7) (a9 (oP (O5 e7)) (a9 (Cb (uC (.dic []))) e7)))))))))))))))))) Hi)
def rS:i6:=(r8 (O5 (a9 (x9 (a9 (A6 (c8 3)) (a9 (A6 (n8 (c8 2) (uC (.int 0)))) (a9 (x9 e7) (a9 (uC (.int 0)) (a9 (uC (.bl true)) e7)))))) e7)))
def gW:i6:=(r8 (o5 o6 (Z9 (c8 1) L9 (M0 (c8 4))) (Z9 (c8 1) (M0 (o5 o6 (c8 4) (uC (.int 1)))) L9)))
def tw:i6:=(C7 5 (Z0 o6 (Z0 o6 (mP (Z9 (c8 5) L9 (M0 (c8 7)))) (AX (j9 (o7 0 sH (j9 (mP (n8 (c8 5) (c8 7))) u9)) u9))) (mP (Z9 (c8 5) (M0 (o5 o6 (c8 7) (uC (.int 1)))) L9))))
def tZ:i6:=(g6 (C7 7 (o7 0 u5 (j9 (mP (uC (.int 5))) u9))) tw)
def sS:i6:=(A5 5 (o5 o6 (x9 (a9 (A6 (c8 3)) e7)) (Z9 (c8 5) (M0 (uC (.int 1))) L9)))
def tu:i6:=(A5 5 (o5 o6 (o5 o6 (Z9 (c8 5) L9 (M0 (uC (.int 1)))) (x9 (a9 (A6 (c8 3)) e7))) (Z9 (c8 5) (M0 (uC (.int 2))) L9)))
def uf:i6:=(C7 5 (kZ (dO (mP (O5 (a9 (oP (E9 gq (a9 (c8 5) e7))) (a9 (Z9 (c8 5) L9 (M0 (DZ kW (uC (.int 1))))) (a9 (o5 o6 (c8 5) (x9 (a9 (uC (.int 0)) e7))) (a9 (A6 (c8 3)) (a9 (x9 (a9 (A6 (c8 5)) e7)) e7))))))) (o7 0 u5 (j9 (mP (uC (.int 5))) u9)))))
def tJ:i6:=(bj (Z0 o6 (Z0 o6 (mP (Z9 (c8 1) L9 (M0 (c8 4)))) (Z0 P2 (mP (O5 (a9 (A6 (c8 5)) e7))) (Z0 ae (dO (mP (O5 (a9 (uC (.int 16)) (a9 (uC (.int 17)) (a9 (uC (.int 24)) (a9 (uC (.int 25)) e7)))))) (o7 0 u5 (j9 (mP (uC (.int 4))) u9))) (mP (E9 K1 (a9 (c8 1) e7)))))) (mP (Z9 (c8 1) (M0 (c8 4)) L9))))
def rM:i6:=(r8 (o5 o6 (o5 o6 (Z9 (c8 1) L9 (M0 (c8 4))) (O5 (a9 (A6 (c8 5)) e7))) (Z9 (c8 1) (M0 (c8 4)) L9)))
def qv:i6:=(r8 (o5 o6 (o5 o6 (Z9 (c8 1) L9 (M0 (c8 4))) (O5 (a9 (A6 (c8 5)) e7))) (Z9 (c8 1) (M0 (o5 o6 (c8 4) (uC (.int 1)))) L9)))
def Di:i6:=(g6 (M9 (tP (uT (o5 (G0 false) (c8 6) (uC (.int 7))))) rM p3) qv)
def iF:i6:=(g6 (M9 (tP (uT (o5 (G0 false) (c8 6) (uC (.int 6))))) tJ p3) Di)
def AG:i6:=(g6 (M9 (tP (uT (o5 (G0 false) (c8 6) (uC (.int 5))))) uf p3) iF)
def Ex:i6:=(g6 (M9 (tP (uT (o5 (G0 false) (c8 6) (uC (.int 4))))) tu p3) AG)
def EC:i6:=(g6 (M9 (tP (uT (o5 (G0 false) (c8 6) (uC (.int 3))))) sS p3) Ex)
def vX:i6:=(g6 (M9 (tP (uT (o5 AA (c8 6) (uC (.int 3))))) tZ p3) EC)
def vZ:i6:=(g6 (M9 (tP (ba (C5 (D2 (E9 S3 (a9 (c8 5) (a9 (uC (.ty "tuple")) e7))))) (uT (o5 (G0 true) (E9 K1 (a9 (c8 5) e7)) (uC (.int 5)))))) gW p3) vX)
def Em:i6:=(g6 (C7 6 (o7 0 u5 (j9 (mP (uC (.int 8))) u9))) vZ)
def FW:i6:=(g6 (A5 5 (n8 (c8 1) (c8 4))) Em)
def Fv:i6:=(g6 (C7 4 (o7 0 u5 (j9 (mP (E9 K1 (a9 (c8 1) e7))) u9))) FW)
def Fj:i6:=(g6 (M9 (tP (uT (o5 (G0 false) (E9 K1 (a9 (c8 1) e7)) (uC (.int 0))))) rS p3) Fv)
def Gv:i6:=(g6 (C7 3 (kZ (dO (mP (c8 2)) (o7 0 u5 (j9 (mP (E9 K1 (a9 (c8 2) e7))) u9))))) Fj)
def wR:i6:=(bj (kZ (dO (mP (c8 3)) (o7 0 u5 (j9 (mP (uC (.int 30))) u9)))))
def xQ:i6:=(g6 (A5 3 (o5 o6 (c8 3) (O5 (a9 (x9 (a9 (A6 (c8 1)) (a9 (oP (E9 gq (a9 (c8 2) e7))) e7))) (a9 (x9 (a9 (x9 e7) (a9 (A6 (c8 2)) e7))) (a9 (uC .p7) (a9 (uC (.str "board")) (a9 (x9 (a9 (A6 (c8 2)) (a9 (A6 (c8 1)) e7))) (a9 (Cb (uC (.dic []))) (a9 (uC (.int 5)) (a9 (uC (.bl true)) e7))))))))))) wR)
def uV:i6:=(g6 (A5 3 (o5 o6 (o5 P2 (O5 (a9 (x9 (a9 (A6 (c8 1)) (a9 (A6 (c8 2)) e7))) e7)) (uC (.int 18))) (O5 (a9 (oP (O5 (a9 (A6 (c8 1)) (a9 (A6 (c8 2)) e7)))) (a9 (x9 (a9 (A6 (c8 1)) e7)) (a9 (x9 (a9 (A6 (c8 1)) (a9 (A6 (c8 2)) (a9 (x9 e7) e7)))) (a9 (x9 (a9 (oP (E9 gq (a9 (c8 1) e7))) (a9 (A6 (c8 2)) e7))) e7))))))) xQ)
def pw:i6:=(C7 3 (o7 5 eO (j9 (mP (c8 3)) (j9 (mP (c8 2)) u9))))
def qp:i6:=(C7 4 (o7 5 eO (j9 (mP (c8 4)) (j9 (mP (c8 2)) u9))))
def oA:i6:=(M9 (mT (Z0 (G0 false) (o7 5 u5 (j9 (mP (uC (.int 2))) u9)) (mP (uC (.int 0))))) pw qp)
def yI:i6:=(r8 (Q3 (o8 U8 (a9 (c8 7) e7)) (o8 U8 (a9 (c8 7) e7))))
def Dn:i6:=(g6 (C7 7 (o7 5 W7 (j9 (mP (E9 bC (a9 (c8 3) e7))) (j9 (mP (E9 bC (a9 (c8 4) e7))) u9)))) yI)
def Du:i6:=(g6 (ah (JI (Z0 o6 (mP (uC (.int 1))) (o7 5 u5 (j9 (mP (uC (.int 2))) u9)))) (g1 6) oA) Dn)
def Ad:i6:=(g6 (A5 5 (o8 Z5 (a9 (c8 0) (a9 (uC (.int 42)) e7)))) Du)
def Ab:i6:=(g6 (A5 4 (E9 gq (a9 (n8 (c8 1) (uC (.int 1))) e7))) Ad)
def CB:i6:=(g6 (A5 3 (E9 gq (a9 (n8 (c8 1) (uC (.int 0))) e7))) Ab)
def BM:i6:=(g6 (A5 2 (o5 o6 (xm [none] (T2 (n8 (c8 1) (uC (.int 0)))) (g1 0) bO (A6 (n8 (c8 0) (uC (.int 0))))) (xm [none] (T2 (n8 (c8 1) (uC (.int 1)))) (g1 0) bO (A6 (n8 (c8 0) (uC (.int 0))))))) CB)
def zQ:i6:=(g6 (A5 1 (o8 bB (a9 (c8 0) e7))) BM)
def top(i:Nat):Stmt:=PySem.Challenge.pw_fuseboard_k13_bent_boards.main.body.getD i (.Pass ⟨0,0,0,0⟩)
abbrev ip:Stmt:=top 3
abbrev dz:Stmt:=top 4
abbrev mR:Stmt:=top 5
abbrev nF:Stmt:=top 9
abbrev gB:Stmt:=top 10
abbrev iX:Stmt:=top 8
abbrev bx:Stmt:=top 23
abbrev gG:Stmt:=top 26
abbrev cN:Stmt:=top 29
abbrev mf:Stmt:=top 30
abbrev bH:Stmt:=top 24
abbrev dq:Stmt:=top 28
abbrev mq:Stmt:=top 27
abbrev df:Stmt:=top 25
abbrev kQ:Stmt:=top 22
abbrev mM:Stmt:=top 32
abbrev zR:Stmt:=top 33
abbrev BJ:Stmt:=top 34
abbrev ue:Stmt:=top 35
abbrev mB:Stmt:=top 36
abbrev dW:Stmt:=top 37
abbrev dH:Stmt:=top 38
abbrev fR:Stmt:=top 39
abbrev lO:Stmt:=top 40
abbrev rg:Stmt:=top 41
abbrev fZ:Stmt:=top 42
abbrev mE:Stmt:=top 43
abbrev kX:Stmt:=top 44
abbrev fP:Stmt:=top 45
abbrev dS:Stmt:=top 46
abbrev Al:Stmt:=top 47
abbrev kM:Stmt:=top 48
abbrev Jm:Stmt:=top 49
abbrev Cz:Stmt:=top 50
abbrev nH:Stmt:=top 51
abbrev S8:Stmt:=top 52
abbrev oB:=HP "is_whole" 1 ["thing"] T3
abbrev W5:=HP "is_number" 2 ["thing"] B0
abbrev vN:=HP "is_step" 3 ["thing"] Y4
abbrev oQ:=HP "follows" 1 ["ahead","step"] S4
abbrev lT:=HP "is_name" 1 ["thing"] O3
abbrev pE:=HP "is_curve" 4 ["thing"] S5
abbrev qM:=HP "is_guard" 5 ["thing"] S7
abbrev iZ:=HP "names_of" 1 ["rows"] G4
abbrev BI:=HP "climb" 1 ["guards","name"] bL
abbrev kG:=HP "is_course" 3 ["thing"] N7
abbrev uH:=HP "is_load" 4 ["thing"] Y1
abbrev hR:=HP "is_outline" 1 ["thing"] K6
abbrev gp:=HP "guard_fits" 6 ["ahead","thing"] K5
abbrev kL:=HP "load_fits" 5 ["guards","ahead","thing"] N6
abbrev wj:=HP "_law_cell_at" 1 ["_law_script","_law_k"] W9
abbrev Y6:=HM "_law_take" 1 ["_law_feed_here","_law_many"] u5
abbrev mh:=HM "_law_begin" 2 ["_law_feed_here"] Q1
abbrev qj:=HP "_law_feed" 2 ["_law_script","_law_k"] Z5
abbrev lQ:=HM "_law_number" 3 ["_law_feed_here"] O1
abbrev Be:=HM "_law_steps" 3 ["_law_feed_here"] bK
abbrev Cf:=HM "_law_names" 2 ["_law_feed_here","_law_many"] bQ
abbrev vR:=HP "_law_guards" 4 ["_law_script","_law_names_here","_law_many"] Y0
abbrev AO:=HP "_law_loads" 4 ["_law_script","_law_names_here","_law_guards_here"] bz
abbrev gH:=HP "_law_is_number" 1 ["_law_thing","_law_low"] G2
abbrev mZ:=HP "_law_are_pairs" 2 ["_law_thing","_law_most","_law_low"] U3
abbrev zw:=HP "_law_is_name" 1 ["_law_thing"] X8
abbrev vC:=HP "_law_is_curve" 3 ["_law_thing"] X5
abbrev jO:=HP "_law_row_right" 4 ["_law_thing","_law_word"] L5
abbrev Hb:=HP "_law_due" 5 ["_law_thing"] gU
abbrev LS:=HM "_law_odd" 2 ["_law_feed_here","_law_one"] sH
abbrev Bu:=HP "_law_board" 5 ["_law_script"] bB
abbrev wm:=HP "_law_right" 8 ["_law_thing"] U8
abbrev GH:=HM "_law_bent" 3 ["_law_feed_here","_law_rows","_law_names_here"] eO
abbrev uw:=HM "_law_topped" 2 ["_law_feed_here","_law_guards_here","_law_loads_here"] W7
section
variable{P:Program}{w:World}{K:QP}{mg:QL}{base:Heap}
local macro_rules | `(tactic| walk_at "s") => `(tactic| exact ⟨rfl,rfl,rfl,by decide +kernel,rfl,by decide +kernel,by decide +kernel⟩)
theorem wY:j2 ["thing"] ["thing"] (e6 ip):=by walk_at "s"
theorem wz (F:S6 K "is_whole" "is_whole" ip f e) (b:mg "bool"=none) (c:mg "int"=none) (a:mg "isinstance"=none)
  (len:O2 T3 1) (d:dM T3 oU 1):w6 P w K mg base P9 1 f e ["thing"] (bb K T3):=
 dU (cl:=[.bor]) F wY rfl len (λg A outer h H E i=>(J9 rfl (l4 (A8 (e9 l3 J5 (by rfl) a og (c6 (uv 0 rfl) (c6 (J4 (x5 (v:=.ty "int") rfl c Ph rfl)) c9 rfl) rfl)) (D8 (sU (e9 l3 J5 (by rfl) a og (c6 (uv 0 rfl) (c6 (J4 (x5 (v:=.ty "bool") rfl b OZ rfl)) c9 rfl) rfl))))) rfl))) d
theorem qZ:j2 ["thing"] ["thing"] (e6 dz):=by walk_at "s"
theorem sj (F:S6 K "is_number" "is_number" dz f j) (c:oB P w K mg base g e) {a:Tok} (b:mg "NUMBERS_END"=some (.int (10^60) a))
  (len:O2 B0 1) (h:dM B0 jY 1):w6 P w K mg base P9 2 f j ["thing"] (bb K B0):=
 dU (cl:=[.bor]) F qZ rfl len (λl A outer o H E i=>(J9 rfl (l4 (A8 (pc c i (c6 (uv 0 rfl) c9 rfl) rfl) (D8 (aK G5 wd P5 eR a8 (uv 0 rfl) (X1 (v:=.int (10^60)) (d:=.int (10^60)) (B:=[]) (M7 rfl b ⟨_,rfl⟩) (λ_=>.int)) (by with_unfolding_all rfl)))) rfl))) h
theorem qB:j2 ["thing","sign"] ["thing"] (e6 mR):=by walk_at "s"
theorem Aj (F:S6 K "is_name" "is_name" mR f o) (h:mg "isinstance"=none) (j:mg "len"=none) (i:mg "str"=none) {e:Tok} (g:mg "LONGEST_NAME"=some (.int 8 e))
  (len:O2 O3 1) (l:dM O3 vW 2):w6 P w K mg base P9 1 f o ["thing"] (bb K O3):=
 dU (cl:=[.bor,.bor]) F qB rfl len (λp A outer q H E r=>(DA rfl (y8 (F0.m (Y9.pt (B6 (n9 (i9 (e9 l3 J5 (by rfl) h og (c6 (uv 0 rfl) (c6 (J4 (x5 (v:=.ty "str") rfl i PyProof.Rows.boot_str rfl)) c9 rfl) rfl)) (λ_=>rfl))) (A2 (n9 (cw G5 G5 P5 P5 a8 (e9 l8 C4 (by rfl) j ry (c6 (uv 0 rfl) c9 rfl)) (X1 (v:=.int 8) (d:=.int 8) (B:=[]) (M7 rfl g ⟨_,rfl⟩) (λ_=>.int)) (by with_unfolding_all rfl))))))) (J9 rfl (l4 x6 rfl)) p4)
   (Q7 (eY.m (K4 (uv 0 rfl)) rfl) (gn 1 qB.nd)
    (J9 rfl (y8 (F0.m (n9 (cw G5 G5 P5 P5 p9 (uv 1 rfl) p9 (by with_unfolding_all rfl)))) (J9 rfl (l4 x6 rfl)) p4)) (λa b c=>J8 vr rfl a b c))
   (l4 x6 rfl))) l
theorem qe:j2 ["thing","part"] ["thing"] (e6 nF):=by walk_at "s"
theorem zP (F:S6 K "is_step" "is_step" nF f p) (e:W5 P w K mg base i h) (d:mg "isinstance"=none) (j:mg "len"=none) (g:mg "tuple"=none)
  (len:O2 Y4 1) (o:dM Y4 uF 2):w6 P w K mg base P9 3 f p ["thing"] (bb K Y4):=
 dU (cl:=[.bor,.bor]) F qe rfl len (λq A outer r H E l=>(DA rfl (y8 (F0.m (Y9.pt (B6 (n9 (i9 (e9 l3 J5 (by rfl) d og (c6 (uv 0 rfl) (c6 (J4 (x5 (v:=.ty "tuple") rfl g qy rfl)) c9 rfl) rfl)) (λ_=>rfl))) (A2 (V1 l (e9 l8 C4 (by rfl) j ry (c6 (uv 0 rfl) c9 rfl)) a8 (j3 _)))))) (J9 rfl (l4 x6 rfl)) p4)
   (Q7 (eY.m (K4 (uv 0 rfl)) rfl) (gn 1 qe.nd)
    (J9 rfl (y8 (F0.m (Y9.pt (B6 (n9 (i9 (pc e l (c6 (uv 1 rfl) c9 rfl) rfl) (λ_=>rfl))) (A2 (T7 l (uv 1 rfl) a8 (j3 _)))))) (J9 rfl (l4 x6 rfl)) p4)) (λa b c=>J8 vr rfl a b c))
   (l4 x6 rfl))) o
theorem xK:j2 ["ahead","step"] ["ahead","step"] (e6 gB):=by walk_at "s"
theorem xD (F:S6 K "follows" "follows" gB f c)
  (len:O2 S4 2) (b:dM S4 pT 2):w6 P w K mg base P9 1 f c ["ahead","step"] (bb K S4):=
 dU (cl:=[.bor,.bor]) F xK rfl len (λd A outer e H E a=>(J9 rfl (l4 (A8 (AW (C8 a (uv 0 rfl) a8) (C8 a (uv 1 rfl) a8) (j3 _)) (D8 (Hg (C8 a (uv 0 rfl) a8) (C8 a (uv 1 rfl) a8) (j3 _)))) rfl))) b
theorem aL:j2 ["thing","step","ahead"] ["thing"] (e6 iX):=by walk_at "s"
theorem wu (F:S6 K "is_curve" "is_curve" iX f J) (l:vN P w K mg base z r) (j:oQ P w K mg base u q) (g:mg "isinstance"=none) (y:mg "len"=none) (o:mg "tuple"=none) (x:mg "zip"=none) {e:Tok} (i:mg "MOST_STEPS"=some (.int 5 e))
  (len:O2 S5 1) (G:dM S5 nK 3):w6 P w K mg base P9 4 f J ["thing"] (bb K S5):=
 dU (cl:=[.bor,.bor,.bor]) F aL rfl len (λM A outer O H E C=>(zZ rfl (y8 (F0.m (Y9.pt (B6 (n9 (i9 (e9 l3 J5 (by rfl) g og (c6 (uv 0 rfl) (c6 (J4 (x5 (v:=.ty "tuple") rfl o qy rfl)) c9 rfl) rfl)) (λ_=>rfl))) (A2 (n9 (cw G5 G5 P5 P5 a8 (e9 l8 C4 (by rfl) y ry (c6 (uv 0 rfl) c9 rfl)) (X1 (v:=.int 5) (d:=.int 5) (B:=[]) (M7 rfl i ⟨_,rfl⟩) (λ_=>.int)) (by with_unfolding_all rfl))))))) (J9 rfl (l4 x6 rfl)) p4)
   (Q7 (eY.m (K4 (uv 0 rfl)) rfl) (gn 1 aL.nd)
    (J9 rfl (y8 (F0.m (n9 (i9 (pc l C (c6 (uv 1 rfl) c9 rfl) rfl) (λ_=>rfl)))) (J9 rfl (l4 x6 rfl)) p4)) (λa b c=>J8 vr rfl a b c))
   (Q7 (eY.m (Ke true true (uv 0 rfl) (J7 (uv 0 rfl) (B9 a8) C0) .stab rfl rfl rfl rfl rfl (λI=>Iw true true (by rfl) x I)) rfl) (cG (n:=2) (x4 (gn 2 aL.nd) (x4 (gn 1 aL.nd) W8)) (λ_ _ _ h=>gL h) (λp=>X4 rfl p))
    (J9 rfl (y8 (F0.m (n9 (i9 (pc j C (c6 (uv 2 rfl) (c6 (uv 1 rfl) c9 rfl) rfl) rfl) (λ_=>rfl)))) (J9 rfl (l4 x6 rfl)) p4)) (λa b c=>J8 vr rfl a b c))
   (l4 x6 rfl))) G
theorem eP:j2 ["thing","part"] ["thing"] (e6 bx):=by walk_at "s"
theorem qN (F:S6 K "is_outline" "is_outline" bx f r) (e:mg "isinstance"=none) (o:mg "len"=none) (l:mg "tuple"=none) {g:Tok} (i:mg "MOST_GUARDS"=some (.int 16 g)) {h:Tok} (j:mg "MOST_LOADS"=some (.int 24 h))
  (len:O2 K6 1) (q:dM K6 gF 2):w6 P w K mg base P9 1 f r ["thing"] (bb K K6):=
 dU (cl:=[.bor,.bor]) F eP rfl len (λu A outer x H E p=>(DA rfl (y8 (F0.m (Y9.pt (B6 (n9 (i9 (e9 l3 J5 (by rfl) e og (c6 (uv 0 rfl) (c6 (J4 (x5 (v:=.ty "tuple") rfl l qy rfl)) c9 rfl) rfl)) (λ_=>rfl))) (A2 (V1 p (e9 l8 C4 (by rfl) o ry (c6 (uv 0 rfl) c9 rfl)) a8 (j3 _)))))) (J9 rfl (l4 x6 rfl)) p4)
   (Q7 (eY.m (K4 (uv 0 rfl)) rfl) (gn 1 eP.nd)
    (J9 rfl (y8 (F0.m (n9 (i9 (e9 l3 J5 (by rfl) e og (c6 (uv 1 rfl) (c6 (J4 (x5 (v:=.ty "tuple") rfl l qy rfl)) c9 rfl) rfl)) (λ_=>rfl)))) (J9 rfl (l4 x6 rfl)) p4)) (λa b c=>J8 vr rfl a b c))
   (l4 (A8 (aK G5 G5 P5 P5 a8 (e9 l8 C4 (by rfl) o ry (c6 (C8 p (uv 0 rfl) a8) c9 rfl)) (X1 (v:=.int 16) (d:=.int 16) (B:=[]) (M7 rfl i ⟨_,rfl⟩) (λ_=>.int)) (by with_unfolding_all rfl)) (D8 (zG (e9 l8 C4 (by rfl) o ry (c6 (C8 p (uv 0 rfl) a8) c9 rfl)) (X1 (v:=.int 24) (d:=.int 24) (B:=[]) (M7 rfl j ⟨_,rfl⟩) (λ_=>.int)) (j3 _)))) rfl))) q
theorem R6:j2 ["thing","name","under","curve","delay","wait"] ["thing"] (e6 gG):=by walk_at "s"
theorem wX (F:S6 K "is_guard" "is_guard" gG f z) (a:W5 P w K mg base l i) (c:lT P w K mg base x q) (d:pE P w K mg base r j) (b:mg "isinstance"=none) (u:mg "len"=none) (e:mg "tuple"=none)
  (len:O2 S7 1) (y:dM S7 pW 6):w6 P w K mg base P9 5 f z ["thing"] (bb K S7):=
 dU (cl:=[.bor,.bor,.bor,.bor,.bor,.bor]) F R6 rfl len (λB A outer C H E o=>(zZ rfl (y8 (F0.m (Y9.pt (B6 (n9 (i9 (e9 l3 J5 (by rfl) b og (c6 (uv 0 rfl) (c6 (J4 (x5 (v:=.ty "tuple") rfl e qy rfl)) c9 rfl) rfl)) (λ_=>rfl))) (A2 (V1 o (e9 l8 C4 (by rfl) u ry (c6 (uv 0 rfl) c9 rfl)) a8 (j3 _)))))) (J9 rfl (l4 x6 rfl)) p4)
   (vB (uv 0 rfl) rfl (cG (n:=5) (x4 (gn 1 R6.nd) (x4 (gn 2 R6.nd) (x4 (gn 3 R6.nd) (x4 (gn 4 R6.nd) (x4 (gn 5 R6.nd) W8))))) (λ_ _ _ h=>GP h) (λp=>X4 rfl p)) (λp g=>X2 p g))
   (y8 (F0.m (Y9.pt (B6 (n9 (i9 (pc c o (c6 (uv 1 rfl) c9 rfl) rfl) (λ_=>rfl))) (A2 (n9 (Y9.pt (B6 (BD (uv 2 rfl) V2 (j3 _)) (A2 (i9 (pc c o (c6 (uv 2 rfl) c9 rfl) rfl) (λ_=>rfl)))))))))) (J9 rfl (l4 x6 rfl)) p4)
   (l4 (A8 (pc d o (c6 (uv 3 rfl) c9 rfl) rfl) (A8 (pc a o (c6 (uv 4 rfl) c9 rfl) rfl) (D8 (pc a o (c6 (uv 5 rfl) c9 rfl) rfl)))) rfl))) y
theorem wx:j2 ["rows"] ["rows"] (e6 cN):=by walk_at "s"
theorem ug:(["row"]:QF).Nodup:=by decide +kernel
theorem xB (F:S6 K "names_of" "names_of" cN f c)
  (len:O2 G4 1) (a:dM G4 nS 1):w6 P w K mg base P9 1 f c ["rows"] (bb K G4):=
 dU (cl:=[.bor]) F wx rfl len (λd A outer e H E b=>(J9 rfl (l4 (cK (XN:=["rows"]) (N:=["row"]) (XS:=e6 cN) (cap:=[none]) (by decide +kernel) rfl rfl rfl rfl (K4 (uv 0 rfl)) (λ_ _ _ _=>(gn 0 ug)) (λ_ _ _ _=>S2) (λ_ _ _ _=>(PU.w8 (C8 b (uv 0 rfl) a8)))) rfl))) a
abbrev uM:QF:=["guards","name","unders","guard","found"]
theorem fT:j2 uM ["guards","name"] (e6 mf):=by walk_at "s"
theorem yZ:(["guard"]:QF).Nodup:=by decide +kernel
theorem Fd (F:S6 K "climb" "climb" mf f d)
  (len:O2 bL 2) (b:dM bL Bg 5):w6 P w K mg base P9 1 f d ["guards","name"] (bb K bL):=
 dU (cl:=[.bor,.bor,.bor,.bor,.own]) F fT rfl len (λe A outer g H E a=>(zZ rfl (FQ (i:=2) (XN:=uM) (N:=["guard"]) (XS:=e6 mf) (cap:=[none]) fT.nd rfl rfl rfl (by decide +kernel) rfl rfl rfl rfl (K4 (uv 0 rfl)) (λ_ _ _ _=>(gn 0 yZ)) (λ_ _ _ _=>S2) (λ_ _ _ _=>(C8 a (uv 0 rfl) a8)) (λ_ _ _ _=>(C8 a (uv 0 rfl) a8)))
   (ss 4 fT.nd (A3 i3 rfl) rfl)
   (Fu vr (F0.m (pY (uv 1 rfl) V2 (j3 _))) (AK rfl (eh (PM.n (R7 (r:=U7) 4 (pv 4) rfl (PU.m (PU.w8 (uv 1 rfl))) rfl (λc=>iw AC PySem.F.slot_list_append PySem.F.type_list_append N1 (pv 4) c))))
   (ss 1 fT.nd (C8 a (uv 2 rfl) (uv 1 rfl)) rfl)))
   (mY 4 (pv 4) (by decide) rfl))) b
theorem eN:j2 ["ahead","thing","under"] ["ahead","thing"] (e6 bH):=by walk_at "s"
theorem pH (F:S6 K "guard_fits" "guard_fits" bH f x) (e:qM P w K mg base o j) (a:iZ P w K mg base l i) (g:BI P w K mg base r q) (p:mg "len"=none) {b:Tok} (c:mg "MOST_OVER"=some (.int 7 b))
  (len:O2 K5 2) (u:dM K5 iH 3):w6 P w K mg base P9 6 f x ["ahead","thing"] (bb K K5):=
 dU (cl:=[.bor,.bor,.bor]) F eN rfl len (λy A outer z H E h=>(zZ rfl (y8 (F0.m (Y9.pt (B6 (n9 (i9 (pc e h (c6 (uv 1 rfl) c9 rfl) rfl) (λ_=>rfl))) (A2 (rF (C9 h) (C8 h (uv 1 rfl) a8) (pc a h (c6 (uv 0 rfl) c9 rfl) rfl) rfl))))) (J9 rfl (l4 x6 rfl)) p4)
   (ss 2 eN.nd (C8 h (uv 1 rfl) a8) rfl)
   (y8 (F0.m (BD (uv 2 rfl) V2 (j3 _))) (J9 rfl (l4 x6 rfl)) p4)
   (l4 (A8 (IM (C9 h) (uv 2 rfl) (pc a h (c6 (uv 0 rfl) c9 rfl) rfl) rfl) (D8 (zG (e9 l8 C4 (by rfl) p ry (c6 (pc g h (c6 (uv 0 rfl) (c6 (uv 2 rfl) c9 rfl) rfl) rfl) c9 rfl)) (X1 (v:=.int 7) (d:=.int 7) (B:=[]) (M7 rfl c ⟨_,rfl⟩) (λ_=>.int)) (j3 _)))) rfl))) u
theorem Y5:j2 ["thing","stretch","turns","draw"] ["thing"] (e6 dq):=by walk_at "s"
theorem rK (F:S6 K "is_course" "is_course" dq f z) (l:W5 P w K mg base u r) (i:mg "isinstance"=none) (q:mg "len"=none) (o:mg "tuple"=none) {e:Tok} (j:mg "MOST_STRETCHES"=some (.int 4 e))
  (len:O2 N7 1) (y:dM N7 kg 4):w6 P w K mg base P9 3 f z ["thing"] (bb K N7):=
 dU (cl:=[.bor,.bor,.bor,.bor]) F Y5 rfl len (λC A outer G H E x=>(DA rfl (y8 (F0.m (Y9.pt (B6 (n9 (i9 (e9 l3 J5 (by rfl) i og (c6 (uv 0 rfl) (c6 (J4 (x5 (v:=.ty "tuple") rfl o qy rfl)) c9 rfl) rfl)) (λ_=>rfl))) (A2 (ij (e9 l8 C4 (by rfl) q ry (c6 (uv 0 rfl) c9 rfl)) (X1 (v:=.int 4) (d:=.int 4) (B:=[]) (M7 rfl j ⟨_,rfl⟩) (λ_=>.int)) (j3 _)))))) (J9 rfl (l4 x6 rfl)) p4)
   (Q7 (eY.m (K4 (uv 0 rfl)) rfl) (gn 1 Y5.nd)
    (DA rfl (y8 (F0.m (Y9.pt (B6 (n9 (i9 (e9 l3 J5 (by rfl) i og (c6 (uv 1 rfl) (c6 (J4 (x5 (v:=.ty "tuple") rfl o qy rfl)) c9 rfl) rfl)) (λ_=>rfl))) (A2 (V1 x (e9 l8 C4 (by rfl) q ry (c6 (uv 1 rfl) c9 rfl)) a8 (j3 _)))))) (J9 rfl (l4 x6 rfl)) p4)
   (vB (uv 1 rfl) rfl (cG (n:=2) (x4 (gn 2 Y5.nd) (x4 (gn 3 Y5.nd) W8)) (λ_ _ _ h=>gL h) (λp=>X4 rfl p)) (λp g=>X2 p g))
   (y8 (F0.m (Y9.pt (B6 (n9 (i9 (pc l x (c6 (uv 2 rfl) c9 rfl) rfl) (λ_=>rfl))) (B6 (T7 x (uv 2 rfl) a8 (j3 _)) (A2 (n9 (i9 (pc l x (c6 (uv 3 rfl) c9 rfl) rfl) (λ_=>rfl)))))))) (J9 rfl (l4 x6 rfl)) p4)) (λa b c=>J8 vr rfl a b c))
   (l4 x6 rfl))) y
theorem W2:j2 ["thing","name","at","course","last","switch"] ["thing"] (e6 mq):=by walk_at "s"
theorem BU (F:S6 K "is_load" "is_load" mq f z) (c:W5 P w K mg base l i) (b:lT P w K mg base x q) (d:kG P w K mg base o j) (a:mg "isinstance"=none) (u:mg "len"=none) (e:mg "tuple"=none)
  (len:O2 Y1 1) (y:dM Y1 vb 6):w6 P w K mg base P9 4 f z ["thing"] (bb K Y1):=
 dU (cl:=[.bor,.bor,.bor,.bor,.bor,.bor]) F W2 rfl len (λB A outer C H E r=>(zZ rfl (y8 (F0.m (Y9.pt (B6 (n9 (i9 (e9 l3 J5 (by rfl) a og (c6 (uv 0 rfl) (c6 (J4 (x5 (v:=.ty "tuple") rfl e qy rfl)) c9 rfl) rfl)) (λ_=>rfl))) (A2 (V1 r (e9 l8 C4 (by rfl) u ry (c6 (uv 0 rfl) c9 rfl)) a8 (j3 _)))))) (J9 rfl (l4 x6 rfl)) p4)
   (vB (uv 0 rfl) rfl (cG (n:=5) (x4 (gn 1 W2.nd) (x4 (gn 2 W2.nd) (x4 (gn 3 W2.nd) (x4 (gn 4 W2.nd) (x4 (gn 5 W2.nd) W8))))) (λ_ _ _ h=>GP h) (λp=>X4 rfl p)) (λp g=>X2 p g))
   (y8 (F0.m (Y9.pt (B6 (n9 (i9 (pc b r (c6 (uv 1 rfl) c9 rfl) rfl) (λ_=>rfl))) (A2 (n9 (i9 (pc b r (c6 (uv 2 rfl) c9 rfl) rfl) (λ_=>rfl))))))) (J9 rfl (l4 x6 rfl)) p4)
   (l4 (A8 (pc d r (c6 (uv 3 rfl) c9 rfl) rfl) (A8 (pc c r (c6 (uv 4 rfl) c9 rfl) rfl) (D8 (GI (tG (uv 5 rfl) x6 (j3 _)) (D8 (tG (uv 5 rfl) x6 (j3 _))))))) rfl))) y
theorem rZ:j2 ["guards","ahead","thing"] ["guards","ahead","thing"] (e6 df):=by walk_at "s"
theorem sD (F:S6 K "load_fits" "load_fits" df f j) (b:uH P w K mg base h e) (a:iZ P w K mg base g d)
  (len:O2 N6 3) (i:dM N6 jR 3):w6 P w K mg base P9 5 f j ["guards","ahead","thing"] (bb K N6):=
 dU (cl:=[.bor,.bor,.bor]) F rZ rfl len (λl A outer o H E c=>(AK rfl (y8 (F0.m (Y9.pt (B6 (n9 (i9 (pc b c (c6 (uv 2 rfl) c9 rfl) rfl) (λ_=>rfl))) (A2 (cZ (C9 c) (C8 c (uv 2 rfl) a8) (pc a c (c6 (uv 0 rfl) c9 rfl) rfl) rfl))))) (J9 rfl (l4 x6 rfl)) p4)
   (l4 (A8 (jS (C9 c) (C8 c (uv 2 rfl) a8) (pc a c (c6 (uv 0 rfl) c9 rfl) rfl) rfl) (D8 (jS (C9 c) (C8 c (uv 2 rfl) a8) (pc a c (c6 (uv 1 rfl) c9 rfl) rfl) rfl))) rfl))) i
theorem S1:j2 ["thing","guards","loads","at","guard","load"] ["thing"] (e6 kQ):=by walk_at "s"
theorem yO (F:S6 K "looked" "looked" kQ f S) (u:hR P w K mg base C y) (v:gp P w K mg base G z) (x:kL P w K mg base I B) (l:mg "enumerate"=none) {r:Addr} {q:Addr} {o:FuncData} (d:DW "NoBoard" r q [.type "ValueError",.type "Exception",.type "BaseException",.type "object"] "ValueError.__new__" mg base) (i:w6 P w K mg base P9 1 q o ["self","word","number"] (Z8 r (Fo "NoBoard"))) (e:Binds K o ["self","word","number"] [])
  (len:∀ds Q W,U9 ds Q W->ds.length=1) (R:∀ds Q W,U9 ds Q W->vo W (EP Q) (i8 6 ds)):w6 P w K mg base (Ea P w) 7 f S ["thing"] (JV Fo K mg U9):=
 NX (cl:=[.bor,.bor,.bor,.bor,.bor,.bor]) F S1 rfl len (λW T A outer U H E J M=>(Mf rfl (y8 (F0.m (n9 (i9 (pc u J (c6 (uv 0 rfl) c9 rfl) rfl) (λ_=>rfl)))) (J9 rfl (hZ (j:=6) d i (J.mono (by decide)) e wT rfl wT rfl bJ M rfl (by rfl) (c6 p9 (c6 a8 c9 rfl) rfl) rfl)) p4)
   (vB (uv 0 rfl) rfl (cG (n:=2) (x4 (gn 1 S1.nd) (x4 (gn 2 S1.nd) W8)) (λ_ _ _ h=>gL h) (λp=>X4 rfl p)) (λp g=>X2 p g))
   (Q7 (eY.m (fM (uv 1 rfl) rfl (λO=>cq (by rfl) l O)) rfl) (cG (n:=2) (x4 (gn 3 S1.nd) (x4 (gn 4 S1.nd) W8)) (λ_ _ _ h=>gL h) (λp=>X4 rfl p))
    (J9 rfl (y8 (F0.m (n9 (i9 (pc v J (c6 (Af (uv 1 rfl) C0 (B9 (uv 3 rfl))) (c6 (uv 4 rfl) c9 rfl) rfl) rfl) (λ_=>rfl)))) (J9 rfl (hZ (j:=6) d i (J.mono (by decide)) e wT rfl wT rfl bJ M rfl (by rfl) (c6 p9 (c6 (uv 3 rfl) c9 rfl) rfl) rfl)) p4)) (λa b c=>J8 PassesOwn.leaving rfl a b c))
   (Q7 (eY.m (fM (uv 2 rfl) rfl (λO=>cq (by rfl) l O)) rfl) (cG (n:=2) (x4 (gn 3 S1.nd) (x4 (gn 5 S1.nd) W8)) (λ_ _ _ h=>gL h) (λp=>X4 rfl p))
    (J9 rfl (y8 (F0.m (n9 (i9 (pc x J (c6 (uv 1 rfl) (c6 (Af (uv 2 rfl) C0 (B9 (uv 3 rfl))) (c6 (uv 5 rfl) c9 rfl) rfl) rfl) rfl) (λ_=>rfl)))) (J9 rfl (hZ (j:=6) d i (J.mono (by decide)) e wT rfl wT rfl bJ M rfl (by rfl) (c6 p9 (c6 (uv 3 rfl) c9 rfl) rfl) rfl)) p4)) (λa b c=>J8 PassesOwn.leaving rfl a b c))
   (l4 x6 rfl))) R
theorem Cc:j2 ["_law_script","_law_k"] ["_law_script","_law_k"] (e6 mM):=by walk_at "s"
theorem zm (F:S6 K "_law_cell_at" "_law_cell_at" mM f d) (a:mg "len"=none)
  (len:O2 W9 2) (b:dM W9 vd 2):w6 P w K mg base P9 1 f d ["_law_script","_law_k"] (bb K W9):=
 dU (cl:=[.bor,.bor]) F Cc rfl len (λe A outer g H E c=>(AK rfl (y8 (F0.m (jM (uv 1 rfl) (e9 l8 C4 (by rfl) a ry (c6 (uv 0 rfl) c9 rfl)) (j3 _))) (J9 rfl (l4 (PU.w8 (C8 c (uv 0 rfl) (uv 1 rfl))) rfl)) p4)
   (l4 a8 rfl))) b
theorem Ay:j2 ["_law_script","_law_k","_law_cell"] ["_law_script","_law_k"] (e6 zR):=by walk_at "s"
theorem HI (F:S6 K "_law_feed" "_law_feed" zR f g) (a:wj P w K mg base c b)
  (len:O2 Z5 2) (d:dM Z5 GV 3):w6 P w K mg base P9 2 f g ["_law_script","_law_k"] (bb K Z5):=
 dU (cl:=[.bor,.bor,.bor]) F Ay rfl len (λh A outer i H E e=>(AK rfl (ss 2 Ay.nd (pc a e (c6 (uv 0 rfl) (c6 (uv 1 rfl) c9 rfl) rfl) rfl) rfl)
   (l4 (A3 (c7 (PU.w8 (uv 2 rfl)) (c7 (PU.w8 (uv 2 rfl)) (c7 (O0 a8 (uv 1 rfl)) i3 rfl) rfl) rfl) rfl) rfl))) d
theorem lp:j2 ["_law_feed_here","_law_many","_law_digit","_law_number_here"] ["_law_feed_here","_law_many"] (e6 BJ):=by walk_at "s"
theorem IT (F:S6 K "_law_take" "_law_take" BJ f d)
  (len:qQ u5 2) (c:GO u5 GU 4):w6 P w K mg base P9 1 f d ["_law_feed_here","_law_many"] (vg K u5):=
 GS (cl:=[.bor,.bor,.bor]) F lp rfl len (λe A outer g H E a=>(Mf rfl (oo 0 (pv 0) rfl (PU.m (l6 (C8 a (uv 0 rfl) a8) a8)) (PU.n a8 rfl) (λp b=>X2 p (gi (pv 0) b set_list)))
   (y8 (F0.m (Y9.pt (lA (Ll (C8 a (uv 0 rfl) a8) (T6 a8 a8) (j3 _)) (fX (ij (C8 a (uv 0 rfl) a8) a8 (j3 _)))))) (DA rfl (ss 2 lp.nd (V0 (C8 a (uv 0 rfl) a8) (uv 1 rfl)) rfl)
   (oo 0 (pv 0) rfl (PU.m (fB (C8 a (uv 0 rfl) a8) (uv 1 rfl))) (PU.n a8 rfl) (λp b=>X2 p (gi (pv 0) b set_list)))
   (l4 (PU.w8 (uv 2 rfl)) rfl)) p4)
   (ss 3 lp.nd (l6 (O0 (V0 (C8 a (uv 0 rfl) a8) a8) a8) (O0 a8 (C8 a (uv 0 rfl) a8))) rfl)
   (ss 3 lp.nd (V0 (l6 (l6 (uv 3 rfl) (O0 (O0 (C8 a (uv 0 rfl) a8) (C8 a (uv 0 rfl) a8)) a8)) a8) a8) rfl)
   (l4 (V0 (fB (V0 (O0 (uv 3 rfl) (l6 (V0 (uv 3 rfl) a8) a8)) a8) a8) (uv 1 rfl)) rfl))) c
theorem ur:j2 ["_law_feed_here","_law_way"] ["_law_feed_here"] (e6 ue):=by walk_at "s"
theorem Gf (F:S6 K "_law_begin" "_law_begin" ue f g) (a:Y6 P w K mg base d c)
  (len:qQ Q1 1) (e:GO Q1 Az 2):w6 P w K mg base P9 2 f g ["_law_feed_here"] (vg K Q1):=
 GS (cl:=[.bor]) F ur rfl len (λh A outer j H E b=>(zZ rfl (y9 (i:=1) ur.nd rfl (Or.inl rfl) (pl 0 a b (i7 (PU.n a8 rfl) j6 rfl)) rfl)
   (y8 (F0.m (jM (uv 1 rfl) a8 (j3 _))) (J9 rfl (Y3 (D0 (PU.n a8 rfl) (PM.n (fF (PU.n (uv 1 rfl) rfl) (PM.n (pl 0 a b (i7 (PU.n a8 rfl) j6 rfl)))))))) p4)
   (y8 (F0.m (T7 b (uv 1 rfl) a8 (j3 _))) (J9 rfl (Y3 (D0 (PU.n a8 rfl) (PM.n (pl 0 a b (i7 (PU.n (T6 a8 a8) rfl) j6 rfl)))))) p4)
   (Y3 (D0 (PM.n (fF (PM.n (D0 (PU.n a8 rfl) (PM.n (pl 0 a b (i7 (PU.n (T6 a8 a8) rfl) j6 rfl))))) (PU.n (T6 a8 a8) rfl))) (PM.n (pl 0 a b (i7 (PU.n (T6 a8 a8) rfl) j6 rfl))))))) e
theorem nX:j2 ["_law_feed_here","_law_way"] ["_law_feed_here"] (e6 mB):=by walk_at "s"
theorem Bb (F:S6 K "_law_number" "_law_number" mB f l) (a:Y6 P w K mg base h e) (b:mh P w K mg base g c)
  (len:qQ O1 1) (j:GO O1 vP 2):w6 P w K mg base P9 3 f l ["_law_feed_here"] (vg K O1):=
 GS (cl:=[.bor]) F nX rfl len (λo A outer p H E d=>(zZ rfl (y9 (i:=1) nX.nd rfl (Or.inl rfl) (pl 0 a d (i7 (PU.n a8 rfl) j6 rfl)) rfl)
   (y8 (F0.m (jM (uv 1 rfl) a8 (j3 _))) (J9 rfl (Y3 (pl 0 a d (i7 (PU.n a8 rfl) j6 rfl)))) p4)
   (y8 (F0.m (jM (uv 1 rfl) a8 (j3 _))) (J9 rfl (Y3 (pl 0 b d j6))) p4)
   (Y3 (CV (PU.n (Q4 (T6 a8 a8) a8) rfl) (PM.n (pl 0 a d (i7 (PU.n a8 rfl) j6 rfl))))))) j
abbrev fE:QF:=["_law_feed_here","_law_many","_law_letters","_law_first","_law_names_here","_law_size","_law_base","_law_at","_law_other","_law_longer","_law_k","_law_some","_law_word"]
theorem G8:j2 fE ["_law_feed_here","_law_many"] (e6 dW):=by walk_at "s"
theorem zb:(["_law_k","_law_letters","_law_first"]:QF).Nodup:=by decide +kernel
theorem Aa:(["_law_k","_law_feed_here"]:QF).Nodup:=by decide +kernel
theorem Dj:(["_law_one","_law_letters"]:QF).Nodup:=by decide +kernel
theorem Ee (F:S6 K "_law_names" "_law_names" dW f x) (d:Y6 P w K mg base u q) (o:mg "int"=none) (j:mg "list"=none) (e:mg "range"=none)
  (len:qQ bQ 2) (v:GO bQ yK 13):w6 P w K mg base P9 2 f x ["_law_feed_here","_law_many"] (vg K bQ):=
 GS (cl:=[.bor,.bor,.bor,.own,.bor,.bor,.bor,.bor,.bor,.bor,.own,.bor]) F G8 rfl len (λy A outer z H E g=>(NK rfl (kq (i:=2) G8.nd rfl (Or.inr rfl) p9 rfl)
   (y9 (i:=3) G8.nd rfl (Or.inr rfl) (pl 0 d g (i7 (PU.n a8 rfl) j6 rfl)) rfl)
   (y8 (nD g (PM.n (pl 0 d g (i7 (PU.n a8 rfl) j6 rfl))) (PU.n a8 rfl) (j3 _)) (J9 rfl (uJ (i:=4) (XN:=fE) (N:=["_law_k","_law_letters","_law_first"]) (XS:=e6 dW) (cap:=[none,some 2,some 3]) G8.nd rfl rfl rfl (by decide +kernel) rfl rfl rfl rfl (P1 (by rfl) e (uv 1 rfl) rfl (λh=>D6 (by rfl) e h)) (λ_ _ _ _=>(gn 0 zb)) (λ_ _ _ _=>S2) (λ_ _ _ _=>(O0 (C8 g (uv 1 rfl) (V0 (l6 (uv 2 rfl) (uv 0 rfl)) a8)) (l6 a8 (fB (uv 0 rfl) a8)))))) (Mm rfl (y9 (i:=5) G8.nd rfl (Or.inl rfl) (D0 (PU.n a8 rfl) (PM.n (pl 0 d g (i7 (PU.n a8 rfl) j6 rfl)))) rfl)
   (Cd (i:=6) (XN:=fE) (N:=["_law_k","_law_feed_here"]) (XS:=e6 dW) (cap:=[none,some 0]) 1 0 G8.nd rfl rfl rfl rfl rfl rfl (by decide +kernel) rfl rfl rfl rfl (eY.m (P1 (by rfl) e (uv 5 rfl) rfl (λh=>D6 (by rfl) e h)) rfl) (λ_ _ _ _=>(gn 0 Aa)) (λ_ _ _ _=>vU) (λ_ _ _ _=>(pl 1 d g (i7 (PU.n a8 rfl) j6 rfl))))
   (y9 (i:=7) G8.nd rfl (Or.inl rfl) (pl 0 d g (i7 (PU.n (uv 5 rfl) rfl) j6 rfl)) rfl)
   (y9 (i:=8) G8.nd rfl (Or.inl rfl) (HG (PM.n (D0 (PU.n (l6 (uv 7 rfl) a8) rfl) (PM.n (pl 0 d g (i7 (PU.n (Q4 (uv 5 rfl) a8) rfl) j6 rfl))))) (PU.n (uv 5 rfl) rfl)) rfl)
   (y9 (i:=9) G8.nd rfl (Or.inl rfl) (fF (PM.n (pl 0 d g (i7 (PU.n a8 rfl) j6 rfl))) (PU.n (B3 yq Ja (by rfl) o Ph (c6 (AW (uv 5 rfl) a8 (j3 _)) c9 rfl)) rfl)) rfl)
   (ss 4 G8.nd (A3 i3 rfl) rfl)
   (Q7 (eY.m (P1 (by rfl) e (uv 1 rfl) rfl (λh=>D6 (by rfl) e h)) rfl) (gn 10 G8.nd)
    (zZ rfl (ss 11 G8.nd (B3 J0 dQ (by rfl) j A1 (c6 (uv 6 rfl) c9 rfl)) rfl)
   (oo 11 (pv 11) rfl (PU.m (V0 (l6 (C8 g (uv 6 rfl) (uv 7 rfl)) (uv 10 rfl)) a8)) (PU.n (uv 7 rfl) rfl) (λp l=>X2 p (gi (pv 11) l set_list)))
   (oo 11 (pv 11) rfl (PU.m (V0 (l6 (C8 g (uv 6 rfl) (uv 8 rfl)) (fB (uv 10 rfl) a8)) a8)) (PU.n (uv 8 rfl) rfl) (λp l=>X2 p (gi (pv 11) l set_list)))
   (eh (PM.n (R7 (r:=U7) 4 (pv 4) rfl (PU.m (l6 (Eu p9 (cK (XN:=fE) (N:=["_law_one","_law_letters"]) (XS:=e6 dW) (cap:=[none,some 2]) (by decide +kernel) rfl rfl rfl rfl (K4 (uv 11 rfl)) (λ_ _ _ _=>(gn 0 Dj)) (λ_ _ _ _=>S2) (λ_ _ _ _=>(PU.w8 (C8 g (uv 1 rfl) (uv 0 rfl))))) rfl (λpo h=>iw PySem.F.plainAttrs_str PySem.F.slot_str_join PySem.F.type_str_join FT po h)) (O0 (C8 g (uv 2 rfl) (uv 3 rfl)) (O0 (uv 9 rfl) (V0 (uv 10 rfl) a8))))) rfl (λh=>iw AC PySem.F.slot_list_append PySem.F.type_list_append N1 (pv 4) h))))) (λa b c=>J8 vr rfl a b c))))
   (y9 (i:=12) G8.nd rfl (Or.inl rfl) (PN.w8 (Q0 (C9 g) (PU.n (A3 (c7 p9 (c7 p9 (c7 p9 (c7 p9 (c7 p9 (c7 p9 (c7 p9 (c7 p9 (c7 p9 (c7 p9 (c7 p9 i3 rfl) rfl) rfl) rfl) rfl) rfl) rfl) rfl) rfl) rfl) rfl) rfl) rfl) (PM.n (pl 0 d g (i7 (PU.n a8 rfl) j6 rfl))) (λ_ _=>rfl))) rfl)
   (y8 (F0.m (Y9.pt (lA (V1 g (uv 12 rfl) p9 (j3 _)) (fX (cZ (C9 g) (uv 12 rfl) (uv 4 rfl) rfl))))) (J9 rfl (oo 4 (pv 4) rfl (PU.m (PU.w8 (uv 12 rfl))) (PM.n (pl 0 d g (i7 (PU.n (uv 1 rfl) rfl) j6 rfl))) (λp l=>X2 p (gi (pv 4) l set_list)))) p4)
   (mY 4 (pv 4) (by decide) rfl))) v
abbrev fL:QF:=["_law_feed_here","_law_many","_law_some","_law_times","_law_k"]
theorem X6:j2 fL ["_law_feed_here"] (e6 dH):=by walk_at "s"
theorem Cq:(["_law_one","_law_some"]:QF).Nodup:=by decide +kernel
theorem Cs:(["_law_one","_law_times"]:QF).Nodup:=by decide +kernel
theorem BK:(["_law_k","_law_some","_law_times","_law_many"]:QF).Nodup:=by decide +kernel
theorem DL (F:S6 K "_law_steps" "_law_steps" dH f x) (h:Y6 P w K mg base u p) (e:mh P w K mg base q o) (d:mg "range"=none) (j:mg "tuple"=none)
  (len:qQ bK 1) (v:GO bK BP 5):w6 P w K mg base P9 3 f x ["_law_feed_here"] (vg K bK):=
 GS (cl:=[.bor,.own,.own,.bor]) F X6 rfl len (λy A outer z H E g=>(Mm rfl (y9 (i:=1) X6.nd rfl (Or.inr rfl) (D0 (PU.n a8 rfl) (PM.n (pl 0 h g (i7 (PU.n a8 rfl) j6 rfl)))) rfl)
   (y9 (i:=2) X6.nd rfl (Or.inr rfl) (sN (A7 (pl 0 e g j6) aA rfl) rfl) rfl)
   (y9 (i:=3) X6.nd rfl (Or.inr rfl) (sN (A7 (pl 0 e g j6) aA rfl) rfl) rfl)
   (Q7 (eY.m (P1 (by rfl) d (Q4 (uv 1 rfl) a8) rfl (λl=>D6 (by rfl) d l)) rfl) (gn 4 X6.nd)
    (AK rfl (eh (PM.n (R7 (r:=U7) 2 (pv 2) rfl (D0 (PM.n (PU.m (PU.w8 (C8 g (uv 2 rfl) (au a8))))) (PM.n (pl 0 e g j6))) rfl (λl=>iw AC PySem.F.slot_list_append PySem.F.type_list_append N1 (pv 2) l))))
   (eh (PM.n (R7 (r:=U7) 3 (pv 3) rfl (D0 (PM.n (PU.m (PU.w8 (C8 g (uv 3 rfl) (au a8))))) (PM.n (pl 0 e g j6))) rfl (λl=>iw AC PySem.F.slot_list_append PySem.F.type_list_append N1 (pv 3) l))))) (λa b c=>J8 vr rfl a b c))
   (y8 (nD g (PM.n (pl 0 h g (i7 (PU.n a8 rfl) j6 rfl))) (PU.n a8 rfl) (j3 _)) (J9 rfl (kq (i:=2) X6.nd rfl (Or.inr rfl) (cK (XN:=fL) (N:=["_law_one","_law_some"]) (XS:=e6 dH) (cap:=[none,some 2]) (by decide +kernel) rfl rfl rfl rfl (K4 (uv 2 rfl)) (λ_ _ _ _=>(gn 0 Cq)) (λ_ _ _ _=>S2) (λ_ _ _ _=>(l6 (Q4 (Q4 (T6 a8 a8) a8) (C8 g (uv 1 rfl) (au a8))) (uv 0 rfl)))) rfl)) p4)
   (y8 (nD g (PM.n (pl 0 h g (i7 (PU.n a8 rfl) j6 rfl))) (PU.n a8 rfl) (j3 _)) (J9 rfl (kq (i:=3) X6.nd rfl (Or.inr rfl) (cK (XN:=fL) (N:=["_law_one","_law_times"]) (XS:=e6 dH) (cap:=[none,some 3]) (by decide +kernel) rfl rfl rfl rfl (K4 (uv 3 rfl)) (λ_ _ _ _=>(gn 0 Cs)) (λ_ _ _ _=>S2) (λ_ _ _ _=>(l6 (Q4 (Q4 (T6 a8 a8) a8) (C8 g (uv 1 rfl) (au a8))) (uv 0 rfl)))) rfl)) p4)
   (l4 (B3 D7 aX (by rfl) j qy (c6 (cK (XN:=fL) (N:=["_law_k","_law_some","_law_times","_law_many"]) (XS:=e6 dH) (cap:=[none,some 2,some 3,some 1]) (by decide +kernel) rfl rfl rfl rfl (P1 (by rfl) d (uv 1 rfl) rfl (λl=>D6 (by rfl) d l)) (λ_ _ _ _=>(gn 0 BK)) (λ_ _ _ _=>S2) (λ_ _ _ _=>(j7 (c7 (PU.w8 (C8 g (uv 1 rfl) (uv 0 rfl))) (c7 (PU.w8 (C8 g (uv 2 rfl) (Q4 (Q4 (uv 3 rfl) a8) (uv 0 rfl)))) i3 rfl) rfl) rfl))) c9 rfl)) rfl))) v
abbrev oY:QF:=["_law_script","_law_names_here","_law_many","_law_guards_here","_law_depths","_law_k","_law_feed_here","_law_some","_law_way","_law_under"]
theorem M5:j2 oY ["_law_script","_law_names_here","_law_many"] (e6 fR):=by walk_at "s"
theorem xI:(["_law_guard","_law_depths"]:QF).Nodup:=by decide +kernel
theorem Cr (F:S6 K "_law_guards" "_law_guards" fR f I) (o:qj P w K mg base C x) (h:Y6 P w K mg base B v) (e:lQ P w K mg base u p) (j:Be P w K mg base y q) (l:mg "len"=none) (g:mg "range"=none)
  (len:O2 Y0 3) (G:dM Y0 uP 10):w6 P w K mg base P9 4 f I ["_law_script","_law_names_here","_law_many"] (bb K Y0):=
 dU (cl:=[.bor,.bor,.bor,.own,.own,.bor,.own,.bor,.bor,.bor]) F M5 rfl len (λJ A outer M H E d=>(zZ rfl (ss 3 M5.nd (A3 i3 rfl) rfl)
   (kq (i:=4) M5.nd rfl (Or.inr rfl) fD rfl)
   (Q7 (eY.m (P1 (by rfl) g (uv 2 rfl) rfl (λz=>D6 (by rfl) g z)) rfl) (gn 5 M5.nd)
    (Mm rfl (ss 6 M5.nd (pc o d (c6 (uv 0 rfl) (c6 (l6 a8 (uv 5 rfl)) c9 rfl) rfl) rfl) rfl)
   (uJ (i:=7) (XN:=oY) (N:=["_law_guard","_law_depths"]) (XS:=e6 fR) (cap:=[none,some 4]) M5.nd rfl rfl rfl (by decide +kernel) rfl rfl rfl rfl (K4 (uv 3 rfl)) (λ_ _ _ _=>(gn 0 xI)) (λ_ _ _ _=>(JE (jM (C8 d (uv 1 rfl) (C8 d (uv 0 rfl) a8)) a8 (j3 _)))) (λ_ _ _ _=>(PU.w8 (C8 d (uv 0 rfl) a8))))
   (y9 (i:=8) M5.nd rfl (Or.inl rfl) (pl 6 h d (i7 (PU.n a8 rfl) j6 rfl)) rfl)
   (ss 9 M5.nd V2 rfl)
   (y8 (F0.m (Y9.pt (lA (ij (uv 8 rfl) a8 (j3 _)) (fX (ij (e9 l8 C4 (by rfl) l ry (c6 (uv 7 rfl) c9 rfl)) a8 (j3 _)))))) (J9 rfl (y9 (i:=9) M5.nd rfl (Or.inl rfl) (PN.w8 (Q0 (C9 d) (PM.n (sN (A7 (PU.m (PU.w8 (C8 d (uv 7 rfl) (au a8)))) (A7 (PU.m (PU.w8 (C8 d (uv 7 rfl) (au a8)))) (A7 (PN.w8 (Q0 (C9 d) (PU.n (uv 7 rfl) rfl) (PM.n (pl 6 h d (i7 (PU.n (e9 l8 C4 (by rfl) l ry (c6 (uv 7 rfl) c9 rfl)) rfl) j6 rfl))) (λ_ _=>rfl))) aA rfl) rfl) rfl) rfl)) (PU.n (Q4 (uv 8 rfl) a8) rfl) (λ_ _=>rfl))) rfl)) p4)
   (tm (C9 d) 4 (pv 4) rfl (PU.n (l6 a8 (iA (C9 d) (uv 4 rfl) (uv 9 rfl) a8 ⟨rfl,rfl,rfl,rfl⟩)) rfl) (PU.n (C8 d (uv 1 rfl) (uv 5 rfl)) rfl))
   (eh (PM.n (R7 (r:=U7) 3 (pv 3) rfl (kS (A7 (PU.m (PU.w8 (C8 d (uv 1 rfl) (uv 5 rfl)))) (A7 (PU.m (PU.w8 (uv 9 rfl))) (A7 (pl 6 j d j6) (A7 (pl 6 e d j6) (A7 (pl 6 e d j6) aA rfl) rfl) rfl) rfl) rfl) rfl) rfl (λz=>iw AC PySem.F.slot_list_append PySem.F.type_list_append N1 (pv 3) z))))) (λa b c=>J8 vr rfl a b c))
   (mY 3 (pv 3) (by decide) rfl))) G
abbrev vG:QF:=["_law_script","_law_names_here","_law_guards_here","_law_loads_here","_law_k","_law_feed_here","_law_at","_law_course"]
theorem aN:j2 vG ["_law_script","_law_names_here","_law_guards_here"] (e6 lO):=by walk_at "s"
theorem CH:(["_law_j","_law_feed_here"]:QF).Nodup:=by decide +kernel
theorem EU (F:S6 K "_law_loads" "_law_loads" lO f J) (p:qj P w K mg base G z) (g:Y6 P w K mg base C y) (l:mh P w K mg base B v) (e:lQ P w K mg base x q) (o:mg "len"=none) (d:mg "range"=none) (j:mg "tuple"=none)
  (len:O2 bz 3) (I:dM bz BV 8):w6 P w K mg base P9 4 f J ["_law_script","_law_names_here","_law_guards_here"] (bb K bz):=
 dU (cl:=[.bor,.bor,.bor,.own,.bor,.own,.bor,.bor]) F aN rfl len (λM A outer O H E h=>(DA rfl (ss 3 aN.nd (A3 i3 rfl) rfl)
   (Q7 (eY.m (P1 (by rfl) d (e9 l8 C4 (by rfl) o ry (c6 (uv 1 rfl) c9 rfl)) rfl (λu=>D6 (by rfl) d u)) rfl) (gn 4 aN.nd)
    (zZ rfl (kq (i:=5) aN.nd rfl (Or.inr rfl) (pc p h (c6 (uv 0 rfl) (c6 (l6 a8 (uv 4 rfl)) c9 rfl) rfl) rfl) rfl)
   (y9 (i:=6) aN.nd rfl (Or.inl rfl) (PN.w8 (Q0 (C9 h) (Q0 (C9 h) (PU.n (uv 2 rfl) rfl) (PM.n (pl 5 g h (i7 (PU.n (e9 l8 C4 (by rfl) o ry (c6 (uv 2 rfl) c9 rfl)) rfl) j6 rfl))) (λ_ _=>rfl)) (PU.n a8 rfl) (λ_ _=>rfl))) rfl)
   (y9 (i:=7) aN.nd rfl (Or.inl rfl) (xV D7 aX (by rfl) j qy (i7 (PM.n (KH (XN:=vG) (N:=["_law_j","_law_feed_here"]) (XS:=e6 lO) (cap:=[none,some 5]) 1 5 rfl rfl rfl (by decide +kernel) rfl rfl rfl rfl (jJ (by rfl) d (PM.n (pl 5 g h (i7 (PU.n a8 rfl) j6 rfl))) rfl (λu=>D6 (by rfl) d u)) (λ_ _ _ _=>(gn 0 CH)) (λ_ _ _ _=>vU) (λ_ _ _ _=>(kS (A7 (pl 1 l h j6) (A7 (pl 1 e h j6) aA rfl) rfl) rfl)))) j6 rfl)) rfl)
   (eh (PM.n (R7 (r:=U7) 3 (pv 3) rfl (kS (A7 (PU.m (PU.w8 (C8 h (uv 1 rfl) (uv 4 rfl)))) (A7 (PU.m (PU.w8 (uv 6 rfl))) (A7 (PU.m (PU.w8 (uv 7 rfl))) (A7 (pl 5 e h j6) (A7 (Iq h (PM.n (pl 5 g h (i7 (PU.n a8 rfl) j6 rfl))) (PU.n a8 rfl) (j3 _)) aA rfl) rfl) rfl) rfl) rfl) rfl) rfl (λu=>iw AC PySem.F.slot_list_append PySem.F.type_list_append N1 (pv 3) u))))) (λa b c=>J8 vr rfl a b c))
   (mY 3 (pv 3) (by decide) rfl))) I
theorem cH:j2 ["_law_script","_law_feed_here","_law_many","_law_names_here","_law_guards_here"] ["_law_script"] (e6 rg):=by walk_at "s"
theorem En (F:S6 K "_law_board" "_law_board" rg f B) (e:qj P w K mg base y r) (a:Y6 P w K mg base x q) (g:Cf P w K mg base u l) (d:vR P w K mg base p j) (h:AO P w K mg base v o) (b:mg "tuple"=none)
  (len:O2 bB 1) (z:dM bB AU 5):w6 P w K mg base P9 5 f B ["_law_script"] (bb K bB):=
 dU (cl:=[.bor,.own,.bor,.bor,.bor]) F cH rfl len (λC A outer G H E c=>(Mf rfl (ss 1 cH.nd (pc e c (c6 (uv 0 rfl) (c6 a8 c9 rfl) rfl) rfl) rfl)
   (y9 (i:=2) cH.nd rfl (Or.inl rfl) (D0 (PU.n a8 rfl) (PM.n (pl 1 a c (i7 (Q0 (C9 c) (PU.n (A3 (c7 a8 (c7 a8 i3 rfl) rfl) rfl) rfl) (PM.n (pl 1 a c (i7 (PU.n a8 rfl) j6 rfl))) (λ_ _=>rfl)) j6 rfl)))) rfl)
   (y9 (i:=3) cH.nd rfl (Or.inl rfl) (yL g (c.mono (by decide)) (by rfl) (PU.m (pc e c (c6 (uv 0 rfl) (c6 a8 c9 rfl) rfl) rfl)) (A7 (D0 (PU.n (uv 2 rfl) rfl) (PM.n (pl 1 a c (i7 (Q0 (C9 c) (PU.n (A3 (c7 a8 (c7 a8 i3 rfl) rfl) rfl) rfl) (PM.n (pl 1 a c (i7 (PU.n a8 rfl) j6 rfl))) (λ_ _=>rfl)) j6 rfl)))) aA rfl) rfl) rfl)
   (ss 4 cH.nd (pc d c (c6 (uv 0 rfl) (c6 (uv 3 rfl) (c6 (uv 2 rfl) c9 rfl) rfl) rfl) rfl) rfl)
   (l4 (j7 (c7 (B3 D7 aX (by rfl) b qy (c6 (uv 4 rfl) c9 rfl)) (c7 (B3 D7 aX (by rfl) b qy (c6 (pc h c (c6 (uv 0 rfl) (c6 (J7 (uv 3 rfl) (B9 (uv 2 rfl)) C0) (c6 (uv 4 rfl) c9 rfl) rfl) rfl) rfl) c9 rfl)) i3 rfl) rfl) rfl) rfl))) z
theorem wK:j2 ["_law_thing","_law_low"] ["_law_thing","_law_low"] (e6 fZ):=by walk_at "s"
theorem xx (F:S6 K "_law_is_number" "_law_is_number" fZ f e) (b:mg "bool"=none) (c:mg "int"=none) (a:mg "isinstance"=none)
  (len:O2 G2 2) (d:dM G2 oF 2):w6 P w K mg base P9 1 f e ["_law_thing","_law_low"] (bb K G2):=
 dU (cl:=[.bor,.bor]) F wK rfl len (λg A outer h H E i=>(J9 rfl (l4 (A8 (e9 l3 J5 (by rfl) a og (c6 (uv 0 rfl) (c6 (J4 (x5 (v:=.ty "int") rfl c Ph rfl)) c9 rfl) rfl)) (A8 (sU (e9 l3 J5 (by rfl) a og (c6 (uv 0 rfl) (c6 (J4 (x5 (v:=.ty "bool") rfl b OZ rfl)) c9 rfl) rfl))) (D8 (aK G5 wd P5 eR (uv 1 rfl) (uv 0 rfl) (T6 a8 a8) (by with_unfolding_all rfl))))) rfl))) d
theorem EX:j2 ["_law_thing"] ["_law_thing"] (e6 mE):=by walk_at "s"
theorem Au:(["_law_sign"]:QF).Nodup:=by decide +kernel
theorem FG (F:S6 K "_law_is_name" "_law_is_name" mE f g) (d:mg "all"=none) (a:mg "isinstance"=none) (c:mg "len"=none) (b:mg "str"=none)
  (len:O2 X8 1) (e:dM X8 zU 1):w6 P w K mg base P9 1 f g ["_law_thing"] (bb K X8):=
 dU (cl:=[.bor]) F EX rfl len (λh A outer i H E j=>(J9 rfl (l4 (A8 (e9 l3 J5 (by rfl) a og (c6 (uv 0 rfl) (c6 (J4 (x5 (v:=.ty "str") rfl b PyProof.Rows.boot_str rfl)) c9 rfl) rfl)) (A8 (aK G5 G5 P5 P5 a8 (e9 l8 C4 (by rfl) c ry (c6 (uv 0 rfl) c9 rfl)) a8 (by with_unfolding_all rfl)) (D8 (e9 (pf rfl) GY (by rfl) d PyProof.Rows.boot_all (c6 (cK (XN:=["_law_thing"]) (N:=["_law_sign"]) (XS:=e6 mE) (cap:=[none]) (by decide +kernel) rfl rfl rfl rfl (K4 (uv 0 rfl)) (λ_ _ _ _=>(gn 0 Au)) (λ_ _ _ _=>S2) (λ_ _ _ _=>(aK G5 G5 P5 P5 p9 (uv 0 rfl) p9 (by with_unfolding_all rfl)))) c9 rfl))))) rfl))) e
theorem pM:j2 ["_law_thing","_law_most","_law_low","_law_pair"] ["_law_thing","_law_most","_law_low"] (e6 kX):=by walk_at "s"
theorem zS (F:S6 K "_law_are_pairs" "_law_are_pairs" kX f p) (e:gH P w K mg base j i) (d:mg "isinstance"=none) (h:mg "len"=none) (g:mg "tuple"=none)
  (len:O2 U3 3) (o:dM U3 uA 4):w6 P w K mg base P9 2 f p ["_law_thing","_law_most","_law_low"] (bb K U3):=
 dU (cl:=[.bor,.bor,.bor,.bor]) F pM rfl len (λq A outer r H E l=>(DA rfl (y8 (F0.m (Y9.pt (B6 (n9 (i9 (e9 l3 J5 (by rfl) d og (c6 (uv 0 rfl) (c6 (J4 (x5 (v:=.ty "tuple") rfl g qy rfl)) c9 rfl) rfl)) (λ_=>rfl))) (A2 (ij (e9 l8 C4 (by rfl) h ry (c6 (uv 0 rfl) c9 rfl)) (uv 1 rfl) (j3 _)))))) (J9 rfl (l4 x6 rfl)) p4)
   (Q7 (eY.m (K4 (uv 0 rfl)) rfl) (gn 3 pM.nd)
    (AK rfl (y8 (F0.m (Y9.pt (B6 (n9 (i9 (e9 l3 J5 (by rfl) d og (c6 (uv 3 rfl) (c6 (J4 (x5 (v:=.ty "tuple") rfl g qy rfl)) c9 rfl) rfl)) (λ_=>rfl))) (A2 (V1 l (e9 l8 C4 (by rfl) h ry (c6 (uv 3 rfl) c9 rfl)) a8 (j3 _)))))) (J9 rfl (l4 x6 rfl)) p4)
   (y8 (F0.m (Y9.pt (B6 (n9 (i9 (pc e l (c6 (C8 l (uv 3 rfl) a8) (c6 a8 c9 rfl) rfl) rfl) (λ_=>rfl))) (A2 (n9 (i9 (pc e l (c6 (C8 l (uv 3 rfl) a8) (c6 (uv 2 rfl) c9 rfl) rfl) rfl) (λ_=>rfl))))))) (J9 rfl (l4 x6 rfl)) p4)) (λa b c=>J8 vr rfl a b c))
   (l4 x6 rfl))) o
theorem Ck:j2 ["_law_thing"] ["_law_thing"] (e6 fP):=by walk_at "s"
theorem xX:(["_law_k","_law_thing"]:QF).Nodup:=by decide +kernel
theorem zN (F:S6 K "_law_is_curve" "_law_is_curve" fP f l) (b:mZ P w K mg base h e) (g:mg "all"=none) (d:mg "len"=none) (a:mg "range"=none)
  (len:O2 X5 1) (i:dM X5 vQ 1):w6 P w K mg base P9 3 f l ["_law_thing"] (bb K X5):=
 dU (cl:=[.bor]) F Ck rfl len (λo A outer p H E c=>(AK rfl (y8 (F0.m (Y9.pt (B6 (n9 (i9 (pc b c (c6 (uv 0 rfl) (c6 a8 (c6 a8 c9 rfl) rfl) rfl) rfl) (λ_=>rfl))) (A2 (T7 c (e9 l8 C4 (by rfl) d ry (c6 (uv 0 rfl) c9 rfl)) a8 (j3 _)))))) (J9 rfl (l4 x6 rfl)) p4)
   (l4 (e9 (pf rfl) GY (by rfl) g PyProof.Rows.boot_all (c6 (cK (XN:=["_law_thing"]) (N:=["_law_k","_law_thing"]) (XS:=e6 fP) (cap:=[none,some 0]) (by decide +kernel) rfl rfl rfl rfl (P1 (by rfl) a (Q4 (e9 l8 C4 (by rfl) d ry (c6 (uv 0 rfl) c9 rfl)) a8) rfl (λj=>D6 (by rfl) a j)) (λ_ _ _ _=>(gn 0 xX)) (λ_ _ _ _=>S2) (λ_ _ _ _=>(A8 (AW (C8 c (C8 c (uv 1 rfl) (uv 0 rfl)) a8) (C8 c (C8 c (uv 1 rfl) (l6 (uv 0 rfl) a8)) a8) (j3 _)) (D8 (Hg (C8 c (C8 c (uv 1 rfl) (uv 0 rfl)) a8) (C8 c (C8 c (uv 1 rfl) (l6 (uv 0 rfl) a8)) a8) (j3 _)))))) c9 rfl)) rfl))) i
theorem gc:j2 ["_law_thing","_law_word","_law_under"] ["_law_thing","_law_word"] (e6 dS):=by walk_at "s"
theorem tB (F:S6 K "_law_row_right" "_law_row_right" dS f B) (b:gH P w K mg base p j) (d:zw P w K mg base y r) (e:mZ P w K mg base u l) (g:vC P w K mg base x o) (i:mg "bool"=none) (a:mg "isinstance"=none) (q:mg "len"=none) (h:mg "tuple"=none)
  (len:O2 L5 2) (z:dM L5 kH 3):w6 P w K mg base P9 4 f B ["_law_thing","_law_word"] (bb K L5):=
 dU (cl:=[.bor,.bor,.bor]) F gc rfl len (λC A outer G H E c=>(zZ rfl (y8 (F0.m (Y9.pt (B6 (n9 (i9 (e9 l3 J5 (by rfl) a og (c6 (uv 0 rfl) (c6 (J4 (x5 (v:=.ty "tuple") rfl h qy rfl)) c9 rfl) rfl)) (λ_=>rfl))) (B6 (V1 c (e9 l8 C4 (by rfl) q ry (c6 (uv 0 rfl) c9 rfl)) a8 (j3 _)) (A2 (n9 (i9 (pc d c (c6 (C8 c (uv 0 rfl) a8) c9 rfl) rfl) (λ_=>rfl)))))))) (J9 rfl (l4 x6 rfl)) p4)
   (y8 (F0.m (T7 c (uv 1 rfl) p9 (j3 _))) (AK rfl (ss 2 gc.nd (GI (tG (C8 c (uv 0 rfl) a8) V2 (j3 _)) (D8 (pc d c (c6 (C8 c (uv 0 rfl) a8) c9 rfl) rfl))) rfl)
   (l4 (A8 (uv 2 rfl) (A8 (pc g c (c6 (C8 c (uv 0 rfl) a8) c9 rfl) rfl) (A8 (pc b c (c6 (C8 c (uv 0 rfl) a8) (c6 a8 c9 rfl) rfl) rfl) (D8 (pc b c (c6 (C8 c (uv 0 rfl) a8) (c6 a8 c9 rfl) rfl) rfl))))) rfl)) p4)
   (y8 (F0.m (Y9.pt (B6 (n9 (i9 (pc d c (c6 (C8 c (uv 0 rfl) a8) c9 rfl) rfl) (λ_=>rfl))) (A2 (n9 (i9 (pc e c (c6 (C8 c (uv 0 rfl) a8) (c6 a8 (c6 a8 c9 rfl) rfl) rfl) rfl) (λ_=>rfl))))))) (J9 rfl (l4 x6 rfl)) p4)
   (l4 (A8 (pc b c (c6 (C8 c (uv 0 rfl) a8) (c6 a8 c9 rfl) rfl) rfl) (D8 (e9 l3 J5 (by rfl) a og (c6 (C8 c (uv 0 rfl) a8) (c6 (J4 (x5 (v:=.ty "bool") rfl i OZ rfl)) c9 rfl) rfl)))) rfl))) z
theorem bt:j2 ["_law_thing","_law_deep","_law_number_here","_law_guard","_law_seen","_law_load"] ["_law_thing"] (e6 Al):=by walk_at "s"
theorem Io (F:S6 K "_law_due" "_law_due" Al f y) (i:jO P w K mg base r o) (q:mg "dict"=none) (e:mg "enumerate"=none) (d:mg "isinstance"=none) (l:mg "len"=none) (j:mg "tuple"=none)
  (len:O2 gU 1) (x:dM gU GA 6):w6 P w K mg base P9 5 f y ["_law_thing"] (bb K gU):=
 dU (cl:=[.bor,.own,.bor,.bor,.own,.bor]) F bt rfl len (λz A outer B H E g=>(Mm rfl (y8 (F0.m (Y9.pt (B6 (n9 (i9 (e9 l3 J5 (by rfl) d og (c6 (uv 0 rfl) (c6 (J4 (x5 (v:=.ty "tuple") rfl j qy rfl)) c9 rfl) rfl)) (λ_=>rfl))) (B6 (V1 g (e9 l8 C4 (by rfl) l ry (c6 (uv 0 rfl) c9 rfl)) a8 (j3 _)) (A2 (n9 (i9 (e9 l3 J5 (by rfl) d og (c6 (C8 g (uv 0 rfl) a8) (c6 (J4 (x5 (v:=.ty "tuple") rfl j qy rfl)) c9 rfl) rfl)) (λ_=>rfl)))))))) (J9 rfl (l4 (j7 (c7 p9 (c7 a8 i3 rfl) rfl) rfl) rfl)) p4)
   (y8 (F0.m (Y9.pt (B6 (n9 (i9 (e9 l3 J5 (by rfl) d og (c6 (C8 g (uv 0 rfl) a8) (c6 (J4 (x5 (v:=.ty "tuple") rfl j qy rfl)) c9 rfl) rfl)) (λ_=>rfl))) (B6 (n9 (cw G5 G5 P5 P5 a8 (e9 l8 C4 (by rfl) l ry (c6 (C8 g (uv 0 rfl) a8) c9 rfl)) a8 (by with_unfolding_all rfl))) (A2 (ij (e9 l8 C4 (by rfl) l ry (c6 (C8 g (uv 0 rfl) a8) c9 rfl)) a8 (j3 _))))))) (J9 rfl (l4 (j7 (c7 p9 (c7 a8 i3 rfl) rfl) rfl) rfl)) p4)
   (ss 1 bt.nd fD rfl)
   (Q7 (eY.m (fM (C8 g (uv 0 rfl) a8) rfl (λu=>cq (by rfl) e u)) rfl) (cG (n:=2) (x4 (gn 2 bt.nd) (x4 (gn 3 bt.nd) W8)) (λ_ _ _ h=>gL h) (λp=>X4 rfl p))
    (DA rfl (y8 (F0.m (Y9.pt (B6 (n9 (i9 (pc i g (c6 (uv 3 rfl) (c6 p9 c9 rfl) rfl) rfl) (λ_=>rfl))) (A2 (rF (C9 g) (C8 g (uv 3 rfl) a8) (uv 1 rfl) rfl))))) (J9 rfl (l4 (j7 (c7 p9 (c7 (PU.w8 (uv 2 rfl)) i3 rfl) rfl) rfl) rfl)) p4)
   (y8 (F0.m (Y9.pt (lA (pY (C8 g (uv 3 rfl) a8) V2 (j3 _)) (fX (ij (iA (C9 g) (uv 1 rfl) (C8 g (uv 3 rfl) a8) a8 ⟨rfl,rfl,rfl,rfl⟩) a8 (j3 _)))))) (J9 rfl (l4 (j7 (c7 p9 (c7 (PU.w8 (uv 2 rfl)) i3 rfl) rfl) rfl) rfl)) p4)
   (tm (C9 g) 1 (pv 1) rfl (PU.n (l6 a8 (iA (C9 g) (uv 1 rfl) (C8 g (uv 3 rfl) a8) a8 ⟨rfl,rfl,rfl,rfl⟩)) rfl) (PU.n (C8 g (uv 3 rfl) a8) rfl))) (λa b c=>J8 vr rfl a b c))
   (ss 4 bt.nd (B3 (tS rfl) Fs (by rfl) q PyProof.Rows.boot_dict (c6 (uv 1 rfl) c9 rfl)) rfl)
   (Q7 (eY.m (fM (C8 g (uv 0 rfl) a8) rfl (λu=>cq (by rfl) e u)) rfl) (cG (n:=2) (x4 (gn 2 bt.nd) (x4 (gn 5 bt.nd) W8)) (λ_ _ _ h=>gL h) (λp=>X4 rfl p))
    (AK rfl (y8 (F0.m (Y9.pt (B6 (n9 (i9 (pc i g (c6 (uv 5 rfl) (c6 p9 c9 rfl) rfl) rfl) (λ_=>rfl))) (B6 (rF (C9 g) (C8 g (uv 5 rfl) a8) (uv 4 rfl) rfl) (A2 (cZ (C9 g) (C8 g (uv 5 rfl) a8) (uv 1 rfl) rfl)))))) (J9 rfl (l4 (j7 (c7 p9 (c7 (PU.w8 (uv 2 rfl)) i3 rfl) rfl) rfl) rfl)) p4)
   (tm (C9 g) 4 (pv 4) rfl (PU.n a8 rfl) (PU.n (C8 g (uv 5 rfl) a8) rfl))) (λa b c=>J8 vr rfl a b c))
   (l4 V2 rfl))) x
theorem O6:j2 ["_law_thing","_law_due_here","_law_kept","_law_found","_law_own","e"] ["_law_thing"] (e6 kM):=by walk_at "s"
theorem zx (F:S6 K "_law_right" "_law_right" kM f fd) {O:Addr} {G:FuncData} (Q:IW P w K mg base "looked" 7 ["thing"] (JV Fo K mg U9) O G) (T:Hb P w K mg base a0 Y) (B:mg "ValueError"=none) (d:mg "isinstance"=none) (z:mg "repr"=none) {a o i p q:Addr} (b:PySem.W.kitAny K (.ref a) [.ref o,.ref i,.ref p]=some false) (c:PySem.W.bh K a) (y:mg "BoardError"=some (.ref q)) (x:mg "NoBoard"=some (.ref a)) (J:mg "NoDeed"=some (.ref p)) (C:mg "NoPlace"=some (.ref i)) (I:mg "NoText"=some (.ref o)) (j:PySem.W.kitOne K (.ref a) (.ref a)=some true) (h:PySem.W.kitOne K (.ref a) (.type "ValueError")=some true) (R:K.lookup PySem.sysModules=none) (g:Under base a q true) (l:oH K a "number") (r:oH K a "word")
  (len:O2 U8 1) (rd:dM U8 vJ 6):w6 P w K mg base P9 8 f fd ["_law_thing"] (bb K U8):=
 dU (cl:=[.bor,.bor,.bor,.bor,.bor,.bor]) F O6 rfl len (λa1 A outer s0 H E S=>(NK rfl (ss 1 O6.nd (pc T S (c6 (uv 0 rfl) c9 rfl) rfl) rfl)
   (ss 2 O6.nd (e9 (aW S R) nA (by rfl) z Os (c6 (uv 0 rfl) c9 rfl)) rfl)
   (ss 3 O6.nd V2 rfl)
   (ss 4 O6.nd x6 rfl)
   (FD Q (S.mono (by decide)) (by rfl) (c6 (uv 0 rfl) c9 rfl) rfl (λ_=>Gz) rfl rfl (by rfl) y x g O6.nd rfl rfl rfl rfl rfl rfl
    (λe dx oe M X U=>(AK rfl (ss 4 O6.nd (A8 (Bz (cv:=.ref a) (iL _ (List.mem_singleton.mpr rfl)) M c (pv 5) (M7 (v:=.ref a) rfl x rfl) rfl j (by rfl) d) (A8 (Bz (cv:=.type "ValueError") (iL _ (List.mem_singleton.mpr rfl)) M c (pv 5) (x5 (v:=.ty "ValueError") (u:=.type "ValueError") rfl B (by rfl) rfl) rfl h (by rfl) d) (D8 (sU (DO (cs:=[.ref o,.ref i,.ref p]) (iL _ (List.mem_singleton.mpr rfl)) M c (pv 5) (Hs (M7 (v:=.ref o) rfl I rfl) (Hs (M7 (v:=.ref i) rfl C rfl) (Hs (M7 (v:=.ref p) rfl J rfl) Ko))) rfl b rfl (by rfl) d))))) rfl)
   (ss 3 O6.nd (j7 (c7 (vA (iL _ (List.mem_singleton.mpr rfl)) M X U c r (pv 5) rfl) (c7 (vA (iL _ (List.mem_singleton.mpr rfl)) M X U c l (pv 5) rfl) i3 rfl) rfl) rfl) rfl))))
   (l4 (A8 (uv 4 rfl) (A8 (Ce S (e9 (aW S R) nA (by rfl) z Os (c6 (uv 3 rfl) c9 rfl)) (e9 (aW S R) nA (by rfl) z Os (c6 (uv 1 rfl) c9 rfl)) (j3 _)) (D8 (Ce S (e9 (aW S R) nA (by rfl) z Os (c6 (uv 0 rfl) c9 rfl)) (uv 2 rfl) (j3 _))))) rfl))) rd
theorem pz:j2 ["_law_feed_here","_law_one","_law_some"] ["_law_feed_here","_law_one"] (e6 Jm):=by walk_at "s"
theorem Lr (F:S6 K "_law_odd" "_law_odd" Jm f g) (a:Y6 P w K mg base c b)
  (len:qQ sH 2) (e:GO sH Kc 3):w6 P w K mg base P9 2 f g ["_law_feed_here","_law_one"] (vg K sH):=
 GS (cl:=[.bor,.bor]) F pz rfl len (λh A outer i H E d=>(Mf rfl (ss 2 pz.nd (A3 (c7 V2 (c7 x6 (c7 x6 (c7 a8 (c7 a8 (c7 (au a8) (c7 (T6 a8 a8) (c7 (Q4 (T6 a8 a8) a8) (c7 p9 (c7 p9 (c7 p9 (c7 p9 (c7 p9 (c7 (j7 i3 rfl) (c7 (bN (A3 i3 rfl)) (c7 (uE fD) i3 rfl) rfl) rfl) rfl) rfl) rfl) rfl) rfl) rfl) rfl) rfl) rfl) rfl) rfl) rfl) rfl) rfl) rfl)
   (ss 2 pz.nd (l6 (uv 2 rfl) (A3 (c7 (j7 (c7 (j7 (c7 a8 (c7 a8 i3 rfl) rfl) rfl) i3 rfl) rfl) (c7 (j7 (c7 (j7 (c7 a8 (c7 a8 i3 rfl) rfl) rfl) i3 rfl) rfl) (c7 (j7 (c7 (j7 (c7 a8 (c7 a8 i3 rfl) rfl) rfl) i3 rfl) rfl) (c7 (j7 (c7 (j7 (c7 a8 (c7 a8 (c7 a8 i3 rfl) rfl) rfl) rfl) i3 rfl) rfl) (c7 (bN (A3 (c7 (j7 (c7 a8 (c7 a8 i3 rfl) rfl) rfl) i3 rfl) rfl)) (c7 (j7 (c7 (j7 (c7 a8 (c7 a8 i3 rfl) rfl) rfl) (c7 (j7 (c7 a8 (c7 a8 i3 rfl) rfl) rfl) i3 rfl) rfl) rfl) (c7 (j7 (c7 (j7 (c7 a8 (c7 a8 i3 rfl) rfl) rfl) (c7 (j7 (c7 a8 (c7 a8 i3 rfl) rfl) rfl) i3 rfl) rfl) rfl) i3 rfl) rfl) rfl) rfl) rfl) rfl) rfl) rfl)) rfl)
   (ss 2 pz.nd (l6 (uv 2 rfl) (A3 (c7 (j7 (c7 (j7 (c7 a8 (c7 a8 i3 rfl) rfl) rfl) (c7 (j7 (c7 a8 (c7 a8 i3 rfl) rfl) rfl) i3 rfl) rfl) rfl) i3 rfl) rfl)) rfl)
   (ss 2 pz.nd (l6 (uv 2 rfl) (A3 (c7 (j7 (c7 (j7 (c7 a8 (c7 a8 i3 rfl) rfl) rfl) (c7 (j7 (c7 a8 (c7 a8 i3 rfl) rfl) rfl) (c7 (j7 (c7 a8 (c7 a8 i3 rfl) rfl) rfl) (c7 (j7 (c7 a8 (c7 a8 i3 rfl) rfl) rfl) (c7 (j7 (c7 a8 (c7 a8 i3 rfl) rfl) rfl) (c7 (j7 (c7 a8 (c7 a8 i3 rfl) rfl) rfl) i3 rfl) rfl) rfl) rfl) rfl) rfl) rfl) (c7 (j7 (c7 (j7 (c7 a8 (c7 x6 i3 rfl) rfl) rfl) i3 rfl) rfl) (c7 (j7 (c7 (j7 (c7 a8 (c7 a8 i3 rfl) rfl) rfl) (c7 a8 i3 rfl) rfl) rfl) (c7 (j7 (c7 (bN (A3 (c7 a8 (c7 a8 i3 rfl) rfl) rfl)) i3 rfl) rfl) (c7 (PU.w8 (uv 1 rfl)) i3 rfl) rfl) rfl) rfl) rfl) rfl)) rfl)
   (Y3 (PN.w8 (Q0 (C9 d) (PU.n (uv 2 rfl) rfl) (PM.n (pl 0 a d (i7 (PU.n a8 rfl) j6 rfl))) (λ_ _=>rfl)))))) e
theorem V4:j2 ["_law_feed_here","_law_rows","_law_names_here","_law_name","_law_at","_law_row","_law_way","_law_spot"] ["_law_feed_here","_law_rows","_law_names_here"] (e6 Cz):=by walk_at "s"
theorem Jy (F:S6 K "_law_bent" "_law_bent" Cz f r) (a:Y6 P w K mg base o j) (h:LS P w K mg base p l) (c:mg "isinstance"=none) (d:mg "len"=none) (g:mg "list"=none) (e:mg "tuple"=none)
  (len:qQ eO 3) (q:GO eO Gv 8):w6 P w K mg base P9 3 f r ["_law_feed_here","_law_rows","_law_names_here"] (vg K eO):=
 GS (cl:=[.bor,.bor,.bor,.bor,.bor,.bor,.bor]) F V4 rfl len (λu A outer x H E b=>(Ms rfl (y9 (i:=3) V4.nd rfl (Or.inl rfl) (PN.w8 (Q0 (C9 b) (PU.n (uv 2 rfl) rfl) (PM.n (pl 0 a b (i7 (PU.n (e9 l8 C4 (by rfl) d ry (c6 (uv 2 rfl) c9 rfl)) rfl) j6 rfl))) (λ_ _=>rfl))) rfl)
   (y8 (F0.m (T7 b (e9 l8 C4 (by rfl) d ry (c6 (uv 1 rfl) c9 rfl)) a8 (j3 _))) (J9 rfl (l4 (A3 (c7 (j7 (c7 (PU.w8 (uv 3 rfl)) (c7 (PU.w8 (C8 b (uv 2 rfl) a8)) (c7 (j7 i3 rfl) (c7 a8 (c7 x6 i3 rfl) rfl) rfl) rfl) rfl) rfl) i3 rfl) rfl) rfl)) p4)
   (y9 (i:=4) V4.nd rfl (Or.inl rfl) (pl 0 a b (i7 (PU.n (e9 l8 C4 (by rfl) d ry (c6 (uv 1 rfl) c9 rfl)) rfl) j6 rfl)) rfl)
   (ss 5 V4.nd (C8 b (uv 1 rfl) (uv 4 rfl)) rfl)
   (y9 (i:=6) V4.nd rfl (Or.inl rfl) (pl 0 a b (i7 (PU.n a8 rfl) j6 rfl)) rfl)
   (y8 (F0.m (Y9.pt (B6 (n9 (i9 (e9 l3 J5 (by rfl) c og (c6 (uv 5 rfl) (c6 (J4 (x5 (v:=.ty "tuple") rfl e qy rfl)) c9 rfl) rfl)) (λ_=>rfl))) (A2 (V1 b (e9 l8 C4 (by rfl) d ry (c6 (uv 5 rfl) c9 rfl)) a8 (j3 _)))))) (J9 rfl (l4 (l6 (J7 (uv 1 rfl) C0 (B9 (uv 4 rfl))) (J7 (uv 1 rfl) (B9 (l6 (uv 4 rfl) a8)) C0)) rfl)) p4)
   (y8 (F0.m (jM (uv 6 rfl) a8 (j3 _))) (AK rfl (y9 (i:=7) V4.nd rfl (Or.inl rfl) (pl 0 a b (i7 (PU.n a8 rfl) j6 rfl)) rfl)
   (y9 (i:=5) V4.nd rfl (Or.inl rfl) (D0 (PM.n (D0 (PU.n (J7 (uv 5 rfl) C0 (B9 (uv 7 rfl))) rfl) (PM.n (kS (A7 (pl 0 h b (i7 (PU.n (C8 b (uv 5 rfl) (uv 7 rfl)) rfl) j6 rfl)) aA rfl) rfl)))) (PU.n (J7 (uv 5 rfl) (B9 (l6 (uv 7 rfl) a8)) C0) rfl)) rfl)) p4)
   (y8 (F0.m (T7 b (uv 6 rfl) a8 (j3 _))) (J9 rfl (ss 5 V4.nd (l6 (j7 (c7 (PU.w8 (uv 3 rfl)) i3 rfl) rfl) (J7 (uv 5 rfl) (B9 a8) C0)) rfl)) p4)
   (y8 (F0.m (T7 b (uv 6 rfl) a8 (j3 _))) (J9 rfl (ss 5 V4.nd (l6 (l6 (J7 (uv 5 rfl) C0 (B9 a8)) (j7 (c7 (PU.w8 (uv 3 rfl)) i3 rfl) rfl)) (J7 (uv 5 rfl) (B9 a8) C0)) rfl)) p4)
   (y8 (F0.m (T7 b (uv 6 rfl) a8 (j3 _))) (J9 rfl (y9 (i:=5) V4.nd rfl (Or.inl rfl) (PN.w8 (Q0 (C9 b) (PU.n (A3 (c7 (bN (B3 J0 dQ (by rfl) g A1 (c6 (uv 5 rfl) c9 rfl))) (c7 (J7 (uv 5 rfl) C0 (B9 (au a8))) (c7 (l6 (uv 5 rfl) (j7 (c7 a8 i3 rfl) rfl)) (c7 (PU.w8 (uv 3 rfl)) (c7 (j7 (c7 (PU.w8 (uv 5 rfl)) i3 rfl) rfl) i3 rfl) rfl) rfl) rfl) rfl) rfl) rfl) (PM.n (pl 0 a b (i7 (PU.n a8 rfl) j6 rfl))) (λ_ _=>rfl))) rfl)) p4)
   (y8 (F0.m (T7 b (uv 6 rfl) a8 (j3 _))) (J9 rfl (Y3 (D0 (PM.n (D0 (PU.n (J7 (uv 1 rfl) C0 (B9 (uv 4 rfl))) rfl) (PM.n (fF (PU.n (A3 (c7 (PU.w8 (uv 5 rfl)) i3 rfl) rfl) rfl) (PM.n (CV (Q0 (C9 b) (PU.n (A3 (c7 a8 (c7 a8 (c7 a8 (c7 a8 i3 rfl) rfl) rfl) rfl) rfl) rfl) (PM.n (pl 0 a b (i7 (PU.n a8 rfl) j6 rfl))) (λ_ _=>rfl)) (PU.n (e9 l8 C4 (by rfl) d ry (c6 (uv 1 rfl) c9 rfl)) rfl))))))) (PU.n (J7 (uv 1 rfl) (B9 (uv 4 rfl)) C0) rfl)))) p4)
   (y8 (F0.m (T7 b (uv 6 rfl) a8 (j3 _))) (J9 rfl (l4 (l6 (l6 (J7 (uv 1 rfl) C0 (B9 (uv 4 rfl))) (A3 (c7 (PU.w8 (uv 5 rfl)) i3 rfl) rfl)) (J7 (uv 1 rfl) (B9 (uv 4 rfl)) C0)) rfl)) p4)
   (l4 (l6 (l6 (J7 (uv 1 rfl) C0 (B9 (uv 4 rfl))) (A3 (c7 (PU.w8 (uv 5 rfl)) i3 rfl) rfl)) (J7 (uv 1 rfl) (B9 (l6 (uv 4 rfl) a8)) C0)) rfl))) q
theorem ib:j2 ["_law_feed_here","_law_guards_here","_law_loads_here","_law_some"] ["_law_feed_here","_law_guards_here","_law_loads_here"] (e6 nH):=by walk_at "s"
theorem zX (F:S6 K "_law_topped" "_law_topped" nH f h) (b:Y6 P w K mg base d c) (a:mg "list"=none)
  (len:qQ W7 3) (g:GO W7 uV 4):w6 P w K mg base P9 2 f h ["_law_feed_here","_law_guards_here","_law_loads_here"] (vg K W7):=
 GS (cl:=[.bor,.bor,.bor]) F ib rfl len (λi A outer j H E e=>(DA rfl (ss 3 ib.nd (l6 (O0 (A3 (c7 (j7 (c7 (PU.w8 (uv 1 rfl)) (c7 (PU.w8 (uv 2 rfl)) i3 rfl) rfl) rfl) i3 rfl) rfl) a8) (A3 (c7 (bN (A3 (c7 (PU.w8 (uv 1 rfl)) (c7 (PU.w8 (uv 2 rfl)) i3 rfl) rfl) rfl)) (c7 (j7 (c7 (PU.w8 (uv 1 rfl)) i3 rfl) rfl) (c7 (j7 (c7 (PU.w8 (uv 1 rfl)) (c7 (PU.w8 (uv 2 rfl)) (c7 (j7 i3 rfl) i3 rfl) rfl) rfl) rfl) (c7 (j7 (c7 (bN (B3 J0 dQ (by rfl) a A1 (c6 (uv 1 rfl) c9 rfl))) (c7 (PU.w8 (uv 2 rfl)) i3 rfl) rfl) rfl) i3 rfl) rfl) rfl) rfl) rfl)) rfl)
   (ss 3 ib.nd (l6 (uv 3 rfl) (A3 (c7 (j7 (c7 (PU.w8 (uv 1 rfl)) (c7 (bN (B3 J0 dQ (by rfl) a A1 (c6 (uv 2 rfl) c9 rfl))) i3 rfl) rfl) rfl) (c7 (j7 (c7 (j7 i3 rfl) (c7 (PU.w8 (uv 2 rfl)) i3 rfl) rfl) rfl) (c7 V2 (c7 p9 (c7 (j7 (c7 (PU.w8 (uv 2 rfl)) (c7 (PU.w8 (uv 1 rfl)) i3 rfl) rfl) rfl) (c7 (uE fD) (c7 a8 (c7 x6 i3 rfl) rfl) rfl) rfl) rfl) rfl) rfl) rfl) rfl)) rfl)
   (Y3 (PN.w8 (Q0 (C9 e) (PU.n (uv 3 rfl) rfl) (PM.n (pl 0 b e (i7 (PU.n a8 rfl) j6 rfl))) (λ_ _=>rfl)))))) g
abbrev lV:QF:=["_law_script","_law_board_here","_law_names_here","_law_guards_here","_law_loads_here","_law_feed_here","_law_k","_law_thing"]
theorem O4:j2 lV ["_law_script"] (e6 S8):=by walk_at "s"
theorem Dg:(["_law_guard"]:QF).Nodup:=by decide +kernel
theorem Aq:(["_law_load"]:QF).Nodup:=by decide +kernel
theorem Gs (F:S6 K "law" "law" S8 f S) (r:qj P w K mg base M C) (o:Y6 P w K mg base J B) (q:Bu P w K mg base I x) (d:wm P w K mg base z v) (p:GH P w K mg base O G) (l:uw P w K mg base y u) (j:mg "list"=none) (h:mg "range"=none) (g:mg "tuple"=none)
  (len:O2 bE 1) (Q:dM bE zQ 8):w6 P w K mg base P9 9 f S ["_law_script"] (bb K bE):=
 dU (cl:=[.bor,.bor,.bor,.bor,.bor,.own,.bor,.bor]) F O4 rfl len (λT A outer U H E e=>(NY rfl (ss 1 O4.nd (pc q e (c6 (uv 0 rfl) c9 rfl) rfl) rfl)
   (ss 2 O4.nd (l6 (cK (XN:=lV) (N:=["_law_guard"]) (XS:=e6 S8) (cap:=[none]) (by decide +kernel) rfl rfl rfl rfl (K4 (C8 e (uv 1 rfl) a8)) (λ_ _ _ _=>(gn 0 Dg)) (λ_ _ _ _=>S2) (λ_ _ _ _=>(PU.w8 (C8 e (uv 0 rfl) a8)))) (cK (XN:=lV) (N:=["_law_load"]) (XS:=e6 S8) (cap:=[none]) (by decide +kernel) rfl rfl rfl rfl (K4 (C8 e (uv 1 rfl) a8)) (λ_ _ _ _=>(gn 0 Aq)) (λ_ _ _ _=>S2) (λ_ _ _ _=>(PU.w8 (C8 e (uv 0 rfl) a8))))) rfl)
   (ss 3 O4.nd (B3 J0 dQ (by rfl) j A1 (c6 (C8 e (uv 1 rfl) a8) c9 rfl)) rfl)
   (ss 4 O4.nd (B3 J0 dQ (by rfl) j A1 (c6 (C8 e (uv 1 rfl) a8) c9 rfl)) rfl)
   (ss 5 O4.nd (pc r e (c6 (uv 0 rfl) (c6 a8 c9 rfl) rfl) rfl) rfl)
   (Q7 (jJ (by rfl) h (PM.n (D0 (PU.n a8 rfl) (PM.n (pl 5 o e (i7 (PU.n a8 rfl) j6 rfl))))) rfl (λR=>D6 (by rfl) h R)) (gn 6 O4.nd)
    (J9 rfl (y8 (nD e (PM.n (pl 5 o e (i7 (PU.n a8 rfl) j6 rfl))) (PU.n a8 rfl) (j3 _)) (J9 rfl (y9 (i:=3) O4.nd rfl (Or.inl rfl) (pl 5 p e (i7 (PU.n (uv 3 rfl) rfl) (i7 (PU.n (uv 2 rfl) rfl) j6 rfl) rfl)) rfl)) (J9 rfl (y9 (i:=4) O4.nd rfl (Or.inl rfl) (pl 5 p e (i7 (PU.n (uv 4 rfl) rfl) (i7 (PU.n (uv 2 rfl) rfl) j6 rfl) rfl)) rfl)))) (λa b c=>J8 vr rfl a b c))
   (y9 (i:=7) O4.nd rfl (Or.inl rfl) (pl 5 l e (i7 (PU.n (B3 D7 aX (by rfl) g qy (c6 (uv 3 rfl) c9 rfl)) rfl) (i7 (PU.n (B3 D7 aX (by rfl) g qy (c6 (uv 4 rfl) c9 rfl)) rfl) j6 rfl) rfl)) rfl)
   (l4 (A8 (pc d e (c6 (uv 7 rfl) c9 rfl) rfl) (D8 (pc d e (c6 (uv 7 rfl) c9 rfl) rfl))) rfl))) Q
end
theorem sz{n:Nat}(h:n<=100000):n<=sizeLine:=by rw[v1];omega
theorem pA(xs:QF):l9 (xs.map D.str)=true:=nY xs
theorem T1{g:ee}{body:i6}{xs:List D}{T:Z7}{b:Ev}(p:D->Bool)(W:Ev->Prop)(l:W b)
  (step:∀d∈xs,∀b,W b->∀N:Ev->Prop,(p d=true->∀a,W a->N a)->(p d=false->∀a,T.rt (.bl false) a)->g d b λe=>body { nx:=N,rt:=T.rt,bk:=T.nx,ct:=N } e)
  (no:xs.all p=false->∀a,T.rt (.bl false) a) (yes:xs.all p=true->∀a,W a->T.nx a):Ju g body xs T b:=by
 refine .of ⟨λi b=>(xs.take i).all p=true/\W b,⟨by simp,l⟩,λi d b j c=>?_,λb c=>?_⟩
 ·refine step d (rc j) b c.2 _ (λh a hw=>⟨?_,hw⟩) (λh=>no ?_)
  ·rw[EQ,j];simp[c.1,h]
  ·rw[List.all_eq_false];exact⟨d,rc j,by simp[h]⟩
 ·have c:(xs.take xs.length).all p=true/\W b:=c;rw[OT] at c;exact yes c.1 b c.2
theorem yz(ds:List D)(Q:D->Prop)(h:T3 ds Q):oU (EP Q) (i8 1 ds):=by
 obtain⟨d,rfl,a,q⟩:=h;cases d<;>first | (simp[kn] at a;done) | (obtain⟨_,rfl⟩:=J6 a) | skip
 all_goals
  walk_at "r";exact q
theorem tE(ds:List D)(Q:D->Prop)(h:B0 ds Q):jY (EP Q) (i8 1 ds):=by
 obtain⟨d,rfl,a,q⟩:=h;refine⟨d,rfl,a,?_⟩;cases d<;>first | (simp[kn] at a;done) | (obtain⟨_,rfl⟩:=J6 a) | skip
 case int i=>
  have q:Q (.bl (decide (0<=i)&&decide (i<10^60))):=q;walk_at "r";refine⟨λe=>?_,λe=>?_⟩
  ·rw[e] at q;exact q
  ·rw[e] at q;exact q
 all_goals
  walk_at "r";exact q
theorem BC{c:Nat}:(!decide (cs (⟨#[c]⟩:Str)<cs ("a" : Str)))=decide (97<=c):=by
 have:(cs (⟨#[c]⟩:Str)<cs ("a" : Str)) ↔ c<97:=by
  show([c]:QJ)<[97] ↔ c<97;constructor
  ·intro h;rcases List.cons_lt_cons_iff.mp h with h | ⟨_,h⟩
   ·exact h
   ·exact absurd h (List.not_lt_nil _)
  ·exactλh=>List.cons_lt_cons_iff.mpr (.inl h)
 by_cases h:c<97
 ·rw[eH (this.mpr h),iG (by omega)];rfl
 ·rw[iG (λz=>h (this.mp z)),eH (by omega)];rfl
theorem BO{c:Nat}:(!decide (cs ("z" : Str)<cs (⟨#[c]⟩:Str)))=decide (c<=122):=by
 have:(cs ("z" : Str)<cs (⟨#[c]⟩:Str)) ↔ 122<c:=by
  show([122]:QJ)<[c] ↔ 122<c;constructor
  ·intro h;rcases List.cons_lt_cons_iff.mp h with h | ⟨_,h⟩
   ·exact h
   ·exact absurd h (List.not_lt_nil _)
  ·exactλh=>List.cons_lt_cons_iff.mpr (.inl h)
 by_cases h:122<c
 ·rw[eH (this.mpr h),iG (by omega)];rfl
 ·rw[iG (λz=>h (this.mp z)),eH (by omega)];rfl
def MC:D->Bool
 | .str x=>(cs x).all bI
 | _=>false
theorem vm(x:Str):(wD x).all MC=(cs x).all bI:=by
 unfold wD;rw[List.all_map];congr 1
 funext c
 show([c]:QJ).all bI=_;simp
theorem AS(ds:List D)(Q:D->Prop)(h:O3 ds Q):vW (EP Q) (i8 2 ds):=by
 obtain⟨d,rfl,l,q⟩:=h;cases d<;>first | (simp[kn] at l;done) | (obtain⟨_,rfl⟩:=J6 l) | skip
 case str x=>
  have E:x.length<=100000:=by simpa[kn] using l
  have q:Q (.bl (decide (1<=x.length)&&decide (x.length<=8)&&(cs x).all bI)):=q
  have b:(decide (1<=x.length)&&decide (x.length<=8))=true->kh (EP Q) [some (.str x),none]:=λe=>by
   rw[e,tt] at q;walk_at "r";refine T1 MC (λo=>∃v,o=[some (.str x),v]) ⟨none,rfl⟩ ?_ (λe _=>?_) (λe u hw=>?_)
   ·rintro d hd o ⟨v,rfl⟩ N j i;obtain⟨c,G,rfl⟩:=List.mem_map.mp hd
    have B:MC (.str ⟨#[c]⟩)=(decide (97<=c)&&decide (c<=122)):=by
     show([c]:QJ).all bI=_;simp[bI]
    rw[B] at j i;have p:=BC (c:=c);have C:=BO (c:=c);walk_at "r";refine⟨λz=>?_,λz=>?_⟩
    ·rw[p] at z;rw[z,tt] at j i;walk_at "r";rw[C];refine⟨λy=>?_,λy=>?_⟩
     ·exact i (by simpa using y) []
     ·exact j (by simpa using y) _ ⟨_,rfl⟩
    ·rw[p] at z;rw[z,Ol] at j i;walk_at "r";exact i rfl []
   ·rw[vm] at e;rw[e] at q;exact q
   ·rw[vm] at e;rw[e] at q;exact q
  have a:decide ((1:Int)<=(x.length:Int))=decide (1<=x.length):=by
   by_cases h:1<=x.length
   ·rw[eH h,eH (by omega)]
   ·rw[iG h,iG (by omega)]
  have g:decide ((x.length:Int)<=8)=decide (x.length<=8):=by
   by_cases h:x.length<=8
   ·rw[eH h,eH (by omega)]
   ·rw[iG h,iG (by omega)]
  walk_at "r";refine⟨sz (by omega),?_⟩;refine⟨λe=>?_,λe=>?_⟩
  ·rw[a] at e;walk_at "r";rw[g];refine⟨λz=>?_,λz=>b ?_⟩
   ·have z:decide (x.length<=8)=false:=by simpa using z
    rw[z] at q;have q:Q (.bl false):=by simpa using q
    exact q
   ·have z:decide (x.length<=8)=true:=by simpa using z
    rw[e,z];rfl
  ·rw[a] at e;walk_at "r";rw[e] at q;exact q
 all_goals
  walk_at "r";exact q
theorem xw(ds:List D)(Q:D->Prop)(h:S4 ds Q):pT (EP Q) (i8 2 ds):=by
 obtain⟨a,b,c,d,rfl,q⟩:=h;walk_at "r";refine⟨λe=>?_,λe=>?_⟩
 ·walk_at "r";rw[e] at q;exact q
 ·rw[e] at q;exact q
theorem cE{xs:List D}{p:D->Bool}(h:xs.length=2):∃a b,xs=[a,b]/\xs.all p=(p a&&p b):=by
 match xs,h with
 | [a,b],_=>exact⟨a,b,rfl,by simp⟩
theorem U6{d:D}(h:D9 d=true):∃i,d=.int i/\0<=i/\i<10^60:=by
 cases d<;>first | (cases h;done) | skip
 rename_i i
 have h:(decide (0<=i)&&decide (i<10^60))=true:=h;rw[hD] at h;exact⟨i,rfl,qs h.1,qs h.2⟩
theorem Gq{Q:Bool->Prop}{d:D}{a:Ev}{i:Nat}(c:a[i]?=some (some d))(b:kn d=true)(q:Q (!posB d)):ba (C5 (D2 (o8 B0 (a9 (c8 i) e7)))) (uT (o5 (G0 false) (c8 i) (uC (.int 0)))) a Q:=by
 have var:∀K:D->Prop,K d->c8 i a K:=λK k=>by unfold c8;rw[c];exact k
 refine var _ ⟨d,rfl,b,?_⟩
 by_cases h:D9 d=true
 ·obtain⟨j,rfl,_,_⟩:=U6 h;rw[h]
  have e:posB (.int j)=!decide (j=0):=by
   show(D9 (.int j)&&!decide (j=0))=_;rw[h];rfl
  rw[e,Bool.not_not] at q;refine Br.no rfl (var _ ?_);exact q
 ·have h:D9 d=false:=by simpa using h
  rw[h];have e:posB d=false:=by show(D9 d&&_)=false;rw[h];rfl
  rw[e] at q;exact Br.yes rfl q
theorem zu(ds:List D)(Q:D->Prop)(h:Y4 ds Q):uF (EP Q) (i8 2 ds):=by
 obtain⟨d,rfl,i,q⟩:=h;cases d<;>first | (simp[kn] at i;done) | (obtain⟨_,rfl⟩:=J6 i) | skip
 case tup c=>
  have g:∀x∈c,kn x=true:=B8 (by simpa[kn] using i);walk_at "r";refine⟨λe=>?_,λe=>?_⟩
  ·have e:¬(c.length:Int)=2:=by simpa[ng] using e
   have z:P6 (.tup c)=false:=by
    match c,e with
    | [],_=>rfl
    | [_],_=>rfl
    | [_,_],e=>exact absurd rfl e
    | _::_::_::_,_=>rfl
   rw[z] at q;exact q
  ·have e:(c.length:Int)=2:=by simpa[ng] using e
   obtain⟨a,b,rfl,B⟩:=cE (p:=posB) (by omega:c.length=2);have q:Q (.bl ([a,b].all posB)):=by rw[B];exact q
   walk_at "r";refine T1 posB (λj=>∃v,j=[some (.tup [a,b]),v]) ⟨none,rfl⟩ ?_ (λe _=>?_) (λe o hw=>?_)
   ·rintro d hd j ⟨v,rfl⟩ N u y;refine⟨rfl,?_⟩;show X7 _ [some (.tup [a,b]),some d];unfold X7 M9 tP;refine Gq (d:=d) rfl (g d hd) ?_;cases l:posB d
    ·exact Br.yes rfl (y l [])
    ·exact Br.no rfl (u l _ ⟨_,rfl⟩)
   ·rw[e] at q;exact q
   ·rw[e] at q;exact q
 all_goals
  walk_at "r";exact q
theorem S9{d:D}(h:P6 d=true):∃a b:Int,d=.tup [.int a,.int b]/\num a/\num b/\a≠0/\b≠0:=by
 unfold P6 at h;split at h
 ·rename_i a b
  rw[hD] at h
  have p:∀{d:D},posB d=true->∃i,d=.int i/\num i/\i≠0:=λ{d} hd=>by
   unfold posB at hd;rw[hD] at hd;obtain⟨i,rfl,e,c⟩:=U6 hd.1;exact⟨i,rfl,⟨e,c⟩,by simpa using hd.2⟩
  obtain⟨i,rfl,n1,z1⟩:=p h.1;obtain⟨j,rfl,n2,z2⟩:=p h.2;exact⟨i,j,rfl,n1,n2,z1,z2⟩
 ·cases h
theorem gE{xs:List D}(h:xs.all P6=true):l9 xs=true:=x8 λx c=>by
 obtain⟨a,b,rfl,_⟩:=S9 (List.all_eq_true.mp h x c);rfl
def HK:D->Bool
 | .tup [a,b]=>xn a b
 | _=>false
theorem jW:∀xs:List D,N8 xs=(dD xs xs.tail).all HK
 | []=>rfl
 | [x]=>rfl
 | x::y::r=>by
  show(xn x y&&N8 (y::r))=_;rw[jW (y::r)];rfl
theorem LR(xs:List D):cutD xs (some 1) none=xs.tail:=by
 unfold cutD HT.D1
 cases xs with
 | nil=>rfl
 | cons x r=>
  have h:¬((1:Int)<0):=by decide
  simp only[h,OF];simp
theorem yo(ds:List D)(Q:D->Prop)(h:S5 ds Q):nK (EP Q) (i8 3 ds):=by
 obtain⟨d,rfl,J,q⟩:=h;cases d<;>first | (simp[kn] at J;done) | (obtain⟨_,rfl⟩:=J6 J) | skip
 case tup g=>
  have I:∀x∈g,kn x=true:=B8 (by simpa[kn] using J);have q:Q (.bl (decide (1<=g.length)&&decide (g.length<=5)&&g.all P6&&N8 g)):=q
  have two:g.all P6=true->Q (.bl (N8 g))->∀o:Option D,iO (EP Q) [some (.tup g),o,none]:=λB j o=>by
   refine⟨gE B,g,cutD g (some 1) none,rfl,rfl,gE B,?_,?_⟩
   ·rw[LR]
    exact x8 λx O=>by
     obtain⟨a,b,rfl,_⟩:=S9 (List.all_eq_true.mp B x (List.mem_of_mem_tail O));rfl
   ·rw[LR];rw[jW] at j;refine T1 HK (λp=>∃o M,p=[some (.tup g),o,M]) ⟨o,none,rfl⟩ ?_ (λe _=>?_) (λe H hw=>?_)
    ·rintro d hd p ⟨o,M,rfl⟩ N E G;obtain⟨i,R⟩:=u8 hd;obtain⟨x,y,ex,S,rfl⟩:=gC R;obtain⟨a,b,rfl,_⟩:=S9 (List.all_eq_true.mp B x (rc ex));obtain⟨c,d,rfl,_⟩:=S9 (List.all_eq_true.mp B y (List.mem_of_mem_tail (rc S)));have T:HK (.tup [.tup [.int a,.int b],.tup [.int c,.int d]])=(decide (a<c)&&decide (d<b)):=rfl;rw[T] at E G;walk_at "r";refine⟨a,b,c,d,rfl,?_⟩;cases C:(decide (a<c)&&decide (d<b))
     ·exact Br.yes rfl (G C [])
     ·exact Br.no rfl (E C _ ⟨_,_,rfl⟩)
    ·rw[e] at j;exact j
    ·rw[e] at j;exact j
  have one:Q (.bl (g.all P6&&N8 g))->hX (EP Q) [some (.tup g),none,none]:=λj=>by
   walk_at "r";refine T1 P6 (λp=>∃v,p=[some (.tup g),v,none]) ⟨none,rfl⟩ ?_ (λe _=>?_) (λe H hw=>?_)
   ·rintro d hd p ⟨v,rfl⟩ N E G;walk_at "r";refine⟨I d hd,?_⟩;cases C:P6 d
    ·exact Br.yes rfl (G C [])
    ·exact Br.no rfl (E C _ ⟨_,rfl⟩)
   ·rw[e] at j;exact j
   ·obtain⟨v,rfl⟩:=hw;rw[e] at j;exact two e j v
  have l:decide ((1:Int)<=(g.length:Int))=decide (1<=g.length):=by
   by_cases h:1<=g.length
   ·rw[eH h,eH (by omega)]
   ·rw[iG h,iG (by omega)]
  have u:decide ((g.length:Int)<=5)=decide (g.length<=5):=by
   by_cases h:g.length<=5
   ·rw[eH h,eH (by omega)]
   ·rw[iG h,iG (by omega)]
  walk_at "r";refine⟨λe=>?_,λe=>?_⟩
  ·rw[l] at e;rw[e,tt] at q;walk_at "r";rw[u];refine⟨λz=>?_,λz=>one ?_⟩
   ·have z:decide (g.length<=5)=false:=by simpa using z
    rw[z] at q;exact q
   ·have z:decide (g.length<=5)=true:=by simpa using z
    rw[z,tt] at q;exact q
  ·rw[l] at e;rw[e] at q;walk_at "r";exact q
 all_goals
  walk_at "r";exact q
theorem Ge(xs:List D):(∃a b,xs=[a,b])\/(¬(xs.length:Int)=2/\jm (.tup xs)=false/\P6 (.tup xs)=false):=by
 match xs with
 | []=>exact .inr ⟨by simp,rfl,rfl⟩
 | [_]=>exact .inr ⟨by simp,rfl,rfl⟩
 | [a,b]=>exact .inl ⟨a,b,rfl⟩
 | _::_::_::r=>exact .inr ⟨by simp only[sw];omega,rfl,rfl⟩
theorem lr(xs:List D):(∃a b c d e,xs=[a,b,c,d,e])\/(¬(xs.length:Int)=5/\N3 (.tup xs)=false/\av (.tup xs)=false):=by
 match xs with
 | []=>exact .inr ⟨by simp,rfl,rfl⟩
 | [_]=>exact .inr ⟨by simp,rfl,rfl⟩
 | [_,_]=>exact .inr ⟨by simp,rfl,rfl⟩
 | [_,_,_]=>exact .inr ⟨by simp,rfl,rfl⟩
 | [_,_,_,_]=>exact .inr ⟨by simp,rfl,rfl⟩
 | [a,b,c,d,e]=>exact .inl ⟨a,b,c,d,e,rfl⟩
 | _::_::_::_::_::_::r=>exact .inr ⟨by simp only[sw];omega,rfl,rfl⟩
theorem sQ(ds:List D)(Q:D->Prop)(h:N7 ds Q):kg (EP Q) (i8 4 ds):=by
 obtain⟨d,rfl,y,q⟩:=h;cases d<;>first | (simp[kn] at y;done) | (obtain⟨_,rfl⟩:=J6 y) | skip
 case tup c=>
  have v:∀x∈c,kn x=true:=B8 (by simpa[kn] using y);have q:Q (.bl (decide (c.length<=4)&&c.all jm)):=q
  have one:Q (.bl (c.all jm))->eE (EP Q) [some (.tup c),none,none,none]:=λu=>by
   walk_at "r";refine T1 jm (λB=>∃H G E,B=[some (.tup c),H,G,E]) ⟨none,none,none,rfl⟩ ?_ (λe _=>?_) (λe M hw=>?_)
   ·rintro d hd B ⟨H,G,E,rfl⟩ N p g;have i:=v d hd;cases d<;>first | (simp[kn] at i;done) | (obtain⟨_,rfl⟩:=J6 i) | skip
    case tup C=>
     have o:∀x∈C,kn x=true:=B8 (by simpa[kn] using i);rcases Ge C with⟨a,b,rfl⟩ | ⟨ne,z,_⟩
     ·have O:jm (.tup [a,b])=(posB a&&D9 b):=rfl;rw[O] at p g;walk_at "r";refine⟨o a (by simp),?_⟩
      by_cases h:D9 a=true
      ·obtain⟨j,rfl,_,_⟩:=U6 h
       have e:posB (.int j)=!decide (j=0):=by
        show(D9 (.int j)&&!decide (j=0))=_;rw[h];rfl
       rw[e] at p g;rw[h];refine Br.no rfl ?_;show Br (decide (j=0)) _ _;cases I:decide (j=0)
       ·rw[I] at p g;refine Br.no rfl ⟨b,rfl,o b (by simp),?_⟩;cases J:D9 b
        ·rw[J] at g;exact Br.yes rfl (g rfl [])
        ·rw[J] at p;exact Br.no rfl (p rfl _ ⟨_,_,_,rfl⟩)
       ·rw[I] at g;exact Br.yes rfl (Br.yes rfl (g rfl []))
      ·have h:D9 a=false:=by simpa using h
       have e:posB a=false:=by show(D9 a&&_)=false;rw[h];rfl
       rw[e] at g;rw[h];exact Br.yes rfl (Br.yes rfl (g rfl []))
     ·walk_at "r";refine⟨λe=>g z [],λe=>?_⟩;exact absurd (by simpa[ng] using e) ne
    all_goals
     walk_at "r";exact g rfl []
   ·rw[e] at u;exact u
   ·rw[e] at u;exact u
  have l:decide ((4:Int)<(c.length:Int))=!decide (c.length<=4):=by
   by_cases h:c.length<=4
   ·rw[eH h,iG (by omega)];rfl
   ·rw[iG h,eH (by omega)];rfl
  walk_at "r";rw[l];refine⟨λe=>?_,λe=>one ?_⟩
  ·have e:decide (c.length<=4)=false:=by simpa using e
   rw[e] at q;exact q
  ·have e:decide (c.length<=4)=true:=by simpa using e
   rw[e,tt] at q;exact q
 all_goals
  walk_at "r";exact q
theorem wQ(ds:List D)(Q:D->Prop)(h:S7 ds Q):pW (EP Q) (i8 6 ds):=by
 obtain⟨d,rfl,j,q⟩:=h;cases d<;>first | (simp[kn] at j;done) | (obtain⟨_,rfl⟩:=J6 j) | skip
 case tup l=>
  have a:∀x∈l,kn x=true:=B8 (by simpa[kn] using j);rcases lr l with⟨n,u,c,de,wa,rfl⟩ | ⟨ne,z,_⟩
  ·have q:Q (.bl (p5 n&&(U4 u||p5 u)&&G1 c&&D9 de&&D9 wa)):=q
   have i:Q (.bl (G1 c&&D9 de&&D9 wa))->gM (EP Q) [some (.tup [n,u,c,de,wa]),some n,some u,some c,some de,some wa]:=λq=>by
    walk_at "r";refine⟨a c (by simp),?_⟩;cases g:G1 c
    ·rw[g] at q;exact Br.no rfl q
    ·rw[g,tt] at q;refine Br.yes rfl ⟨de,rfl,a de (by simp),?_⟩;cases b:D9 de
     ·rw[b] at q;exact Br.no rfl q
     ·rw[b,tt] at q;exact Br.yes rfl ⟨wa,rfl,a wa (by simp),q⟩
   walk_at "r";refine⟨a n (by simp),?_⟩;cases g:p5 n
   ·rw[g] at q;refine Br.yes rfl ?_;walk_at "r";exact q
   ·rw[g,tt] at q;refine Br.no rfl ?_;walk_at "w";cases b:U4 u
    ·refine Br.no rfl ?_;rw[b,Bool.false_or] at q;refine⟨u,rfl,a u (by simp),?_⟩;cases o:p5 u
     ·rw[o] at q;exact Br.yes rfl q
     ·rw[o,tt] at q;exact Br.no rfl (i q)
    ·refine Br.yes rfl ?_;rw[b,Bool.true_or,tt] at q;exact Br.no rfl (i q)
  ·rw[z] at q;walk_at "r";refine⟨λe=>q,λe=>?_⟩;exact absurd (by simpa[ng] using e) ne
 all_goals
  walk_at "r";exact q
theorem zv(ds:List D)(Q:D->Prop)(h:Y1 ds Q):vb (EP Q) (i8 6 ds):=by
 obtain⟨d,rfl,i,q⟩:=h;cases d<;>first | (simp[kn] at i;done) | (obtain⟨_,rfl⟩:=J6 i) | skip
 case tup l=>
  have a:∀x∈l,kn x=true:=B8 (by simpa[kn] using i);rcases lr l with⟨n,u,c,la,on,rfl⟩ | ⟨ne,_,z⟩
  ·have q:Q (.bl (p5 n&&p5 u&&K3 c&&D9 la&&(P4 on true||P4 on false))):=q
   have j:Q (.bl (K3 c&&D9 la&&(P4 on true||P4 on false)))->jT (EP Q) [some (.tup [n,u,c,la,on]),some n,some u,some c,some la,some on]:=λq=>by
    walk_at "r";refine⟨a c (by simp),?_⟩;cases g:K3 c
    ·rw[g] at q;exact Br.no rfl q
    ·rw[g,tt] at q;refine Br.yes rfl ⟨la,rfl,a la (by simp),?_⟩;cases o:D9 la
     ·rw[o] at q;exact Br.no rfl q
     ·rw[o,tt] at q;refine Br.yes rfl ?_;show Br (P4 on true) _ _;cases b:P4 on true
      ·rw[b,Bool.false_or] at q;exact Br.no rfl q
      ·rw[b,Bool.true_or] at q;exact Br.yes rfl q
   walk_at "r";refine⟨a n (by simp),?_⟩;cases g:p5 n
   ·rw[g] at q;refine Br.yes rfl ?_;walk_at "r";exact q
   ·rw[g,tt] at q;refine Br.no rfl ⟨u,rfl,a u (by simp),?_⟩;cases b:p5 u
    ·rw[b] at q;exact Br.yes rfl q
    ·rw[b,tt] at q;exact Br.no rfl (j q)
  ·rw[z] at q;walk_at "r";refine⟨λe=>q,λe=>?_⟩;exact absurd (by simpa[ng] using e) ne
 all_goals
  walk_at "r";exact q
theorem aP(x:Str):∀a:QF,inD (.str x) (a.map D.str)=decide (x∈a)
 | []=>rfl
 | y::a=>by
  have b:=aP x a;unfold inD at b ⊢;rw[rl,FS,b];show(decide (y=x)||decide (x∈a))=_
  by_cases h:y=x
  ·subst h;simp
  ·have c:¬x=y:=λz=>h z.symm;simp[h,c]
theorem R3:∀a:QF,(a.map D.str).all Y8=true
 | []=>rfl
 | y::a=>by
  rw[rl,Gc,R3 a];rfl
theorem wq(ds:List D)(Q:D->Prop)(h:G4 ds Q):nS (EP Q) (i8 1 ds):=by
 obtain⟨d,b,rfl,g,o,i,q⟩:=h
 have body:b.length<sizeLine/\lz (g1 0) bO (A6 (n8 (c8 0) (uC (.int 0)))) (aw [none] [some d]) b [] λds=>(EP Q).rt (.lst ds) [some d]:=by
  refine⟨A9 (by omega),?_⟩;have e:b=b.map id:=by simp
  rw[e];refine V3 (F:=id) (f:=λd=>.str (O9 d)) b [] (λa j K R c=>?_) ?_
  ·obtain⟨x,r,rfl⟩:=i a j;walk_at "r";exact c
  ·have l:b.map (λd=>D.str (O9 d))=(b.map O9).map D.str:=by rw[vv];rfl
   rw[xL,l];exact q
 rcases g with rfl | rfl
 ·exact body
 ·exact body
theorem uB:∀{gs:List Gd} {g:Gd},(gs.map (·.nm)).Nodup->g∈gs->gs.find? (λh=>decide (h.nm=g.nm))=some g
 | [],_,_,h=>by cases h
 | a::i,g,h,b=>by
  rw[rl] at h;obtain⟨d,c⟩:=List.nodup_cons.mp h;rw[wr];rcases List.mem_cons.mp b with e | e
  ·subst e;rw[eH rfl]
  ·have ne:¬a.nm=g.nm:=λz=>d (z▸List.mem_map.mpr ⟨g,e,rfl⟩);rw[iG ne];exact uB c e
theorem tQ{gs:List Gd}{g:Gd}(h:(gs.map (·.nm)).Nodup)(a:g∈gs):jq gs g.nm=g.un:=by
 unfold jq;rw[uB h a]
def De(gs:List Gd)(dp:Nat->Nat)(n:Nat)(y:Str):Prop:=∃(j:Nat) (g:Gd),gs[j]?=some g/\g.nm=y/\1<=dp j/\dp j<=n
def sA(gs:List Gd)(dp:Nat->Nat):Prop:=∀i g,gs[i]?=some g->1<=dp i/\dp i<=8/\(g.un=none->dp i=1)/\∀y,g.un=some y->∃j a,j<i/\gs[j]?=some a/\a.nm=y/\dp i=dp j+1
theorem De.next{gs:List Gd}{dp:Nat->Nat}{n:Nat}{y z:Str}(h:sA gs dp)(o:(gs.map (·.nm)).Nodup)(d:De gs dp (n+1) y)(e:jq gs y=some z):De gs dp n z:=by
 obtain⟨j,g,c,rfl,r,q⟩:=d;rw[tQ o (rc c)] at e;obtain⟨_,_,_,a⟩:=h j g c;obtain⟨b,i,_,l,p,u⟩:=a z e;exact⟨b,i,l,p,(h b i l).1,by omega⟩
theorem DH(ds:List D)(Q:D->Prop)(h:bL ds Q):Bg (EP Q) (i8 5 ds):=by
 obtain⟨d,gs,x,rfl,hs,O,⟨g0,M,e0⟩,q⟩:=h;obtain⟨dp,B⟩:=O.un;have B:sA gs dp:=B;have hl:=O.len;have I:=O.nd
 have l:∀c:List (Key×D),(∀g∈gs,B7 c (.inr g.nm)=some (uD g.un))->qb (EP Q) [some d,some (.str x),some (.dic c),none,none]:=λc hv=>by
  walk_at "r";refine⟨λm T=>∃(b:QF) (a:Option Str) (E:Option D),T=[some d,some (uD a),some (.dic c),E,some (cP b)]/\b++ups gs m a=ups gs 8 (some x)/\b.length<=8-m/\m<=8/\(∀y,a=some y->De gs dp m y),⟨8,[],some x,none,rfl,rfl,wf _,hI _,λy hy=>?_⟩,?_⟩
  ·cases hy;obtain⟨j,U⟩:=u8 M;obtain⟨a1,a2,_⟩:=B j g0 U;exact⟨j,g0,U,e0,a1,a2⟩
  ·rintro m T ⟨b,a,E,rfl,i,ha,hm,hd⟩
   cases a with
   | none=>
    walk_at "r";have e:ups gs m none=[]:=by cases m<;>rfl
    rw[e,sK] at i;rw[<-i] at q;exact q
   | some y=>
    have S:=hd y rfl
    have J:∃G,m=G+1:=by
     obtain⟨_,_,_,_,Y,X⟩:=S;exact⟨m-1,by omega⟩
    obtain⟨G,rfl⟩:=J
    have C:∃g∈gs,g.nm=y:=by
     obtain⟨j,g,Y,X,_⟩:=S;exact⟨g,rc Y,X⟩
    obtain⟨g,p,rfl⟩:=C;have o:=tQ I p;walk_at "r";refine⟨by rw[cC];exact A9 (by omega),?_⟩;refine⟨_,_,rfl,hv g p,rfl,?_⟩;refine⟨G,Nat.lt_succ_self _,b++[g.nm],g.un,E,?_,?_,?_,by omega,λz hz=>S.next B I (o.trans hz)⟩
    ·unfold cP;rw[t7];rfl
    ·rw[Fa,<-o];exact i
    ·rw[hW,pp];omega
 rcases hs with rfl | rfl
 all_goals
  refine⟨by rw[cC];exact A9 (by omega),?_⟩;refine Dc (k:=λg:Gd=>.inr g.nm) (v:=λg:Gd=>uD g.un) gs [] (λg C K R H=>?_) ⟨rfl,?_⟩
  ·obtain⟨n,u,cv,de,wa⟩:=g;have H:K (.inr n) (uD u):=H;have iU:w8 (uD u)=true:=Dr u;walk_at "r";exact⟨iU,H⟩
  ·refine l _ λg C=>pF (k:=λg:Gd=>(.inr g.nm:Key)) (v:=λg:Gd=>uD g.un) gs [] ?_ g C;have e:gs.map (λg:Gd=>(.inr g.nm:Key))=(gs.map (·.nm)).map (λy=>(.inr y:Key)):=by rw[vv];rfl
   rw[e,List.Nodup,Pw];exact I.imp λh z=>h (Sum.inr.inj z)
theorem Hf(gs:List Gd):(gs.map gD).map O9=gs.map (·.nm):=by rw[vv];rfl
theorem lK(gs:List Gd):∀x∈gs.map gD,tD x:=λx a=>by
 obtain⟨g,_,rfl⟩:=List.mem_map.mp a;exact⟨_,_,rfl⟩
theorem gb{d:D}(h:N3 d=true):∃(n:Str) (u:Option Str) (c de wa:D),d=.tup [.str n,uD u,c,de,wa]:=by
 unfold N3 at h;split at h
 ·rename_i n u c de wa
  simp only[hD,Lc] at h;obtain⟨⟨⟨⟨b,a⟩,_⟩,_⟩,_⟩:=h;cases n<;>first | cases b | skip
  rcases a with a | a
  ·cases u<;>first | cases a | skip
   exact⟨_,none,_,_,_,rfl⟩
  ·cases u<;>first | cases a | skip
   exact⟨_,some _,_,_,_,rfl⟩
 ·cases h
theorem dY{d:D}(h:av d=true):∃(n a:Str) (c la on:D),d=.tup [.str n,.str a,c,la,on]:=by
 unfold av at h;split at h
 ·rename_i n u c de wa
  simp only[hD,Lc] at h;obtain⟨⟨⟨⟨e,b⟩,_⟩,_⟩,_⟩:=h;cases n<;>first | cases e | skip
  cases u<;>first | cases b | skip
  exact⟨_,_,_,_,_,rfl⟩
 ·cases h
theorem nZ(ds:List D)(Q:D->Prop)(h:K5 ds Q):iH (EP Q) (i8 3 ds):=by
 obtain⟨g,gs,d,rfl,j,o,p,q⟩:=h;have z:=o.len;have l:(gs.map gD).length<=100:=by rw[cC];omega
 refine⟨d,rfl,p,?_⟩
 by_cases a:N3 d=true
 ·obtain⟨n,u,c,de,wa,rfl⟩:=gb a;rw[a];unfold K0 at q;rw[a,tt] at q
  have q:Q (.bl (!decide (n∈gs.map (·.nm))&&(match u with | some y=>decide (y∈gs.map (·.nm))&&decide ((ups gs 8 (some y)).length<=7) | none=>true))):=by
   cases u with
   | none=>
    have q:Q (.bl (!decide (n∈gs.map (·.nm)))):=q;rw[Bool.and_true];exact q
   | some y=>
    have q:Q (.bl (!decide (n∈gs.map (·.nm))&&decide (y∈gs.map (·.nm))&&decide ((ups gs 8 (some y)).length<=7))):=q;rw[Pj] at q;exact q
  refine Br.no rfl ?_;refine⟨_,aZ _ _,?_⟩;refine⟨g,gs.map gD,rfl,j,l,lK gs,?_⟩;rw[Hf];refine⟨rfl,_,rfl,R3 _,?_⟩;rw[aP];show Br (decide (n∈gs.map (·.nm))) _ _
  by_cases b:n∈gs.map (·.nm)
  ·rw[eH b];refine Br.yes rfl ?_;rw[eH b] at q;exact q
  ·rw[iG b];refine Br.no rfl ?_;rw[iG b] at q;refine⟨_,dZ _ _ _,rfl,?_⟩
   cases u with
   | none=>
    walk_at "r";exact q
   | some y=>
    have q:Q (.bl (decide (y∈gs.map (·.nm))&&decide ((ups gs 8 (some y)).length<=7))):=q;refine Br.no rfl ?_;refine⟨g,gs.map gD,rfl,j,l,lK gs,?_⟩;rw[Hf];refine⟨rfl,_,rfl,R3 _,?_⟩;have v:inD (uD (some y)) (List.map D.str (List.map (λx=>x.nm) gs))=decide (y∈gs.map (·.nm)):=aP y _;rw[v];show Br (decide (y∈gs.map (·.nm))) _ _
    by_cases i:y∈gs.map (·.nm)
    ·rw[eH i] at q ⊢;refine Br.yes rfl ⟨g,gs,y,rfl,j,o,by simpa using i,?_⟩;rw[tt] at q;show Q (.bl (decide (((ups gs 8 (some y)).map D.str).length<=(7:Int))))
     have e:decide ((((ups gs 8 (some y)).map D.str).length:Int)<=(7:Int))=decide ((ups gs 8 (some y)).length<=7):=by
      rw[cC]
      by_cases h:(ups gs 8 (some y)).length<=7
      ·rw[eH h,eH (by omega)]
      ·rw[iG h,iG (by omega)]
     rw[e];exact q
    ·rw[iG i] at q ⊢;exact Br.no rfl q
 ·have a:N3 d=false:=by simpa using a
  rw[a];unfold K0 at q;rw[a,Ol] at q;exact Br.yes rfl (Br.yes rfl q)
theorem tK(ds:List D)(Q:D->Prop)(h:N6 ds Q):jR (EP Q) (i8 3 ds):=by
 obtain⟨i,b,u,g,d,rfl,l,x,p,y,j,v,z,q⟩:=h;refine⟨d,rfl,z,?_⟩
 by_cases e:av d=true
 ·obtain⟨n,a,c,la,on,rfl⟩:=dY e;rw[e];unfold Q8 at q;rw[e,tt] at q;have q:Q (.bl (decide (a∈b.map O9)&&!decide (n∈b.map O9)&&!decide (n∈g.map O9))):=q;refine Br.no rfl ?_;refine⟨_,dZ _ _ _,?_⟩;refine⟨i,b,rfl,l,p,j,?_⟩;refine⟨rfl,_,rfl,R3 _,?_⟩;rw[aP];show Br (!decide (a∈b.map O9)) _ _
  by_cases r:a∈b.map O9
  ·rw[eH r] at q ⊢;refine Br.no rfl ?_;rw[tt] at q;refine⟨_,aZ _ _,?_⟩;refine⟨i,b,rfl,l,p,j,?_⟩;refine⟨rfl,_,rfl,R3 _,?_⟩;rw[aP];show Br (!decide (n∈b.map O9)) _ _
   by_cases o:n∈b.map O9
   ·rw[eH o] at q ⊢;exact Br.no rfl q
   ·rw[iG o] at q ⊢;refine Br.yes rfl ⟨_,aZ _ _,?_⟩;refine⟨u,g,rfl,x,y,v,?_⟩;refine⟨rfl,_,rfl,R3 _,?_⟩;rw[aP];exact q
  ·rw[iG r] at q ⊢;exact Br.yes rfl q
 ·have e:av d=false:=by simpa using e
  rw[e];unfold Q8 at q;rw[e,Ol] at q;exact Br.yes rfl (Br.yes rfl q)
theorem lW{n:Int}(h:num n):D9 (.int n)=true:=by
 show(decide (0<=n)&&decide (n<10^60))=true;rw[eH h.1,eH h.2];rfl
theorem vj{n:Int}(h:1<=n/\n<10^60):posB (.int n)=true:=by
 show(D9 (.int n)&&!decide (n=0))=true;rw[lW ⟨by omega,h.2⟩,iG (by omega)];rfl
theorem pK{x:Str}(h:nm 8 x):p5 (.str x)=true:=by
 have a:(cs x).length=x.length:=GM;have e:=h.1;have d:=h.2.1;show(decide (1<=x.length)&&decide (x.length<=8)&&(cs x).all bI)=true;rw[eH (show 1<=x.length by rw[<-a];exact e),eH (show x.length<=8 by rw[<-a];exact d)];refine List.all_eq_true.mpr λc b=>?_;have:=h.2.2 c b;unfold bI;simp;exact this
theorem qK:∀{ps:List Pr},(ps.Pairwise λp q=>p.1<q.1/\q.2<p.2)->N8 (ps.map pr)=true
 | [],_=>rfl
 | [_],_=>rfl
 | p::q::r,h=>by
  obtain⟨b,a⟩:=List.pairwise_cons.mp h;have:=b q pu;show((decide (p.1<q.1)&&decide (q.2<p.2))&&N8 ((q::r).map pr))=true;rw[qK a,eH this.1,eH this.2];rfl
theorem yX{ps:List Pr}(h:ny ps):G1 (cT ps)=true:=by
 show(decide (1<=(ps.map pr).length)&&decide ((ps.map pr).length<=5)&&(ps.map pr).all P6&&N8 (ps.map pr))=true;rw[cC,eH h.1,eH h.2.1,qK h.2.2.2]
 have:(ps.map pr).all P6=true:=List.all_eq_true.mpr λd hd=>by
  obtain⟨p,a,rfl⟩:=List.mem_map.mp hd;have:=h.2.2.1 p a;show(posB (.int p.1)&&posB (.int p.2))=true;rw[vj ⟨this.1,this.2.1⟩,vj ⟨this.2.2.1,this.2.2.2⟩];rfl
 rw[this];rfl
theorem R0.guard{b:Bd}(h:R0 b){g:Gd}(a:g∈b.gs):N3 (gD g)=true:=by
 have t:=h.gt g a;have c:=h.cv g a;obtain⟨x,u,cv,de,wa⟩:=g;show(p5 (.str x)&&(U4 (uD u)||p5 (uD u))&&G1 (cT cv)&&D9 (.int de)&&D9 (.int wa))=true;rw[pK t.nm,yX c,lW t.de,lW t.wa]
 cases u with
 | none=>rfl
 | some y=>
  show(true&&(false||p5 (.str y))&&true&&true&&true)=true;rw[pK (t.un y rfl)];rfl
theorem R0.Mr{b:Bd}(h:R0 b)(i:Nat):aY (b.gs.take i):=by
 refine⟨by rw[t9];have:=h.g16;omega,?_,?_⟩
 ·rw[List.map_take];exact(List.nodup_append.mp h.nd).1.sublist (List.take_sublist _ _)
 ·obtain⟨dp,hd⟩:=h.un;refine⟨dp,λk g o=>?_⟩
  have l:k<i:=by
   have:=(List.getElem?_eq_some_iff.mp o).1;rw[t9] at this;omega
  rw[ww l] at o;obtain⟨a,u,c,d⟩:=hd k g o;refine⟨a,u,c,λy p=>?_⟩;obtain⟨j,r,q,e,n,f⟩:=d y p;exact⟨j,r,q,by rw[ww (by omega)];exact e,n,f⟩
theorem vV{gs:List Gd}{dp:Nat->Nat}(h:sA gs dp)(c:(gs.map (·.nm)).Nodup):∀(n m:Nat) (y:Str),De gs dp n y->(ups gs m (some y)).length<=n
 | 0,m,y,d=>by obtain⟨j,g,_,_,a,b⟩:=d;omega
 | n+1,0,y,d=>wf _
 | n+1,m+1,y,d=>by
  show(ups gs m (jq gs y)).length+1<=n+1
  cases e:jq gs y with
  | none=>cases m<;>exact Ox (wf _)
  | some z=>exact Ox (vV h c n m z (d.next h c e))
theorem BZ(ps:List Pr):kn (cT ps)=true:=by
 show cQ (ps.map pr)=true
 induction ps with
 | nil=>rfl
 | cons p ps a=>show(true&&(true&&true)&&cQ (ps.map pr))=true;rw[a];rfl
theorem uR{x:Str}(h:nm 8 x):decide (x.length<=100000)=true:=by
 have:=mH h;exact eH (by omega)
theorem GT.kn{g:Gd}(h:GT g):kn (gD g)=true:=by
 obtain⟨x,u,cv,de,wa⟩:=g;show(decide (x.length<=100000)&&(My.kn (uD u)&&(My.kn (cT cv)&&(true&&(true&&true)))))=true;rw[uR h.nm,BZ]
 cases u with
 | none=>rfl
 | some y=>show(true&&(decide (y.length<=100000)&&(true&&true)))=true;rw[uR (h.un y rfl)];rfl
theorem LT.kn{g:Ld}(h:LT g):kn (lD g)=true:=by
 obtain⟨x,u,cv,de,wa⟩:=g;show(decide (x.length<=100000)&&(decide (u.length<=100000)&&(My.kn (cT cv)&&(true&&(true&&true)))))=true;rw[uR h.nm,uR h.at_,BZ];rfl
theorem R0.Nc{b:Bd}(h:R0 b){i:Nat}{g:Gd}(v:b.gs[i]?=some g):K0 (b.gs.take i) (gD g)=true:=by
 have G:=rc v;have I:=h.guard G;have nd:(b.gs.map (·.nm)).Nodup:=(List.nodup_append.mp h.nd).1;obtain⟨dp,hd⟩:=h.un;have J:=h.Mr i;have H:sA b.gs dp:=hd
 have B:sA (b.gs.take i) dp:=λk g l=>by
  have p:k<i:=by
   have:=(List.getElem?_eq_some_iff.mp l).1;rw[t9] at this;omega
  rw[ww p] at l;obtain⟨a,O,c,d⟩:=hd k g l;refine⟨a,O,c,λy E=>?_⟩;obtain⟨j,o,q,e,n,f⟩:=d y E;exact⟨j,o,q,by rw[ww (by omega)];exact e,n,f⟩
 have new:decide (g.nm∈(b.gs.take i).map (·.nm))=false:=iG λz=>by
  rw[List.map_take] at z;obtain⟨k,l⟩:=u8 z
  have p:k<i:=by
   have:=(List.getElem?_eq_some_iff.mp l).1;rw[t9] at this;omega
  rw[ww p] at l;have r:(b.gs.map (·.nm))[i]?=some g.nm:=by rw[rz,v];rfl
  have:=(List.getElem?_inj (List.getElem?_eq_some_iff.mp l).1 nd).mp (l.trans r.symm);omega
 obtain⟨_,d8,_,M⟩:=hd i g v;obtain⟨x,u,cv,de,wa⟩:=g;unfold K0;rw[I]
 cases u with
 | none=>
  show(!decide (x∈(b.gs.take i).map (·.nm)))=true;have new:decide (x∈(b.gs.take i).map (·.nm))=false:=new;rw[new];rfl
 | some y=>
  show(!decide (x∈(b.gs.take i).map (·.nm))&&decide (y∈(b.gs.take i).map (·.nm))&&decide ((ups (b.gs.take i) 8 (some y)).length<=7))=true;have new:decide (x∈(b.gs.take i).map (·.nm))=false:=new;obtain⟨j,o,q,e,rfl,f⟩:=M y rfl;have C:(b.gs.take i)[j]?=some o:=by rw[ww q];exact e
  have dj:=hd j o e;have up:(ups (b.gs.take i) 8 (some o.nm)).length<=7:=vV B J.nd 7 8 o.nm ⟨j,o,C,rfl,dj.1,by omega⟩;rw[new,eH (List.mem_map.mpr ⟨o,rc C,rfl⟩),eH up];rfl
theorem G6:∀(xs:List D) (k:Nat),(eS k xs).length=xs.length
 | [],_=>rfl
 | x::xs,k=>by show(eS (k+1) xs).length+1=xs.length+1;rw[G6 xs]
local macro_rules | `(tactic| walk_at "n")=>`(tactic| (try dsimp only[i8,List.length,List.replicate,List.map,List.set,List.append,List.cons_append,List.nil_append,Nat.reduceAdd,Nat.reduceSub]))
def Bm:D->Bool
 | .tup _=>true
 | _=>false
theorem uW{d:D}(h:Bm d=true):∃xs,d=.tup xs:=by
 cases d<;>first | exact⟨_,rfl⟩ | cases h
theorem nN(ds:List D)(Q:D->Prop)(h:K6 ds Q):gF (EP Q) (i8 2 ds):=by
 obtain⟨d,rfl,j,q⟩:=h;cases d<;>first | (simp[kn] at j;done) | (obtain⟨_,rfl⟩:=J6 j) | skip
 case tup c=>
  have i:∀x∈c,kn x=true:=B8 (by simpa[kn] using j);walk_at "r";refine⟨λe=>?_,λe=>?_⟩
  ·have e:¬(c.length:Int)=2:=by simpa[ng] using e
   have z:bc (.tup c)=false:=by
    match c,e with
    | [],_=>rfl
    | [a],_=>cases a<;>rfl
    | [_,_],e=>exact absurd rfl e
    | a::b::_::_,_=>cases a<;>first | rfl | (cases b<;>rfl)
   rw[z] at q;exact q
  ·have e:(c.length:Int)=2:=by simpa[ng] using e
   obtain⟨a,b,rfl,u⟩:=cE (p:=Bm) (by omega:c.length=2);walk_at "r";refine T1 Bm (λo=>∃v,o=[some (.tup [a,b]),v]) ⟨none,rfl⟩ ?_ (λe _=>?_) (λe B hw=>?_)
   ·rintro d hd o ⟨v,rfl⟩ N C E;have g:=i d hd;cases d<;>first | (simp[kn] at g;done) | (obtain⟨_,rfl⟩:=J6 g) | skip
    case tup J=>
     walk_at "r";exact C rfl _ ⟨_,rfl⟩
    all_goals
     walk_at "r";exact E rfl []
   ·have z:bc (.tup [a,b])=false:=by
     rw[u] at e;cases a<;>cases b<;>first | rfl | cases e
    rw[z] at q;exact q
   ·obtain⟨v,rfl⟩:=hw;rw[u,hD] at e;obtain⟨I,H⟩:=e;obtain⟨gs,rfl⟩:=uW I;obtain⟨ls,rfl⟩:=uW H;have q:Q (.bl (decide (1<=gs.length)&&decide (gs.length<=16)&&decide (ls.length<=24))):=q;walk_at "r"
    by_cases l:1<=gs.length
    ·refine Br.yes (eH (by omega)) ?_;walk_at "r"
     by_cases y:gs.length<=16
     ·refine⟨λ_=>?_,λe=>absurd (Ch e) (by omega)⟩;walk_at "r";have G:decide ((ls.length:Int)<=24)=decide (ls.length<=24):=decide_eq_decide.mpr (by omega);show Q (.bl (decide ((ls.length:Int)<=24)));rw[G];rw[eH l,eH y] at q;exact q
     ·refine⟨λe=>absurd (qs e) (by omega),λ_=>?_⟩;rw[eH l,iG y] at q;exact q
    ·refine Br.no (iG (by omega)) ?_;rw[iG l] at q;exact Br.no rfl q
 all_goals
  walk_at "r";exact q
theorem gN{d:D}(h:bc d=false):br d=some (("board" : Str),(0:Int)):=by
 unfold br;split
 ·rw[h];rfl
 ·rfl
theorem vS{d:D}(h:bc d=true):∃gs ls,d=.tup [.tup gs,.tup ls]/\gs.length<=16/\ls.length<=24:=by
 unfold bc at h;split at h
 ·rw[hD,hD] at h;exact⟨_,_,rfl,qs h.1.2,qs h.2⟩
 ·cases h
theorem Hd(xs:List D)(i:Nat)(h:i<=xs.length):cutD xs none (some (i:Int))=xs.take i:=by
 have a:HT.D1 xs.length xs.length (some (i:Int))=i:=by
  show(if (i:Int)<0 then((i:Int)+(xs.length:Int)).toNat else min (i:Int).toNat xs.length)=i;rw[qc (by omega)];show min i xs.length=i;omega
 unfold cutD;rw[a];simp[HT.D1]
theorem tM{p:D->Bool}(c:∀d,p d=true->∃a b:Int,d=.tup [.int a,.int b]):∀{xs:List D},xs.all p=true->xs=(xs.map Dz).map pr
 | [],_=>rfl
 | x::xs,h=>by
  rw[Gc,hD] at h;obtain⟨a,b,rfl⟩:=c x h.1;rw[rl,rl,<-tM c h.2];rfl
theorem EA(d:D)(h:jm d=true):∃a b:Int,d=.tup [.int a,.int b]:=by
 unfold jm at h;split at h
 ·rename_i a b
  rw[hD] at h;unfold posB at h;rw[hD] at h;obtain⟨i,rfl,_⟩:=U6 h.1.1;obtain⟨j,rfl,_⟩:=U6 h.2;exact⟨i,j,rfl⟩
 ·cases h
theorem FY{xs e:QF}{x:D}(h:Q8 xs e x=true):tD x/\w8 x=true:=by
 unfold Q8 at h;rw[hD] at h;obtain⟨n,a,c,la,on,rfl⟩:=dY h.1;refine⟨⟨n,_,rfl⟩,?_⟩;have d:(p5 (.str n)&&p5 (.str a)&&K3 c&&D9 la&&(P4 on true||P4 on false))=true:=h.1;simp only[hD] at d;obtain⟨⟨⟨_,b⟩,l⟩,j⟩:=d;obtain⟨i,rfl,_⟩:=U6 l;unfold K3 at b;split at b
 ·rename_i g
  rw[hD] at b;rw[tM EA b.2];show(true&&(true&&(w8 (cT (g.map Dz))&&(true&&(w8 on&&true)))))=true;rw[fH];cases on<;>first | rfl | (simp[P4] at j;done)
 ·cases b
theorem pJ{d:D}(h:N3 d=true):d=gD (dG d):=by
 obtain⟨n,u,c,de,wa,rfl⟩:=gb h;have o:(p5 (.str n)&&(U4 (uD u)||p5 (uD u))&&G1 c&&D9 de&&D9 wa)=true:=h;simp only[hD] at o;obtain⟨⟨⟨_,g⟩,q⟩,p⟩:=o;obtain⟨i,rfl,_⟩:=U6 q;obtain⟨j,rfl,_⟩:=U6 p;unfold G1 at g;split at g
 ·rename_i l
  simp only[hD] at g;have e:=tM (λd hd=>by obtain⟨a,b,e,_⟩:=S9 hd;exact⟨a,b,e⟩) g.1.2;have r:uD (JT (uD u))=uD u:=by cases u<;>rfl
  show D.tup [.str n,uD u,.tup l,.int i,.int j]=D.tup [.str n,uD (JT (uD u)),.tup ((l.map Dz).map pr),.int i,.int j];rw[r,<-e]
 ·cases g
theorem zd{gs:List Gd}{dp:Nat->Nat}(h:sA gs dp)(b:(gs.map (·.nm)).Nodup):∀(n m j:Nat) (g:Gd),gs[j]?=some g->dp j=n->n<=m->(ups gs m (some g.nm)).length=n
 | 0,m,j,g,a,e,_=>by have:=(h j g a).1;omega
 | n+1,0,j,g,a,e,d=>by omega
 | n+1,m+1,j,g,a,e,d=>by
  have o:jq gs g.nm=g.un:=tQ b (rc a);show(ups gs m (jq gs g.nm)).length+1=n+1;rw[o];obtain⟨_,_,t,u⟩:=h j g a
  cases c:g.un with
  | none=>
   have:=t c;have p:n=0:=by omega
   subst p;cases m<;>rfl
  | some y=>
   obtain⟨k,l,_,i,rfl,q⟩:=u y c;rw[zd h b n m k l i (by omega) (by omega)]
theorem vf{gs:List Gd}{g:Gd}{k:Nat}(C:aY gs)(H:gs.length<16)(new:g.nm∉gs.map (·.nm)){dp:Nat->Nat}(hd:sA gs dp)(k1:1<=k)(r:k<=8)(t:g.un=none->k=1)(u:∀y,g.un=some y->∃j l,gs[j]?=some l/\l.nm=y/\k=dp j+1):aY (gs++[g]):=by
 refine⟨by simp;omega,?_,λi=>if i<gs.length then dp i else k,λi E o=>?_⟩
 ·rw[t7,List.nodup_append];refine⟨C.nd,by simp,λa z b x e=>?_⟩;have:b=g.nm:=by simpa using x
  subst e;exact new (this▸z)
 ·by_cases h:i<gs.length
  ·rw[ri h] at o;obtain⟨a,b,c,d⟩:=hd i E o;dsimp only;rw[qq h];refine⟨a,b,c,λy q=>?_⟩;obtain⟨j,l,v,e,n,f⟩:=d y q;exact⟨j,l,v,by rw[ri (by omega)];exact e,n,by rw[qq (by omega)];exact f⟩
  ·have B:=(List.getElem?_eq_some_iff.mp o).1;rw[hW,pp] at B;have G:i=gs.length:=by omega
   subst G;rw[t5 (hI _),Om] at o;cases o;dsimp only;rw[qc h];refine⟨k1,r,t,λy q=>?_⟩;obtain⟨j,l,e,n,f⟩:=u y q;have p:=(List.getElem?_eq_some_iff.mp e).1;exact⟨j,l,p,by rw[ri p];exact e,n,by rw[qq p];exact f⟩
theorem qm{gs:List Gd}{x:D}(C:K0 gs x=true)(i:aY gs)(r:gs.length<16):x=gD (dG x)/\aY (gs++[dG x]):=by
 have d:=C;unfold K0 at d;rw[hD] at d;have ex:=pJ d.1;refine⟨ex,?_⟩;generalize dG x=g at ex;subst ex;have c:=d.2;obtain⟨dp,hd⟩:=i.un;obtain⟨n,u,cv,de,wa⟩:=g
 cases u with
 | none=>
  have c:(!decide (n∈gs.map (·.nm)))=true:=c;exact vf (k:=1) i r (by simpa using c) hd (hI _) (by decide) (λ_=>rfl) (λy l=>by cases l)
 | some y=>
  have c:(!decide (n∈gs.map (·.nm))&&decide (y∈gs.map (·.nm))&&decide ((ups gs 8 (some y)).length<=7))=true:=c;rw[hD,hD] at c;obtain⟨⟨h,p⟩,v⟩:=c;have h:n∉gs.map (·.nm):=λz=>by rw[eH z] at h;cases h
  have p:=qs p;have v:=qs v;obtain⟨q,B,rfl⟩:=List.mem_map.mp p;obtain⟨j,o⟩:=u8 B;obtain⟨a,b,_,_⟩:=hd j q o;have e:=zd hd i.nd (dp j) 8 j q o rfl b;exact vf (k:=dp j+1) i r h hd (by omega) (by omega) (λz=>by cases z) (λy l=>by cases l;exact⟨j,q,o,rfl,rfl⟩)
theorem Cw(ds:List D)(Q:D->Prop)(W:Str->List V->Prop)(h:U9 ds Q W):vo W (EP Q) (i8 6 ds):=by
 obtain⟨d,rfl,E,q⟩:=h;refine⟨d,rfl,E,?_⟩
 cases J:bc d with
 | false=>
  rw[gN J] at q;exact Br.yes rfl ⟨rfl,rfl,rfl,q⟩
 | true=>
  refine Br.no rfl ?_;obtain⟨a,b,rfl,hx,p⟩:=vS J;have E:(cQ a&&(cQ b&&true))=true:=E;rw[hD,hD] at E;have X:=B8 E.1;have U:=B8 E.2.1
  have q:(match (match M4 [] a with
   | some i=>some (("guard" : Str),(i:Int))
   | none=>match S0 (a.map O9) [] b with
    | some i=>some ("load",(i:Int))
    | none=>none) with
   | none=>Q (.bl true)
   | some (w,i)=>W "NoBoard" [.str w,.int i]):=by
   have e:br (.tup [.tup a,.tup b])=(match M4 [] a with
    | some i=>some (("guard" : Str),(i:Int))
    | none=>match S0 (a.map O9) [] b with
     | some i=>some ("load",(i:Int))
     | none=>none):=by
    show(bif bc _ then _ else _)=_;rw[J];rfl
   rw[e] at q;exact q
  walk_at "r";have g0:aY []:=⟨wf _,op,λ_=>1,λi g Y=>by cases Y⟩
  refine .of ⟨λi u=>∃gs o l,u=[some (.tup [.tup a,.tup b]),some (.tup a),some (.tup b),o,l,none]/\gs.length=i/\a.take i=gs.map gD/\aY gs/\M4 gs (a.drop i)=M4 [] a,⟨[],none,none,rfl,rfl,rfl,g0,rfl⟩,?_,?_⟩
  ·rintro i e u O ⟨gs,o,l,rfl,rfl,C,S,c⟩;obtain⟨x,j,rfl⟩:=L3.V9 O;rw[Pa];have v:=(List.getElem?_eq_some_iff.mp j).1;have G:=Hd a gs.length (OC v)
   have hd:a.drop gs.length=x::a.drop (gs.length+1):=by
    rw[v2 v];rw[hL v] at j;cases j;rfl
   rw[hd] at c;have c:(bif K0 gs x then M4 (gs++[dG x]) (a.drop (gs.length+1)) else some gs.length)=M4 [] a:=c;refine⟨rfl,rfl,?_⟩;show cz W _ [some (.tup [.tup a,.tup b]),some (.tup a),some (.tup b),some (.int (gs.length:Int)),some x,none];have im:l9 (cutD a none (some (gs.length:Int)))=true:=by rw[G,C];exact EZ gs
   refine⟨im,_,gs,x,rfl,.inl (by rw[G,C]),S,X x (rc j),?_⟩
   cases B:K0 gs x with
   | false=>
    rw[B] at c;have c:some gs.length=M4 [] a:=c;rw[<-c] at q;exact Br.yes rfl ⟨rfl,rfl,rfl,q⟩
   | true=>
    rw[B] at c;obtain⟨ex,R⟩:=qm B S (by omega);refine Br.no rfl ⟨gs++[dG x],_,_,rfl,by simp,?_,R,c⟩;rw[EQ,j,C,t7];exact wv (λz=>gs.map gD++[z]) ex
  ·rintro u ⟨gs,o,l,rfl,hn,C,S,c⟩;rw[L3.G6,OT] at C;rw[L3.G6,On] at c;have c:none=M4 [] a:=by rw[<-c];cases gs<;>rfl
   rw[<-c] at q
   have q:(match (match S0 (a.map O9) [] b with
    | some i=>some (("load" : Str),(i:Int))
    | none=>none) with
    | none=>Q (.bl true)
    | some (w,i)=>W "NoBoard" [.str w,.int i]):=q
   have I:∀x∈a,tD x:=by rw[C];exact lK _
   have main:Ju (gT (p8 (g1 3) (p8 (g1 5) U1))) (X3 W) (eS 0 b) { nx:=km W (EP Q),rt:=(EP Q).rt } [some (.tup [.tup a,.tup b]),some (.tup a),some (.tup b),o,l,none]:=by
    refine .of ⟨λi u=>∃o l H,u=[some (.tup [.tup a,.tup b]),some (.tup a),some (.tup b),o,l,H]/\(∀y∈b.take i,tD y/\w8 y=true)/\S0 (a.map O9) ((b.take i).map O9) (b.drop i)=S0 (a.map O9) [] b,⟨o,l,none,rfl,by simp,rfl⟩,?_,?_⟩
    ·rintro i e u O ⟨o,l,H,rfl,M,c⟩;obtain⟨x,j,rfl⟩:=L3.V9 O;rw[Pa];have v:=(List.getElem?_eq_some_iff.mp j).1;have G:=Hd b i (OC v)
     have hd:b.drop i=x::b.drop (i+1):=by
      rw[v2 v];rw[hL v] at j;cases j;rfl
     rw[hd] at c;have c:(bif Q8 (a.map O9) ((b.take i).map O9) x then S0 (a.map O9) ((b.take i).map O9++[O9 x]) (b.drop (i+1)) else some ((b.take i).map O9).length)=S0 (a.map O9) [] b:=c;refine⟨rfl,rfl,?_⟩;show X3 W _ [some (.tup [.tup a,.tup b]),some (.tup a),some (.tup b),some (.int (i:Int)),l,some x];have im:l9 (cutD b none (some (i:Int)))=true:=by rw[G];exact x8 λy p=>(M y p).2
     have len:(b.take i).length=i:=by rw[t9];omega
     refine⟨im,_,a,_,b.take i,x,rfl,.inl rfl,.inl (by rw[G]),by omega,by omega,I,λy p=>(M y p).1,U x (rc j),?_⟩
     cases B:Q8 (a.map O9) ((b.take i).map O9) x with
     | false=>
      rw[B,cC,len] at c;have c:some i=S0 (a.map O9) [] b:=c;rw[<-c] at q;exact Br.yes rfl ⟨rfl,rfl,rfl,q⟩
     | true=>
      rw[B] at c;have T:b.take (i+1)=b.take i++[x]:=by rw[EQ,j];rfl
      refine Br.no rfl ⟨_,_,_,rfl,λy p=>?_,?_⟩
      ·rw[T,List.mem_append,List.mem_singleton] at p;rcases p with p | rfl
       ·exact M y p
       ·exact FY B
      ·rw[T,t7];exact c
    ·rintro u ⟨o,l,H,rfl,_,c⟩;rw[L3.G6,On] at c;have c:none=S0 (a.map O9) [] b:=by rw[<-c];rfl
     rw[<-c] at q;exact q
   exact main
theorem zO(ds:List D)(Q:D->Prop)(h:W9 ds Q):vd { nx:=λ_=>Q .p7,rt:=λd _=>Q d } (i8 2 ds):=by
 obtain⟨d,ns,k,rfl,b,c,q⟩:=h;rcases b with rfl | rfl
 all_goals
  walk_at "r";refine⟨λe=>?_,λe=>q 0⟩;have g:=qs e;obtain⟨x,_,_,a⟩:=E8 (f:=D.int) c (by simpa using g);exact⟨_,a,rfl,q x⟩
theorem IA(ds:List D)(Q:D->Prop)(h:Z5 ds Q):GV { nx:=λ_=>Q .p7,rt:=λd _=>Q d } (i8 3 ds):=by
 obtain⟨d,ns,k,rfl,a,b,e,q⟩:=h;refine⟨d,ns,k,rfl,a,b,λc=>?_⟩;walk_at "r";exact q c
theorem IH(ds:List D)(Q:D->D->Prop)(h:u5 ds Q):GU { nx:=λg=>c8 0 g λl=>Q .p7 l,rt:=λd g=>c8 0 g λl=>Q d l } (i8 4 ds):=by
 obtain⟨c,d,k,n,rfl,v,u,e,i,q⟩:=h;walk_at "r";refine⟨λo=>?a,λo=>Br.no rfl ?c⟩
 case' a=>
  walk_at "r";refine⟨λj=>?t,λj=>?b⟩
 case t=>
  walk_at "r";refine⟨e,?_⟩;walk_at "r";refine⟨⟨e,KS i e⟩,?_⟩;walk_at "r";exact q _ _ (v9 _ (by omega)) (uy _ e)
 all_goals
  walk_at "r";refine⟨.inl ⟨by omega,by omega⟩,?_⟩;walk_at "r";have p:=v9 ((c%2147483629*48271+7919*(k+1)+(k+1)*(k+1)*69621+11)%2147483647) (show(65521:Int)≠0 by decide);have z1:=uy ((c%2147483629*48271+7919*(k+1)+(k+1)*(k+1)*69621+11)%2147483647) (show(0:Int)<65521 by decide);refine⟨.inr ⟨by omega,by omega⟩,?_⟩;walk_at "r";refine⟨e,?_⟩;walk_at "r";exact q _ _ (v9 _ (by omega)) (uy _ e)
theorem DR(ds:List D)(Q:D->D->Prop)(h:Q1 ds Q):Az { nx:=λi=>c8 0 i λl=>Q .p7 l,rt:=λd i=>c8 0 i λl=>Q d l } (i8 2 ds):=by
 obtain⟨c,d,k,rfl,u,y,q⟩:=h;walk_at "r";refine⟨c,d,k,4,rfl,u,by omega,by decide,by decide,λw d1 x v=>?_⟩;walk_at "r";refine⟨λe=>?_,λe=>?_⟩
 ·have e:=qs e;walk_at "r";refine⟨c,d1,k+1,4,rfl,by omega,by omega,by decide,by decide,λr d2 j a=>?_⟩;walk_at "r";refine⟨.inl ⟨by omega,by omega⟩,?_⟩;walk_at "r";have:w=0\/w=1:=by omega
  rcases this with rfl | rfl
  ·exact q _ _ _ (by omega) (by omega) (by omega) (by omega)
  ·exact q _ _ _ (by omega) (by omega) (by omega) (by omega)
 ·walk_at "r";refine⟨λe=>?_,λe=>?_⟩
  ·walk_at "r";refine⟨c,d1,k+1,_,rfl,by omega,by omega,by decide,by decide,λr d2 j a=>?_⟩;walk_at "r";have a:r<1000000:=a;exact q _ _ _ (by omega) (by omega) (by omega) (by omega)
  ·walk_at "r";refine⟨c,d1,k+1,_,rfl,by omega,by omega,by decide,by decide,λr d2 j a=>?_⟩;have a:r<1000000000:=a;walk_at "r";refine⟨.inl ⟨by omega,by omega⟩,?_⟩;walk_at "r";refine⟨c,d2,k+1+1,_,rfl,by omega,by omega,by decide,by decide,λp d3 o b=>?_⟩;walk_at "r";have b:p<10^40:=b;have g:((10:Int)^(Int.toNat 49))=10^49:=rfl;refine q _ _ _ ?_ ?_ (by omega) (by omega)
   ·rw[g];omega
   ·rw[g];omega
theorem CT(ds:List D)(Q:D->D->Prop)(h:O1 ds Q):vP { nx:=λb=>c8 0 b λl=>Q .p7 l,rt:=λd b=>c8 0 b λl=>Q d l } (i8 2 ds):=by
 obtain⟨c,d,k,rfl,j,y,q⟩:=h;walk_at "r";refine⟨c,d,k,5,rfl,j,by omega,by decide,by decide,λw d1 p o=>?_⟩;walk_at "r";refine⟨λe=>?_,λe=>?_⟩
 ·walk_at "r";refine⟨c,d1,k+1,4,rfl,by omega,by omega,by decide,by decide,λr d2 i g=>?_⟩;walk_at "r";exact q _ _ _ (by omega) (by omega) (by omega) (by omega)
 ·walk_at "r";refine⟨λe=>?_,λe=>?_⟩
  ·walk_at "r";refine⟨c,d1,k+1,rfl,by omega,by omega,λr d2 u i g x v=>?_⟩;walk_at "r";exact q _ _ _ (by omega) (by omega) (by omega) (by omega)
  ·walk_at "r";refine⟨c,d1,k+1,3,rfl,by omega,by omega,by decide,by decide,λr d2 i g=>?_⟩;walk_at "r";have a:((10:Int)^(Int.toNat 60))=10^60:=rfl;refine q _ _ _ ?_ ?_ (by omega) (by omega)
   ·rw[a];omega
   ·rw[a];omega
theorem qT{i:Int}(d:0<=i)(e:i<26):∃c,O7 lb.cps.toList i=some c:=by
 have a:lb.cps.toList.length=26:=by decide +kernel
 have b:i.toNat<lb.cps.toList.length:=by omega
 refine⟨lb.cps.toList[i.toNat],?_⟩;unfold O7 ji;rw[qq d,a,qq (by omega)];exact hL b
theorem lG:lb.length<=sizeLine:=by decide +kernel
theorem zC{z:Str}{n:Int}(a:z.length=1)(c:0<=n)(b:n<=4):MulOk z n:=by
 have h:n=0\/n=1\/n=2\/n=3\/n=4:=by omega
 unfold MulOk;rw[a];rcases h with rfl | rfl | rfl | rfl | rfl
 all_goals decide
theorem Lu{z:Str}{n:Int}(a:z.length=1)(c:0<=n)(b:n<=1):(Txt.mul z n).length<=1:=by
 have h:n=0\/n=1:=by omega
 rcases h with rfl | rfl
 ·exact wf _
 ·have e:Txt.mul z 1=z:=by
   unfold Txt.mul;rw[qc (by decide),qq (by rfl)]
  rw[e,a];exact hI _
theorem Hq{x:Str}{xs:QF}(h:inD (.str x) (xs.map D.str)=false):x∉xs:=λa=>by
 unfold inD at h;rw[List.any_eq_false] at h;have:=h (.str x) (List.mem_map.mpr ⟨x,a,rfl⟩);exact this (beq_self_eq_true x)
theorem names5 {Q:D->D->Prop} {c d k m:Int} {xs:QF} {x:Str} {G E C B v u p h g:Option D} (hw:x="" \/ nm 8 x) (j:(xs.length:Int)=m) (S:1<=m) (R:m<=100) (k0:0<=k) (k1:k<=10^8) (b:xs.Nodup) (a:∀x∈xs,nm 8 x) (q:∀(xs:QF) (d' I:Int),xs.length=m->xs.Nodup->(∀x∈xs,nm 8 x)->Q (cP xs) (feed c d' I)):ou (EM Q) [some (feed c d k),some (.int m),G,E,some (cP xs),C,B,v,u,p,h,g,some (.str x)]:=by
 have M:(xs.map D.str).all Y8=true:=by
  rw[PH];intro y i;obtain⟨z,_,rfl⟩:=List.mem_map.mp i;rfl
 walk_at "r";refine⟨λo=>?_,λo=>Br.no rfl (q xs d k j b a)⟩;walk_at "r";refine⟨M,?_⟩;walk_at "r";refine⟨λl=>?_,λl=>q xs d k j b a⟩;walk_at "r";refine⟨c,d,k,m,rfl,k0,by omega,by omega,by omega,λr d1 H O=>?_⟩;walk_at "r";refine⟨r.toNat,?_,?_⟩
 ·unfold ji;rw[qq H,cC,qq (by omega)]
 ·have e:(xs.map D.str).set r.toNat (.str x)=(xs.set r.toNat x).map D.str:=by rw[List.map_set]
  walk_at "r";rw[e];refine q _ _ _ (by rw[Db];exact j) (jA _ b (Hq ?_)) λy i=>?_
  ·cases J:inD (D.str x) (List.map D.str xs) with
   | false=>rfl
   | true=>rw[J] at l;exact absurd l (by decide)
  ·rcases x2 i with w | w
   ·exact a y w
   ·rw[w];rcases hw with hw | hw
    ·rw[hw] at o;exact absurd o (by decide)
    ·exact hw
theorem Ag:∀x∈(["guard","load","on","off","board","map","least","","","",""]:QF),x="" \/ nm 8 x:=by decide +kernel
theorem names4{Q:D->D->Prop}{c d k m:Int}{xs:QF}{B z y v u p o e b a:Option D}(H:(xs.length:Int)=m)(J:1<=m)(I:m<=100)(k0:0<=k)(k1:k<=10^7)(l:xs.Nodup)(j:∀x∈xs,nm 8 x)(q:∀(xs:QF) (d' G:Int),xs.length=m->xs.Nodup->(∀x∈xs,nm 8 x)->Q (cP xs) (feed c d' G)):pP (EM Q) [some (feed c d k),some (.int m),B,z,some (cP xs),y,v,u,p,o,e,b,a]:=by
 walk_at "r";refine⟨c,d,k,11,rfl,k0,by omega,by decide,by decide,λr d1 E C=>?_⟩;obtain⟨x,g,_,h⟩:=E8 (f:=D.str) (xs:=["guard","load","on","off","board","map","least","","","",""]) (i:=r) E C;refine⟨_,h,rfl,rfl,?_⟩;refine names5 ?_ H J I (by omega) (by omega) l j q;exact Ag x g
theorem Et(ds:List D)(Q:D->D->Prop)(h:bQ ds Q):yK (EM Q) (i8 13 ds):=by
 obtain⟨c,d,k,m,rfl,h0,h1,a5,a4,q⟩:=h;walk_at "r";refine⟨c,d,k,26,rfl,h0,by omega,by decide,by decide,λf d1 f0 f1=>?_⟩;walk_at "r";refine⟨c,d1,k+1,5,rfl,by omega,by omega,by decide,by decide,λr d2 r0 r1=>?_⟩;walk_at "r";refine⟨λe=>?_,λe=>?_⟩
 ·walk_at "r";refine⟨⟨by omega,by omega⟩,?_⟩;refine⟨by rw[p6,cC,rm];exact A9 (by omega),?_⟩;refine V3 (f:=λ(i:Nat)=>.str (Txt.mul ⟨#[(O7 lb.cps.toList ((f+(0+(i:Int)))%26)).getD 0]⟩ (1+(0+(i:Int))/26))) (List.range m.toNat) [] (λi v K R kk=>?_) ?_
  ·have v:=List.mem_range.mp v;obtain⟨H,o⟩:=qT (i:=(f+(0+(i:Int)))%26) (v9 _ (by decide)) (uy _ (by decide));rw[o] at kk;walk_at "r";refine⟨lG,H,o,?_⟩;walk_at "r";refine⟨zC rfl (by omega) (by omega),?_⟩;exact kk
  ·have e:(List.range m.toNat).map (λ(i:Nat)=>D.str (Txt.mul ⟨#[(O7 lb.cps.toList ((f+(0+(i:Int)))%26)).getD 0]⟩ (1+(0+(i:Int))/26)))=((List.range m.toNat).map λ(i:Nat)=>Txt.mul ⟨#[(O7 lb.cps.toList ((f+(0+(i:Int)))%26)).getD 0]⟩ (1+(0+(i:Int))/26)).map D.str:=by rw[vv];rfl
   rw[xL,e];refine⟨rfl,?_⟩;refine names4 (by rw[cC,rm];omega) a5 a4 (by omega) (by omega) (Y7 (nameA f) _ λi j v hj=>yu (by omega) (by omega)) (λx hx=>?_) q;obtain⟨i,v,rfl⟩:=List.mem_map.mp hx;have v:=List.mem_range.mp v;exact zB (i:=i) (by omega) (by omega)
 ·walk_at "r";refine⟨c,d2,k+1+1,7,rfl,by omega,by omega,by decide,by decide,λsz d3 s0 s1=>?_⟩;walk_at "r";refine⟨⟨by omega,by omega⟩,?_⟩;refine⟨by rw[p6,cC,rm];exact A9 (by omega),?_⟩;walk_at "r";refine .of ⟨λn a3 M=>∃(d':Int) (bs:QI),M=[some (feed c d' (k+1+1+1+n)),some (.int m),some (.str lb),some (.int f),none,some (.int (2+sz)),none,none,none,none,none,none,none]/\a3=bs.map D.int/\bs.length=n/\∀b∈bs,0<=b/\b<26,⟨d3,[],?_,rfl,rfl,λb hb=>(by cases hb)⟩,?_,?_⟩
  ·have:k+1+1+1+((0:Nat):Int)=k+1+1+1:=by omega
   rw[this];rfl
  ·rintro n y a3 M hy ⟨d',bs,rfl,rfl,C,hb⟩
   have hn:n<8:=by
    have:=(List.getElem?_eq_some_iff.mp hy).1;rw[p6,cC,rm] at this;omega
   walk_at "r";refine⟨c,d',_,26,rfl,by omega,by omega,by decide,by decide,λb d4 b0 I=>?_⟩;walk_at "r";refine⟨d4,bs++[b],?_,by rw[t7];rfl,by simp[C],λz hz=>?_⟩
   ·have:k+1+1+1+((n+1:Nat):Int)=k+1+1+1+(n:Int)+1:=by omega
    rw[this];rfl
   ·rcases List.mem_append.mp hz with w | w
    ·exact hb z w
    ·rw[List.mem_singleton.mp w];exact⟨b0,I⟩
  ·rintro a3 M ⟨d',bs,rfl,rfl,C,hb⟩;rw[p6,cC,rm] at C ⊢;have C:(bs.length:Int)=2+sz:=by omega
   walk_at "r";refine⟨c,d',_,_,rfl,by omega,by omega,by omega,by omega,λa d5 a0 a1=>?_⟩;walk_at "r";refine⟨c,d5,_,_,rfl,by omega,by omega,by omega,by omega,λa2 d6 al ar=>?_⟩;walk_at "r";refine⟨show(0:Int)<2+sz by omega,?_⟩;have o0:=v9 (a+1+a2) (show 2+sz≠0 by omega);have o1:=uy (a+1+a2) (show 0<2+sz by omega);walk_at "r";refine⟨c,d6,_,2,rfl,by omega,by omega,by decide,by decide,λlo d7 an lo1=>?_⟩;walk_at "r";refine⟨.inl ⟨by omega,by omega⟩,?_⟩;have lg:∀b:Bool,0<=lo*(if b then 1 else 0)/\lo*(if b then 1 else 0)<=1:=λb=>by cases b<;>simp<;>omega
   obtain⟨Y,X⟩:=lg (decide (2+sz<8));obtain⟨I,_,_,ac⟩:=E8 (f:=D.int) (xs:=bs) (i:=a) a0 (by omega);obtain⟨b2,_,_,a6⟩:=E8 (f:=D.int) (xs:=bs) (i:=(a+1+a2)%(2+sz)) o0 (by omega);have ao:=yW (n:=2+sz) a0 (by omega) al (by omega)
   have ap:2+sz+lo*(if decide (2+sz<8)=true then 1 else 0)<=8:=by
    by_cases h8:2+sz<8
    ·omega
    ·rw[iG h8];show 2+sz+lo*0<=8;omega
   walk_at "r";refine⟨⟨by omega,by omega⟩,?_⟩;walk_at "w";refine .of ⟨λi M=>∃(S:QF) (U T:Option D),M=[some (feed c d7 (k+1+1+1+((2+sz).toNat:Int)+1+1+1)),some (.int m),some (.str lb),some (.int f),some (cP S),some (.int (2+sz)),some (nums bs),some (.int a),some (.int ((a+1+a2)%(2+sz))),some (.int (lo*(if decide (2+sz<8)=true then 1 else 0))),U,T,none]/\S=(List.range i).map (eD bs a ((a+1+a2)%(2+sz)) I b2 f (lo*(if decide (2+sz<8)=true then 1 else 0))),⟨[],none,none,rfl,rfl⟩,?_,?_⟩
   ·rintro i y M hy ⟨S,U,T,rfl,l⟩;have ab:S.length=i:=by rw[l,cC,rm]
    have v:i<100:=by
     have:=(List.getElem?_eq_some_iff.mp hy).1;rw[p6,cC,rm] at this;omega
    rw[p6] at hy;obtain⟨g,ad,rfl⟩:=get_map hy
    have ei:g=i:=by
     have:=(List.getElem?_eq_some_iff.mp ad).2;rw[List.getElem_range] at this;exact this.symm
    subst ei;generalize (a+1+a2)%(2+sz)=O at o0 o1 a6 l;generalize lo*(if decide (2+sz<8)=true then 1 else 0)=L at Y X l;walk_at "r";refine⟨Df bs,?_⟩;walk_at "r";refine⟨_,ac,?_⟩;walk_at "r";refine⟨a.toNat,by unfold ji;rw[qq a0,cC,qq (by omega)],?_⟩;walk_at "r";refine⟨_,a6,?_⟩;walk_at "r";refine⟨O.toNat,by unfold ji;rw[qq o0,Db,cC,qq (by omega)],?_⟩;have e1:((bs.map D.int).set a.toNat (.int ((I+(0+(g:Int)))%26))).set O.toNat (.int ((b2+(0+(g:Int))/26)%26))=((bs.set a.toNat ((I+(0+(g:Int)))%26)).set O.toNat ((b2+(0+(g:Int))/26)%26)).map D.int:=by rw[List.map_set,List.map_set]
    have E:∀b∈(bs.set a.toNat ((I+(0+(g:Int)))%26)).set O.toNat ((b2+(0+(g:Int))/26)%26),0<=b/\b<26:=λb G=>by
     rcases x2 G with w | w
     ·rcases x2 w with w | w
      ·exact hb b w
      ·rw[w];exact⟨v9 _ (by decide),uy _ (by decide)⟩
     ·rw[w];exact⟨v9 _ (by decide),uy _ (by decide)⟩
    have u:((bs.set a.toNat ((I+(0+(g:Int)))%26)).set O.toNat ((b2+(0+(g:Int))/26)%26)).length=bs.length:=by rw[Db,Db]
    walk_at "r";dsimp only;rw[e1];generalize a7:(bs.set a.toNat ((I+(0+(g:Int)))%26)).set O.toNat ((b2+(0+(g:Int))/26)%26)=p at E u;refine⟨by rw[cC,u];exact A9 (by omega),?_⟩;refine V3 (f:=λ(b:Int)=>.str ⟨#[(O7 lb.cps.toList b).getD 0]⟩) p [] (λb G K R kk=>?_) ?_
    ·obtain⟨H,o⟩:=qT (E b G).1 (E b G).2;rw[o] at kk;walk_at "r";refine⟨lG,H,o,rfl,kk⟩
    ·have e2:p.map (λ(b:Int)=>D.str ⟨#[(O7 lb.cps.toList b).getD 0]⟩)=(p.map λ(b:Int)=>(⟨#[(O7 lb.cps.toList b).getD 0]⟩:Str)).map D.str:=by rw[vv];rfl
     have e3:((p.map λ(b:Int)=>(⟨#[(O7 lb.cps.toList b).getD 0]⟩:Str)).map (·.length)).sum=p.length:=by
      clear a7 e1 E u e2
      induction p with
      | nil=>rfl
      | cons b B ih=>rw[rl,rl,List.sum_cons,ih,sw];show 1+B.length=_;omega
     rw[xL];refine⟨"",_,p.map λ(b:Int)=>(⟨#[(O7 lb.cps.toList b).getD 0]⟩:Str),rfl,rfl,e2,?_,?_⟩
     ·rw[e3,cC];show p.length+p.length*0<=_;omega
     ·have e4:(Txt.join "" (p.map λ(b:Int)=>(⟨#[(O7 lb.cps.toList b).getD 0]⟩:Str))).length<=8:=by
       have:=size_glued "" (p.map λ(b:Int)=>(⟨#[(O7 lb.cps.toList b).getD 0]⟩:Str));unfold Txt.join;rw[this,e3];show p.length+_*0<=8;omega
      generalize hJ:Txt.join "" (p.map λ(b:Int)=>(⟨#[(O7 lb.cps.toList b).getD 0]⟩:Str))=J at e4;obtain⟨H,o⟩:=qT f0 f1;walk_at "r";refine⟨lG,H,o,?_⟩;walk_at "r";refine⟨.inl ⟨by omega,by omega⟩,?_⟩;have p0:=v9 (0+(g:Int)) (show(2:Int)≠0 by decide);have p1:=uy (0+(g:Int)) (show(0:Int)<2 by decide);have am:L=0\/L=1:=by omega
      have n0:0<=L*((0+(g:Int))%2)/\L*((0+(g:Int))%2)<=1:=by rcases am with rfl | rfl<;>omega
      walk_at "r";refine⟨zC rfl n0.1 (by omega),?_⟩;have ml:=Lu (z:=⟨#[H]⟩) rfl n0.1 n0.2;walk_at "r";refine⟨by rw[v1];omega,?_⟩;walk_at "r";refine⟨by rw[cC];exact A9 (by omega),?_⟩;refine⟨S++[J++Txt.mul ⟨#[H]⟩ (L*((0+(g:Int))%2))],some (.int (0+(g:Int))),some (.lst (p.map D.int)),?_,?_⟩
      ·unfold cP;rw[t7];rfl
      ·have en:eD bs a O I b2 f L g=J++Txt.mul ⟨#[H]⟩ (L*((0+(g:Int))%2)):=by
        unfold eD ft;rw[a7];have ef:jb f=H:=by unfold jb;rw[o];rfl
        rw[ef];exact wv (·++_) hJ
       rw[List.range_succ,t7,<-l,List.map_singleton,en]
   ·rintro M ⟨S,U,T,rfl,l⟩;rw[p6,cC,rm] at l;have ab:S.length=m.toNat:=by rw[l,cC,rm]
    refine names4 (by omega) a5 a4 (by omega) (by omega) ?_ (λx hx=>?_) q
    ·rw[l];exact Y7 _ _ λi j v hj=>xH (by omega) (by omega) Y X a0 (by omega) o0 (by omega) ao hb
    ·rw[l] at hx;obtain⟨i,v,rfl⟩:=List.mem_map.mp hx;exact CW Y X f0 f1 hb (by omega) (by omega)
theorem jG{Q:List D->Prop}{c:Ev}{xs:QI}{z:Int}(q:Q ((xs.map λx=>z+x).map D.int)){te:TU}(h:∀x∈xs,∀(K:D->Prop) (R:Prop),K (.int (z+x))->g1 0 (.int x) c λa=>bO a λb=>Br b (te a K) R):lz (g1 0) bO te c (xs.map D.int) [] Q:=by
 refine V3 (f:=λx=>.int (z+x)) xs [] h ?_;rw[xL]
 rwa [vv] at q
def Up(b:Int)(xs:QI):Prop:=xs.Pairwise (·<·)/\∀x∈xs,1<=x/\x<=b
theorem fS{xs:QI}{b:Int}(h:Up b xs)(o:0<xs.length):∃l,l∈xs/\(∀x∈xs,x<=l)/\O7 (xs.map D.int) (-1)=some (.int l):=by
 refine⟨xs[xs.length-1],Oy (by omega),λx a=>?_,?_⟩
 ·obtain⟨i,c,rfl⟩:=List.getElem_of_mem a
  by_cases e:i=xs.length-1
  ·subst e;exact PL _
  ·exact Int.le_of_lt (List.pairwise_iff_getElem.mp h.1 i (xs.length-1) c (by omega) (by omega))
 ·unfold O7 ji;have j:¬(0:Int)<=-1:=by decide
  have g:-((xs.map D.int).length:Int)<=-1:=by rw[cC];omega
  have d:((-1:Int)+((xs.map D.int).length:Int)).toNat=xs.length-1:=by rw[cC];omega
  rw[qc j,qq g,d];show(xs.map D.int)[xs.length-1]?=_;rw[rz,hL (by omega)];rfl
theorem Up.mono{xs:QI}{b c:Int}(h:Up b xs)(d:b<=c):Up c xs:=⟨h.1,λx a=>⟨(h.2 x a).1,by have:=(h.2 x a).2;omega⟩⟩
theorem Up.snoc{xs:QI}{b l u:Int}(h:Up b xs)(d:l∈xs)(e:∀x∈xs,x<=l)(i:1<=u)(g:u<10^59):Up (b+10^59) (xs++[l+u]):=by
 refine⟨List.pairwise_append.mpr ⟨h.1,OU _ _,λx a y c=>?_⟩,λx a=>?_⟩
 ·rw[List.mem_singleton.mp c];have:=e x a;omega
 ·have:=h.2 l d;rcases List.mem_append.mp a with w | w
  ·have:=h.2 x w;omega
  ·rw[List.mem_singleton.mp w];omega
theorem Up.lift{xs:QI}{b l z:Int}(h:Up b xs)(d:l∈xs)(e:∀x∈xs,x<=l)(i:b<=10^60-1)(g:z=10^60-1-l):Up (10^60-1) (xs.map λx=>z+x):=by
 refine⟨List.pairwise_map.mpr (h.1.imp λh=>by omega),λy c=>?_⟩;obtain⟨x,a,rfl⟩:=List.mem_map.mp c;have:=h.2 l d;have:=h.2 x a;have:=e x a;omega
def steps(m:Nat)(xs a:QI):List Pr:=(List.range m).map λ(k:Nat)=>(xs.getD k 0,a.getD (m-1-k) 0)
theorem Dm{m:Nat}{xs d:QI}(C:xs.length=m)(B:d.length=m)(x:1<=m)(v:m<=5)(l:Up (10^60-1) xs)(h:Up (10^60-1) d):ny (steps m xs d):=by
 have z:∀k,k<m->xs.getD k 0∈xs:=λk e=>by rw[t8,hL (by omega)];exact Oy _
 have y:∀k,k<m->d.getD k 0∈d:=λk e=>by rw[t8,hL (by omega)];exact Oy _
 have r:∀i j,i<j->j<m->xs.getD i 0<xs.getD j 0:=λi j c g=>by
  rw[t8,t8,hL (by omega),hL (by omega)];exact List.pairwise_iff_getElem.mp l.1 i j (by omega) (by omega) c
 have q:∀i j,i<j->j<m->d.getD i 0<d.getD j 0:=λi j c g=>by
  rw[t8,t8,hL (by omega),hL (by omega)];exact List.pairwise_iff_getElem.mp h.1 i j (by omega) (by omega) c
 unfold steps;refine⟨by rw[cC,rm];exact x,by rw[cC,rm];exact v,λp u=>?_,?_⟩
 ·obtain⟨k,e,rfl⟩:=List.mem_map.mp u;have e:=List.mem_range.mp e;have a:=l.2 _ (z k e);have b:=h.2 _ (y (m-1-k) (by omega));exact⟨a.1,by have:=a.2;omega,b.1,by have:=b.2;omega⟩
 ·rw[Pw];refine List.Pairwise.imp_of_mem ?_ (List.pairwise_lt_range (n:=m));intro i j o g c;have o:=List.mem_range.mp o;have g:=List.mem_range.mp g;exact⟨r i j c g,q _ _ (by omega) (by omega)⟩
theorem vF{Q:D->D->Prop}{c d k m:Int}{xs a:QI}{v:Option D}(j:(xs.length:Int)=m)(C:(a.length:Int)=m)(G:1<=m)(E:m<=5)(u:Up (10^60-1) xs)(p:Up (10^60-1) a)(q:∀ps,ny ps->Q (cT ps) (feed c d k)):qf (EM Q) [some (feed c d k),some (.int m),some (nums xs),some (nums a),v]:=by
 walk_at "r";refine⟨⟨by omega,by omega⟩,?_⟩;refine⟨by rw[p6,cC,rm];exact A9 (by omega),?_⟩;refine V3 (f:=λ(k:Nat)=>.tup [.int (xs.getD k 0),.int (a.getD (m.toNat-1-k) 0)]) (List.range m.toNat) [] (λk o K R y=>?_) ?_
 ·have o:=List.mem_range.mp o
  have B:O7 (xs.map D.int) (0+(k:Int))=some (.int (xs.getD k 0)):=by
   obtain⟨x,_,b,h⟩:=E8 (f:=D.int) (xs:=xs) (i:=0+(k:Int)) (by omega) (by omega);rw[h];have g:(0+(k:Int)).toNat=k:=by omega
   rw[g] at b;rw[t8,b];rfl
  have z:O7 (a.map D.int) (m-1-(0+(k:Int)))=some (.int (a.getD (m.toNat-1-k) 0)):=by
   obtain⟨x,_,b,h⟩:=E8 (f:=D.int) (xs:=a) (i:=m-1-(0+(k:Int))) (by omega) (by omega);rw[h];have g:(m-1-(0+(k:Int))).toNat=m.toNat-1-k:=by omega
   rw[g] at b;rw[t8,b];rfl
  walk_at "r";refine⟨_,B,?_⟩;walk_at "r";refine⟨_,z,?_⟩;walk_at "r";exact y
 ·walk_at "r"
  have im:∀l:QJ,l9 (l.map λ(k:Nat)=>D.tup [.int (xs.getD k 0),.int (a.getD (m.toNat-1-k) 0)])=true:=λl=>x8 λx j=>by
   obtain⟨k,_,rfl⟩:=List.mem_map.mp j;rfl
  refine⟨im _,?_⟩;have e:(List.range m.toNat).map (λ(k:Nat)=>D.tup [.int (xs.getD k 0),.int (a.getD (m.toNat-1-k) 0)])=(steps m.toNat xs a).map pr:=by unfold steps;rw[vv];rfl
  rw[xL,e];exact q _ (Dm (by omega) (by omega) (by omega) (by omega) u p)
theorem uo{Q:D->D->Prop}{c d k m:Int}{xs a:QI}{v:Option D}(g:(xs.length:Int)=m)(p:(a.length:Int)=m)(y:1<=m)(u:m<=5)(k0:0<=k)(k1:k<=10^8)(o:Up (10^60-1) xs)(b:Up (10^60-1) a)(q:∀ps d',ny ps->Q (cT ps) (feed c d' (k+1))):pd (EM Q) [some (feed c d k),some (.int m),some (nums xs),some (nums a),v]:=by
 walk_at "r";refine⟨c,d,k,4,rfl,k0,by omega,by decide,by decide,λr d1 G E=>?_⟩;walk_at "r";refine⟨λe=>?_,λe=>vF g p y u o b λcv j=>q cv _ j⟩;walk_at "r";obtain⟨l,i,h,C⟩:=fS b (by omega);refine⟨by rw[cC];exact A9 (by omega),?_⟩;refine jG (z:=10^(Int.toNat 60)-1-l) ?_ λx g K R B=>?_
 ·walk_at "r";exact vF g (by rw[cC];exact p) y u o (b.lift i h (PL _) rfl) λcv j=>q cv _ j
 ·walk_at "r";refine⟨_,C,?_⟩;walk_at "r";exact B
theorem Fy{Q:D->D->Prop}{c d k m:Int}{xs a:QI}{v:Option D}(g:(xs.length:Int)=m)(p:(a.length:Int)=m)(y:1<=m)(u:m<=5)(k0:0<=k)(k1:k<=10^7)(b:Up (10^60-1) xs)(o:Up (10^60-1) a)(q:∀ps d',ny ps->Q (cT ps) (feed c d' (k+1+1))):qu (EM Q) [some (feed c d k),some (.int m),some (nums xs),some (nums a),v]:=by
 walk_at "r";refine⟨c,d,k,4,rfl,k0,by omega,by decide,by decide,λr d1 G E=>?_⟩;walk_at "r";refine⟨λe=>?_,λe=>uo g p y u (by omega) (by omega) b o λcv d' j=>q cv d' j⟩;walk_at "r";obtain⟨l,i,h,C⟩:=fS b (by omega);refine⟨by rw[cC];exact A9 (by omega),?_⟩;refine jG (z:=10^(Int.toNat 60)-1-l) ?_ λx g K R B=>?_
 ·walk_at "r";exact uo (by rw[cC];exact g) p y u (by omega) (by omega) (b.lift i h (PL _) rfl) o λcv d' j=>q cv d' j
 ·walk_at "r";refine⟨_,C,?_⟩;walk_at "r";exact B
theorem FA(ds:List D)(Q:D->D->Prop)(h:bK ds Q):BP (EM Q) (i8 5 ds):=by
 obtain⟨c,d,k,rfl,h0,h1,q⟩:=h;walk_at "r";refine⟨c,d,k,5,rfl,h0,by omega,by decide,by decide,λr d1 r0 r1=>?_⟩;walk_at "r";refine⟨c,d1,k+1,rfl,by omega,by omega,λx d2 k2 x0 x1 a7 a6=>?_⟩;walk_at "r";refine⟨c,d2,k2,rfl,by omega,by omega,λy d3 k3 y0 y1 a5 a4=>?_⟩;walk_at "r";refine⟨⟨by omega,by omega⟩,?_⟩;walk_at "w";refine .of ⟨λi p=>∃o g b a v,p=[some (feed c o g),some (.int (1+r)),some (nums b),some (nums a),v]/\b.length=i+1/\a.length=i+1/\k<=g/\g<=k+7+6*i/\Up ((i+1:Nat)*10^59) b/\Up ((i+1:Nat)*10^59) a,⟨_,_,[x],[y],_,rfl,rfl,rfl,by omega,by omega,⟨OU _ _,λv R=>by rw[List.mem_singleton.mp R];omega⟩,⟨OU _ _,λv R=>by rw[List.mem_singleton.mp R];omega⟩⟩,?_,?_⟩
 ·rintro i e p he ⟨o,g,b,a,v,rfl,O,H,k4,X,l,j⟩
  have hi:i<4:=by
   have:=(List.getElem?_eq_some_iff.mp he).1;rw[p6,cC,rm] at this;omega
  obtain⟨M,I,J,T⟩:=fS l (by omega);obtain⟨G,C,E,S⟩:=fS j (by omega);walk_at "r";refine⟨_,T,?_⟩;walk_at "r";refine⟨c,o,g,rfl,by omega,by omega,λu d6 k6 u0 Y a3 a2=>?_⟩;walk_at "r";refine⟨by rw[cC];exact A9 (by omega),?_⟩;walk_at "r";refine⟨_,S,?_⟩;walk_at "r";refine⟨c,d6,k6,rfl,by omega,by omega,λu2 d7 k7 B z a1 a0=>?_⟩;walk_at "r";refine⟨by rw[cC];exact A9 (by omega),?_⟩;refine⟨d7,k7,b++[M+u],a++[G+u2],some e,?_,by simp[O],by simp[H],by omega,by omega,(l.snoc I J u0 Y).mono (by omega),(j.snoc C E B z).mono (by omega)⟩;unfold nums;rw[t7,t7];rfl
 ·rintro p ⟨o,g,b,a,v,rfl,O,H,k4,X,l,j⟩;rw[p6,cC,rm] at O H X l j;exact Fy (by omega) (by omega) (by omega) (by omega) (by omega) (by omega) (l.mono (by omega)) (j.mono (by omega)) λcv U hc=>q cv U _ hc (by omega) (by omega)
def Nr(gs:List Rw)(a:QJ)(kvs:List (Key×D)):Prop:=(∀(j:Nat) (g:Rw) (e:Nat),gs[j]?=some g->a[j]?=some e->B7 kvs (.inr g.1)=some (.int e))/\kvs.length<=gs.length
theorem zf{T:Z7}{d:D}{u:Option Str}{h:Nat}{xs:QF}{m c d' b z:Int}{gs:List Rw}{kvs:List (Key×D)}{x:Str}{j i:Option D}(X:u=none->h=1)(S:∀y,u=some y->∃f:Nat,B7 kvs (.inr y)=some (.int f)/\h=f+1)(a:O7 (xs.map D.str) z=some (.str x))(k0:0<=b)(k1:b<=10^5)(hk:kvs.length<=16)(Y:gs.length<=16)
  (B:∀(cv:List Pr) (n1 n2 d2 k2:Int),ny cv->0<=n1/\n1<10^60->0<=n2/\n2<10^60->T.nx [some d,some (cP xs),some (.int m),some (.lst (gs.map row++[row (x,[uD u,cT cv,.int n1,.int n2])])),some (.dic (putD kvs (.inr x) (.int h))),some (.int z),some (feed c d2 k2),j,i,some (uD u)]) :
  Q9 T [some d,some (cP xs),some (.int m),some (.lst (gs.map row)),some (.dic kvs),some (.int z),some (feed c d' b),j,i,some (uD u)]:=by
 have e:∀n:Int,n=h->Y2 T [some d,some (cP xs),some (.int m),some (.lst (gs.map row)),some (.dic (putD kvs (.inr x) (.int n))),some (.int z),some (feed c d' b),j,i,some (uD u)]:=λn g=>by
  subst g;have v:w8 (uD u)=true:=by cases u<;>rfl
  generalize hU:uD u=U at B v;walk_at "r";refine⟨_,a,?_⟩;walk_at "r";refine⟨v,?_⟩;walk_at "r";refine⟨c,d',b,rfl,k0,by omega,λcv d2 k2 Q O M=>?_⟩;walk_at "r";refine⟨c,d2,k2,rfl,by omega,by omega,λn1 d3 J q p I H=>?_⟩;walk_at "r";refine⟨c,d3,J,rfl,by omega,by omega,λn2 d4 G o l E C=>?_⟩;walk_at "r";refine⟨by rw[cC];exact A9 (by omega),?_⟩;exact B cv n1 n2 d4 G Q ⟨q,p⟩ ⟨o,l⟩
 have put:∀n:Int,n=h->∃k,cM (.str x)=some k/\kvs.length<sizeLine/\Y2 T [some d,some (cP xs),some (.int m),some (.lst (gs.map row)),some (.dic (putD kvs k (.int n))),some (.int z),some (feed c d' b),j,i,some (uD u)]:=λn g=>
  ⟨.inr x,rfl,A9 (by omega),e n g⟩
 cases u with
 | none=>
  have:=X rfl;walk_at "r";refine⟨_,a,?_⟩;walk_at "w";exact put _ (by omega)
 | some y=>
  obtain⟨f,R,ef⟩:=S y rfl;have g:(B7 kvs (.inr y)).getD (.int 0)=.int f:=by rw[R];rfl
  walk_at "r";rw[g];walk_at "r";refine⟨_,a,?_⟩;walk_at "w";exact put _ (by omega)
theorem BX(ds:List D)(Q:D->Prop)(h:Y0 ds Q):uP (EP Q) (i8 10 ds):=by
 obtain⟨d,ns,O,m,rfl,hs,c0,bv,bu,ax,q⟩:=h;walk_at "r";refine⟨⟨by omega,by omega⟩,?_⟩;walk_at "w";refine .of ⟨λi X=>∃(gs:List Rw) (o:QJ) (b:List (Key×D)) (v5 v6 v7 v8 Y:Option D),X=[some d,some (cP O),some (.int m),some (.lst (gs.map row)),some (.dic b),v5,v6,v7,v8,Y]/\gs.length=i/\DY O gs o/\Nr gs o b,⟨[],[],[],_,_,_,_,_,rfl,rfl,⟨rfl,λi g C=>(by simp at C)⟩,⟨λj g e C=>(by simp at C),hI _⟩⟩,?_,?_⟩
 ·rintro i e X he ⟨gs,o,b,v5,v6,v7,v8,Y,rfl,hl,H,dp⟩
  have hi:(i:Int)<m:=by
   have:=(List.getElem?_eq_some_iff.mp he).1;rw[p6,cC,rm] at this;omega
  rw[p6] at he;obtain⟨E,an,rfl⟩:=get_map he
  have ei:E=i:=by
   rw[Pm (by omega)] at an;cases an;rfl
  subst ei;obtain⟨x,_,M,ar⟩:=E8 (f:=D.str) (xs:=O) (i:=0+(E:Int)) (by omega) (by omega);have e0:(0+(E:Int)).toNat=E:=by omega
  rw[e0] at M
  have p:∀g∈gs,∃(j:Nat) (f:Nat),gs[j]?=some g/\o[j]?=some f/\1<=f/\B7 b (.inr g.1)=some (.int f):=λg C=>by
   obtain⟨j,B⟩:=u8 C;obtain⟨u,e,cv,n1,n2,a⟩:=H.2 j g B;exact⟨j,e,B,a.dep,a.ge,dp.1 j g e B a.dep⟩
  have b0:b.length<=16:=by have:=dp.2;omega
  walk_at "r";refine⟨d,ns,_,rfl,hs,by omega,by omega,λc=>?_⟩;walk_at "r";refine⟨by rw[cC];exact A9 (by omega),?_⟩;refine dX (f:=λg:Rw=>.str g.1) (λg=>match B7 b (.inr g.1) with | some (.int n)=>decide (n<8) | _=>false) gs [] (λg C K R k1 l=>?_) ?_
  ·obtain⟨_,n,_,_,_,hn⟩:=p g C;simp only[hn] at k1 l;walk_at "r";refine⟨.inr g.1,.int n,rfl,hn,?_⟩;walk_at "r";refine⟨λe=>?_,λe=>l e⟩;walk_at "r";exact k1 e
  ·generalize a6:(gs.filter _)=v;have bn:v.length<=gs.length:=by rw[<-a6];exact List.length_filter_le _ _
   have ap:∀g∈v,∃(j:Nat) (f:Nat),gs[j]?=some g/\o[j]?=some f/\1<=f/\f<8/\B7 b (.inr g.1)=some (.int f):=λg C=>by
    rw[<-a6] at C;obtain⟨m1,m2⟩:=List.mem_filter.mp C;obtain⟨j,f,a1,a2,a3,a4⟩:=p g m1;rw[a4] at m2;have m3:=qs m2;exact⟨j,f,a1,a2,a3,by omega,a4⟩
   have bg:([]++v.map λg:Rw=>D.str g.1)=v.map λg:Rw=>D.str g.1:=rfl;rw[bg];walk_at "r";refine⟨c,c,_,4,rfl,by omega,by omega,by decide,by decide,λw d1 w0 w1=>?_⟩
   have am:∀(u:Option Str) (J:Nat) (d2 l:Int),(u=none->J=1)->(∀y,u=some y->∃(j f:Nat) (S:Rw),gs[j]?=some S/\S.1=y/\o[j]?=some f/\J=f+1)->1<=J->J<=8->0<=l->l<=10^5->∀T:Z7,T.nx=(λX=>∃(gs:List Rw) (o:QJ) (b:List (Key×D)) (v5 v6 v7 v8 Y:Option D),X=[some d,some (cP O),some (.int m),some (.lst (gs.map row)),some (.dic b),v5,v6,v7,v8,Y]/\gs.length=E+1/\DY O gs o/\Nr gs o b) ->
     Q9 T [some d,some (cP O),some (.int m),some (.lst (gs.map row)),some (.dic b),some (.int (0+(E:Int))),some (feed c d2 l),some (.lst (v.map λg:Rw=>D.str g.1)),some (.int w),some (uD u)]:=λu J d2 l ab a7 bm bi k0 k1 T hT=>
    zf ab (λy hy=>let ⟨j,f,S,U,b2,b3,b4⟩:=a7 y hy;⟨f,by rw[<-b2];exact dp.1 j S f U b3,b4⟩) ar k0 k1 b0 (by omega) λcv n1 n2 d3 k3 ic r1 r2=>by
    rw[hT];refine⟨gs++[(x,[uD u,cT cv,.int n1,.int n2])],o++[J],putD b (.inr x) (.int J),some (.int (0+(E:Int))),some (feed c d3 k3),some (.lst (v.map λg:Rw=>D.str g.1)),some (.int w),some (uD u),?_,by simp[hl],?_,λj g e B G=>?_,?_⟩
    ·rw[t7];rfl
    ·refine H.snoc (u:=u) (cv:=cv) (n1:=n1) (n2:=n2) ⟨by rw[hl];exact M,rfl,ic,r1,r2,?_,ab,λy hy=>?_,bm,bi⟩
     ·rw[<-H.1,t5 (hI _),Om];rfl
     ·obtain⟨j,f,S,U,b2,b3,b4⟩:=a7 y hy;have bl:=(List.getElem?_eq_some_iff.mp U).1;exact⟨j,f,S,bl,by rw[ri bl];exact U,b2,by rw[ri (by rw[H.1];exact bl)];exact b3,b4⟩
    ·rw[az]
     by_cases al:j<gs.length
     ·rw[ri al] at B;rw[ri (by rw[H.1];exact al)] at G;obtain⟨_,_,_,_,_,a⟩:=H.2 j g B
      have ne:¬((Sum.inr g.1:Key)=.inr x):=λz=>by
       have z2:g.1=x:=Sum.inr.inj z;have:=(List.getElem?_inj (i:=j) (j:=E) (by omega) ax).mp (by rw[a.name,M,z2]);omega
      rw[qc ne];exact dp.1 j g e B G
     ·have b6:=(List.getElem?_eq_some_iff.mp B).1;rw[hW,pp] at b6;have ej:j=gs.length:=by omega
      subst ej;rw[t5 (hI _),Om] at B;rw[<-H.1,t5 (hI _),Om] at G;cases B;cases G;exact qq rfl
    ·have:=gv b (.inr x) (.int J);have:=dp.2;rw[hW,pp];omega
   have I:∀(d2 l:Int),0<=l->l<=10^5->∀T:Z7,T.nx=_->Q9 T _:=λd2 l=>am none 1 d2 l (λ_=>rfl) (λy z=>nomatch z) (hI _) (by decide);walk_at "r";refine⟨λe1=>?a,λe1=>Br.no rfl (I _ _ (by omega) (by omega) _ rfl)⟩
   case' a=>
    walk_at "r";refine⟨λe2=>?t,λe2=>I _ _ (by omega) (by omega) _ rfl⟩
   have u0:0<v.length:=by
    have e3:=qs e2;rw[cC] at e3;omega
   have wp:=qs e1;obtain⟨la,ac,ad⟩:=qH (f:=λg:Rw=>D.str g.1) (xs:=v) u0;walk_at "r";refine⟨_,ad,?_⟩;walk_at "r";refine⟨_,ad,?_⟩;walk_at "r";refine⟨c,d1,_,_,rfl,by omega,by omega,by rw[cC];omega,by rw[cC];omega,λr2 d2 ao a0=>?_⟩;rw[cC] at a0;obtain⟨gr,b9,_,b8⟩:=E8 (f:=λg:Rw=>D.str g.1) (xs:=v) (i:=r2) ao a0;walk_at "r";refine⟨_,b8,?_⟩;walk_at "r"
   have a5:∃g∈v,O7 [D.str la.1,D.str la.1,D.str gr.1] (w-1)=some (.str g.1):=by
    have:w=1\/w=2\/w=3:=by omega
    rcases this with rfl | rfl | rfl
    ·exact⟨_,ac,rfl⟩
    ·exact⟨_,ac,rfl⟩
    ·exact⟨_,b9,rfl⟩
   obtain⟨g,b7,hy⟩:=a5;obtain⟨j,f,U,b2,b3,b4,b5⟩:=ap g b7;refine⟨_,hy,rfl,rfl,?_⟩;exact am (some g.1) (f+1) d2 (100*(2+(0+(E:Int)))+1+1) (λz=>nomatch z) (λy z=>⟨j,f,g,U,tL z,b2,rfl⟩) (by omega) (by omega) (by omega) (by omega) _ rfl
 ·rintro X ⟨gs,o,b,v5,v6,v7,v8,Y,rfl,hl,H,dp⟩;walk_at "r";rw[p6,cC,rm] at hl;exact q gs o (by omega) H
theorem EJ(ds:List D)(Q:D->Prop)(h:bz ds Q):BV (EP Q) (i8 8 ds):=by
 obtain⟨d,ns,G,gs,rfl,hs,hx,b3,hg,ig,q⟩:=h;walk_at "r";refine⟨⟨by rw[cC];omega,by rw[cC];omega⟩,?_⟩;walk_at "w";refine .of ⟨λi g=>∃(ls:List Rw) (U T S R:Option D),g=[some d,some (cP G),some (.lst (gs.map row)),some (.lst (ls.map row)),U,T,S,R]/\ls.length=i/\(∀j l,ls[j]?=some l->∃y a n b,JR G gs j l y a n b),⟨[],_,_,_,_,rfl,rfl,λj l B=>(by simp at B)⟩,?_,?_⟩
 ·rintro i e g he ⟨ls,U,T,S,R,rfl,O,il⟩
  have hi:i<G.length:=by
   have:=(List.getElem?_eq_some_iff.mp he).1;rw[p6,cC,rm,cC] at this;omega
  rw[p6] at he;obtain⟨E,J,rfl⟩:=get_map he
  have ei:E=i:=by
   rw[Pm (by rw[cC];omega)] at J;cases J;rfl
  subst ei;obtain⟨x,_,H,a1⟩:=E8 (f:=D.str) (xs:=G) (i:=0+(E:Int)) (by omega) (by omega);have e0:(0+(E:Int)).toNat=E:=by omega
  rw[e0] at H;walk_at "r";refine⟨d,ns,_,rfl,hs,by omega,by omega,λc=>?_⟩;walk_at "r";refine⟨c,c,_,_,rfl,by omega,by omega,by rw[cC];omega,by rw[cC];omega,λr d1 r0 r1=>?_⟩;rw[cC] at r1;obtain⟨I,a4,_,a5⟩:=E8 (f:=row) (xs:=gs) (i:=r) r0 r1;walk_at "r";refine⟨_,a5,?_⟩;walk_at "r";refine⟨c,d1,_,5,rfl,by omega,by omega,by decide,by decide,λr2 d2 ac ab=>?_⟩;walk_at "r";refine⟨⟨by omega,by omega⟩,?_⟩;refine⟨by rw[p6,cC,rm];exact A9 (by omega),?_⟩;walk_at "r";refine .of ⟨λn C g=>∃(M o:Int) (X:Option D) (a:List Pr),g=[some d,some (cP G),some (.lst (gs.map row)),some (.lst (ls.map row)),some (.int (0+(E:Int))),some (feed c M o),some (.str I.1),X]/\0<=o/\o<=10^4+7*n/\C=a.map pr/\a.length=n/\∀p∈a,IU p,⟨_,_,_,[],rfl,by omega,by omega,rfl,rfl,λp hp=>(by cases hp)⟩,?_,?_⟩
  ·rintro n y C g hy ⟨M,o,X,a,rfl,k0,k1,rfl,v,u⟩
   have hn:n<5:=by
    have:=(List.getElem?_eq_some_iff.mp hy).1;rw[p6,cC,rm] at this;omega
   walk_at "r";refine⟨c,M,o,rfl,k0,by omega,λb d3 k3 b0 b1 ax ar=>?_⟩;walk_at "r";refine⟨c,d3,k3,rfl,by omega,by omega,λb2 d4 k4 a7 a6 ap ao=>?_⟩;walk_at "r";refine⟨d4,k4,_,a++[(b,b2)],rfl,by omega,by omega,by rw[t7];rfl,by simp[v],λp hp=>?_⟩;rcases List.mem_append.mp hp with z | z
   ·exact u p z
   ·rw[List.mem_singleton.mp z];exact⟨b0,b1,a7,a6⟩
  ·rintro C g ⟨M,o,X,a,rfl,k0,k1,rfl,v,u⟩;rw[p6,cC,rm] at k1 v;have ia:=bY a;walk_at "r";refine⟨ia,?_⟩;walk_at "r";refine⟨_,a1,?_⟩;walk_at "r";refine⟨ia,?_⟩;walk_at "r";refine⟨c,M,o,rfl,k0,by omega,λn1 d5 k5 a0 Y an am=>?_⟩;walk_at "r";refine⟨c,d5,k5,2,rfl,by omega,by omega,by decide,by decide,λn2 d6 al ad=>?_⟩;walk_at "r";refine⟨by rw[cC];exact A9 (by omega),?_⟩;refine⟨ls++[(x,[.str I.1,cT a,.int n1,.bl (decide (n2=1))])],some (.int (0+(E:Int))),some (feed c d6 (k5+1)),some (.str I.1),some (cT a),?_,by simp[O],λj l B=>?_⟩
   ·rw[t7];rfl
   ·by_cases a2:j<ls.length
    ·rw[ri a2] at B;exact il j l B
    ·have a3:=(List.getElem?_eq_some_iff.mp B).1;rw[hW,pp] at a3;have ej:j=ls.length:=by omega
     subst ej;rw[t5 (hI _),Om] at B;cases B;exact⟨I.1,a,n1,_,by rw[O];exact H,rfl,⟨I,a4,rfl⟩,by omega,u,a0,Y⟩
 ·rintro g ⟨ls,U,T,S,R,rfl,O,il⟩;walk_at "r";rw[p6,cC,rm,cC] at O;exact q ls ⟨by omega,il⟩
theorem FE(ds:List D)(Q:D->Prop)(h:bB ds Q):AU { nx:=λ_=>Q .p7,rt:=λd _=>Q d } (i8 5 ds):=by
 obtain⟨d,ns,rfl,o,q⟩:=h;walk_at "r";refine⟨d,ns,0,rfl,o,by decide,by decide,λc=>?_⟩;walk_at "r";refine⟨c,c,100*0,2,rfl,by decide,by decide,by decide,by decide,λr d1 r0 Y=>?_⟩;have R:r=0\/r=1:=by omega
 have j:∃m:Int,(m=4\/m=16)/\O7 [D.int 4,D.int 16] r=some (.int m):=by
  rcases R with rfl | rfl
  ·exact⟨4,.inl rfl,rfl⟩
  ·exact⟨16,.inr rfl,rfl⟩
 obtain⟨m,hm,M⟩:=j;walk_at "r";refine⟨_,M,?_⟩;walk_at "r";refine⟨c,d1,100*0+1,m,rfl,by decide,by decide,by omega,by omega,λa d2 J I=>?_⟩;walk_at "r";refine⟨d,ns,1,rfl,o,by decide,by decide,λz=>?_⟩;walk_at "r";refine⟨c,d2,100*0+1+1,2,rfl,by decide,by decide,by decide,by decide,λp d3 H G=>?_⟩;have v:p=0\/p=1:=by omega
 have g:∃m:Int,(m=6\/m=25)/\O7 [D.int 6,D.int 25] p=some (.int m):=by
  rcases v with rfl | rfl
  ·exact⟨6,.inl rfl,rfl⟩
  ·exact⟨25,.inr rfl,rfl⟩
 obtain⟨O,S,u⟩:=g;walk_at "r";refine⟨_,u,?_⟩;walk_at "r";refine⟨c,d3,100*0+1+1+1,O,rfl,by decide,by decide,by omega,by omega,λE d4 C B=>?_⟩;walk_at "r";refine⟨z,z,100*1,1+a+E,rfl,by decide,by decide,by omega,by omega,λi d5 k5 hx l x=>?_⟩;walk_at "r";refine⟨d,ns,i,1+a,rfl,o,by omega,by omega,by omega,l,λgs es hg y=>?_⟩;walk_at "r";refine⟨jL y.l9,?_⟩;walk_at "r";refine⟨nY i,?_⟩
 have cut:cutD (i.map D.str) (some (1+a)) none=(i.drop (1+a).toNat).map D.str:=by
  unfold cutD HT.D1;simp only[cC];have X:¬(1+a<0):=by omega
  simp only[X,OF];rw[<-List.map_drop,<-List.map_take];have U:min (1+a).toNat i.length=(1+a).toNat:=by omega
  simp[U]
  try (rw[Ot (by simp)])
 rw[cut];walk_at "r";refine⟨d,ns,i.drop (1+a).toNat,gs,rfl,o,by rw[tz];omega,by omega,by omega,y.l9,λls lk=>?_⟩;walk_at "r";refine⟨jL lk.l9,?_⟩;walk_at "r";obtain⟨b,T,e⟩:=KG y lk (by omega) (by omega) (by omega) (by rw[tz];omega) (by congr 1;omega) l x;have:=q b T;rw[<-e] at this;exact this
theorem wH(ds:List D)(Q:D->Prop)(h:G2 ds Q):oF (EP Q) (i8 2 ds):=by
 obtain⟨d,lo,rfl,a,q⟩:=h;cases d<;>first | (simp[kn] at a;done) | (obtain⟨_,rfl⟩:=J6 a) | skip
 case int i=>
  have q:Q (.bl (decide (lo<=i)&&decide (i<10^60))):=q;walk_at "r";refine⟨λe=>?_,λe=>?_⟩
  ·rw[e] at q;walk_at "r";exact q
  ·rw[e] at q;exact q
 all_goals
  walk_at "r";exact q
theorem FK(ds:List D)(Q:D->Prop)(h:X8 ds Q):zU (EP Q) (i8 1 ds):=by
 obtain⟨d,rfl,b,q⟩:=h;cases d<;>first | (simp[kn] at b;done) | (obtain⟨_,rfl⟩:=J6 b) | skip
 case str x=>
  have o:x.length<=100000:=by simpa[kn] using b
  have q:Q (.bl (decide (1<=x.length)&&decide (x.length<=8)&&(cs x).all bI)):=q;walk_at "r";refine⟨sz (by omega),?_⟩;have i:decide ((1:Int)<=(x.length:Int))=decide (1<=x.length):=decide_eq_decide.mpr (by omega);have g:decide ((x.length:Int)<=8)=decide (x.length<=8):=decide_eq_decide.mpr (by omega);refine⟨λe=>?_,λe=>?_⟩
  ·have e:=i▸e;rw[e,tt] at q;walk_at "r";refine⟨λz=>?_,λz=>?_⟩
   ·have z:=g▸z;rw[z,tt] at q;refine⟨?_,?_⟩
    ·show((cs x).map _).length<_;rw[cC];show x.cps.toList.length<_;rw[GM];exact KM (show x.cps.size<=8 from qs z) (by rw[v1];decide)
    refine V3 (f:=λc:Nat=>.bl (bI c)) (F:=λc:Nat=>.str ⟨#[c]⟩) (cs x) [] (λc p K R a=>?_) ?_
    ·have j:=BC (c:=c);have l:=BO (c:=c);have a:K (.bl (decide (97<=c)&&decide (c<=122))):=a;walk_at "r";refine⟨λy=>?_,λy=>?_⟩
     ·rw[j] at y;rw[y,tt,<-l] at a;walk_at "r";exact a
     ·rw[j] at y;rw[y,Ol] at a;exact a
    ·refine⟨.lst ((cs x).map λc=>.bl (bI c)),(cs x).map (λc=>.bl (bI c)),(cs x).map bI,rfl,rfl,by rw[vv];rfl,?_⟩;show Q (.bl (((cs x).map bI).all id));rw[List.all_map];exact q
   ·have z:=g▸z;rw[z] at q;exact q
  ·have e:=i▸e;rw[e] at q;walk_at "r";exact q
 all_goals
  walk_at "r";exact q
theorem BG(ds:List D)(Q:D->Prop)(h:U3 ds Q):uA (EP Q) (i8 4 ds):=by
 obtain⟨d,n,lo,rfl,B,q⟩:=h;cases d<;>first | (simp[kn] at B;done) | (obtain⟨_,rfl⟩:=J6 B) | skip
 case tup l=>
  have y:∀x∈l,kn x=true:=B8 (by simpa[kn] using B);have q:Q (.bl (decide ((l.length:Int)<=n)&&l.all (eG lo))):=q;walk_at "r";refine⟨λe=>?_,λe=>?_⟩
  ·have e:=qs e;rw[iG (by omega)] at q;exact q
  ·have e:=Ch e;rw[eH (by omega),tt] at q;walk_at "r";refine T1 (eG lo) (λC=>∃v,C=[some (.tup l),some (.int n),some (.int lo),v]) ⟨none,rfl⟩ ?_ (λe _=>?_) (λe c hw=>?_)
   ·rintro d hd C ⟨v,rfl⟩ N u i;have g:=y d hd;cases d<;>first | (simp[kn] at g;done) | (obtain⟨_,rfl⟩:=J6 g) | skip
    case tup j=>
     have o:=B8 (show cQ j=true by simpa[kn] using g);walk_at "r";refine⟨λe=>?_,λe=>?_⟩
     ·have e:¬(j.length:Int)=2:=by simpa[ng] using e
      have z:eG lo (.tup j)=false:=by
       match j,e with
       | [],_=>rfl
       | [a],_=>rfl
       | [_,_],e=>exact absurd rfl e
       | a::b::_::_,_=>rfl
      exact i z []
     ·have e:(j.length:Int)=2:=by simpa[ng] using e
      obtain⟨a,b,rfl,_⟩:=cE (p:=Bm) (by omega:j.length=2);have u:(G3 1 a&&G3 lo b)=true->∀c,(∃v,c=[some (.tup l),some (.int n),some (.int lo),v])->N c:=u;have i:(G3 1 a&&G3 lo b)=false->∀c,Q (.bl false):=i;walk_at "r";refine⟨a,1,rfl,o a (by simp),?_⟩;show Br (!G3 1 a) _ _;refine⟨λz=>?_,λz=>?_⟩
      ·have z:G3 1 a=false:=by simpa using z
       walk_at "r";exact i (by rw[z];rfl) []
      ·have z:G3 1 a=true:=by simpa using z
       rw[z,tt] at u i;walk_at "r";refine⟨b,lo,rfl,o b (by simp),?_⟩;show Br (!G3 lo b) _ _;refine⟨λz=>i (by simpa using z) [],λz=>u (by simpa using z) _ ⟨_,rfl⟩⟩
    all_goals
     walk_at "r";exact i rfl []
   ·rw[e] at q;exact q
   ·rw[e] at q;exact q
 all_goals
  walk_at "r";exact q
theorem Jo(d:D):G3 1 d=posB d:=by
 cases d<;>first | rfl | skip
 rename_i i
 show(decide (1<=i)&&decide (i<10^60))=((decide (0<=i)&&decide (i<10^60))&&!decide (i=0))
 by_cases h:1<=i
 ·rw[eH h,eH (show 0<=i by omega),iG (show ¬i=0 by omega)];simp
 ·rw[iG h]
  by_cases a:0<=i
  ·rw[eH a,eH (show i=0 by omega)];simp
  ·rw[iG a];simp
theorem wo(d:D):G3 0 d=D9 d:=by cases d<;>rfl
theorem LV:eG 1=P6:=by
 funext d
 cases d<;>first | rfl | skip
 rename_i c
 match c with
 | []=>rfl
 | [_]=>rfl
 | [a,b]=>
  show(G3 1 a&&G3 1 b)=(posB a&&posB b);rw[Jo,Jo]
 | _::_::_::_=>rfl
theorem Kt:eG 0=jm:=by
 funext d
 cases d<;>first | rfl | skip
 rename_i c
 match c with
 | []=>rfl
 | [_]=>rfl
 | [a,b]=>
  show(G3 1 a&&G3 0 b)=(posB a&&D9 b);rw[Jo,wo]
 | _::_::_::_=>rfl
def qV(xs:List D)(i:Nat):Bool:=xn (xs.getD i .p7) (xs.getD (i+1) .p7)
theorem eM:∀(x:D) (r:List D),((List.range r.length).map (qV (x::r))).all id=N8 (x::r)
 | x,[]=>rfl
 | x,y::r=>by
  rw[sw,List.range_succ_eq_map,rl,Gc,vv];show(xn x y&&((List.range r.length).map (qV (y::r))).all id)=(xn x y&&N8 (y::r));rw[eM y r]
theorem kO{xs:List D}{i:Nat}{d:D}(h:xs[i]?=some d):O7 xs (i:Int)=some d:=by
 have l:=(List.getElem?_eq_some_iff.mp h).1;obtain⟨x,_,e,z⟩:=E8 (f:=id) (xs:=xs) (i:=(i:Int)) (Int.natCast_nonneg i) (by omega);rw[List.map_id] at z;rw[z];have e:xs[i]?=some x:=e;rw[h] at e;exact e.symm
theorem Bl(ds:List D)(Q:D->Prop)(h:X5 ds Q):vQ (EP Q) (i8 1 ds):=by
 obtain⟨d,rfl,v,q⟩:=h;refine⟨d,5,1,rfl,v,?_⟩;show Br (!gu 5 1 d) _ _;cases d<;>first | (simp[kn] at v;done) | (obtain⟨_,rfl⟩:=J6 v) | skip
 case tup g=>
  have q:Q (.bl (decide (1<=g.length)&&decide (g.length<=5)&&g.all P6&&N8 g)):=q;have G:decide ((g.length:Int)<=5)=decide (g.length<=5):=decide_eq_decide.mpr (by omega);show Br (!(decide ((g.length:Int)<=5)&&g.all (eG 1))) _ _;rw[G,LV];rw[Pj (decide (1<=g.length))] at q;generalize l:(decide (g.length<=5)&&g.all P6)=b at q
  cases b with
  | false=>
   refine Br.yes rfl ?_;rw[Qa] at q;walk_at "r";exact q
  | true=>
   refine Br.no rfl ?_;rw[hD] at l;have u:=qs l.1;rw[Bool.and_true] at q;walk_at "r"
   match g,u,l,q with
   | [],_,_,q=>exact Br.yes rfl q
   | x::r,u,l,q=>
    refine Br.no rfl ?_;walk_at "r";refine⟨⟨by omega,by have:(x::r).length<=5:=u;omega⟩,?_,?_⟩
    ·rw[p6,cC,rm];exact KM (show((((x::r).length:Int))-1).toNat<=5 by have:(x::r).length<=5:=u;omega) (by rw[v1];decide)
    have el:((((x::r).length:Int))-1).toNat=r.length:=by rw[sw];omega
    rw[el,p6];refine V3 (f:=λi:Nat=>.bl (qV (x::r) i)) (List.range r.length) [] (λi z K R j=>?_) ?_
    ·have z:=List.mem_range.mp z;have p:=hL (show i<(x::r).length by rw[sw];omega);have o:=hL (show i+1<(x::r).length by rw[sw];omega);obtain⟨a,b,ex,_⟩:=S9 (List.all_eq_true.mp l.2 _ (rc p));obtain⟨c,d,E,_⟩:=S9 (List.all_eq_true.mp l.2 _ (rc o));rw[ex] at p;rw[E] at o
     have j:K (.bl (decide (a<c)&&decide (d<b))):=by
      unfold qV at j;rw[t8,t8,p,o] at j;exact j
     generalize x::r=y at p o;have C:O7 y (0+(i:Int))=some (.tup [.int a,.int b]):=by rw[Int.zero_add];exact kO p
     have B:O7 y (0+(i:Int)+1)=some (.tup [.int c,.int d]):=by rw[Int.zero_add];exact kO o
     walk_at "r";refine⟨_,C,?_⟩;walk_at "r";refine⟨_,B,?_⟩;walk_at "r";refine⟨λe=>?_,λe=>?_⟩
     ·rw[e,tt] at j;walk_at "r";refine⟨_,C,?_⟩;walk_at "r";refine⟨_,B,?_⟩;walk_at "r";exact j
     ·rw[e,Ol] at j;exact j
    ·refine⟨.lst ((List.range r.length).map λi=>.bl (qV (x::r) i)),_,(List.range r.length).map (qV (x::r)),rfl,rfl,by rw[vv];rfl,?_⟩;show Q (.bl (((List.range r.length).map (qV (x::r))).all id));rw[eM];exact q
 all_goals
  refine Br.yes rfl ?_;walk_at "r";exact q
theorem Ek(d:D):gu 4 0 d=K3 d:=by
 cases d<;>first | rfl | skip
 rename_i a
 have e:decide ((a.length:Int)<=4)=decide (a.length<=4):=decide_eq_decide.mpr (by omega);show(decide ((a.length:Int)<=4)&&a.all (eG 0))=(decide (a.length<=4)&&a.all jm);rw[e,Kt]
theorem Ku(d:D):(P4 d true||P4 d false)=(match d with | .bl _=>true | _=>false):=by
 cases d<;>first | rfl | (rename_i b;cases b<;>rfl)
theorem tR(ds:List D)(Q:D->Prop)(h:L5 ds Q):kH (EP Q) (i8 3 ds):=by
 obtain⟨d,x,rfl,o,q⟩:=h;cases d<;>first | (simp[kn] at o;done) | (obtain⟨_,rfl⟩:=J6 o) | skip
 case tup j=>
  have g:∀x∈j,kn x=true:=B8 (by simpa[kn] using o);rcases lr j with⟨n,u,c,a,b,rfl⟩ | ⟨I,H,G⟩
  ·have E:=g n (by simp);have C:=g u (by simp);have B:=g c (by simp);have y:=g a (by simp);have l:=g b (by simp)
   have J:N3 (.tup [n,u,c,a,b])=(p5 n&&((U4 u||p5 u)&&(G1 c&&(G3 0 a&&G3 0 b)))):=by
    rw[wo,wo];show(p5 n&&(U4 u||p5 u)&&G1 c&&D9 a&&D9 b)=_;simp only[Pj]
   have el:av (.tup [n,u,c,a,b])=(p5 n&&(p5 u&&(K3 c&&(G3 0 a&&(P4 b true||P4 b false))))):=by
    rw[wo];show(p5 n&&p5 u&&K3 c&&D9 a&&(P4 b true||P4 b false))=_;simp only[Pj]
   rw[J,el] at q;walk_at "r";refine⟨E,?_⟩;show Br (!p5 n) _ _;generalize p5 n=O at q
   cases O with
   | false=>
    refine Br.yes rfl ?_;have q:Q (.bl false):=by cases h:decide (x="guard")<;>(rw[h] at q;exact q)
    walk_at "r";exact q
   | true=>
    refine Br.no rfl ?_;walk_at "r";refine⟨λe=>?_,λe=>?_⟩
    ·have e:decide (x="guard")=true:=e;rw[e] at q;have q:Q (.bl ((U4 u||p5 u)&&(G1 c&&(G3 0 a&&G3 0 b)))):=q
     have next:∀i:Bool,Q (.bl (i&&(G1 c&&(G3 0 a&&G3 0 b))))->aH { nx:=eJ (EP Q),rt:=(EP Q).rt } [some (.tup [n,u,c,a,b]),some (.str x),some (.bl i)]:=λi q=>by
      walk_at "r"
      cases i with
      | false=>exact Br.no rfl q
      | true=>
       refine Br.yes rfl ?_;have q:Q (.bl (G1 c&&(G3 0 a&&G3 0 b))):=q;walk_at "r";refine⟨B,?_⟩;show Br (G1 c) _ _;generalize G1 c=v at q
       cases v with
       | false=>exact Br.no rfl q
       | true=>
        refine Br.yes rfl ?_;have q:Q (.bl (G3 0 a&&G3 0 b)):=q;walk_at "r";refine⟨a,0,rfl,y,?_⟩;show Br (G3 0 a) _ _;generalize G3 0 a=p at q
        cases p with
        | false=>exact Br.no rfl q
        | true=>
         refine Br.yes rfl ?_;walk_at "r";exact⟨b,0,rfl,l,q⟩
     walk_at "r";refine⟨λz=>?_,λz=>?_⟩
     ·have z:U4 u=true:=z;rw[z] at q;exact⟨rfl,next true q⟩
     ·have z:U4 u=false:=z;rw[z] at q;walk_at "r";refine⟨C,?_⟩;exact⟨rfl,next (p5 u) q⟩
    ·have e:decide (x="guard")=false:=e;rw[e] at q;have q:Q (.bl (p5 u&&(K3 c&&(G3 0 a&&(P4 b true||P4 b false))))):=q;walk_at "r";refine⟨C,?_⟩;show Br (!p5 u) _ _;generalize p5 u=v at q
     cases v with
     | false=>
      refine Br.yes rfl ?_;walk_at "r";exact q
     | true=>
      refine Br.no rfl ?_;have q:Q (.bl (K3 c&&(G3 0 a&&(P4 b true||P4 b false)))):=q;rw[<-Ek] at q;walk_at "r";refine⟨c,4,0,rfl,B,?_⟩;show Br (!gu 4 0 c) _ _;generalize gu 4 0 c=p at q
      cases p with
      | false=>
       refine Br.yes rfl ?_;walk_at "r";exact q
      | true=>
       refine Br.no rfl ?_;have q:Q (.bl (G3 0 a&&(P4 b true||P4 b false))):=q;rw[Ku] at q;walk_at "r";refine⟨a,0,rfl,y,?_⟩;show Br (G3 0 a) _ _;generalize G3 0 a=M at q
       cases M with
       | false=>exact Br.no rfl q
       | true=>
        refine Br.yes rfl ?_;cases b<;>first | (simp[kn] at l;done) | (obtain⟨_,rfl⟩:=J6 l) | skip
        all_goals
         walk_at "r";exact q
  ·have q:Q (.bl false):=by
    rw[H,G] at q;cases h:decide (x="guard")<;>(rw[h] at q;exact q)
   walk_at "r";refine⟨λe=>?_,λe=>?_⟩
   ·walk_at "r";exact q
   ·exact absurd (show(j.length:Int)=5 by simpa[ng] using e) I
 all_goals
  have q:Q (.bl false):=by cases h:decide (x="guard")<;>(rw[h] at q;exact q)
  walk_at "r";exact q
theorem KD{B:Nat}:∀{xs:List D},(∀x∈xs,(pyd x).weight<=B)->PyData.weightAll (O8 xs)<=xs.length*(B+1)
 | [],_=>by simp[O8,PyData.weightAll]
 | x::xs,h=>by
  have c:=h x pu;have b:=KD λy a=>h y (ol x a);simp only[O8,PyData.weightAll,sw];rw[Nat.add_mul];omega
theorem DM{B:Nat}:∀{xs:List D},(∀x∈xs,(pyd x).depth<=B)->PyData.depthAll (O8 xs)<=B
 | [],_=>by simp[O8,PyData.depthAll]
 | x::xs,h=>by
  have c:=h x pu;have b:=DM λy a=>h y (ol x a);simp only[O8,PyData.depthAll];omega
theorem Fx:∀{xs:List D},(∀x∈xs,K7 x=true)->eW xs=true
 | [],_=>rfl
 | x::xs,h=>by
  simp only[eW,hD];exact⟨h x pu,Fx λy a=>h y (ol x a)⟩
structure L7(d:D)(w n:Nat):Prop where
 s:K7 d=true
 w:(pyd d).weight<=w
 n:(pyd d).depth<=n
theorem L7.ok{d:D}{w n:Nat}(h:L7 d w n)(hw:w<=258000)(a:n<=150):cX d:=⟨h.s,sr h.w hw,sr h.n a⟩
theorem L7.mono{d:D}{w n a b:Nat}(h:L7 d w n)(hw:w<=a)(c:n<=b):L7 d a b:=⟨h.s,sr h.w hw,sr h.n c⟩
theorem L7.tup{xs:List D}{w n m:Nat}(h:∀x∈xs,L7 x w n)(b:xs.length<=m):L7 (.tup xs) (m*(w+1)) (n+1):=
 ⟨Fx λx a=>(h x a).s,sr (KD λx a=>(h x a).w) (Nat.mul_le_mul_right _ b),Ox (DM λx a=>(h x a).n)⟩
theorem L7.int{n:Int}(h:num n):L7 (.int n) 201 0:=by
 refine⟨?_,?_,hI _⟩
 ·show decide _=true;refine eH (re (m:=10^60) ?_ (by decide +kernel));have:=h.1;have:=h.2;omega
 ·show(if n == 0 then 0 else n.natAbs.log2+1)<=201;split
  ·omega
  ·rename_i e
   have e:n.natAbs≠0:=by simpa using e
   have:n.natAbs.log2<200:=(Nat.log2_lt e).mpr (re (m:=10^60) (by have:=h.1;have:=h.2;omega) (by decide +kernel));omega
theorem L7.str{x:Str}{k:Nat}(h:x.length<=k)(b:∀c∈cs x,c<1000):L7 (.str x) k 0:=by
 refine⟨?_,h,hI _⟩;show(x.cps.toList.all λc=>decide (c<16^8))=true;rw[PH];exactλc a=>eH (re (b c a) (by decide +kernel))
theorem L7.nm{x:Str}(h:nm 8 x):L7 (.str x) 8 0:=L7.str (mH h) λc a=>by have:=h.2.2 c a;omega
theorem L7.p7:L7 .p7 8 0:=⟨rfl,wf _,hI _⟩
theorem L7.bl{b:Bool}:L7 (.bl b) 8 0:=⟨rfl,wf _,hI _⟩
theorem L7.cT{ps:List Pr}(h:zW ps):L7 (cT ps) 2025 2:=by
 refine L7.mono (L7.tup (w:=404) (n:=1) (m:=5) (λx a=>?_) (by rw[cC];exact h.1)) (by decide) (by decide);obtain⟨p,b,rfl⟩:=List.mem_map.mp a;refine L7.mono (L7.tup (w:=201) (n:=0) (m:=2) (λx a=>?_) (hI _)) (by decide) (by decide);rcases List.mem_cons.mp a with rfl | a
 ·exact L7.int (h.2 p b).1
 ·cases List.mem_singleton.mp a;exact L7.int (h.2 p b).2
theorem NJ{a b c d e:D}{w n k:Nat}(l:L7 a 8 0)(j:L7 b 8 0)(i:L7 c w n)(h:L7 d 201 0)(g:L7 e k 0):L7 (.tup [a,b,c,d,e]) (w+k+222) (n+1):=by
 refine⟨?_,?_,?_⟩
 ·show(K7 a&&(K7 b&&(K7 c&&(K7 d&&(K7 e&&true)))))=true;rw[l.s,j.s,i.s,h.s,g.s];rfl
 ·show(pyd a).weight+1+((pyd b).weight+1+((pyd c).weight+1+((pyd d).weight+1+((pyd e).weight+1+0))))<=_;have:=l.w;have:=j.w;have:=i.w;have:=h.w;have:=g.w;omega
 ·show max (pyd a).depth (max (pyd b).depth (max (pyd c).depth (max (pyd d).depth (max (pyd e).depth 0))))+1<=_;have:=l.n;have:=j.n;have:=i.n;have:=h.n;have:=g.n;omega
theorem GT.K7{g:Gd}(h:GT g):L7 (gD g) 2448 3:=by
 refine NJ (L7.nm h.nm) ?_ (L7.cT h.cv) (L7.int h.de) (L7.int h.wa)
 cases e:g.un with
 | none=>exact L7.p7
 | some y=>exact L7.nm (h.un y e)
theorem LT.K7{l:Ld}(h:LT l):L7 (lD l) 2255 3:=NJ (L7.nm h.nm) (L7.nm h.at_) (L7.cT h.cs) (L7.int h.la) L7.bl
theorem R0.show{b:Bd}(h:R0 b):cX (bD b):=by
 have e:L7 (.tup (b.gs.map gD)) (16*2449) 4:=L7.tup (λx a=>by obtain⟨g,c,rfl⟩:=List.mem_map.mp a;exact(h.gt g c).K7) (by rw[cC];exact h.g16);have d:L7 (.tup (b.ls.map lD)) (24*2256) 4:=L7.tup (λx a=>by obtain⟨g,c,rfl⟩:=List.mem_map.mp a;exact(h.lt g c).K7) (by rw[cC];exact h.l24);refine⟨?_,?_,?_⟩
 ·show(K7 (.tup (b.gs.map gD))&&(K7 (.tup (b.ls.map lD))&&true))=true;rw[e.s,d.s];rfl
 ·show(pyd (.tup (b.gs.map gD))).weight+1+((pyd (.tup (b.ls.map lD))).weight+1+0)<=_;have:=e.w;have:=d.w;omega
 ·show max (pyd (.tup (b.gs.map gD))).depth (max (pyd (.tup (b.ls.map lD))).depth 0)+1<=_;have:=e.n;have:=d.n;omega
def Hc(a:List (Key×D))(gs:List Gd):Prop:=∀y:Str,B7 a (.inr y)=if y∈gs.map (·.nm) then some (.int ((ups gs 8 (some y)).length:Int)) else none
theorem uZ{gs:List Gd}{y:Str}(h:y∈gs.map (·.nm)):∃g,gs.find? (λg=>decide (g.nm=y))=some g/\g∈gs/\g.nm=y:=by
 obtain⟨g,a,rfl⟩:=List.mem_map.mp h
 cases e:gs.find? (λk=>decide (k.nm=g.nm)) with
 | none=>exact absurd (List.find?_eq_none.mp e g a) (by simp)
 | some k=>exact⟨k,rfl,List.mem_of_find?_eq_some e,by simpa using List.find?_some e⟩
theorem Ec{gs:List Gd}{g:Gd}{y:Str}(h:y∈gs.map (·.nm)):jq (gs++[g]) y=jq gs y:=by
 obtain⟨k,e,_⟩:=uZ h;unfold jq;rw[List.find?_append,e];rfl
theorem Gb{gs:List Gd}(c:aY gs){y z:Str}(h:y∈gs.map (·.nm))(e:jq gs y=some z):z∈gs.map (·.nm):=by
 obtain⟨dp,hd⟩:=c.un;obtain⟨k,l,a,_⟩:=uZ h;unfold jq at e;rw[l] at e;obtain⟨i,b⟩:=u8 a;obtain⟨j,d,o,g,rfl,_⟩:=(hd i k b).2.2.2 z e;exact List.mem_map.mpr ⟨d,rc g,rfl⟩
theorem lE{gs:List Gd}(b:aY gs){g:Gd}:∀(n:Nat) (o:Option Str),(∀y,o=some y->y∈gs.map (·.nm))->ups (gs++[g]) n o=ups gs n o
 | 0,_,_=>rfl
 | _+1,none,_=>rfl
 | n+1,some y,h=>by
  have a:=h y rfl;show y::ups (gs++[g]) n (jq (gs++[g]) y)=y::ups gs n (jq gs y);rw[Ec a,lE b n _ λz e=>Gb b a e]
theorem oN{gs:List Gd}:∀(n:Nat) (o:Option Str),(ups gs (n+1) o).length<=n->ups gs n o=ups gs (n+1) o
 | 0,none,_=>rfl
 | 0,some _,h=>absurd h (by simp[ups])
 | n+1,none,_=>rfl
 | n+1,some y,h=>by
  show y::ups gs n (jq gs y)=y::ups gs (n+1) (jq gs y);rw[oN n _ (by have h:(ups gs (n+1) (jq gs y)).length+1<=n+1:=h;omega)]
theorem Ff{gs:List Gd}(d:aY gs){g:Gd}(b:g.nm∉gs.map (·.nm))(a:∀y,g.un=some y->y∈gs.map (·.nm)):(ups (gs++[g]) 8 (some g.nm)).length=1+(ups gs 7 g.un).length:=by
 have e:jq (gs++[g]) g.nm=g.un:=by
  unfold jq;rw[List.find?_append,List.find?_eq_none.mpr (λk c z=>b (List.mem_map.mpr ⟨k,c,by simpa using z⟩))];have z:[g].find? (λk=>decide (k.nm=g.nm))=some g:=by rw[wr,eH rfl]
  rw[z];rfl
 show(g.nm::ups (gs++[g]) 7 (jq (gs++[g]) g.nm)).length=_;rw[e,lE d 7 _ a,sw];omega
theorem Hc.put{a:List (Key×D)}{gs:List Gd}(h:Hc a gs)(c:aY gs){g:Gd}(i:g.nm∉gs.map (·.nm))(d:∀y,g.un=some y->y∈gs.map (·.nm))(k:Int)(j:k=1+((ups gs 7 g.un).length:Int)):Hc (putD a (.inr g.nm) (.int k)) (gs++[g]):=λy=>by
 rw[az,t7]
 by_cases e:(Sum.inr y:Key)=.inr g.nm
 ·cases e;rw[qq rfl,qq (by simp),Ff c i d,j];simp
 ·have ne:y≠g.nm:=λz=>e (by rw[z]);rw[qc e,h y]
  by_cases b:y∈gs.map (·.nm)
  ·rw[qq b,qq (sd _ b),lE c 8 _ λz e=>by cases e;exact b]
  ·rw[qc b,qc (by simp only[List.mem_append,not_or];exact⟨b,by simpa using ne⟩)]
theorem Hc.has{a:List (Key×D)}{gs:List Gd}(h:Hc a gs)(y:Str):(B7 a (.inr y)).isSome=decide (y∈gs.map (·.nm)):=by
 rw[h y]
 by_cases b:y∈gs.map (·.nm)
 ·rw[qq b,eH b];rfl
 ·rw[qc b,iG b];rfl
theorem zL{b:List (Key×D)}{k:Key}{v:D}(h:(b.all λa=>w8 a.2)=true)(c:w8 v=true):((putD b k v).all λa=>w8 a.2)=true:=by
 unfold putD;split
 ·rw[List.all_map];refine List.all_eq_true.mpr λa d=>?_;show w8 (if a.1=k then(a.1,v) else a).2=true;split
  ·exact c
  ·exact List.all_eq_true.mp h a d
 ·rw[List.all_append,h];show(true&&(w8 v&&true))=true;rw[c];rfl
theorem wC{Q:D->Prop}{xs b:List D}{g:List (Key×D)}{u o:Option D}{gs:List Gd}(hd:Hc g gs)(T:∀y∈b,kn y=true)(a0:b.length<=24)(X:g.length<=16)(I:(g.all λU=>w8 U.2)=true)
  (q:Q (CY (match S0 (gs.map (·.nm)) [] b with | some i=>some (("load" : Str),(i:Int)) | none=>none))):uG (EP Q) [some (.tup [.tup xs,.tup b]),some (.dic g),u,o,none,none]:=by
 refine .inr ⟨g,rfl,I,rfl,?_⟩;walk_at "r";refine .of ⟨λi E=>∃d u o G,E=[some (.tup [.tup xs,.tup b]),some (.dic g),u,o,some (.dic d),G]/\d.length<=16+i/\(∀y:Str,(B7 d (.inr y)).isSome=(decide (y∈gs.map (·.nm))||decide (y∈(b.take i).map O9)))/\S0 (gs.map (·.nm)) ((b.take i).map O9) (b.drop i)=S0 (gs.map (·.nm)) [] b,⟨g,u,o,none,rfl,X,λy=>by rw[hd.has y];simp,rfl⟩,?_,?_⟩
 ·rintro i e E Y ⟨d,u,o,G,rfl,H,J,j⟩;obtain⟨x,v,rfl⟩:=L3.V9 Y;rw[Pa];have R:=(List.getElem?_eq_some_iff.mp v).1
  have O:b.drop i=x::b.drop (i+1):=by
   rw[v2 R];rw[hL R] at v;cases v;rfl
  have S:b.take (i+1)=b.take i++[x]:=by rw[EQ,v];rfl
  have len:((b.take i).map O9).length=i:=by rw[cC,t9];omega
  rw[O] at j;have j:(bif Q8 (gs.map (·.nm)) ((b.take i).map O9) x then S0 (gs.map (·.nm)) ((b.take i).map O9++[O9 x]) (b.drop (i+1)) else some ((b.take i).map O9).length)=S0 (gs.map (·.nm)) [] b:=j
  have p:Q8 (gs.map (·.nm)) ((b.take i).map O9) x=false->Q (.tup [.str "load",.int (i:Int)]):=λe=>by
   rw[e,len] at j;have j:some i=S0 (gs.map (·.nm)) [] b:=j;rw[<-j] at q;exact q
  refine⟨rfl,rfl,?_⟩;show iR _ [some (.tup [.tup xs,.tup b]),some (.dic g),some (.int (i:Int)),o,some (.dic d),some x];refine⟨x,"load",rfl,T x (rc v),?_⟩;show Br (!av x) _ _
  cases M:av x with
  | false=>
   refine Br.yes rfl ?_;walk_at "r";exact p (by unfold Q8;rw[M];rfl)
  | true=>
   refine Br.no rfl ?_;obtain⟨n,a,c,la,on,rfl⟩:=dY M;have l:Q8 (gs.map (·.nm)) ((b.take i).map O9) (.tup [.str n,.str a,c,la,on])=(decide (a∈gs.map (·.nm))&&!decide (n∈gs.map (·.nm))&&!decide (n∈(b.take i).map O9)):=by unfold Q8;rw[M];rfl
   walk_at "r";rw[J n];generalize a2:decide (n∈gs.map (·.nm))=C at l;generalize a1:decide (n∈(b.take i).map O9)=B at l;refine⟨λz=>?_,λz=>?_⟩
   ·have z:(C||B)=true:=by simpa[ng] using z
    walk_at "r";exact p (by rw[l];revert z;cases C<;>cases B<;>cases decide (a∈gs.map (·.nm))<;>decide)
   ·have z:(C||B)=false:=by simpa[ng] using z
    have l:Q8 (gs.map (·.nm)) ((b.take i).map O9) (.tup [.str n,.str a,c,la,on])=decide (a∈gs.map (·.nm)):=by rw[l];revert z;cases C<;>cases B<;>cases decide (a∈gs.map (·.nm))<;>decide
    walk_at "r";rw[hd.has a];generalize decide (a∈gs.map (·.nm))=b3 at l
    cases b3 with
    | false=>
     refine Br.yes rfl ?_;walk_at "r";exact p l
    | true=>
     refine Br.no rfl ?_;rw[l] at j;walk_at "r";refine⟨KM (show d.length<=40 by omega) (by rw[v1];decide),_,_,_,_,rfl,sr (gv _ _ _) (by omega),λy=>?_,?_⟩
     ·rw[az,S,t7]
      by_cases e:(Sum.inr y:Key)=.inr n
      ·cases e;rw[qq rfl,eH (show n∈(b.take i).map O9++List.map O9 [.tup [.str n,.str a,c,la,on]] from iL _ (List.mem_singleton.mpr rfl:n∈[n])),PB];rfl
      ·have ne:y≠n:=λz=>e (by rw[z]);rw[qc e,J y];congr 1;exact decide_eq_decide.mpr ⟨λh=>sd _ h,λh=>(List.mem_append.mp h).elim id λh=>absurd (List.mem_singleton.mp h) ne⟩
     ·rw[S,t7];exact j
 ·rintro E ⟨d,u,o,G,rfl,H,J,j⟩;rw[L3.G6,On] at j;have j:none=S0 (gs.map (·.nm)) [] b:=by rw[<-j];rfl
  rw[<-j] at q;exact q
theorem Dt{Q:D->Prop}{xs d:List D}(kx:∀x∈xs,kn x=true)(ky:∀y∈d,kn y=true)(Y:bc (.tup [.tup xs,.tup d])=true)(q:Q (CY (br (.tup [.tup xs,.tup d])))):vq (EP Q) (i8 6 [.tup [.tup xs,.tup d]]):=by
 have p:(decide (1<=xs.length)&&decide (xs.length<=16)&&decide (d.length<=24))=true:=Y;rw[hD,hD] at p;have a0:=qs p.1.2;have S:=qs p.2
 have el:br (.tup [.tup xs,.tup d])=(match M4 [] xs with
  | some i=>some (("guard" : Str),(i:Int))
  | none=>match S0 (xs.map O9) [] d with
   | some i=>some ("load",(i:Int))
   | none=>none):=by
  show(bif bc _ then _ else _)=_;rw[Y];rfl
 rw[el] at q;have g0:aY []:=⟨wf _,op,λ_=>1,λi g v=>by cases v⟩
 walk_at "r";refine .of ⟨λi M=>∃gs a E C,M=[some (.tup [.tup xs,.tup d]),some (.dic a),E,C,none,none]/\gs.length=i/\xs.take i=gs.map gD/\aY gs/\M4 gs (xs.drop i)=M4 [] xs/\Hc a gs/\a.length<=i/\(a.all λO=>w8 O.2)=true,⟨[],[],none,none,rfl,rfl,rfl,g0,rfl,λy=>rfl,hI _,rfl⟩,?_,?_⟩
 ·rintro i e M he ⟨gs,a,E,C,rfl,rfl,J,T,b,hd,hl,u⟩;obtain⟨x,H,rfl⟩:=L3.V9 he;rw[Pa];have X:=(List.getElem?_eq_some_iff.mp H).1
  have R:xs.drop gs.length=x::xs.drop (gs.length+1):=by
   rw[v2 X];rw[hL X] at H;cases H;rfl
  rw[R] at b;have b:(bif K0 gs x then M4 (gs++[dG x]) (xs.drop (gs.length+1)) else some gs.length)=M4 [] xs:=b
  have o:K0 gs x=false->Q (.tup [.str "guard",.int (gs.length:Int)]):=λe=>by
   rw[e] at b;have b:some gs.length=M4 [] xs:=b;rw[<-b] at q;exact q
  refine⟨rfl,rfl,?_⟩;show ja _ [some (.tup [.tup xs,.tup d]),some (.dic a),some (.int (gs.length:Int)),some x,none,none];refine⟨x,"guard",rfl,kx x (rc H),?_⟩;show Br (!N3 x) _ _
  cases v:N3 x with
  | false=>
   refine Br.yes rfl ?_;walk_at "r";exact o (by unfold K0;rw[v];rfl)
  | true=>
   refine Br.no rfl ?_;have ex:=pJ v;have I:=λh=>(qm (gs:=gs) (x:=x) h T (by omega)).2;generalize dG x=g at ex I b;subst ex;obtain⟨n,un,cv,de,wa⟩:=g;have hs:=hd.has n;walk_at "r";rw[hs];refine⟨λz=>?_,λz=>?_⟩
   ·have z:decide (n∈gs.map (·.nm))=true:=by simpa[ng] using z
    walk_at "r";refine o ?_;unfold K0;rw[v]
    cases un with
    | none=>show(true&&!decide (n∈gs.map (·.nm)))=false;rw[z];rfl
    | some y=>show(true&&(!decide (n∈gs.map (·.nm))&&decide (y∈gs.map (·.nm))&&decide ((ups gs 8 (some y)).length<=7)))=false;rw[z];rfl
   ·have z:decide (n∈gs.map (·.nm))=false:=by simpa[ng] using z
    have nn:=Ch z;have et:xs.take (gs.length+1)=gs.map gD++[gD ⟨n,un,cv,de,wa⟩]:=by rw[EQ,H,J];rfl
    have next:∀k:Int,K0 gs (gD ⟨n,un,cv,de,wa⟩)=true->(∀y,un=some y->y∈gs.map (·.nm))->k=1+((ups gs 7 un).length:Int)->∃j c E C,[some (D.tup [.tup xs,.tup d]),some (.dic (putD a (.inr n) (.int k))),some (.int (gs.length:Int)),some (gD ⟨n,un,cv,de,wa⟩),none,none]=[some (.tup [.tup xs,.tup d]),some (.dic c),E,C,none,none]/\j.length=gs.length+1/\xs.take (gs.length+1)=j.map gD/\aY j/\M4 j (xs.drop (gs.length+1))=M4 [] xs/\Hc c j/\c.length<=gs.length+1/\(c.all λO=>w8 O.2)=true:=λk l hu hk=>by
     rw[l] at b;exact⟨gs++[⟨n,un,cv,de,wa⟩],_,_,_,rfl,by simp,by rw[et,t7];rfl,I l,(show M4 (gs++[⟨n,un,cv,de,wa⟩]) _=_ from b),hd.put T (g:=⟨n,un,cv,de,wa⟩) nn hu k hk,sr (gv _ _ _) (by omega),zL u rfl⟩
    cases un with
    | none=>
     have l:K0 gs (gD ⟨n,none,cv,de,wa⟩)=true:=by unfold K0;rw[v];show(true&&!decide (n∈gs.map (·.nm)))=true;rw[z];rfl
     walk_at "r";exact⟨sz (by omega),next 1 l (λy h=>by cases h) rfl⟩
    | some y=>
     have l:K0 gs (gD ⟨n,some y,cv,de,wa⟩)=(decide (y∈gs.map (·.nm))&&decide ((ups gs 8 (some y)).length<=7)):=by unfold K0;rw[v];show(true&&(!decide (n∈gs.map (·.nm))&&decide (y∈gs.map (·.nm))&&decide ((ups gs 8 (some y)).length<=7)))=_;rw[z];simp
     walk_at "r"
     by_cases G:y∈gs.map (·.nm)
     ·have B:=hd y;rw[qq G] at B;rw[eH G,tt] at l;rw[B];refine⟨rfl,λe=>?_,λe=>?_⟩
      ·have e:=qs e;walk_at "r";exact o (by rw[l];exact iG (by omega))
      ·have e:=Ch e;have U:(ups gs 8 (some y)).length<=7:=by omega
       walk_at "r";rw[B];walk_at "r";exact⟨sz (by omega),next _ (by rw[l];exact eH U) (λz h=>by cases h;exact G) (by rw[oN 7 _ U])⟩
     ·have B:=hd y;rw[qc G] at B;rw[iG G,Ol] at l;rw[B];refine⟨rfl,Br.yes rfl ?_⟩;walk_at "r";exact o l
 ·rintro M ⟨gs,a,E,C,rfl,hn,J,T,b,hd,hl,u⟩;rw[L3.G6,OT] at J;rw[L3.G6,On] at b;have b:none=M4 [] xs:=by rw[<-b];cases gs<;>rfl
  rw[<-b] at q;refine wC hd ky S (by rw[L3.G6] at hl;omega) u ?_;have e:xs.map O9=gs.map (·.nm):=by rw[J,vv];rfl
  rw[<-e];exact q
theorem HC(ds:List D)(Q:D->Prop)(h:gU ds Q):GA (EP Q) (i8 6 ds):=by
 obtain⟨d,rfl,E,q⟩:=h
 have c:bc d=false->Q (.tup [.str "board",.int 0]):=λe=>by
  rw[gN e] at q;exact q
 cases d<;>first | (simp[kn] at E;done) | (obtain⟨_,rfl⟩:=J6 E) | skip
 case tup i=>
  have l:∀x∈i,kn x=true:=B8 (by simpa[kn] using E)
  by_cases G:(i.length:Int)=2
  ·obtain⟨a,b,rfl,z⟩:=cE (p:=Bm) (by omega:i.length=2);clear z;have B:=l a (by simp);have y:=l b (by simp);cases a<;>first | (simp[kn] at B;done) | (obtain⟨_,rfl⟩:=J6 B) | skip
   case tup g=>
    cases b<;>first | (simp[kn] at y;done) | (obtain⟨_,rfl⟩:=J6 y) | skip
    case tup j=>
     have I:=B8 (show cQ g=true by simpa[kn] using B);have H:=B8 (show cQ j=true by simpa[kn] using y);have main:=λC=>Dt (Q:=Q) I H C q;have C:bc (.tup [.tup g,.tup j])=(decide (1<=g.length)&&decide (g.length<=16)&&decide (j.length<=24)):=rfl;rw[C] at c main;walk_at "r";refine⟨λv=>?_,λv=>?_⟩
     ·have v:=qs v;walk_at "r";refine⟨λu=>?_,λu=>?_⟩
      ·have u:¬(g.length:Int)<=16:=by simpa using u
       walk_at "r";exact c (by rw[iG (show ¬g.length<=16 by omega),Qa];rfl)
      ·have u:(g.length:Int)<=16:=by simpa using u
       walk_at "r";refine⟨λo=>?_,λo=>?_⟩
       ·have o:=qs o;walk_at "r";exact c (by rw[iG (show ¬j.length<=24 by omega),Qa])
       ·have o:=Ch o;exact main (by rw[eH (show 1<=g.length by omega),eH (show g.length<=16 by omega),eH (show j.length<=24 by omega)];rfl)
     ·have v:=Ch v;walk_at "r";exact c (by rw[iG (by omega)];rfl)
    all_goals
     walk_at "r";exact c rfl
   all_goals
    walk_at "r";exact c rfl
  ·have z:bc (.tup i)=false:=by
    match i,G with
    | [],_=>rfl
    | [a],_=>cases a<;>rfl
    | [_,_],e=>exact absurd rfl e
    | a::b::_::_,_=>cases a<;>first | rfl | (cases b<;>rfl)
   walk_at "r";refine⟨λe=>?_,λe=>?_⟩
   ·walk_at "r";exact c z
   ·exact absurd (show(i.length:Int)=2 by simpa[ng] using e) G
 all_goals
  walk_at "r";exact c rfl
theorem vL:∀(xs:List D) (gs:List Gd) (i:Nat),M4 gs xs=some i->i<=gs.length+xs.length
 | [],_,_,h=>by cases h
 | x::r,gs,i,h=>by
  have h:(bif K0 gs x then M4 (gs++[dG x]) r else some gs.length)=some i:=h
  cases e:K0 gs x with
  | false=>rw[e] at h;cases h;exact PD _ _
  | true=>
   rw[e] at h;have:=vL r (gs++[dG x]) i h;rw[hW,pp] at this;rw[sw];omega
theorem um{zs:QF}:∀(xs:List D) (a:QF) (i:Nat),S0 zs a xs=some i->i<=a.length+xs.length
 | [],_,_,h=>by cases h
 | x::r,a,i,h=>by
  have h:(bif Q8 zs a x then S0 zs (a++[O9 x]) r else some a.length)=some i:=h
  cases e:Q8 zs a x with
  | false=>rw[e] at h;cases h;exact PD _ _
  | true=>
   rw[e] at h;have:=um r (a++[O9 x]) i h;rw[hW,pp] at this;rw[sw];omega
theorem rN {w:Str} {i:Nat} (hw:w="board" \/ w="guard" \/ w="load") (d:i<=24):cX (CY (some (w,(i:Int)))):=by
 have c:L7 (.str w) 201 0:=(L7.str (k:=5) (by rcases hw with rfl | rfl | rfl<;>decide) (by rcases hw with rfl | rfl | rfl<;>decide)).mono (by decide) (by decide);have b:L7 (.int (i:Int)) 201 0:=L7.int ⟨by omega,by omega⟩
 have h:L7 (.tup [.str w,.int (i:Int)]) (2*202) 1:=L7.tup (λx a=>by
  rcases List.mem_cons.mp a with rfl | a
  ·exact c
  ·rw[List.mem_singleton.mp a];exact b) (hI _)
 exact h.ok (by decide) (by decide)
theorem Cg(d:D):cX (CY (br d)):=by
 cases c:bc d with
 | false=>rw[gN c];exact rN (i:=0) (.inl rfl) (by decide)
 | true=>
  obtain⟨a,b,rfl,l,j⟩:=vS c
  have e:br (.tup [.tup a,.tup b])=(match M4 [] a with
   | some i=>some (("guard" : Str),(i:Int))
   | none=>match S0 (a.map O9) [] b with
    | some i=>some ("load",(i:Int))
    | none=>none):=by
   show(bif bc _ then _ else _)=_;rw[c];rfl
  rw[e]
  cases h:M4 [] a with
  | some i=>exact rN (.inr (.inl rfl)) (by have:=vL _ _ _ h;rw[Pc] at this;omega)
  | none=>
   cases g:S0 (a.map O9) [] b with
   | some i=>exact rN (.inr (.inr rfl)) (by have:=um _ _ _ g;rw[Pc] at this;omega)
   | none=>exact⟨rfl,by decide,by decide⟩
theorem xh{Q:D->Prop}{d f:D}{b:Option D}(sh:cX d)(a:cX f)(q:Q (.bl true)):jB (EP Q) [some d,some f,some (.str (pyd d).shown),some f,some (.bl true),b]:=by
 walk_at "r";refine⟨a,?_⟩;walk_at "r";refine⟨a,?_⟩;refine Br.yes (eH rfl) ?_;walk_at "r";refine⟨sh,?_⟩;walk_at "r";have e:ng false (decide ((pyd d).shown=(pyd d).shown))=true:=eH rfl;rw[e];exact q
theorem CF(ds:List D)(Q:D->Prop)(h:U8 ds Q):vJ (EP Q) (i8 6 ds):=by
 obtain⟨d,rfl,c,im,sh,q⟩:=h;have a:=Cg d;refine⟨d,rfl,c,rfl,?_⟩;refine⟨sh,rfl,rfl,rfl,?_⟩;refine⟨d,rfl,c,?_⟩
 cases b:br d with
 | none=>
  rw[b] at a;exact⟨rfl,rfl,xh sh a q⟩
 | some g=>
  obtain⟨w,i⟩:=g;rw[b] at a;refine⟨rfl,rfl,λe j=>?_⟩;walk_at "r";refine⟨a,?_⟩;walk_at "r";refine⟨a,?_⟩;refine Br.yes (eH rfl) ?_;walk_at "r";refine⟨sh,?_⟩;walk_at "r";have e:ng false (decide ((pyd d).shown=(pyd d).shown))=true:=eH rfl;rw[e];exact q
def Jf(d:D):Bool:=kn d&&w8 d&&K7 d&&decide ((pyd d).weight<=300)&&decide ((pyd d).depth<=4)
theorem P8.of{d:D}(h:Jf d=true):P8 d 300 4:=by
 unfold Jf at h;simp only[hD,decide_eq_true_eq] at h;exact⟨h.1.1.1.1,h.1.1.1.2,h.1.1.2,h.1.2,h.2⟩
theorem Mq{xs:List D}{m:Nat}(h:1<=m):cutD xs none (some (-(m:Int)))=xs.take (xs.length-m):=by
 have a:HT.D1 xs.length xs.length (some (-(m:Int)))=xs.length-m:=by
  show(if -(m:Int)<0 then(-(m:Int)+(xs.length:Int)).toNat else min (-(m:Int)).toNat xs.length)=_;rw[qq (by omega)];omega
 unfold cutD;rw[a];simp[HT.D1]
theorem W6(xs a:List D):bG (xs++a)=bG xs+bG a:=by
 unfold bG;rw[t7,List.sum_append]
theorem uX(xs:List D)(n:Nat):bG (xs.take n)+bG (xs.drop n)=bG xs:=by rw[<-W6,List.take_append_drop]
theorem aE:∀xs:List D,PyData.weightAll (O8 xs)=bG xs+xs.length
 | []=>by simp[O8,PyData.weightAll,bG]
 | x::xs=>by
  have:=aE xs;unfold bG at this ⊢;rw[rl,List.sum_cons,sw];show PyData.weightAll (pyd x::O8 xs)=_;simp only[PyData.weightAll];omega
theorem Ba{xs:List D}(h:∀x∈xs,kn x=true):cQ xs=true:=by
 induction xs with
 | nil=>rfl
 | cons x xs a=>
  show(kn x&&cQ xs)=true;rw[h x pu,a λy b=>h y (ol _ b)];rfl
theorem Nu.l9{xs:List D}{k:Nat}(h:Nu xs k):L3.l9 xs=true:=x8 λx a=>(h x a).2.1
theorem cY(xs:List D)(i:Nat):cutD xs none (some (i:Int))=xs.take i:=by
 have a:HT.D1 xs.length xs.length (some (i:Int))=min i xs.length:=HT.vn _ _ _;unfold cutD;rw[a];show List.take (min i xs.length-0) (xs.drop 0)=_;rw[List.drop_zero,Nat.sub_zero]
 by_cases h:i<=xs.length
 ·rw[Nat.min_eq_left h]
 ·rw[Nat.min_eq_right (by omega),Ot (hI _),Ot (by omega)]
theorem Lx(g:Gd):dG (gD g)=g:=by
 obtain⟨n,u,cv,de,wa⟩:=g;show(⟨n,JT (uD u),(cv.map pr).map Dz,de,wa⟩:Gd)=_;rw[lR];cases u<;>rfl
theorem R0.M4{b:Bd}(h:R0 b):∀(n i:Nat),b.gs.length-i=n->My.M4 (b.gs.take i) ((b.gs.drop i).map gD)=none
 | 0,i,e=>by rw[Pb (by omega)];unfold My.M4;rfl
 | n+1,i,e=>by
  have a:i<b.gs.length:=by omega
  have c:=hL a;rw[v2 a,rl];unfold My.M4;rw[h.Nc c,Lx];have d:b.gs.take (i+1)=b.gs.take i++[b.gs[i]]:=by rw[EQ,c];rfl
  rw[<-d];exact h.M4 n (i+1) (by omega)
theorem nG{b:Type}{f:b->D}:∀{as:List b},(∀a∈as,kn (f a)=true)->cQ (as.map f)=true
 | [],_=>rfl
 | a::as,h=>by
  show(kn (f a)&&cQ (as.map f))=true;rw[h a pu,nG λx c=>h x (ol _ c)];rfl
theorem R0.cQ{b:Bd}(h:R0 b):My.cQ (b.gs.map gD)=true/\My.cQ (b.ls.map lD)=true:=⟨nG λg c=>(h.gt g c).kn,nG λl a=>(h.lt l a).kn⟩
theorem R0.kn{b:Bd}(h:R0 b):My.kn (bD b)=true:=by
 show(My.cQ (b.gs.map gD)&&(My.cQ (b.ls.map lD)&&true))=true;rw[h.cQ.1,h.cQ.2];rfl
theorem P8.mono{d:D}{w n a b:Nat}(h:P8 d w n)(hw:w<=a)(c:n<=b):P8 d a b:=⟨h.k,h.im,h.sh,sr h.we hw,sr h.de c⟩
theorem aO{xs:List D}{i:Int}{K:D->Prop}(c:0<=i)(b:i<xs.length)(k:∀d,d∈xs->xs[i.toNat]?=some d->K d):∃d,O7 xs i=some d/\K d:=by
 obtain⟨x,a,e,z⟩:=E8 (f:=id) (xs:=xs) c b;rw[List.map_id] at z;exact⟨x,z,k x a e⟩
theorem P8.tup{zs:List D}{w n:Nat}(h:∀z∈zs,kn z=true/\w8 z=true/\K7 z=true/\(pyd z).depth<=n)(hw:bG zs+zs.length<=w):P8 (.tup zs) w (n+1) where
 k:=Ba λz a=>(h z a).1
 im:=x8 λz a=>(h z a).2.1
 sh:=Fx λz a=>(h z a).2.2.1
 we:=by show PyData.weightAll (O8 zs)<=w;rw[aE];exact hw
 de:=Ox (DM λz a=>(h z a).2.2.2)
theorem P8.fz{zs:List D}{w n:Nat}(h:∀z∈zs,kn z=true/\w8 z=true/\K7 z=true/\(pyd z).depth<=n)(hw:bG zs+zs.length<=w):P8 (.fz zs) w (n+1) where
 k:=Ba λz a=>(h z a).1
 im:=x8 λz a=>(h z a).2.1
 sh:=Fx λz a=>(h z a).2.2.1
 we:=by show PyData.weightAll (O8 zs)<=w;rw[aE];exact hw
 de:=Ox (DM λz a=>(h z a).2.2.2)
theorem cm{xs:List D}(h:L3.l9 xs=true):∀x∈xs,w8 x=true:=by
 induction xs with
 | nil=>intro x b;cases b
 | cons a r c=>
  have h:(w8 a&&L3.l9 r)=true:=h;rw[hD] at h;intro x b;rcases List.mem_cons.mp b with rfl | b
  ·exact h.1
  ·exact c h.2 x b
theorem GJ{x:D}(h:w8 x=true):L3.l9 [x]=true:=by show(w8 x&&true)=true;rw[h];rfl
theorem ln{n:Nat}(h:n<=100):n<=sizeLine:=sr h (by rw[v1];decide)
theorem Kf(ds:List D)(Q:D->D->Prop)(h:sH ds Q):Kc (EM Q) (i8 3 ds):=by
 obtain⟨c,d,k,one,w,n,rfl,o,l,hw,b,e,q⟩:=h;walk_at "r";intro u;walk_at "r";refine⟨show(23:Nat)<=sizeLine by rw[v1];decide,?_⟩;walk_at "r";refine⟨show(24:Nat)<=sizeLine by rw[v1];decide,?_⟩;walk_at "r";refine⟨e.im,?_⟩;walk_at "r";refine⟨by show(true&&(true&&(true&&(true&&(w8 one&&true)))))=true;rw[e.im];rfl,show(29:Nat)<=sizeLine by rw[v1];decide,?_⟩;walk_at "r";refine⟨c,d,k,29,rfl,o,l,by decide,by decide,λr p j i=>?_⟩;walk_at "r";refine aO j i λx a _=>?_
 have g:P8 x w n:=by
  rcases List.mem_append.mp a with a | a
  ·exact(P8.of (List.all_eq_true.mp (by kernel_rfl) x a)).mono hw b
  ·rcases List.mem_cons.mp a with rfl | a
   ·exact(P8.of (by kernel_rfl)).mono hw b
   rcases List.mem_cons.mp a with rfl | a
   ·exact(P8.of (by kernel_rfl)).mono hw b
   rcases List.mem_cons.mp a with rfl | a
   ·exact(P8.of (by kernel_rfl)).mono hw b
   rcases List.mem_cons.mp a with rfl | a
   ·exact(P8.of (by kernel_rfl)).mono hw b
   rw[List.mem_singleton.mp a];exact e
 exact⟨g.im,q x p g⟩
theorem A4.l9{xs:List D}{t:Nat}(h:A4 xs t):L3.l9 xs=true:=x8 λx a=>(h.ok x a).im
theorem sX{w:Nat}:∀xs:List D,(∀x∈xs,(pyd x).weight<=w)->bG xs<=xs.length*w
 | [],_=>wf _
 | x::r,h=>by
  have e:=h x pu;have d:=sX r λy a=>h y (ol _ a);have c:bG (x::r)=(pyd x).weight+bG r:=rfl;have b:(x::r).length*w=r.length*w+w:=Nat.succ_mul _ _;omega
theorem P8.Od{d:D}{w n:Nat}(h:P8 d w n)(hw:w<=258000)(a:n<=150):cX d:=⟨h.sh,sr h.we hw,sr h.de a⟩
theorem D5{zs:List D}{w n:Nat}(h:∀z∈zs,P8 z w n):P8 (.tup zs) (zs.length*w+zs.length) (n+1):=P8.tup (λz a=>let s:=h z a;⟨s.k,s.im,s.sh,s.de⟩) (Nat.add_le_add_right (sX zs λz a=>(h z a).we) _)
theorem NC{zs:List D}{w n:Nat}(h:∀z∈zs,P8 z w n):P8 (.fz zs) (zs.length*w+zs.length) (n+1):=P8.fz (λz a=>let s:=h z a;⟨s.k,s.im,s.sh,s.de⟩) (Nat.add_le_add_right (sX zs λz a=>(h z a).we) _)
theorem A4.tup{xs:List D}(h:A4 xs 2):P8 (.tup xs) 81146 9:=(D5 h.ok).mono (by have:=h.len;omega) (by decide)
theorem A4.fz{xs:List D}(h:A4 xs 2):P8 (.fz xs) 81146 9:=(NC h.ok).mono (by have:=h.len;omega) (by decide)
theorem two{a b:D}(e:P8 a 81146 9)(d:P8 b 81146 9):∀z∈[a,b],P8 z 81146 9:=λz c=>by
 rcases List.mem_cons.mp c with rfl | c
 ·exact e
 ·rw[List.mem_singleton.mp c];exact d
theorem CM(ds:List D)(Q:D->D->Prop)(h:W7 ds Q):uV (EM Q) (i8 4 ds):=by
 obtain⟨c,d,k,e,b,rfl,C,B,p,o,q⟩:=h;have X:=p.tup;have Y:=o.tup;have i:=p.l9;have g:=o.l9;walk_at "r"
 repeat ((first | refine⟨i,?_⟩ | refine⟨g,?_⟩);walk_at "r")
 have E:L3.l9 [D.tup [D.tup e,D.tup b]]=true:=GJ (D5 (two X Y)).im;refine⟨E,by decide,by decide,show(18:Nat)<=_ by rw[v1];decide,?_⟩;walk_at "r"
 repeat ((first | refine⟨i,?_⟩ | refine⟨g,?_⟩);walk_at "r")
 refine⟨(D5 (two X Y)).im,?_⟩;walk_at "r"
 repeat ((first | refine⟨i,?_⟩ | refine⟨g,?_⟩);walk_at "r")
 have j:∀z∈(List.replicate (Int.toNat 18) [D.tup [D.tup e,D.tup b]]).flatten,P8 z 170000 11:=λz a=>by
  obtain⟨l,G,a⟩:=List.mem_flatten.mp a;rw[(List.mem_replicate.mp G).2] at a;rw[List.mem_singleton.mp a];exact(D5 (two X Y)).mono (by show 2*81146+2<=_;decide) (by decide)
 have y:(List.replicate (Int.toNat 18) [D.tup [D.tup e,D.tup b]]).flatten.length=18:=by simp
 generalize (List.replicate (Int.toNat 18) [D.tup [D.tup e,D.tup b]]).flatten=L at j y
 have g1:∀z∈[D.fz [D.tup e,D.tup b],D.tup [D.tup e],D.tup [D.tup e,D.tup b,D.tup []],D.tup [D.fz e,D.tup b]],P8 z 170000 11:=λz a=>by
  rcases List.mem_cons.mp a with rfl | a
  ·exact(NC (two X Y)).mono (by show 2*81146+2<=_;decide) (by decide)
  rcases List.mem_cons.mp a with rfl | a
  ·exact(D5 (zs:=[D.tup e]) λz a=>by rw[List.mem_singleton.mp a];exact X).mono (by show 1*81146+1<=_;decide) (by decide)
  rcases List.mem_cons.mp a with rfl | a
  ·refine⟨?_,?_,?_,?_,?_⟩
   ·show(kn (.tup e)&&(kn (.tup b)&&true))=true;rw[X.k,Y.k];rfl
   ·show(w8 (.tup e)&&(w8 (.tup b)&&true))=true;rw[X.im,Y.im];rfl
   ·show(K7 (.tup e)&&(K7 (.tup b)&&true))=true;rw[X.sh,Y.sh];rfl
   ·show(pyd (.tup e)).weight+1+((pyd (.tup b)).weight+1+1)<=_;have:=X.we;have:=Y.we;omega
   ·show max (pyd (.tup e)).depth (max (pyd (.tup b)).depth 1)+1<=_;have:=X.de;have:=Y.de;omega
  ·rw[List.mem_singleton.mp a];exact(D5 (two p.fz Y)).mono (by show 2*81146+2<=_;decide) (by decide)
 generalize I:[D.fz [D.tup e,D.tup b],D.tup [D.tup e],D.tup [D.tup e,D.tup b,D.tup []],D.tup [D.fz e,D.tup b]]=M at g1;have S:M.length=4:=by rw[<-I];rfl
 refine⟨x8 λz a=>(j z a).im,x8 λz a=>(g1 z a).im,ln (by omega),?_⟩;walk_at "r"
 repeat ((first | refine⟨i,?_⟩ | refine⟨g,?_⟩);walk_at "r")
 intro v;walk_at "r"
 have u:∀z∈[D.tup [D.tup e,D.fz b],D.tup [D.tup [],D.tup b],D.p7,D.str "board",D.tup [D.tup b,D.tup e],D.ob (.dE [] v),D.int 5,D.bl true],P8 z 170000 11:=λz a=>by
  rcases List.mem_cons.mp a with rfl | a
  ·exact(D5 (two X o.fz)).mono (by show 2*81146+2<=_;decide) (by decide)
  rcases List.mem_cons.mp a with rfl | a
  ·refine⟨?_,?_,?_,?_,?_⟩
   ·show(true&&(kn (.tup b)&&true))=true;rw[Y.k];rfl
   ·show(true&&(w8 (.tup b)&&true))=true;rw[Y.im];rfl
   ·show(true&&(K7 (.tup b)&&true))=true;rw[Y.sh];rfl
   ·show 0+1+((pyd (.tup b)).weight+1+0)<=_;have:=Y.we;omega
   ·show max 1 (max (pyd (.tup b)).depth 0)+1<=_;have:=Y.de;omega
  rcases List.mem_cons.mp a with rfl | a
  ·exact(P8.of (by kernel_rfl)).mono (by decide) (by decide)
  rcases List.mem_cons.mp a with rfl | a
  ·exact(P8.of (by kernel_rfl)).mono (by decide) (by decide)
  rcases List.mem_cons.mp a with rfl | a
  ·exact(D5 (two Y X)).mono (by show 2*81146+2<=_;decide) (by decide)
  exact(P8.of (List.all_eq_true.mp (by kernel_rfl:([D.ob (.dE [] v),D.int 5,D.bl true]:List D).all Jf=true) z a)).mono (by decide) (by decide)
 generalize H:[D.tup [D.tup e,D.fz b],D.tup [D.tup [],D.tup b],D.p7,D.str "board",D.tup [D.tup b,D.tup e],D.ob (.dE [] v),D.int 5,D.bl true]=N at u;have R:N.length=8:=by rw[<-H];rfl
 refine⟨x8 λz a=>(List.mem_append.mp a).elim (λh=>(j z h).im) λh=>(g1 z h).im,x8 λz a=>(u z a).im,ln (by rw[hW];omega),?_⟩;walk_at "r";refine⟨c,d,k,30,rfl,C,B,by decide,by decide,λr J x O=>?_⟩;walk_at "r";refine aO x (by rw[hW,hW];omega) λz a _=>?_;have sz:P8 z 170000 11:=(List.mem_append.mp a).elim (λh=>(List.mem_append.mp h).elim (j z) (g1 z)) (u z);exact⟨sz.im,q z J sz.k sz.im (sz.Od (by decide) (by decide))⟩
theorem rf{zs:List D}{W N:Nat}(h:P8 (.tup zs) W (N+1)):∀z∈zs,kn z=true/\w8 z=true/\K7 z=true/\(pyd z).depth<=N:=by
 have d:cQ zs=true:=h.k;have e:L3.l9 zs=true:=h.im;have c:eW zs=true:=h.sh;have hd:PyData.depthAll (O8 zs)<=N:=Nat.le_of_succ_le_succ h.de;clear h
 induction zs with
 | nil=>intro z b;cases b
 | cons a r g=>
  have d:(kn a&&cQ r)=true:=d;have e:(w8 a&&L3.l9 r)=true:=e;have c:(K7 a&&eW r)=true:=c;have hd:max (pyd a).depth (PyData.depthAll (O8 r))<=N:=hd;rw[hD] at d e c;intro z b;rcases List.mem_cons.mp b with rfl | b
  ·exact⟨d.1,e.1,c.1,by omega⟩
  ·exact g d.2 e.2 c.2 (by omega) z b
theorem gY{zs zs':List D}{W N:Nat}(g:P8 (.tup zs) W (N+1))(h:∀z∈zs',z∈zs\/(kn z=true/\w8 z=true/\K7 z=true/\(pyd z).depth<=N+2))(hw:bG zs'+zs'.length<=bG zs+zs.length+310):P8 (.tup zs') (W+310) (N+3):=by
 have i:=rf g;have we:bG zs+zs.length<=W:=by have:=g.we;rw[<-aE];exact this
 exact(P8.tup (w:=W+310) (n:=N+2) (λz e=>(h z e).elim (λm=>let ⟨a,b,c,d⟩:=i z m;⟨a,b,c,by omega⟩) id) (by omega))
theorem An{y:Str}(b:nm 8 y)(N:Nat):kn (.str y)=true/\w8 (.str y)=true/\K7 (.str y)=true/\(pyd (.str y)).depth<=N:=by
 have a:=L7.nm b;exact⟨eH (sr (mH b) (by decide)),rfl,a.s,sr a.n (wf _)⟩
theorem JK{y:Str}(b:nm 8 y):bG [.str y]<=8:=by
 have a:=(L7.nm b).w;show(pyd (.str y)).weight+0<=8;omega
theorem fU{xs zs:List D}{x:D}{t:Nat}(c:A4 xs t)(h:∀z∈zs,z∈xs\/z=x)(a:P8 x (2500+310*(t+1)) (4+2*(t+1)))(d:zs.length<=24+(t+1)):A4 zs (t+1):=
 ⟨λz b=>(h z b).elim (λm=>(c.ok z m).mono (by omega) (by omega)) (λe=>e▸a),d⟩
theorem Aw(xs:List D)(i:Nat):cutD xs (some (i:Int)) none=xs.drop i:=by
 have a:HT.D1 xs.length 0 (some (i:Int))=min i xs.length:=HT.vn _ _ _;unfold cutD;rw[a];show List.take (xs.length-min i xs.length) (xs.drop (min i xs.length))=_
 by_cases h:i<=xs.length
 ·rw[Nat.min_eq_left h,Ot (by rw[tz];exact hI _)]
 ·rw[Nat.min_eq_right (by omega),Pb (show xs.length<=i by omega),Pb (hI _),List.take_nil]
theorem CL(xs:List D)(i:Nat):cutD xs (some ((i:Int)+1)) none=xs.drop (i+1):=Aw xs (i+1)
section
variable{Q:D->D->Prop}{c d k:Int}{xs:List D}{ys:QF}{t i:Nat}{y:Str}{x x':D}{w:Int}{v7:Option D}
theorem tk(h:L3.l9 xs=true)(n:Nat):L3.l9 (xs.take n)=true:=x8 λx a=>cm h x (wP a)
theorem dr(h:L3.l9 xs=true)(n:Nat):L3.l9 (xs.drop n)=true:=x8 λx a=>cm h x (wl a)
theorem KQ{as bs:List D}(h:L3.l9 as=true)(b:L3.l9 bs=true):L3.l9 (as++bs)=true:=x8 λx a=>(List.mem_append.mp a).elim (cm h x) (cm b x)
theorem EG(h:A4 xs t)(j:t<=1)(l:i<xs.length)(e:P8 x' (2500+310*(t+1)) (4+2*(t+1)))(q:∀zs,A4 zs (t+1)->Q (.lst zs) (feed c d k)):qv (EM Q) [some (feed c d k),some (.lst xs),some (cP ys),some (.str y),some (.int (i:Int)),some x',some (.int w),v7]:=by
 have b:=h.l9;have len:=h.len;walk_at "r";rw[cY];refine⟨b,e.im,?_⟩;walk_at "r";have g:(xs.take i).length=i:=by rw[t9];omega
 refine⟨tk b i,GJ e.im,ln (by rw[g,pp];omega),?_⟩;walk_at "r";rw[CL];refine⟨b,?_⟩;walk_at "r";refine⟨KQ (tk b i) (GJ e.im),dr b _,ln (by rw[hW,g,pp,tz];omega),?_⟩;refine q _ (fU h (x:=x') (λz a=>?_) e (by rw[hW,hW,g,pp,tz];omega));rcases List.mem_append.mp a with a | a
 ·rcases List.mem_append.mp a with a | a
  ·exact .inl (wP a)
  ·exact .inr (List.mem_singleton.mp a)
 ·exact .inl (wl a)
theorem Er(p:A4 xs t)(I:t<=1)(M:i<xs.length)(g:P8 x' (2500+310*(t+1)) (4+2*(t+1)))(k0:0<=k)(k1:k<=10^9)(R:0<=w)(O:w<8)(q:∀zs d' B,A4 zs (t+1)->k<=B->B<=k+1->Q (.lst zs) (feed c d' B)):iF (EM Q) [some (feed c d k),some (.lst xs),some (cP ys),some (.str y),some (.int (i:Int)),some x',some (.int w),v7]:=by
 have b:=p.l9;have len:=p.len;have o:(xs.take i).length=i:=by rw[t9];omega
 walk_at "r";refine⟨λe=>?_,λe=>?_⟩
 ·walk_at "r";rw[cY];refine⟨b,?_⟩;walk_at "r";refine⟨g.im,?_⟩;walk_at "r";refine⟨c,d,k,4,rfl,k0,k1,by decide,by decide,λr d' G E=>?_⟩;walk_at "r";refine aO G E λm j _=>?_
  obtain⟨n,rfl,H⟩:∃n:Int,m=.int n/\n<=25/\0<=n:=by
   rcases List.mem_cons.mp j with rfl | j
   ·exact⟨_,rfl,by decide,by decide⟩
   rcases List.mem_cons.mp j with rfl | j
   ·exact⟨_,rfl,by decide,by decide⟩
   rcases List.mem_cons.mp j with rfl | j
   ·exact⟨_,rfl,by decide,by decide⟩
   rw[List.mem_singleton.mp j];exact⟨_,rfl,by decide,by decide⟩
  walk_at "r";have u:(List.replicate (n-(xs.length:Int)).toNat [x']).flatten.length=(n-(xs.length:Int)).toNat:=by simp
  have v:∀z∈(List.replicate (n-(xs.length:Int)).toNat [x']).flatten,z=x':=λz a=>by
   obtain⟨l,J,a⟩:=List.mem_flatten.mp a;rw[(List.mem_replicate.mp J).2] at a;exact List.mem_singleton.mp a
  refine⟨GJ g.im,by omega,by omega,ln (by rw[pp];omega),?_⟩;generalize (List.replicate (n-(xs.length:Int)).toNat [x']).flatten=L at u v;have C:L3.l9 L=true:=x8 λz a=>by rw[v z a];exact g.im
  walk_at "r";refine⟨tk b i,C,ln (by rw[o,u];omega),?_⟩;walk_at "r";rw[Aw];refine⟨b,?_⟩;walk_at "r";refine⟨KQ (tk b i) C,dr b _,ln (by rw[hW,o,u,tz];omega),?_⟩;refine q _ _ _ (fU p (x:=x') (λz a=>?_) g (by rw[hW,hW,o,u,tz];omega)) (by omega) (by omega);rcases List.mem_append.mp a with a | a
  ·rcases List.mem_append.mp a with a | a
   ·exact .inl (wP a)
   ·exact .inr (v z a)
  ·exact .inl (wl a)
 ·walk_at "r";refine⟨λe=>?_,λe=>?_⟩
  ·walk_at "r";rw[cY];refine⟨b,g.im,?_⟩;walk_at "r";refine⟨tk b i,GJ g.im,ln (by rw[o,pp];omega),?_⟩;walk_at "r";rw[Aw];refine⟨b,?_⟩;walk_at "r";refine⟨KQ (tk b i) (GJ g.im),dr b _,ln (by rw[hW,o,pp,tz];omega),?_⟩;refine q _ _ _ (fU p (x:=x') (λz a=>?_) g (by rw[hW,hW,o,pp,tz];omega)) (by omega) (by omega);rcases List.mem_append.mp a with a | a
   ·rcases List.mem_append.mp a with a | a
    ·exact .inl (wP a)
    ·exact .inr (List.mem_singleton.mp a)
   ·exact .inl (wl a)
  ·exact EG p I M g λzs h=>q zs d k h (by omega) (by omega)
theorem Ih(E:A4 xs t)(ht:t<=1)(C:xs[i]?=some x)(B:nm 8 y)(k0:0<=k)(k1:k<=10^8+10)(X:0<=w)(U:w<8)(q:∀zs d' u,A4 zs (t+1)->k<=u->u<=k+4->Q (.lst zs) (feed c d' u)):vZ (EM Q) [some (feed c d k),some (.lst xs),some (cP ys),some (.str y),some (.int (i:Int)),some x,some (.int w),none]:=by
 have il:=(List.getElem?_eq_some_iff.mp C).1;have p:=E.ok x (rc C);have I:=E.l9;have len:=E.len
 have H:gW { nx:=vX (EM Q),rt:=(EM Q).rt } [some (feed c d k),some (.lst xs),some (cP ys),some (.str y),some (.int (i:Int)),some x,some (.int w),none]:=by
  have R:(xs.take i).length=i:=by rw[t9];omega
  walk_at "r";rw[cY];refine⟨I,?_⟩;walk_at "r";rw[CL];refine⟨I,?_⟩;walk_at "r";refine⟨tk I i,dr I _,ln (by rw[R,tz];omega),q _ d k (fU E (x:=x) (λz l=>.inl ((List.mem_append.mp l).elim wP wl)) (p.mono (by omega) (by omega)) (by rw[hW,R,tz];omega)) (by omega) (by omega)⟩
 have go:∀x',P8 x' (2500+310*(t+1)) (4+2*(t+1))->∀d' u v7,k<=u->u<=k+2->iF (EM Q) [some (feed c d' u),some (.lst xs),some (cP ys),some (.str y),some (.int (i:Int)),some x',some (.int w),v7]:=λx' Y d' u v7 h1 G=>Er E ht il Y (by omega) (by omega) X U λzs d2 k2 h a b=>q zs d2 k2 h (by omega) (by omega)
 by_cases T:∃zs,x=.tup zs/\zs.length=5
 ·obtain⟨zs,rfl,l5⟩:=T;have p:P8 (.tup zs) (2500+310*t) (3+2*t+1):=p.mono (hI _) (by omega);have o:L3.l9 zs=true:=p.im;have up:∀{z:D},P8 z (2500+310*t+310) (3+2*t+3)->P8 z (2500+310*(t+1)) (4+2*(t+1)):=λh=>h.mono (by omega) (by omega);have cut:∀n,bG (zs.take n)+bG (zs.drop n)=bG zs:=uX zs;walk_at "r";refine⟨λe=>?_,λ_=>?_⟩
  ·have e:¬(zs.length:Int)=5:=by simpa[ng] using e
   omega
  walk_at "r";refine⟨λe=>?_,λe=>?_⟩
  ·have e:=qs e;walk_at "r";refine⟨c,d,k,5,rfl,k0,by omega,by decide,by decide,λs d' O s1=>?_⟩;obtain⟨j,rfl⟩:=Int.eq_ofNat_of_zero_le O;have j5:j<5:=by omega
   walk_at "r";rw[cY];refine⟨o,?_⟩;walk_at "r";refine aO O (by omega) λone ho J=>?_;obtain⟨o1,o2,o3,o4⟩:=rf p one ho
   have hd:zs.drop j=one::zs.drop (j+1):=by
    have J:zs[j]?=some one:=J;have jl:=(List.getElem?_eq_some_iff.mp J).1;rw[v2 jl,(List.getElem?_eq_some_iff.mp J).2]
   have hw:=cut j;rw[hd] at hw;have a0:bG (one::zs.drop (j+1))=(pyd one).weight+bG (zs.drop (j+1)):=rfl;have lt:(zs.take j).length=j:=by rw[t9];omega
   walk_at "r";refine⟨c,d',k+1,one,(pyd one).weight+300,4+2*t,rfl,by omega,by omega,by omega,by omega,⟨o1,o2,o3,by omega,by omega⟩,λr d2 v=>?_⟩;walk_at "r";refine⟨tk o j,GJ v.im,ln (by rw[lt,pp];omega),?_⟩;walk_at "r";rw[CL];refine⟨o,?_⟩;walk_at "r";refine⟨KQ (tk o j) (GJ v.im),dr o _,ln (by rw[hW,lt,pp,tz];omega),?_⟩
   have nx:P8 (.tup (zs.take j++[r]++zs.drop (j+1))) (2500+310*t+310) (3+2*t+3):=gY p (λz l=>by
    rcases List.mem_append.mp l with l | l
    ·rcases List.mem_append.mp l with l | l
     ·exact .inl (wP l)
     ·rw[List.mem_singleton.mp l];exact .inr ⟨v.k,v.im,v.sh,by have:=v.de;omega⟩
    ·exact .inl (wl l)) (by
     have h1:bG [r]=(pyd r).weight+0:=rfl;have:=v.we;rw[W6,W6,hW,hW,lt,pp,tz];omega)
   walk_at "r";refine⟨λz=>absurd (qs (show decide (w=3)=true from z)) (by omega),λ_=>?_⟩;walk_at "r";refine⟨λz=>absurd (qs (show decide (w=4)=true from z)) (by omega),λ_=>?_⟩;walk_at "r";refine⟨λz=>absurd (qs (show decide (w=5)=true from z)) (by omega),λ_=>?_⟩;exact go _ (up nx) d2 (k+1+1) _ (by omega) (by omega)
  ·have e3:=Ch e;walk_at "r";refine⟨λe=>?_,λe=>?_⟩
   ·have e:w=3:=by simpa[ng] using e
    walk_at "r";rw[show(1:Int)=((1:Nat):Int) from rfl,Aw];refine⟨o,?_⟩;walk_at "r";refine⟨dr o _,ln (by rw[pp,tz];omega),?_⟩;walk_at "r";refine⟨λz=>absurd (qs (show decide (w=4)=true from z)) (by omega),λ_=>?_⟩;walk_at "r";refine⟨λz=>absurd (qs (show decide (w=5)=true from z)) (by omega),λ_=>?_⟩
    exact go _ (up (gY (zs':=[.str y]++zs.drop 1) p (λz l=>(List.mem_append.mp l).elim (λh=>by rw[List.mem_singleton.mp h];exact .inr (An B _)) λh=>.inl (wl h)) (by
     have:=JK B;have:=cut 1;rw[W6,hW,pp,tz];omega))) d k none (by omega) (by omega)
   walk_at "r";refine⟨λe=>?_,λe=>?_⟩
   ·have e:w=4:=by simpa[ng] using e
    have lt:(zs.take 1).length=1:=by rw[t9];omega
    walk_at "r";rw[show(1:Int)=((1:Nat):Int) from rfl,cY];refine⟨o,?_⟩;walk_at "r";refine⟨tk o 1,rfl,ln (by rw[lt,pp];omega),?_⟩;walk_at "r";rw[show(2:Int)=((2:Nat):Int) from rfl,Aw];refine⟨o,?_⟩;walk_at "r";refine⟨KQ (tk o 1) rfl,dr o _,ln (by rw[hW,lt,pp,tz];omega),?_⟩;walk_at "r";refine⟨λz=>absurd (qs (show decide (w=5)=true from z)) (by omega),λ_=>?_⟩
    exact go _ (up (gY (zs':=zs.take 1++[.str y]++zs.drop 2) p (λz l=>by
     rcases List.mem_append.mp l with l | l
     ·rcases List.mem_append.mp l with l | l
      ·exact .inl (wP l)
      ·rw[List.mem_singleton.mp l];exact .inr (An B _)
     ·exact .inl (wl l)) (by
     have:=JK B;have:=cut 1
     have G:bG (zs.drop 2)<=bG (zs.drop 1):=by
      have G:=uX (zs.drop 1) 1;rw[List.drop_drop] at G;have G:_+bG (zs.drop 2)=_:=G;omega
     rw[W6,W6,hW,hW,lt,pp,tz];omega))) d k none (by omega) (by omega)
   walk_at "r";refine⟨λe=>?_,λe=>?_⟩
   ·have e:w=5:=by simpa[ng] using e
    subst e;walk_at "r";refine⟨o,?_⟩;walk_at "r";refine⟨o,?_⟩;have c1:cutD zs none (some (-1))=zs.take (zs.length-1):=Mq (m:=1) (by decide);walk_at "r";rw[c1];refine⟨o,?_⟩;walk_at "r";refine⟨o,rfl,ln (by rw[pp];omega),?_⟩;walk_at "r";refine⟨o,?_⟩;walk_at "r";have lt:(zs.take (zs.length-1)).length=4:=by rw[t9];omega
    have we:bG zs+zs.length<=2500+310*t:=by have:=p.we;rw[<-aE];exact this
    have g:∀z∈[D.fz zs,D.tup (zs.take (zs.length-1)),D.tup (zs++[D.int 0]),D.str y,D.tup [D.tup zs]],P8 z (2500+310*t+310) (3+2*t+3):=λz l=>by
     rcases List.mem_cons.mp l with rfl | l
     ·exact(P8.fz (n:=3+2*t) (λz l=>rf p z l) we).mono (by omega) (by omega)
     rcases List.mem_cons.mp l with rfl | l
     ·exact gY p (λz l=>.inl (wP l)) (by have:=cut (zs.length-1);omega)
     rcases List.mem_cons.mp l with rfl | l
     ·exact gY p (λz l=>(List.mem_append.mp l).elim .inl λh=>by rw[List.mem_singleton.mp h];exact .inr ⟨rfl,rfl,by kernel_rfl,wf _⟩) (by
       have h0:bG [D.int 0]=0:=by kernel_rfl
       rw[W6,hW,h0,pp];omega)
     rcases List.mem_cons.mp l with rfl | l
     ·obtain⟨a,b,c,d⟩:=An B (3+2*t+3);exact⟨a,b,c,by have:=JK B;have e:bG [.str y]=(pyd (.str y)).weight+0:=rfl;omega,d⟩
     rw[List.mem_singleton.mp l];exact(D5 (zs:=[.tup zs]) λz l=>by rw[List.mem_singleton.mp l];exact p).mono (by show 1*_+1<=_;omega) (by omega)
    generalize hM:[D.fz zs,D.tup (zs.take (zs.length-1)),D.tup (zs++[D.int 0]),D.str y,D.tup [D.tup zs]]=M at g;have lM:M.length=5:=by rw[<-hM];rfl
    refine⟨c,d,k,5,rfl,k0,by omega,by decide,by decide,λr d' r0 r1=>?_⟩;refine aO r0 (by omega) λz l _=>?_;exact⟨(g z l).im,rfl,go z (up (g z l)) d' (k+1) none (by omega) (by omega)⟩
   exact go (.tup zs) (up (p.mono (by omega) (by omega))) d k none (by omega) (by omega)
 ·have S:=p.k;cases x<;>first | (simp[kn] at S;done) | (obtain⟨_,rfl⟩:=J6 S) | skip
  case tup zs=>
   walk_at "r";refine⟨λe=>H,λe=>absurd ⟨zs,rfl,?_⟩ T⟩;have e:(zs.length:Int)=5:=by simpa[ng] using e
   omega
  all_goals
   walk_at "r";exact H
end
theorem ID(ds:List D)(Q:D->D->Prop)(h:eO ds Q):Gv (EM Q) (i8 8 ds):=by
 obtain⟨c,d,k,I,B,t,rfl,R,k1,u,X,y1,H,p,q⟩:=h;have ix:=u.l9;walk_at "r";refine⟨c,d,k,_,rfl,R,by omega,by rw[cC];omega,by rw[cC];omega,λr d1 O C=>?_⟩;rw[cC] at C;walk_at "r";obtain⟨y,j,_,Y⟩:=E8 (f:=D.str) (xs:=B) O C;refine⟨_,Y,?_⟩;walk_at "r";refine⟨λe=>?_,λe=>?_⟩
 ·walk_at "r";obtain⟨g,o,_,v⟩:=E8 (f:=D.str) (xs:=B) (i:=0) (by decide) (by omega);refine⟨_,v,?_⟩;walk_at "r";refine q _ _ _ ⟨λz T=>?_,by rw[pp];omega⟩ (by omega) (by omega);rw[List.mem_singleton.mp T];have a:=L7.nm (p y j);have b:=L7.nm (p g o);have l:∀z,nm 8 z->kn (.str z)=true:=λz h=>eH (sr (mH h) (by decide));refine⟨?_,rfl,?_,?_,?_⟩
  ·show(kn (.str y)&&(kn (.str g)&&true))=true;rw[l y (p y j),l g (p g o)];rfl
  ·show(K7 (.str y)&&(K7 (.str g)&&true))=true;rw[a.s,b.s];rfl
  ·show(pyd (.str y)).weight+1+((pyd (.str g)).weight+1+3)<=_;have:=a.w;have:=b.w;omega
  ·show max (pyd (.str y)).depth (max (pyd (.str g)).depth 1)+1<=_;have:=a.n;have:=b.n;omega
 ·have e0:¬(I.length:Int)=0:=by simpa[ng] using e
  walk_at "r";refine⟨c,d1,k+1,_,rfl,by omega,by omega,by omega,by have:=u.len;omega,λa d2 E a1=>?_⟩;walk_at "r";refine aO E a1 λx U ex=>?_;walk_at "r";refine⟨c,d2,k+1+1,8,rfl,by omega,by omega,by decide,by decide,λw d3 M J=>?_⟩;obtain⟨i,rfl⟩:=Int.eq_ofNat_of_zero_le E;exact⟨rfl,Ih u X ex (p y j) (by omega) (by omega) M J λG d' S h h1 h2=>q G d' S h (by omega) (by omega)⟩
theorem A4.up{xs:List D}{t u:Nat}(h:A4 xs t)(b:t<=u):A4 xs u:=⟨λx a=>(h.ok x a).mono (by omega) (by omega),by have:=h.len;omega⟩
theorem R0.LP{b:Bd}(h:R0 b):A4 (b.gs.map gD) 0:=⟨λx a=>by
 have c:=B8 h.cQ.1 x a;obtain⟨g,d,rfl⟩:=List.mem_map.mp a;have s:=(h.gt g d).K7;exact⟨c,BY g,s.s,sr s.w (by decide),sr s.n (by decide)⟩,by have:=h.g16;rw[cC];omega⟩
theorem R0.LM{b:Bd}(h:R0 b):A4 (b.ls.map lD) 0:=⟨λx a=>by
 have d:=B8 h.cQ.2 x a;obtain⟨l,c,rfl⟩:=List.mem_map.mp a;have s:=(h.lt l c).K7;exact⟨d,HW l,s.s,sr s.w (by decide),sr s.n (by decide)⟩,by have:=h.l24;rw[cC];omega⟩
theorem Ej(ds:List D)(Q:D->Prop)(h:bE ds Q):zQ (EP Q) (i8 8 ds):=by
 obtain⟨d,ns,rfl,hs,hl,q⟩:=h;refine⟨d,ns,rfl,hs,λb x=>⟨rfl,?_⟩⟩;have h0:=x.g1;have h1:=x.g16;have h2:=x.l24;refine⟨_,aZ _ _,by rw[cC];exact A9 (by omega),?_⟩;refine V3 (f:=λg:Gd=>.str g.nm) b.gs [] (λg C K R O=>?_) ?_
 ·walk_at "r";exact O
 refine⟨_,dZ _ _ _,by rw[cC];exact A9 (by omega),?_⟩;refine V3 (f:=λg:Ld=>.str g.nm) b.ls [] (λg C K R O=>?_) ?_
 ·walk_at "r";exact O
 have e1:b.gs.map (λg:Gd=>D.str g.nm)=((b.gs.map (·.nm))).map D.str:=by rw[vv];rfl
 have e2:b.ls.map (λg:Ld=>D.str g.nm)=((b.ls.map (·.nm))).map D.str:=by rw[vv];rfl
 rw[xL,xL,e1,e2];have l1:((b.gs.map (·.nm))).length=b.gs.length:=cC _;have l2:((b.ls.map (·.nm))).length=b.ls.length:=cC _;refine⟨pA _,pA _,?_,rfl,?_⟩
 ·simp only[cC];rw[v1];omega
 rw[<-t7];have v:1<=((b.gs.map (·.nm))++(b.ls.map (·.nm))).length:=by rw[hW];omega
 have u:((b.gs.map (·.nm))++(b.ls.map (·.nm))).length<=40:=by rw[hW];omega
 have p:∀y∈(b.gs.map (·.nm))++(b.ls.map (·.nm)),nm 8 y:=λy hy=>by
  rcases List.mem_append.mp hy with h | h
  ·obtain⟨g,C,rfl⟩:=List.mem_map.mp h;exact x.nmg g C
  ·obtain⟨g,C,rfl⟩:=List.mem_map.mp h;exact x.nml g C
 have rG:=x.LP;have rL:=x.LM;have H:=rG.l9;have E:=rL.l9;generalize (b.gs.map (·.nm))++(b.ls.map (·.nm))=J at v u p;walk_at "r";refine⟨H,?_⟩;walk_at "r";refine⟨E,?_⟩;walk_at "r";refine⟨d,ns,42,rfl,hs,by decide,by decide,λc=>?_⟩;walk_at "r";refine⟨c,c,100*42,2,rfl,by decide,by decide,by decide,by decide,λr d' r0 r1=>?_⟩;refine⟨⟨by omega,by omega⟩,?_⟩;walk_at "n";generalize hn:(1+r).toNat=n;have n2:n<=2:=by omega
 refine .of ⟨λi I=>∃G L o d2 k M,I=[some d,some (bD b),some (.lst (J.map D.str)),some (.lst G),some (.lst L),some (feed o d2 k),M,none]/\A4 G i/\A4 L i/\0<=k/\k<=10000+9*i,⟨_,_,_,_,_,none,rfl,rG,rL,by decide,by decide⟩,?_,?_⟩
 ·rintro i e I X ⟨G,L,o,d2,k,M,rfl,l,a,T,k1⟩;have il:=(List.getElem?_eq_some_iff.mp X).1;rw[p6,cC,rm] at il;have H:=l.l9;have E:=a.l9;rw[p6] at X;obtain⟨j,_,rfl⟩:=get_map X;walk_at "r";refine⟨o,d2,k,2,rfl,T,by omega,by decide,by decide,λw d3 w0 w1=>?_⟩;walk_at "r";refine⟨λe=>?_,λe=>?_⟩
  ·refine⟨o,d3,k+1,G,J,i,rfl,by omega,by omega,l,by omega,v,u,p,λB d4 S U a1 a2=>?_⟩;exact⟨rfl,B,L,o,d4,S,_,rfl,U,a.up (by omega),by omega,by omega⟩
  ·refine⟨o,d3,k+1,L,J,i,rfl,by omega,by omega,a,by omega,v,u,p,λB d4 S U a1 a2=>?_⟩;exact⟨rfl,G,B,o,d4,S,_,rfl,l.up (by omega),U,by omega,by omega⟩
 ·rintro I ⟨G,L,o,d2,k,M,rfl,l,a,T,k1⟩;rw[p6,cC,rm] at l a k1;have l:=l.up n2;have a:=a.up n2;have H:=l.l9;have E:=a.l9;walk_at "r";refine⟨H,?_⟩;walk_at "r";refine⟨E,?_⟩;walk_at "r";refine⟨o,d2,k,G,L,rfl,T,by omega,l,a,λz d3 zk Y B=>?_⟩;walk_at "r";refine⟨zk,Y,B,?_⟩;walk_at "r";exact⟨zk,Y,B,q⟩
local macro_rules | `(tactic| walk_at "l")=>`(tactic| (intro _ _ h;repeat (first | exact wv List.length h.1 | obtain⟨_,h⟩:=h)))
local macro_rules | `(tactic| walk_at "b")=>`(tactic| (intro _ _ _ _ _ _ us hl;rcases us with _ | ⟨_,_ | ⟨_,_ | ⟨_,_ | ⟨_,_ | ⟨_,_ | ⟨_,us⟩⟩⟩⟩⟩⟩<;>first | rfl | simp at hl))
def vy(K:QP):Sp:=λvs H Q _=>∃(a:Addr) (ns:QI),vs=[.ref a]/\P7 K H a (ns.map V.int)/\ns.length<=63/\∀b,Q (.bl true) b
theorem R4{K:QP}{H:Hp}:∀ns:QI,j8 K H (ns.map V.int) (ns.map D.int) []
 | []=>.nil
 | n::ns=>j8.cons (A:=[]) (B:=[]) .int (R4 ns)
theorem Jq{K:QP}(vs:List V)(H:Hp)(Q:VK)(E:XK)(h:vy K vs H Q E):bb K bE vs H Q E:=by
 obtain⟨a,ns,rfl,i,g,k⟩:=h
 have b:∀(d:D) (A:QE),HY d ns->Rep K H (.ref a) d A->bb K bE [.ref a] H Q E:=λd A hd r=>
  ⟨[d],A++[],λr=>r=.bl true,.cons r .nil,⟨d,ns,rfl,hd,g,rfl⟩,λr v j B e _ c _ _=>by
   subst e;cases N4 c;exact k j⟩
 rcases i with(h | ⟨o,h⟩) | h
 ·exact b _ _ (.inr rfl) (.lst h (R4 ns))
 ·exact b _ _ (.inl rfl) (.frz (.inl ⟨o,h⟩) (R4 ns))
 ·exact b _ _ (.inl rfl) (.frz (.inr h) (R4 ns))
theorem rD:O2 T3 1:=by walk_at "l"
theorem qo:O2 B0 1:=by walk_at "l"
theorem xq:O2 O3 1:=by walk_at "l"
theorem yA:O2 Y4 1:=by walk_at "l"
theorem rh:O2 S4 2:=by walk_at "l"
theorem rR:O2 S5 1:=by walk_at "l"
theorem lC:O2 K6 1:=by walk_at "l"
theorem rj:O2 S7 1:=by walk_at "l"
theorem rJ:O2 G4 1:=by walk_at "l"
theorem Dk:O2 bL 2:=by walk_at "l"
theorem nq:O2 K5 2:=by walk_at "l"
theorem oS:O2 N7 1:=by walk_at "l"
theorem ym:O2 Y1 1:=by walk_at "l"
theorem pj:O2 N6 3:=by walk_at "l"
theorem wZ:∀ds Q W,U9 ds Q W->ds.length=1:=λ_ _ _ ⟨_,e,_⟩=>wv List.length e
theorem wI:O2 W9 2:=by walk_at "l"
theorem EO:O2 Z5 2:=by walk_at "l"
theorem ED:qQ u5 2:=by walk_at "l"
theorem yS:qQ Q1 1:=by walk_at "l"
theorem yD:qQ O1 1:=by walk_at "l"
theorem AQ:qQ bQ 2:=by walk_at "l"
theorem Cy:qQ bK 1:=by walk_at "l"
theorem yn:O2 Y0 3:=by walk_at "l"
theorem Bw:O2 bz 3:=by walk_at "l"
theorem Ca:O2 bB 1:=by walk_at "l"
theorem sJ:O2 G2 2:=by walk_at "l"
theorem AF:O2 X8 1:=by walk_at "l"
theorem yp:O2 U3 3:=by walk_at "l"
theorem yd:O2 X5 1:=by walk_at "l"
theorem qG:O2 L5 2:=by walk_at "l"
theorem DK:O2 gU 1:=by walk_at "l"
theorem ya:O2 U8 1:=by walk_at "l"
theorem IS:qQ sH 2:=by walk_at "l"
theorem DG:qQ eO 3:=by walk_at "l"
theorem xt:qQ W7 3:=by walk_at "l"
theorem CZ:O2 bE 1:=by walk_at "l"
theorem rb:j2 ["self","word","number"] ["self","word","number"] (e6 (inClass (top 13) 0)):=⟨rfl,rfl,rfl,by decide +kernel,rfl,by decide +kernel,by decide +kernel⟩
theorem all_mk {l:PySem.W.OpenLaw} {w:World} {K:QP} {h:Heap} {mg:QL} {fa f1 f2 f3 f4 f5 f6 f7 f8 f9 ez ey ew ev eu et es eq ep eo en em ek ej ei eg ef ed ec eb ea e8 e5 e4 e3 e2 dt:Addr} (X:K.In h) (G:h.Ns mainGlobals mg) (j5:mg "law"=some (.ref fa))
  {e0 ds:Option Addr} {dx:Array (QQ)} {e1 di dk dd c4 dl:Value}
  (d1:Z2 K f1 "is_whole" ip)
  (d2:Z2 K f2 "is_number" dz)
  (d3:Z2 K f3 "is_name" mR)
  (d4:Z2 K f4 "is_step" nF)
  (d5:Z2 K f5 "follows" gB)
  (d6:Z2 K f6 "is_curve" iX)
  (d7:Z2 K f7 "is_outline" bx)
  (d8:Z2 K f8 "is_guard" gG)
  (d9:Z2 K f9 "names_of" cN)
  (d10:Z2 K ez "climb" mf)
  (d11:Z2 K ey "guard_fits" bH)
  (d12:Z2 K ew "is_course" dq)
  (d13:Z2 K ev "is_load" mq)
  (d14:Z2 K eu "load_fits" df)
  (d15:Z2 K et "looked" kQ)
  (d16:Z2 K es "_law_cell_at" mM)
  (d17:Z2 K eq "_law_feed" zR)
  (d18:Z2 K ep "_law_take" BJ)
  (d19:Z2 K eo "_law_begin" ue)
  (d20:Z2 K en "_law_number" mB)
  (d21:Z2 K em "_law_names" dW)
  (d22:Z2 K ek "_law_steps" dH)
  (d23:Z2 K ej "_law_guards" fR)
  (d24:Z2 K ei "_law_loads" lO)
  (d25:Z2 K eg "_law_board" rg)
  (d26:Z2 K ef "_law_is_number" fZ)
  (d27:Z2 K ed "_law_is_name" mE)
  (d28:Z2 K ec "_law_are_pairs" kX)
  (d29:Z2 K eb "_law_is_curve" fP)
  (d30:Z2 K ea "_law_row_right" dS)
  (d31:Z2 K e8 "_law_due" Al)
  (d32:Z2 K e5 "_law_right" kM)
  (d33:Z2 K e4 "_law_odd" Jm)
  (d34:Z2 K e3 "_law_bent" Cz)
  (d35:Z2 K e2 "_law_topped" nH)
  (a36:PySem.W.nsIn K mainGlobals "law"=some (some (.ref dt)))
  (l36:K.lookup dt=some ⟨e1,e0,.func (PySem.W.fnOf "law" "law" (U5 S8) (E7 S8) (e6 S8) .none di dk dd ds c4 dl),dx⟩) (c36:PySem.W.codeIn K c4 "law"=true) (k36:PySem.W.keepIn K (.ref dt)=true)
  {p:Tok} (cNUMBERS_END:PySem.W.nsIn K mainGlobals "NUMBERS_END"=some (some (.int 1000000000000000000000000000000000000000000000000000000000000 p)))
  {o:Tok} (cLONGEST_NAME:PySem.W.nsIn K mainGlobals "LONGEST_NAME"=some (some (.int 8 o)))
  {r:Tok} (cMOST_STEPS:PySem.W.nsIn K mainGlobals "MOST_STEPS"=some (some (.int 5 r)))
  {q:Tok} (cMOST_GUARDS:PySem.W.nsIn K mainGlobals "MOST_GUARDS"=some (some (.int 16 q)))
  {u:Tok} (cMOST_LOADS:PySem.W.nsIn K mainGlobals "MOST_LOADS"=some (some (.int 24 u)))
  {x:Tok} (cMOST_OVER:PySem.W.nsIn K mainGlobals "MOST_OVER"=some (some (.int 7 x)))
  {g:Tok} (cMOST_STRETCHES:PySem.W.nsIn K mainGlobals "MOST_STRETCHES"=some (some (.int 4 g)))
  {a ab R ac i:Addr}
  (xaNoBoard:PySem.W.nsIn K mainGlobals "NoBoard"=some (some (.ref a)))
  (xaNoText:PySem.W.nsIn K mainGlobals "NoText"=some (some (.ref ab)))
  (xaNoPlace:PySem.W.nsIn K mainGlobals "NoPlace"=some (some (.ref R)))
  (xaNoDeed:PySem.W.nsIn K mainGlobals "NoDeed"=some (some (.ref ac)))
  (xaBoardError:PySem.W.nsIn K mainGlobals "BoardError"=some (some (.ref i)))
  {c:Addr} {a4 ad:Option Addr} {a1:Array (QQ)} {a5 a6 a2 z a7:Value}
  (aINoBoard:PySem.W.findIn K (.ref a) "__init__"=some (some (.ref c)))
  (lINoBoard:K.lookup c=some ⟨.type "function",a4,.func (PySem.W.fnOf "__init__" "NoBoard.__init__" (U5 (inClass (top 13) 0)) (E7 (inClass (top 13) 0)) (e6 (inClass (top 13) 0)) .none a5 a6 a2 ad z a7),a1⟩) (cINoBoard:PySem.W.codeIn K z "NoBoard.__init__"=true) (kINoBoard:PySem.W.keepIn K (.ref c)=true)
  (xfNoBoard:PySem.W.Ac K a ["word","number"]=true)
  (xeBoardError:PySem.W.excIn K i [.type "ValueError",.type "Exception",.type "BaseException",.type "object"] "ValueError.__new__"=true)
  (xeNoBoard:PySem.W.gw K a [.type "ValueError",.type "Exception",.type "BaseException",.type "object"] "ValueError.__new__" c=true)
  (xkANoBoard_NoText_NoPlace_NoDeed:PySem.W.kitAny K (.ref a) [.ref ab,.ref R,.ref ac]=some false)
  (xbNoBoard_1:PySem.W.findIn K (.ref a) "__getattribute__"=some (some (.builtin "BaseException.__getattribute__")))
  (xbNoBoard_2:PySem.W.findIn K (.ref a) "__getattr__"=some none)
  (xbNoBoard_3:PySem.W.findIn K (.ref a) "__class__"=some (some (.builtin "object.__class__")))
  (xbNoBoard_4:PySem.W.specialIn K (.builtin "object.__class__") "__get__"=some (some (.builtin "getset_descriptor.__get__")))
  (xbNoBoard_5:PySem.W.takesIn K (.builtin "object.__class__")=some true)
  (xbNoBoard_6:PySem.W.mroIn K a (.type "object")=some true)
  (xbNoBoard_7:PySem.W.mroIn K a (.type "BaseException")=some true)
  (xkONoBoard_NoBoard:PySem.W.kitOne K (.ref a) (.ref a)=some true)
  (xkONoBoard_ValueError:PySem.W.kitOne K (.ref a) (.type "ValueError")=some true)
  (xsys:K.lookup PySem.sysModules=none)
  (xuNoBoard_BoardError:PySem.W.mroIn K a (.ref i)=some true)
  (z1:PySem.W.nsIn K mainGlobals "bool"=some none)
  (z2:PySem.W.nsIn K mainGlobals "int"=some none)
  (z3:PySem.W.nsIn K mainGlobals "isinstance"=some none)
  (z4:PySem.W.nsIn K mainGlobals "len"=some none)
  (z5:PySem.W.nsIn K mainGlobals "str"=some none)
  (z6:PySem.W.nsIn K mainGlobals "tuple"=some none)
  (z7:PySem.W.nsIn K mainGlobals "zip"=some none)
  (z8:PySem.W.nsIn K mainGlobals "enumerate"=some none)
  (z9:PySem.W.nsIn K mainGlobals "list"=some none)
  (z10:PySem.W.nsIn K mainGlobals "range"=some none)
  (z11:PySem.W.nsIn K mainGlobals "all"=some none)
  (z12:PySem.W.nsIn K mainGlobals "dict"=some none)
  (z13:PySem.W.nsIn K mainGlobals "ValueError"=some none)
  (z14:PySem.W.nsIn K mainGlobals "repr"=some none) :
  ∃fd:FuncData,(∀(s:Shared) (v:Value),BindsTo s fd ⟨[v],[]⟩ [("_law_script",v)])/\∀base:Heap,K.In base->base.Ns mainGlobals mg->w6 l.prog w K mg base P9 9 fa fd ["_law_script"] (vy K):=by
 have e:=j5.symm.trans (wn X G a36);cases e;obtain⟨o1,F1,m1,k1⟩:=d1.mk X G;have b1:=F1.binds (ps:=["thing"]) (by walk_at "b");obtain⟨o0,F2,m2,k2⟩:=d2.mk X G;have b2:=F2.binds (ps:=["thing"]) (by walk_at "b");obtain⟨nw,F3,m3,k3⟩:=d3.mk X G;have b3:=F3.binds (ps:=["thing"]) (by walk_at "b");obtain⟨nv,F4,m4,k4⟩:=d4.mk X G;have b4:=F4.binds (ps:=["thing"]) (by walk_at "b");obtain⟨np,F5,m5,k5⟩:=d5.mk X G;have b5:=F5.binds (ps:=["ahead","step"]) (by walk_at "b");obtain⟨nn,F6,m6,k6⟩:=d6.mk X G;have b6:=F6.binds (ps:=["thing"]) (by walk_at "b");obtain⟨nl,F7,m7,k7⟩:=d7.mk X G;have b7:=F7.binds (ps:=["thing"]) (by walk_at "b");obtain⟨nk,F8,m8,k8⟩:=d8.mk X G;have b8:=F8.binds (ps:=["thing"]) (by walk_at "b");obtain⟨nj,F9,m9,k9⟩:=d9.mk X G;have b9:=F9.binds (ps:=["rows"]) (by walk_at "b");obtain⟨nf,gr,ht,j1⟩:=d10.mk X G;have lo:=gr.binds (ps:=["guards","name"]) (by walk_at "b");obtain⟨nb,gl,hs,j0⟩:=d11.mk X G;have lm:=gl.binds (ps:=["ahead","thing"]) (by walk_at "b");obtain⟨na,gk,hr,iz⟩:=d12.mk X G;have ll:=gk.binds (ps:=["thing"]) (by walk_at "b");obtain⟨n7,gj,hq,iy⟩:=d13.mk X G;have lj:=gj.binds (ps:=["thing"]) (by walk_at "b");obtain⟨n6,gg,hp,ix⟩:=d14.mk X G;have li:=gg.binds (ps:=["guards","ahead","thing"]) (by walk_at "b");obtain⟨n5,g8,ho,iv⟩:=d15.mk X G;have lg:=g8.binds (ps:=["thing"]) (by walk_at "b");obtain⟨n4,g7,hn,iu⟩:=d16.mk X G;have lf:=g7.binds (ps:=["_law_script","_law_k"]) (by walk_at "b");obtain⟨n3,g5,hm,it⟩:=d17.mk X G;have lc:=g5.binds (ps:=["_law_script","_law_k"]) (by walk_at "b");obtain⟨n0,g4,hk,io⟩:=d18.mk X G;have l7:=g4.binds (ps:=["_law_feed_here","_law_many"]) (by walk_at "b");obtain⟨mv,g3,hj,il⟩:=d19.mk X G;have l5:=g3.binds (ps:=["_law_feed_here"]) (by walk_at "b");obtain⟨mu,g2,hi,ik⟩:=d20.mk X G;have l2:=g2.binds (ps:=["_law_feed_here"]) (by walk_at "b");obtain⟨mt,g0,hh,ii⟩:=d21.mk X G;have l1:=g0.binds (ps:=["_law_feed_here","_law_many"]) (by walk_at "b");obtain⟨ms,fy,hg,ih⟩:=d22.mk X G;have l0:=fy.binds (ps:=["_law_feed_here"]) (by walk_at "b");obtain⟨mr,fx,hf,ig⟩:=d23.mk X G;have ky:=fx.binds (ps:=["_law_script","_law_names_here","_law_many"]) (by walk_at "b");obtain⟨mp,fv,he,id⟩:=d24.mk X G;have kx:=fv.binds (ps:=["_law_script","_law_names_here","_law_guards_here"]) (by walk_at "b");obtain⟨mo,fr,hc,ic⟩:=d25.mk X G;have kw:=fr.binds (ps:=["_law_script"]) (by walk_at "b");obtain⟨ml,fp,hb,ia⟩:=d26.mk X G;have kv:=fp.binds (ps:=["_law_thing","_law_low"]) (by walk_at "b");obtain⟨me,fo,ha,i2⟩:=d27.mk X G;have kt:=fo.binds (ps:=["_law_thing"]) (by walk_at "b");obtain⟨md,fl,h9,i1⟩:=d28.mk X G;have ks:=fl.binds (ps:=["_law_thing","_law_most","_law_low"]) (by walk_at "b");obtain⟨mc,fk,h8,i0⟩:=d29.mk X G;have kr:=fk.binds (ps:=["_law_thing"]) (by walk_at "b");obtain⟨mb,fj,h7,hz⟩:=d30.mk X G;have kk:=fj.binds (ps:=["_law_thing","_law_word"]) (by walk_at "b");obtain⟨ma,fi,h6,hy⟩:=d31.mk X G;have kb:=fi.binds (ps:=["_law_thing"]) (by walk_at "b");obtain⟨m0,fe,h5,hx⟩:=d32.mk X G;have ka:=fe.binds (ps:=["_law_thing"]) (by walk_at "b");obtain⟨ly,fc,h4,hw⟩:=d33.mk X G;have k0:=fc.binds (ps:=["_law_feed_here","_law_one"]) (by walk_at "b");obtain⟨lx,fb,h3,hv⟩:=d34.mk X G;have jp:=fb.binds (ps:=["_law_feed_here","_law_rows","_law_names_here"]) (by walk_at "b");obtain⟨lw,f0,h2,hu⟩:=d35.mk X G;have jl:=f0.binds (ps:=["_law_feed_here","_law_guards_here","_law_loads_here"]) (by walk_at "b");have lv:=tN (st:=S8) l36 c36 k36
 have C:mg "NUMBERS_END"=some (.int (10^60) p):=by
  have e:((10^60):Int)=1000000000000000000000000000000000000000000000000000000000000:=by decide
  rw[e];exact wn X G cNUMBERS_END
 have B:mg "LONGEST_NAME"=some (.int 8 o):=wn X G cLONGEST_NAME;have O:mg "MOST_STEPS"=some (.int 5 r):=wn X G cMOST_STEPS;have I:mg "MOST_GUARDS"=some (.int 16 q):=wn X G cMOST_GUARDS;have Q:mg "MOST_LOADS"=some (.int 24 u):=wn X G cMOST_LOADS;have U:mg "MOST_OVER"=some (.int 7 x):=wn X G cMOST_OVER;have y:mg "MOST_STRETCHES"=some (.int 4 g):=wn X G cMOST_STRETCHES;have q1:=ud X G z1;have q2:=ud X G z2;have q3:=ud X G z3;have q4:=ud X G z4;have q5:=ud X G z5;have q6:=ud X G z6;have q7:=ud X G z7;have q8:=ud X G z8;have q9:=ud X G z9;have bv:=ud X G z10;have dy:=ud X G z11;have h1:=ud X G z12;have h0:=ud X G z13;have gy:=ud X G z14;have ax:=wn X G xaNoBoard;have bn:=wn X G xaNoText;have ar:=wn X G xaNoPlace;have bu:=wn X G xaNoDeed;have M:=wn X G xaBoardError;refine⟨PySem.W.fnOf "law" "law" (U5 S8) (E7 S8) (e6 S8) .none di dk dd ds c4 dl,λs v=>.of_eq rfl,λbase KB GB=>?_⟩;have J:=tN (st:=inClass (top 13) 0) lINoBoard cINoBoard kINoBoard;have b0:=J.binds (ps:=["self","word","number"]) λ_ _ _ _ _ _ us hl=>match us,hl with | [_,_,_],_=>rfl
 have a3:w6 l.prog w K mg base P9 1 c _ ["self","word","number"] (Z8 a (Fo "NoBoard")):=zq (k:=0) J rb rfl (PySem.W.fw xfNoBoard (f:="word") (by decide)).1 (PySem.W.fw xfNoBoard (f:="number") (by decide)).1 (λo2 A outer s H E=>(iB (vD (pv 0) (pv 1) rfl) (iB (vD (pv 0) (pv 2) rfl) vz)));have c0:oB l.prog w K mg base f1 _:=⟨wz F1 q1 q2 q3 rD yz,m1,k1,b1⟩
 have j:W5 l.prog w K mg base f2 _:=⟨sj F2 c0 C qo tE,m2,k2,b2⟩
 have ao:lT l.prog w K mg base f3 _:=⟨Aj F3 q3 q4 q5 B xq AS,m3,k3,b3⟩
 have ce:vN l.prog w K mg base f4 _:=⟨zP F4 j q3 q4 q6 yA zu,m4,k4,b4⟩
 have c3:oQ l.prog w K mg base f5 _:=⟨xD F5 rh xw,m5,k5,b5⟩
 have c2:pE l.prog w K mg base f6 _:=⟨wu F6 ce c3 q3 q4 q6 q7 O rR yo,m6,k6,b6⟩
 have an:hR l.prog w K mg base f7 _:=⟨qN F7 q3 q4 q6 I Q lC nN,m7,k7,b7⟩
 have c1:qM l.prog w K mg base f8 _:=⟨wX F8 j ao c2 q3 q4 q6 rj wQ,m8,k8,b8⟩
 have S:iZ l.prog w K mg base f9 _:=⟨xB F9 rJ wq,m9,k9,b9⟩
 have db:BI l.prog w K mg base ez _:=⟨Fd gr Dk DH,ht,j1,lo⟩
 have ap:gp l.prog w K mg base ey _:=⟨pH gl c1 S db q4 U nq nZ,hs,j0,lm⟩
 have bm:kG l.prog w K mg base ew _:=⟨rK gk j q3 q4 q6 y oS sQ,hr,iz,ll⟩
 have cf:uH l.prog w K mg base ev _:=⟨BU gj j ao bm q3 q4 q6 ym zv,hq,iy,lj⟩
 have bi:kL l.prog w K mg base eu _:=⟨sD gg cf S pj tK,hp,ix,li⟩
 have ca:IW l.prog w K mg base "looked" 7 ["thing"] (JV Fo K mg U9) et _:=⟨yO g8 an ap bi q8 (PySem.W.IE KB GB xaNoBoard xeNoBoard lINoBoard rfl) a3 b0 wZ Cw,ho,iv,lg⟩
 have ci:wj l.prog w K mg base es _:=⟨zm g7 q4 wI zO,hn,iu,lf⟩
 have Y:qj l.prog w K mg base eq _:=⟨HI g5 ci EO IA,hm,it,lc⟩
 have d:Y6 l.prog w K mg base ep _:=⟨IT g4 ED IH,hk,io,l7⟩
 have a0:mh l.prog w K mg base eo _:=⟨Gf g3 d yS DR,hj,il,l5⟩
 have al:lQ l.prog w K mg base en _:=⟨Bb g2 d a0 yD CT,hi,ik,l2⟩
 have cr:Cf l.prog w K mg base em _:=⟨Ee g0 d q2 q9 bv AQ Et,hh,ii,l1⟩
 have cn:Be l.prog w K mg base ek _:=⟨DL fy d a0 bv q6 Cy FA,hg,ih,l0⟩
 have ch:vR l.prog w K mg base ej _:=⟨Cr fx Y d al cn q4 bv yn BX,hf,ig,ky⟩
 have d0:AO l.prog w K mg base ei _:=⟨EU fv Y d a0 al q4 bv q6 Bw EJ,he,id,kx⟩
 have dc:Bu l.prog w K mg base eg _:=⟨En fr Y d cr ch d0 q6 Ca FE,hc,ic,kw⟩
 have T:gH l.prog w K mg base ef _:=⟨xx fp q1 q2 q3 sJ wH,hb,ia,kv⟩
 have da:zw l.prog w K mg base ed _:=⟨FG fo dy q3 q4 q5 AF FK,ha,i2,kt⟩
 have am:mZ l.prog w K mg base ec _:=⟨zS fl T q3 q4 q6 yp BG,h9,i1,ks⟩
 have cd:vC l.prog w K mg base eb _:=⟨zN fk am dy q4 bv yd Bl,h8,i0,kr⟩
 have bg:jO l.prog w K mg base ea _:=⟨tB fj T da am cd q1 q3 q4 q6 qG tR,h7,hz,kk⟩
 have du:Hb l.prog w K mg base e8 _:=⟨Io fi bg h1 q8 q3 q4 q6 DK HC,h6,hy,kb⟩
 have cc:wm l.prog w K mg base e5 _:=⟨zx fe ca du h0 q3 gy xkANoBoard_NoText_NoPlace_NoDeed ⟨xbNoBoard_1,xbNoBoard_2,xbNoBoard_3,xbNoBoard_4,xbNoBoard_5,xbNoBoard_6,xbNoBoard_7⟩ M ax bu ar bn xkONoBoard_NoBoard xkONoBoard_ValueError xsys (PySem.W.BR KB xeNoBoard xeBoardError xuNoBoard_BoardError rfl) (PySem.W.fw xfNoBoard (by decide)).2 (PySem.W.fw xfNoBoard (by decide)).2 ya CF,h5,hx,ka⟩
 have gx:LS l.prog w K mg base e4 _:=⟨Lr fc d IS Kf,h4,hw,k0⟩
 have dv:GH l.prog w K mg base e3 _:=⟨Jy fb d gx q3 q4 q9 q6 DG ID,h3,hv,jp⟩
 have c5:uw l.prog w K mg base e2 _:=⟨zX f0 d q9 xt CM,h2,hu,jl⟩
 exact(Gs lv Y d dc cc dv c5 q9 bv q6 CZ Ej).imp Jq
theorem walk{l:PySem.W.OpenLaw}{q:Program}{loose:QF}{XP:(QL)->Heap->Prop}{YP:World->Heap->Prop}{d:DefRec}{K:Params->QP}(hn:l.most=some 63)(hdf:d.params.defaults=[])
  (hY:∀(w:World) (h:Heap),YP w h->(K w.params).In h)
  (F:∀(w:World) (mg:QL) (fa:Addr) (h:Heap),(K w.params).In h->h.Ns mainGlobals mg->mg d.name=some (.ref fa) ->
   ∃fd:FuncData,(∀(s:Shared) (u:Value),BindsTo s fd ⟨[u],[]⟩ [("_law_script",u)])/\∀base:Heap,(K w.params).In base->base.Ns mainGlobals mg->w6 l.prog w (K w.params) mg base P9 9 fa fd ["_law_script"] (vy (K w.params))) :
  PySem.W.WalkO q loose XP YP l.row.toRowW d [] (λf vs=>PySem.call f vs):=
 L2.Gj (n:=63) (k:=9) (x:="_law_script") (CX:=λ_=>P9) (sp:=λw=>vy (K w.params)) hn (by decide) hdf ⟨rfl,by decide,by decide,rfl⟩ hY F (λ_ _ a ns hl _ hS=>⟨a,ns,rfl,hS,hl,λ_=>rfl⟩) λ_ _ _ _ _ z=>z
end My
end
open PySem PySem.W PyProof.Rows
local macro_rules | `(tactic| walk_at "d")=>`(tactic| exact⟨by k_is,_,_,_,_,_,_,_,_,_,by k_is,by k_is,by k_is⟩)
set_option maxRecDepth 100000 in
set_option maxHeartbeats 0 in
theorem PySem.Challenge.cw_fuseboard_k13_bent_boards_holds : PySem.Challenge.rw_fuseboard_k13_bent_boards.Holds := by
 w_on;o_law;k_head;(case hw=>w_witness2)
 k_fill
 refine My.walk (l:=PySem.Challenge.rw_fuseboard_k13_bent_boards) rfl rfl (λw h Y=>PySem.W.kIn_of Y) ?F
 case F=>
  intro w mg fa h KX G hmg
  refine' My.all_mk KX G hmg ?d1 ?d2 ?d3 ?d4 ?d5 ?d6 ?d7 ?d8 ?d9 ?d10 ?d11 ?d12 ?d13 ?d14 ?d15 ?d16 ?d17 ?d18 ?d19 ?d20 ?d21 ?d22 ?d23 ?d24 ?d25 ?d26 ?d27 ?d28 ?d29 ?d30 ?d31 ?d32 ?d33 ?d34 ?d35 ?a36 ?l36 ?c36 ?k36 ?cNUMBERS_END ?cLONGEST_NAME ?cMOST_STEPS ?cMOST_GUARDS ?cMOST_LOADS ?cMOST_OVER ?cMOST_STRETCHES ?xaNoBoard ?xaNoText ?xaNoPlace ?xaNoDeed ?xaBoardError ?aINoBoard ?lINoBoard ?cINoBoard ?kINoBoard ?xfNoBoard ?xeBoardError ?xeNoBoard ?xkANoBoard_NoText_NoPlace_NoDeed ?xbNoBoard_1 ?xbNoBoard_2 ?xbNoBoard_3 ?xbNoBoard_4 ?xbNoBoard_5 ?xbNoBoard_6 ?xbNoBoard_7 ?xkONoBoard_NoBoard ?xkONoBoard_ValueError ?xsys ?xuNoBoard_BoardError ?z1 ?z2 ?z3 ?z4 ?z5 ?z6 ?z7 ?z8 ?z9 ?z10 ?z11 ?z12 ?z13 ?z14
  (case d1=>walk_at "d")
  (case d2=>walk_at "d")
  (case d3=>walk_at "d")
  (case d4=>walk_at "d")
  (case d5=>walk_at "d")
  (case d6=>walk_at "d")
  (case d7=>walk_at "d")
  (case d8=>walk_at "d")
  (case d9=>walk_at "d")
  (case d10=>walk_at "d")
  (case d11=>walk_at "d")
  (case d12=>walk_at "d")
  (case d13=>walk_at "d")
  (case d14=>walk_at "d")
  (case d15=>walk_at "d")
  (case d16=>walk_at "d")
  (case d17=>walk_at "d")
  (case d18=>walk_at "d")
  (case d19=>walk_at "d")
  (case d20=>walk_at "d")
  (case d21=>walk_at "d")
  (case d22=>walk_at "d")
  (case d23=>walk_at "d")
  (case d24=>walk_at "d")
  (case d25=>walk_at "d")
  (case d26=>walk_at "d")
  (case d27=>walk_at "d")
  (case d28=>walk_at "d")
  (case d29=>walk_at "d")
  (case d30=>walk_at "d")
  (case d31=>walk_at "d")
  (case d32=>walk_at "d")
  (case d33=>walk_at "d")
  (case d34=>walk_at "d")
  (case d35=>walk_at "d")
  (case a36|l36|c36|k36|cNUMBERS_END|cLONGEST_NAME|cMOST_STEPS|cMOST_GUARDS|cMOST_LOADS|cMOST_OVER|cMOST_STRETCHES|xaNoBoard|xaNoText|xaNoPlace|xaNoDeed|xaBoardError|aINoBoard|lINoBoard|cINoBoard|kINoBoard=>k_is)
  (case xfNoBoard=>kernel_rfl)
  (case xeBoardError=>first | kernel_rfl | k_qdec | decide +kernel)
  (case xeNoBoard=>first | kernel_rfl | k_qdec | decide +kernel)
  (case xkANoBoard_NoText_NoPlace_NoDeed=>first | kernel_rfl | k_qdec | decide +kernel)
  (case xbNoBoard_1|xbNoBoard_2|xbNoBoard_3|xbNoBoard_4|xbNoBoard_5|xbNoBoard_6|xbNoBoard_7=>k_is)
  (case xkONoBoard_NoBoard=>first | kernel_rfl | k_qdec | decide +kernel)
  (case xkONoBoard_ValueError=>first | kernel_rfl | k_qdec | decide +kernel)
  (case xsys=>kernel_rfl)
  (case xuNoBoard_BoardError|z1|z2|z3|z4|z5|z6|z7|z8|z9|z10|z11|z12|z13|z14=>k_is)
#print axioms PySem.Challenge.cw_fuseboard_k13_bent_boards_holds
