import PyProof.Rows.All
import Wide.All
import OpenK.AllK
import Wide.FinOn
import Lean
import PyProof.EqAt
import PyProof.EqKinds
import PyProof.TupleCall
import PyProof.NeKinds
import PyProof.WalksEnum
import PyProof.EnumMake
import PyProof.ZipIter
import PyProof.Draws
import PyProof.DictIter
import PyProof.DictWalks
import PyProof.Rows.DictUnroll
import PyProof.DictCompW
import PyProof.ReprRoads
import PyProof.ReprLen
import PyProof.P3Eq
import PyProof.Rows.FStr
import PyProof.Rows.StrSplitAre
import PyProof.Rows.StrItems
import PyProof.Rows.FStrParts
import KE.KIntText
import PyProof.StrWalks
import PyProof.MeetsStr
import PyProof.StationsW
import PyProof.Rows.TopTwo
import PyProof.RulesAs
import PyProof.RulesDel
import PyProof.ExcArgs
import OpenK.KOwn
import KE.KRevIter
import PyProof.Rows.StrLen
import PyProof.SliceStr2
import PyProof.StrBlockI
import KE.KDictOf
import PyProof.AttrMissSeq
import KE.KRevSl
import PyProof.Rows.SetFrom
import PyProof.WalksMore
import PyProof.SetRoads
import KE.KEqDict
import PyProof.Rows.SumAny
import PyProof.InstStore
import PyProof.InstStoreFacts
import KE.KDictList
import PyProof.Rows.SortWalk
import PyProof.SetKind
import PyProof.MinMaxWalk
import PyProof.Rows.ReprOcc
import PyProof.StrLawsTight
import PySem.Challenge.RW_fuseboard_k49_pairs_by_each_greatness
set_option Elab.async false
set_option linter.all false
set_option genSizeOf false
set_option genSizeOfSpec false
set_option maxRecDepth 100000
abbrev TZ:=List (PySem.Addr×PySem.Obj)
abbrev UA:=List (Option Nat)
abbrev UB:=List (PySem.Str×PySem.Addr)
abbrev UC:=List (PySem.Str×PySem.Value)
abbrev UD:=List PySem.Addr
abbrev UE:=List PySem.Str
abbrev UF:=List PySem.Value
abbrev UG:=List PySem.Expr
abbrev UH:=List Int
abbrev UI:=List Nat
abbrev UJ:=Array PySem.Value
abbrev UK:=PySem.Str->Option PySem.Value
abbrev UL:=List PySem.Stmt
abbrev UM:=PySem.Value->PySem.Shared->Prop
abbrev UN:=Nat->List PySem.Addr
abbrev UO:=List (Int×Int)
abbrev UP:=PySem.W.Frag
abbrev UQ:=Option PySem.Value
abbrev UR:=Option Nat
abbrev dL:=@PySem.wpAny_bind
abbrev eH:=@List.length_map
abbrev hD:=@PySem.Heap.get?_push_of_some
abbrev hH:=@PySem.wpAny_pure
abbrev hQ:=@List.mem_cons_of_mem
abbrev iU:=@List.getElem?_eq_getElem
abbrev lP:=@List.mem_cons_self
abbrev oT:=@Classical.choose_spec
abbrev sK:=@Nat.le_refl
abbrev tL:=@Bool.false_ne_true
abbrev wE:=@List.getElem?_map
abbrev wP:=@if_neg
abbrev wS:=@if_pos
abbrev wT:=@List.mem_append_right
abbrev xL:=@List.nodup_nil
abbrev At:=@PySem.Heap.get?_push_size
abbrev AC:=@List.mem_of_getElem?
abbrev AT:=@PySem.Heap.lt_size
abbrev A1:=@List.size_toArray
abbrev Bi:=@List.map_cons
abbrev BB:=@List.length_range
abbrev B2:=@List.getD_eq_getElem?_getD
abbrev Ch:=@PySem.W.mg_of
abbrev C2:=@List.length_append
abbrev Da:=@decide_eq_true
abbrev Db:=@Array.length_toList
abbrev Do:=@List.append_nil
abbrev Ew:=@Nat.ne_of_lt
abbrev EQ:=@List.getElem?_append_left
abbrev Fa:=@Bool.and_eq_true
abbrev Fk:=@decide_eq_false
abbrev FM:=@List.mem_append_left
abbrev FS:=@List.length_cons
abbrev Gc:=@Nat.lt_of_lt_of_le
abbrev Go:=@List.nil_append
abbrev GM:=@List.map_append
abbrev Ix:=@Nat.le_of_ble_eq_true
abbrev IN:=@List.getElem?_set_self
abbrev IR:=@PySem.wpAny_newObj_type
abbrev KF:=@Array.getElem?_eq_getElem
abbrev KM:=@Nat.zero_le
abbrev No:=@List.getElem?_set_ne
abbrev NE:=@PySem.wpAny_mono
abbrev On:=@PySem.PassesOwn.never
abbrev Op:=@List.length_take
abbrev Os:=@Int.mul_le_mul_of_nonneg_right
abbrev OV:=@PySem.Heap.get?_update_self
abbrev Ps:=@PySem.Obj.data_mapFields
abbrev Pv:=@List.getElem?_cons_succ
abbrev PP:=@List.append_assoc
abbrev P3:=@PySem.W.mg_none_of
abbrev Qn:=@Option.some.inj
abbrev Qo:=@Array.getD_eq_getD_getElem?
abbrev Qp:=@List.take_add_one
abbrev Qq:=@PySem.wpAny_holding
abbrev Qr:=@List.getElem?_append_right
abbrev Qs:=@Int.emod_lt_of_pos
abbrev Qt:=@PySem.F.plainAttrs_list
abbrev Qu:=@List.lookup_cons
abbrev Qv:=@Nat.le_trans
abbrev Qw:=@List.map_map
abbrev Qx:=@List.getElem?_of_mem
abbrev Qy:=@Int.toNat_natCast
abbrev Qz:=@PySem.wpAny_call_entry
abbrev QA:=@PySem.Around.under_plainId
abbrev QB:=@List.length_singleton
abbrev QC:=@PyProof.Rows.F.plain_set_update_loop
abbrev QD:=@of_decide_eq_true
abbrev QE:=@PySem.Heap.SameBut.update
abbrev QF:=@List.find?_cons
abbrev QG:=@Int.emod_nonneg
abbrev QH:=@List.take_length
abbrev QI:=@PySem.Heap.get?_update_other
abbrev QJ:=@PySem.wpAny_callSpecial?_slot
abbrev QK:=@List.drop_eq_getElem_cons
abbrev QL:=@PySem.Heap.size_push
abbrev QM:=@PySem.codeAny_builtin
abbrev QN:=@decide_eq_true_eq
abbrev QO:=@Ne.symm
abbrev QP:=@List.getElem?_take_of_lt
abbrev QQ:=@PySem.W.kia_one
abbrev QR:=@PySem.builtinLookup_eq_fast
abbrev QS:=@PySem.plainId_quiet
abbrev QT:=@List.pairwise_singleton
abbrev QU:=@PySem.sizeLine_eq
abbrev QV:=@congrArg
abbrev QW:=@PySem.boot_len
abbrev QX:=@Nat.lt_succ_of_lt
abbrev QY:=@List.replicate_succ
abbrev QZ:=@List.filterMap_cons
abbrev Ra:=@PySem.wpAny_standAt
abbrev Rb:=@List.mem_or_eq_of_mem_set
abbrev Rc:=@List.filter_cons
abbrev Re:=@Nat.le_of_lt
abbrev Rf:=@List.sum_cons
abbrev Rg:=@PySem.Obj.isFreed_of_fields
abbrev Rh:=@List.length_set
abbrev Ri:=@PySem.isSubtype_type
abbrev Rj:=@PyProof.Rows.F.entry_set_update_loop
abbrev Rk:=@List.length_drop
abbrev Rl:=@Array.getElem?_toList
abbrev Rm:=@PySem.wpAny_setField
abbrev Rn:=@List.mem_cons
abbrev Ro:=@List.any_cons
abbrev Rp:=@PyProof.Rows.slot_tuple_getitem
abbrev Rq:=@PySem.typeLookup_type
abbrev Rr:=@PySem.mem_of_lookup
abbrev Rs:=@PySem.wpAny_setState_of
abbrev Rt:=@PySem.wpAny_of_eq
abbrev Ru:=@PyProof.Rows.boot_tuple
abbrev Rv:=@Nat.lt_succ_self
abbrev Rx:=@List.getElem_mem
abbrev Ry:=@PySem.wpAny_comprehension_free
abbrev Rz:=@of_decide_eq_false
abbrev RA:=@List.take_of_length_le
abbrev RB:=@List.sublist_cons_self
abbrev RC:=@List.foldl_cons
abbrev RD:=@Nat.lt_irrefl
abbrev RE:=@List.all_cons
abbrev RF:=@List.length_replicate
abbrev RG:=@List.getElem?_eq_none
abbrev RH:=@PyProof.Rows.callWith_type1
abbrev RI:=@List.take_sublist
abbrev RJ:=@List.pairwise_map
abbrev RK:=@List.flatten_cons
abbrev RL:=@PySem.wpAny_passesOwn
abbrev RM:=@Sum.inr.inj
abbrev RN:=@Nat.ne_of_gt
abbrev RO:=@Nat.le_of_eq
abbrev RP:=@List.drop_length
abbrev RQ:=@List.all_eq_true
abbrev RS:=@Nat.not_lt_zero
abbrev RU:=@List.getElem_range
abbrev RV:=@Bool.false_eq_true
abbrev RW:=@PySem.wpAny_setEntries_of
abbrev RX:=@PySem.wpAny_attempt
abbrev RY:=@Nat.sub_self
abbrev RZ:=@List.any_eq_false
abbrev Sa:=@List.Sublist.refl
abbrev Sb:=@Array.getElem?_eq_none
abbrev Sc:=@PySem.wpAny_specialOf
abbrev Sd:=@PySem.wpAny_rule
abbrev Se:=@PySem.tupleKind_room_in1
abbrev Sf:=@PySem.wpAny_field
abbrev Sg:=@PySem.F.slot_dict_get
abbrev Sh:=@List.length_filter_le
abbrev Si:=@PySem.wpAny_truthy_bool
abbrev Sj:=@PySem.wpAny_pyIter_list
abbrev Sk:=@Int.le_refl
abbrev Sl:=@List.sum_append
abbrev Sm:=@List.map_congr_left
abbrev Sn:=@List.length_reverse
abbrev So:=@List.getElem_of_mem
abbrev Sq:=@PySem.wpAny_isInstance
abbrev Sr:=@Int.zero_mul
abbrev Ss:=@PySem.F.plain_max_loop
abbrev Su:=@Nat.lt_of_le_of_lt
abbrev Sv:=@List.mem_singleton
abbrev Sw:=@PySem.wpAny_updateSeq
abbrev Sx:=@List.sublist_append_right
abbrev Sy:=@Option.isSome_map
abbrev Sz:=@List.getElem?_inj
abbrev SA:=@List.flatMap_cons
abbrev SC:=@PySem.wpAny_typeOf
abbrev SD:=@PySem.codeAny_mono
abbrev SE:=@PySem.F.args_tuple_add_2
abbrev SF:=@List.sublist_append_left
abbrev SG:=@PySem.wpAny_Call_Name_kw
abbrev SH:=@if_false
abbrev SI:=@PySem.F.entry_tuple_add
abbrev SJ:=@PySem.F.args_dict_get_3
abbrev SK:=@Nat.zero_lt_succ
abbrev SL:=@if_true
abbrev SM:=@PySem.F.slot_tuple_add
abbrev SN:=@PySem.F.entry_dict_get
abbrev SO:=@List.map_nil
abbrev SQ:=@List.flatMap_singleton
abbrev SR:=@Int.add_zero
abbrev SS:=@PySem.wpAny_assign_Name
abbrev SU:=@PySem.Obj.cls_mapFields
abbrev SV:=@List.range_succ
abbrev SX:=@Bool.or_eq_true
abbrev SY:=@Bool.eq_iff_iff
abbrev SZ:=@PyProof.Rows.boot_int
abbrev Ta:=@List.take_append_drop
abbrev Tb:=@PySem.wpAny_askSetting
abbrev Tc:=@Nat.le_succ
abbrev Td:=@Int.mul_nonneg
abbrev Te:=@List.getElem?_range
abbrev Tg:=@List.flatMap_append
abbrev Th:=@PySem.wpAny_ite_split
abbrev Ti:=@PySem.wpAny_execs_nil
abbrev Tj:=@PySem.codeAny_of_tree
abbrev Tk:=@PySem.exec_Assign_Name_used
abbrev Tl:=@PySem.wpAny_runValue
abbrev Tn:=@PySem.wpAny_newFunctionEnv
abbrev To:=@PySem.wpAny_fieldsOf
abbrev Tp:=@String.splitOnAux
abbrev Tq:=@List.foldl_append
abbrev Tr:=@List.ext_getElem?
abbrev Ts:=@PySem.Calls.evalArgs_plain
abbrev Tt:=@beq_self_eq_true
abbrev Tu:=@Nat.le_of_not_lt
abbrev Tv:=@List.not_mem_nil
abbrev Tw:=@List.nil_sublist
abbrev Tx:=@List.flatMap_nil
abbrev Tz:=@List.any_eq_true
abbrev TB:=@PySem.signature?_of
abbrev TC:=@PySem.Paired.length
abbrev TD:=@Int.add_mul
abbrev TF:=@PySem.wpAny_pyIter_tuple
abbrev TH:=@PyProof.Rows.boot_isinstance
abbrev TJ:=@List.of_mem_zip
abbrev TK:=@List.mem_append
abbrev TL:=@PySem.Calls.spliced_cons
abbrev TN:=@PySem.wpAny_setEpoch_of
abbrev TQ:=@PySem.wpAny_pyIter_slot
abbrev TR:=@PySem.concat_meets
abbrev TV:=@PySem.codeAny_loop
abbrev TW:=@PySem.F.excBase_ValueError
abbrev TX:=@List.take_zero
abbrev TY:=@List.length_eraseIdx_of_lt
noncomputable section
namespace PySem.W.Fast
def tw700630728649837067:=()
def tw6463437864848330321:=()
def tw768696281549396678:=()
def tw11391351794868503828:=()
def tw3612129095721939252:=()
def tw13935403815979997667:=()
def tw8759060631091764514:=()
def tw15036583303017948464:=()
def tw8256143400959001050:=()
def tw6663731272047619580:=()
def tw11445527156120411747:=()
def tw6465850694537064054:=()
def tw7086345362167175535:=()
def tw6698290461471817515:=()
def tw6136195798321193447:=()
def tw2752456606382975815:=()
def tw2686461386845864240:=()
def tw12849019028285923880:=()
def tw7143803217495243350:=()
def tw16171680321296859267:=()
def tw15555789507858342262:=()
def tw2437905723449724480:=()
def tw16870585171949685983:=()
def tw15756304910537251355:=()
def tw1178198757772360551:=()
def tw13007414313118635761:=()
def tw7903723886443713257:=()
def tw16608788846705316070:=()
def tw8381922670780972936:=()
def tw3832375397804035573:=()
def tw11808876116550841000:=()
def tw5701085752744578010:=()
def tw7695733013706552652:=()
def tw15466767378369181321:=()
def tw2100359775561381431:=()
def tw13637509812404852655:=()
def tw6840394669654867576:=()
def tw13106478174851923702:=()
def tw10472570167935471455:=()
def tw11677195345215611176:=()
def tw594402937488779980:=()
def tw13366510093614312528:=()
def tw14898781333463509282:=()
def tw3174252010412767975:=()
def tw15728260665458112535:=()
def tw6671477030872196367:=()
def tw15176310610712687469:=()
def tw10566016212652473161:=()
def tw17799960080039589240:=()
def tw3365788036902416020:=()
def tw18406131805614754606:=()
def tw18169428155547395067:=()
def tw11030514493028940988:=()
def tw15906128222446978839:=()
def tw5536704620651936591:=()
def tw7039201137272930303:=()
def tw12718516319357440529:=()
def tw7131119790277011412:=()
def tw2668385074575772704:=()
def tw11016923029011419234:=()
def tw16254408776207775438:=()
def tw13796213763736654214:=()
def tw8500037195885469341:=()
def tw13215690683493068125:=()
def tw10131540934959787045:=()
def tw14405493446884479762:=()
def tw10932284230312862351:=()
def tw6864449217946262503:=()
def tw7787393282760928058:=()
def tw1399240223141003191:=()
def tw15853747070112640898:=()
def tw9701194740047989775:=()
def tw6826286610282524716:=()
def tw3744157254334691366:=()
def tw5262346544557736473:=()
def tw5721895629763171584:=()
def tw13499370685107207196:=()
def tw3260970724420146387:=()
def tw17057349755324262875:=()
def tw5129519186860623064:=()
def tw5302292868719725880:=()
def tw15904411847062623638:=()
def tw3457292808720699999:=()
def tw17859211843550595453:=()
def tw2405604616596928213:=()
def tw1007346334193415568:=()
def tw3303225383175445470:=()
def tw8185982153397070339:=()
def tw17487437577727876171:=()
def tw15614792907444759037:=()
def tw9026936109688010925:=()
def tw13456151159660617302:=()
def tw17747856878029398698:=()
def tw395318293821836892:=()
def tw9914800971324645746:=()
def tw13028833155881730327:=()
def tw9914162462066907681:=()
def tw1581861328477815678:=()
def tw13199444019877442457:=()
def tw8126922230131613818:=()
def tw9978737703074494829:=()
def tw3097191637442630293:=()
def tw15430645690687495134:=()
def tw14126801451937295259:=()
def tw4760821289300003510:=()
def tw17773146771309467012:=()
def tw9687444470712519433:=()
def tw6461031255971737227:=()
def tw10981132951222253618:=()
def tw8923506365609101572:=()
def tw7085534046975587327:=()
def tw18383796197195072293:=()
def tw2786442228677685901:=()
def tw12000958279057654452:=()
def tw15430537314078446268:=()
def tw11439267518027899068:=()
def tw3102330345158940693:=()
def tw7761256645878035006:=()
def tw17472793517351114276:=()
def tw10784189727003974078:=()
def tw3149155092045698271:=()
def tw2607074651390978373:=()
def tw316415156070420178:=()
def tw1217850509923169512:=()
def tw3091844552276726831:=()
def tw5781762854455216205:=()
def tw78598356457084246:=()
def tw3241137662078888220:=()
def tw7028509696495365271:=()
def tw9017894292394424529:=()
def tw2879705786945433476:=()
def tw10335776071351463900:=()
def tw2675857792219903502:=()
def tw7217779298151677576:=()
def tw11698448144739659739:=()
def tw9279937698167760598:=()
def tw6343517765498476655:=()
def tw11663599604427044906:=()
def tw11841308410228636740:=()
def tw5901324964182864180:=()
def tw11559032671290994637:=()
def tw8768727635924127399:=()
def tw8052055450845422708:=()
def tw14230076608401530966:=()
def tw5412725477325195725:=()
def tw4330893238182024667:=()
def tw5103918999221429837:=()
def tw9758832699686207627:=()
def tw10027901166729135012:=()
def tw14421163980627353396:=()
def tw17469990195401023174:=()
def tw10168167449436395197:=()
def tw3666834711636165221:=()
def tw14690366716961562731:=()
def tw12194343704928011116:=()
def tw14811731321602377688:=()
def tw17822784955171335969:=()
def tw7130973603406379032:=()
def tw8199117512562124374:=()
def tw14143424927886971048:=()
def tw299360943078229411:=()
def tw2606842913785125062:=()
def tw17235747861145076625:=()
def tw12869438318399644199:=()
def tw239094223515956898:=()
def tw3860013075987038679:=()
def tw3550765315318453413:=()
def tw17492715898449750150:=()
def tw7768064949361180498:=()
def tw10764277962686075273:=()
def tw17333018167874817603:=()
def tw14202929592762902955:=()
def tw7549586133913876968:=()
def tw18079828245242718324:=()
def tw14798859231170981425:=()
def tw7395510298031391480:=()
def tw5436799265455718603:=()
def tw477060159299719607:=()
def tw558380506744801487:=()
def tw5202933679279240452:=()
def tw14026916980120179138:=()
def tw10248596669553843237:=()
def tw9896881651418298346:=()
def tw14039531377852413779:=()
def tw3938170292973043765:=()
def tw17740320062074760717:=()
def tw18430522744751900607:=()
def tw8223707276478670076:=()
def tw8889382175926521774:=()
def tw6703448213732508716:=()
def tw15382081600273841576:=()
def tw8030777192931072775:=()
def tw15625112672801794029:=()
def tw16733032224546304466:=()
def tw17386027300769930191:=()
def tw14345514753298793382:=()
def tw8954057791990503435:=()
def tw14770097890865222977:=()
def tw6434743640276899639:=()
def tw16288346189993457678:=()
def tw2171301907215617410:=()
def tw7970749141143943502:=()
def tw18029819195045292933:=()
def tw6654407766945134454:=()
def tw176077853079291988:=()
def tw3285368413607249054:=()
def tw6802161068838590104:=()
def tw12835118309525116270:=()
def tw17793132424632992905:=()
def tw17578105859039974207:=()
def tw5876199111715553655:=()
def tw17370961951890761622:=()
def tw13134099807139415971:=()
def tw2527497526238239488:=()
def tw11148232975560232554:=()
def tw2141463982127591123:=()
def tw6968134128398018724:=()
def tw4921470541657693462:=()
def tw4006582337746192187:=()
def tw12703649861514474397:=()
def tw5085120180141395876:=()
def tw12548333589695455483:=()
def tw1044579034962234419:=()
def tw2633509761333408479:=()
def tw7090444654050778715:=()
def tw13385191966505647511:=()
def tw6470829139043247390:=()
def tw780693327934865430:=()
def tw1957724941152419748:=()
def tw17706894312196502420:=()
def tw10708438457447817078:=()
def tw14447552274853650080:=()
def tw3705158253343709399:=()
def tw16712778923903693672:=()
def tw5518584194880175301:=()
def tw15262039660771727531:=()
def tw4379217736966705910:=()
def tw17797973082490352680:=()
def tw2194995789502465746:=()
def tw1889231576551558587:=()
def tw744288143018776472:=()
def tw16570785775973517827:=()
def tw16466683613886141351:=()
def tw7635260018827416271:=()
def tw315742014761086687:=()
def tw15454922381195870272:=()
def tw16840694984048489081:=()
def tw15944230397312885194:=()
def tw2569310243375844494:=()
def tw12026101672482058591:=()
def tw15765527976710012045:=()
def tw1679089323267766273:=()
def tw6917955514788236329:=()
def tw7490227182738805127:=()
def tw959621600022003304:=()
def tw5540566653787660425:=()
def tw6358939636148409169:=()
def tw6567291099845235856:=()
def tw4082326980431235957:=()
def tw17669894935930235842:=()
def tw14462704455760706454:=()
def tw16473389700634295955:=()
def tw2746967144626391328:=()
def tw14308780738443047576:=()
def tw3008279478453649250:=()
def tw11277830373697559546:=()
def tw16092195985148135529:=()
def tw10197680169167851952:=()
def tw5707294791784322051:=()
def tw16135394640707105185:=()
def tw4123265561368637719:=()
def tw6400648075060852518:=()
def tw2321604453920750043:=()
def tw9568440224544890858:=()
def tw8826126556211675156:=()
def tw16018640949963111307:=()
def tw11325114496918828237:=()
def tw6502969971522523877:=()
def tw1880273708838773366:=()
def tw2673042360583233453:=()
def tw17014804596192568212:=()
def tw5852886715044398312:=()
def tw1225536001548545662:=()
def tw2776555242164649224:=()
def tw15751639320074125849:=()
def tw10854386675619975779:=()
def tw5417276570877999385:=()
def tw6087668853310101631:=()
def tw1737632198929824203:=()
end PySem.W.Fast
namespace L2
open PySem PySem.Spec PyProof.Rows
abbrev Key:=Sum Int Str
def bA:Key->Value->Bool
 | .inl k,v=>Value.isInt k v
 | .inr x,v=>Value.isStrOf x v
def LZ(w:World):Key->Int
 | .inl k=>hashInt k
 | .inr x=>hashStr w x
theorem p4:∀{k:Key} {v:Value},bA k v=true->(∃i t,k=Sum.inl i/\v=Value.int i t)\/(∃x t,k=Sum.inr x/\v=Value.str x t)
 | .inl i,v,h=>by
  obtain⟨t,e⟩:=Value.isInt_shape (k:=i) (v:=v) h
  exact .inl ⟨i,t,rfl,e⟩
 | .inr x,v,h=>by
  obtain⟨t,e⟩:=Value.isStrOf_shape (x:=x) (v:=v) h
  exact .inr ⟨x,t,rfl,e⟩
theorem lr(i:Int)(t:Tok):bA (.inl i) (.int i t)=true:=by simp[bA,Value.isInt]
theorem xG(x:Str)(t:Tok):bA (.inr x) (.str x t)=true:=by simp[bA,Value.isStrOf]
theorem IZ(a b:Int):decide ((Sum.inl a:Key)=Sum.inl b)=(a == b):=by
 by_cases e:a=b
 ·subst e;simp
 ·have h:¬(Sum.inl a:Key)=Sum.inl b:=fun q=>e (Sum.inl.inj q)
  rw[Fk h]
  exact(beq_eq_false_iff_ne.mpr e).symm
theorem Kv(a b:Str):decide ((Sum.inr a:Key)=Sum.inr b)=decide (a=b):=by
 by_cases e:a=b
 ·subst e;simp
 ·have h:¬(Sum.inr a:Key)=Sum.inr b:=fun q=>e (RM q)
  rw[Fk h,Fk e]
theorem II(a:Int)(b:Str):decide ((Sum.inl a:Key)=Sum.inr b)=false:=Fk (fun q=>nomatch q)
theorem Ik(a:Str)(b:Int):decide ((Sum.inr a:Key)=Sum.inl b)=false:=Fk (fun q=>nomatch q)
def j9(prog:Program)(w:World):PySem.KeyKind prog w Key where
 is:=bA
 hash:=LZ w
 inj:=fun v a b o g=>by
  rcases p4 o with⟨i,t,rfl,rfl⟩ | ⟨x,t,rfl,rfl⟩
  ·rcases p4 g with⟨j,u,rfl,e⟩ | ⟨y,u,rfl,e⟩
   ·injection e with c _;rw[c]
   ·exact nomatch e
  ·rcases p4 g with⟨j,u,rfl,e⟩ | ⟨y,u,rfl,e⟩
   ·exact nomatch e
   ·injection e with c _;rw[c]
 byValue:=fun k v h=>by
  rcases p4 h with⟨i,t,rfl,rfl⟩ | ⟨x,t,rfl,rfl⟩<;>rfl
 pyHash:=fun d h=>by
  rcases p4 d with⟨i,t,rfl,rfl⟩ | ⟨x,t,rfl,rfl⟩
  ·exact wpAny_pyHash_int h
  ·exact wpAny_pyHash_str h
 eqBool:=fun l d h=>by
  rcases p4 l with⟨i,t,rfl,rfl⟩ | ⟨x,t,rfl,rfl⟩
  ·rcases p4 d with⟨j,u,rfl,rfl⟩ | ⟨y,u,rfl,rfl⟩
   ·rw[IZ] at h;exact wpAny_eqBool_int h
   ·rw[II] at h;exact SeqAt.EqAt.int_str i t y u _ _ _ _ h
  ·rcases p4 d with⟨j,u,rfl,rfl⟩ | ⟨y,u,rfl,rfl⟩
   ·rw[Ik] at h;exact SeqAt.EqAt.str_int x t j u _ _ _ _ h
   ·rw[Kv] at h;exact wpAny_eqBool_str h
 «strs»:=fun k x t v h=>by
  rcases p4 h with⟨i,u,rfl,e⟩ | ⟨y,u,rfl,e⟩
  ·exact nomatch e
  ·injection e with c _
   subst c
   cases v<;>rfl
theorem qP(prog:Program)(w:World)(i:Int)(t:Tok):(j9 prog w).is (.inl i) (.int i t)=true:=lr i t
theorem qw(prog:Program)(w:World)(x:Str)(t:Tok):(j9 prog w).is (.inr x) (.str x t)=true:=xG x t
theorem pD{prog:Program}{w:World}{A:Around}{E:UM}{s:Shared}{Q:Int->Shared->Prop}(h:Q 0xFCA86420 { s with toks:=s.toks+1 }):wpAny (model prog w) A (pyHash .none) Q E s:=by
 have a:s.TypeIs .none "NoneType":=rfl
 unfold pyHash
 have b:[Value.none].any Value.onHeap=false:=rfl
 refine dL ?_
 rw[cRoomFor,wP (by rw[b];exact tL)];refine hH ?_
 refine dL (Sc a F.slot_NoneType_hash.lookup ?_)
 show wpAny _ _ (if (some (Value.builtin "NoneType.__hash__") == some Value.none)=true then _ else _) Q E s
 rw[wP (by rw[beq_builtin_none];exact tL)]
 refine dL (Sc a F.slot_NoneType_hash.lookup ?_)
 show wpAny _ _ (callSpecialIfBoundUnlessNone? .none "__hash__" _ >>= _) Q E s
 refine dL (wpAny_callSpecialIfBoundUnlessNone?_slot a F.slot_NoneType_hash
  (Qz F.slot_NoneType_hash a F.entry_NoneType_hash
   (show wpAny _ _ (do ret (<-mkInt 0xFCA86420)) _ _ s from wpAny_ret_mkInt ?_) (F.args_NoneType_hash_1 _)))
 show wpAny _ _ (if (decide (-(2:Int)^63<=0xFCA86420)&&decide ((0xFCA86420:Int)<2^63))=true then _ else _) Q E _
 rw[wS (by decide)]
 exact hH h
abbrev vb:=Option Key
def ja:vb->Value->Bool
 | some k,v=>bA k v
 | none,v=>v == .none
def MB(w:World):vb->Int
 | some k=>LZ w k
 | none=>0xFCA86420
theorem B8{v:Value}(h:ja none v=true):v=.none:=eq_of_beq h
def gJ(prog:Program)(w:World):PySem.KeyKind prog w vb where
 is:=ja
 hash:=MB w
 inj:=fun v a b l j=>by
  cases a with
  | none=>
   cases b with
   | none=>rfl
   | some k=>
    have e:=B8 l
    subst e
    rcases p4 j with⟨i,t,rfl,e⟩ | ⟨x,t,rfl,e⟩<;>cases e
  | some k=>
   cases b with
   | none=>
    have e:=B8 j
    subst e
    rcases p4 l with⟨i,t,rfl,e⟩ | ⟨x,t,rfl,e⟩<;>cases e
   | some d=>rw[(j9 prog w).inj v k d l j]
 byValue:=fun k v h=>by
  cases k with
  | none=>rw[B8 h];rfl
  | some k=>exact(j9 prog w).byValue k v h
 pyHash:=fun {A E s k v Q} c h=>by
  cases k with
  | none=>rw[B8 c];exact pD h
  | some k=>exact(j9 prog w).pyHash c h
 eqBool:=fun {A E s a b u v Q} g c h=>by
  cases a with
  | none=>
   have e:=B8 g
   subst e
   cases b with
   | none=>
    have e:=B8 c
    subst e
    exact SeqAt.EqAt.same _ _ _ _ _ (by simpa using h)
   | some k=>
    have h':Q false s:=by simpa using h
    rcases p4 c with⟨i,t,rfl,rfl⟩ | ⟨x,t,rfl,rfl⟩
    ·exact SeqAt.EqAt.none_int i t _ _ _ _ h'
    ·exact SeqAt.EqAt.none_str x t _ _ _ _ h'
  | some k=>
   cases b with
   | none=>
    have e:=B8 c
    subst e
    have h':Q false s:=by simpa using h
    rcases p4 g with⟨i,t,rfl,rfl⟩ | ⟨x,t,rfl,rfl⟩
    ·exact SeqAt.EqAt.int_none i t _ _ _ _ h'
    ·exact SeqAt.EqAt.str_none x t _ _ _ _ h'
   | some d=>
    refine(j9 prog w).eqBool g c ?_
    have e:decide ((some k:vb)=some d)=decide (k=d):=by
     by_cases e:k=d
     ·subst e;simp
     ·rw[Fk e,Fk fun q=>e (Qn q)]
    rwa [e] at h
 «strs»:=fun k x t v h=>by
  cases k with
  | none=>cases B8 h
  | some k=>exact(j9 prog w).strs k x t v h
inductive V where
 | o8 | bl (b:Bool) | int (i:Int) | str (x:Str) | byt (b:Array UInt8) | flt (b:UInt64) | ref (a:Addr) | ty (n:String)
 deriving DecidableEq
def RelV:V->Value->Prop
 | .o8,u=>u=Value.none
 | .bl b,u=>u=Value.bool b
 | .int i,u=>∃t,u=Value.int i t
 | .str x,u=>∃t,u=Value.str x t
 | .byt b,u=>∃t,u=Value.bytes b t
 | .flt b,u=>∃t,u=Value.float b t
 | .ref a,u=>u=Value.ref a
 | .ty n,u=>u=Value.type n
abbrev Vals:List V->UF->Prop:=Paired RelV
theorem Vals.length{xs:List V}{a:UF}(r:Vals xs a):xs.length=a.length:=TC r
theorem Vals.get:∀{xs:List V} {a:UF} {i:Nat} {x:V},Vals xs a->xs[i]?=some x->∃u,a[i]?=some u/\RelV x u
 | _,_,_,_,.nil,e=>by simp at e
 | _,_,0,_,.cons r _,e=>by simp at e;subst e;exact⟨_,rfl,r⟩
 | _,_,i+1,x,.cons _ t,e=>by
  obtain⟨u,c,b⟩:=Vals.get (i:=i) (x:=x) t (by simpa using e)
  exact⟨u,by simpa using c,b⟩
theorem Vals.set{x:V}{u:Value}(r:RelV x u):∀{xs:List V} {a:UF} (i:Nat),Vals xs a->Vals (xs.set i x) (a.set i u)
 | _,_,_,.nil=>.nil
 | _,_,0,.cons _ t=>.cons r t
 | _,_,i+1,.cons q t=>.cons q (Vals.set r i t)
theorem Vals.append:∀{xs a:List V} {c b:UF},Vals xs c->Vals a b->Vals (xs++a) (c++b)
 | _,_,_,_,.nil,s=>s
 | _,_,_,_,.cons r t,s=>.cons r (Vals.append t s)
theorem Vals.take:∀{xs:List V} {a:UF} (n:Nat),Vals xs a->Vals (xs.take n) (a.take n)
 | _,_,0,_=>.nil
 | _,_,_+1,.nil=>.nil
 | _,_,n+1,.cons r t=>.cons r (Vals.take n t)
theorem Vals.drop:∀{xs:List V} {a:UF} (n:Nat),Vals xs a->Vals (xs.drop n) (a.drop n)
 | _,_,0,r=>r
 | _,_,_+1,.nil=>.nil
 | _,_,n+1,.cons _ t=>Vals.drop n t
def dg:Option V->UQ->Prop
 | some v,some u=>RelV v u
 | none,none=>True
 | _,_=>False
def KV{a:Type}:List (a×V)->List (a×Value)->Prop:=Paired fun(p:a×V) (q:a×Value)=>p.1=q.1/\RelV p.2 q.2
def kV:Key->V
 | .inl i=>.int i
 | .inr x=>.str x
inductive HO where
 /-- a list -/
 | lst (xs:List V)
 /-- a tuple (never changes) -/
 | tup (xs:List V)
 /-- a dict whose keys are ints and texts;one whose keys are tuples of ints and texts (the empty one is both) -/
 | dK (kvs:List (Key×V)) | dE (kvs:List (Key×V)) (ep:Nat) | dN (kvs:List (vb×V)) | dT (kvs:List (List Key×V))
 /-- a set of ints: its members,its size -/
 | set (S:Key->Bool) (n:Nat)
 /-- an instance of the class at C,its dict at dx,its attributes -/
 | ins (C dx:Addr) (fs:List (Str×V))
 /-- the dict of the instance at x -/
 | own (x:Addr)
 /-- the dict of an exception -/
 | xd (fs:List (Str×V))
 /-- a bound method,f of x -/
 | met (f x:Addr)
 /-- a range object lo,lo+1,.. below hi -/
 | rng (lo hi:Int)
 /-- a thing that is known to the object (the script;a dict while a loop walks it): read,never written while it is so -/
 | frz (o:Obj) (u:HO)
 /-- a code object's table -/
 | tbl (ps:UJ)
 /-- any other thing,by what is true of its one object (a def of one's own: SetO a S n:=HO.ext fun h=>..) -/
 | ext (φ:Heap->Prop)
abbrev Hp:=Addr->Option HO
def upd(H:Hp)(a:Addr)(o:HO):Hp:=fun b=>if b=a then some o else H b
theorem e9{H:Hp}{a:Addr}{o:HO}:upd H a o a=some o:=by unfold upd;rw[wS rfl]
theorem i3{H:Hp}{a b:Addr}{o:HO}(h:b≠a):upd H a o b=H b:=by unfold upd;rw[wP h]
theorem bj{H:Hp}{a:Addr}{o u:HO}:upd (upd H a o) a u=upd H a u:=by
 funext b;unfold upd;split<;>rfl
theorem nU{H:Hp}{a b:Addr}{o u:HO}(h:H a=some o)(h':H b=some u)(d:o≠u):a≠b:=by
 intro e;subst e;rw[h] at h';exact d (Qn h')
theorem p8{H:Hp}{a b:Addr}{o:HO}(h:H a=some o)(h':H b=none):a≠b:=by
 intro e;subst e;rw[h] at h';cases h'
section
variable(P:Program)(w:World)
def x6(H:Hp)(h:Heap)(a:Addr):HO->Prop
 | .lst xs=>xs.length<=sizeLine/\∃(its:UF) (n:Nat),Vals xs its/\h.get? a=some { cls:=.type "list",data:=.seq its.toArray n }
 | .tup xs=>xs.length<=sizeLine/\∃its:UF,Vals xs its/\IsTup h a its.toArray
 | .dK kvs=>kvs.length<=sizeLine/\(a == sysModules)=false/\∃vs,KV kvs vs/\h.DictOf (j9 P w) a vs
 | .dE kvs ep=>kvs.length<=sizeLine/\(a == sysModules)=false/\∃vs,KV kvs vs/\h.DictAt (j9 P w) a vs ep
 | .dN kvs=>kvs.length<=sizeLine/\(a == sysModules)=false/\∃vs,KV kvs vs/\h.DictOf (gJ P w) a vs
 | .dT kvs=>kvs.length<=sizeLine/\(a == sysModules)=false/\∃xs:List (List Key×Addr×Value),
   Paired (fun(p:List Key×V) (q:List Key×Addr×Value)=>p.1=q.1/\H q.2.1=some (.tup (p.1.map kV))/\RelV p.2 q.2.2) kvs xs /\
   ∃o i ep,h.get? a=some o/\o.ExactDict/\o.data=.dict i ep/\i.toList=xs.map (entryOfKey (tupleKind (j9 P w)))/\(xs.map (·.1)).Nodup
 | .set S n=>h.SetOf (j9 P w) a S n
 | .ins C c fs=>H c=some (.own a)/\fs.length<=1000/\c≠a/\h.get? a=some (PySem.W.instObj C c) /\
   ∃b,h.Ns1 c b/\(∀f,dg (fs.lookup f) (b f))/\PySem.Within b (fs.map (·.1))
 | .own _=>∃o,h.get? a=some o
 | .xd fs=>∃b,h.Ns1 a b/\∀f,dg (fs.lookup f) (b f)
 | .rng lo j=>∃t u v,h.get? a=some { cls:=.type "range",data:=.fields #[.int lo t,.int j u,.int 1 v] }
 | .frz o u=>h.get? a=some o/\x6 H h a u
 | .tbl ps=>h.get? a=some { cls:=.none,data:=.fields ps }
 | .met f x=>h.get? a=some (PySem.W.methodObj (.ref f) (.ref x))
 | .ext d=>d h/\(∃o,h.get? a=some o)/\∀g e:Heap,d g->(∀o,g.get? a=some o->e.get? a=some o)->d e
def V1(H:Hp)(h:Heap):Prop:=∀a o,H a=some o->x6 P w H h a o
end
section
variable{P:Program}{w:World}{H H':Hp}{h h':Heap}{a:Addr}{o:HO}
theorem x6.lt(x:x6 P w H h a o):a<h.objs.size:=by
 cases o with
 | lst xs=>obtain⟨_,_,_,_,e⟩:=x;exact AT e
 | tup xs=>obtain⟨_,_,_,p⟩:=x;exact p.lt
 | dK kvs=>obtain⟨_,_,_,_,o,_,_,e,_⟩:=x;exact AT e
 | dE kvs ep=>obtain⟨_,_,_,_,o,_,e,_⟩:=x;exact AT e
 | dN kvs=>obtain⟨_,_,_,_,o,_,_,e,_⟩:=x;exact AT e
 | dT kvs=>obtain⟨_,_,_,_,o,_,_,e,_⟩:=x;exact AT e
 | set S n=>obtain⟨o,_,_,_,e,_⟩:=x;exact AT e
 | ins C d fs=>obtain⟨_,_,_,e,_⟩:=x;exact AT e
 | own y=>obtain⟨_,e⟩:=x;exact AT e
 | xd fs=>obtain⟨_,⟨_,_,_,e,_⟩,_⟩:=x;exact AT e
 | rng lo c=>obtain⟨_,_,_,e⟩:=x;exact AT e
 | frz ob u=>obtain⟨e,_⟩:=x;exact AT e
 | tbl ps=>exact AT (show h.get? a=some _ from x)
 | met f y=>exact AT (show h.get? a=some _ from x)
 | ext b=>obtain⟨_,⟨_,e⟩,_⟩:=x;exact AT e
theorem Paired.HY{g e:Type}{F G:g->e->Prop}:∀{d:List g} {c:List e},Paired F d c->(∀a b,F a b->G a b)->Paired G d c
 | _,_,.nil,_=>.nil
 | _,_,.cons r t,f=>.cons (f _ _ r) (Paired.HY t f)
theorem x6.dm(x:x6 P w H h a o)(k:∀b u,(b=a\/H b=some (.own a))->h.get? b=some u->h'.get? b=some u)
  (E:∀b,H b=some (.own a)->H' b=some (.own a)) (B:∀b xs,H b=some (.tup xs)->H' b=some (.tup xs)):x6 P w H' h' a o:=by
 induction o with
 | lst xs=>obtain⟨z,its,n,r,e⟩:=x;exact⟨z,its,n,r,k _ _ (.inl rfl) e⟩
 | tup xs=>obtain⟨z,its,r,ob,e,c⟩:=x;exact⟨z,its,r,ob,k _ _ (.inl rfl) e,c⟩
 | dK kvs=>obtain⟨z,y,vs,r,ob,g,ep,e,c⟩:=x;exact⟨z,y,vs,r,ob,g,ep,k _ _ (.inl rfl) e,c⟩
 | dN kvs=>obtain⟨z,y,vs,r,ob,g,ep,e,c⟩:=x;exact⟨z,y,vs,r,ob,g,ep,k _ _ (.inl rfl) e,c⟩
 | dE kvs ep=>obtain⟨z,y,vs,r,ob,g,e,c⟩:=x;exact⟨z,y,vs,r,ob,g,k _ _ (.inl rfl) e,c⟩
 | dT kvs=>
  obtain⟨z,y,xs,r,ob,g,ep,e,c⟩:=x
  exact⟨z,y,xs,Paired.HY r fun p q z=>⟨z.1,B _ _ z.2.1,z.2.2⟩,ob,g,ep,k _ _ (.inl rfl) e,c⟩
 | set S n=>obtain⟨ob,g,ep,t,e,c⟩:=x;exact⟨ob,g,ep,t,k _ _ (.inl rfl) e,c⟩
 | ins C M fs=>
  obtain⟨d,z,ne,e,j,⟨i,g,ep,G,c⟩,r⟩:=x
  exact⟨E _ d,z,ne,k _ _ (.inl rfl) e,j,⟨i,g,ep,k _ _ (.inr d) G,c⟩,r⟩
 | own y=>obtain⟨ob,e⟩:=x;exact⟨ob,k _ _ (.inl rfl) e⟩
 | xd fs=>obtain⟨j,⟨i,g,ep,e,c⟩,r⟩:=x;exact⟨j,⟨i,g,ep,k _ _ (.inl rfl) e,c⟩,r⟩
 | rng lo J=>obtain⟨t,u,v,e⟩:=x;exact⟨t,u,v,k _ _ (.inl rfl) e⟩
 | frz ob u l=>obtain⟨e,q⟩:=x;exact⟨k _ _ (.inl rfl) e,l q⟩
 | tbl ps=>
  have e:h.get? a=some { cls:=.none,data:=.fields ps }:=x
  show h'.get? a=some { cls:=.none,data:=.fields ps }
  exact k a _ (.inl rfl) e
 | met f y=>
  have e:h.get? a=some (PySem.W.methodObj (.ref f) (.ref y)):=x
  show h'.get? a=some (PySem.W.methodObj (.ref f) (.ref y))
  exact k a _ (.inl rfl) e
 | ext I=>obtain⟨p,⟨o,e⟩,st⟩:=x;exact⟨st _ _ p fun o q=>k _ _ (.inl rfl) q,⟨o,k _ _ (.inl rfl) e⟩,st⟩
theorem V1.lt(x:V1 P w H h)(e:H a=some o):a<h.objs.size:=(x a o e).lt
theorem V1.fresh(x:V1 P w H h)(e:h.objs.size<=a):H a=none:=by
 cases q:H a with
 | none=>rfl
 | some u=>exact absurd (Gc (x.lt q) e) (RD _)
theorem V1.kept(x:V1 P w H h)(k:∀b u,h.get? b=some u->h'.get? b=some u):V1 P w H h':=fun a o e=>
 (x a o e).dm (fun b u _ q=>k b u q) (fun _ q=>q) fun _ _ q=>q
theorem V1.laid(x:V1 P w H h)(k:∀b u,h.get? b=some u->h'.get? b=some u)(i:h.objs.size<=a)(new:x6 P w (upd H a o) h' a o):V1 P w (upd H a o) h':=fun b u e=>by
 have d:=x.fresh i
 by_cases g:b=a
 ·subst g;rw[e9] at e;cases e;exact new
 ·rw[i3 g] at e
  exact(x b u e).dm (fun c v _ q=>k c v q) (fun c q=>by rw[i3 (p8 q d)];exact q) fun c xs q=>by rw[i3 (p8 q d)];exact q
end
def Dd(H:Hp)(a:Addr)(kvs:List (Key×V)):Prop:=H a=some (.dK kvs)\/∃ep,H a=some (.dE kvs ep)
theorem Dd.ok{P:Program}{w:World}{H:Hp}{h:Heap}{a:Addr}{kvs:List (Key×V)}(r:Dd H a kvs)(x:V1 P w H h):x6 P w H h a (.dK kvs):=by
 rcases r with r | ⟨ep,r⟩
 ·exact x a _ r
 ·obtain⟨z,y,vs,b,d⟩:=(show x6 P w H h a (.dE kvs ep) from x a _ r)
  exact⟨z,y,vs,b,d.dictOf⟩
def Rd(H:Hp)(a:Addr)(u:HO):Prop:=H a=some u\/∃o,H a=some (.frz o u)
theorem Rd.of{H:Hp}{a:Addr}{u:HO}(h:H a=some u):Rd H a u:=.inl h
theorem Rd.ok{P:Program}{w:World}{H:Hp}{h:Heap}{a:Addr}{u:HO}(r:Rd H a u)(x:V1 P w H h):x6 P w H h a u:=by
 rcases r with r | ⟨o,r⟩
 ·exact x a u r
 ·obtain⟨_,q⟩:=x a _ r
  exact q
def fY:Option HO->Prop
 | some (.lst _)=>True
 | some (.dK _)=>True
 | some (.dE _ _)=>True
 | some (.dN _)=>True
 | some (.dT _)=>True
 | some (.set _ _)=>True
 | some (.ins _ _ _)=>True
 | some (.ext _)=>True
 | _=>False
theorem Dd.mut{H:Hp}{a:Addr}{kvs:List (Key×V)}(r:Dd H a kvs):fY (H a):=by
 rcases r with r | ⟨ep,r⟩<;>(rw[r];exact True.intro)
section
variable{P:Program}{w:World}{H:Hp}{h h':Heap}{x e:Addr}{o':HO}
theorem V1.write(ok:V1 P w H h)(i:fY (H x))(B:e=x\/H e=some (.own x))(k:∀b u,b≠e->h.get? b=some u->h'.get? b=some u)(o:∃u,h'.get? e=some u)
  (new:x6 P w (upd H x o') h' x o'):V1 P w (upd H x o') h':=fun b u q=>by
 have d:∀c y,H c=some (.own y)->c≠x:=fun c y r z=>by subst z;rw[r] at i;exact i
 have g:∀c xs,H c=some (.tup xs)->c≠x:=fun c xs r z=>by subst z;rw[r] at i;exact i
 by_cases l:b=x
 ·subst l;rw[e9] at q;cases q;exact new
 ·rw[i3 l] at q
  by_cases a:b=e
  ·have p:H b=some (.own x):=by
    rcases B with z | z
    ·exact absurd (a.trans z) l
    ·rw[a];exact z
   rw[q] at p;cases p
   obtain⟨v,C⟩:=o
   exact⟨v,by rw[a];exact C⟩
  ·refine(ok b u q).dm (fun c v j r=>k c v ?_ r) (fun c r=>by rw[i3 (d c b r)];exact r) fun c xs r=>by rw[i3 (g c xs r)];exact r
   rcases j with rfl | j
   ·exact a
   ·rintro rfl
    rcases B with z | z
    ·exact d c b j z
    ·rw[j] at z;cases z;exact l rfl
end
structure Un(fs ex:UD)(H H':Hp)(h h':Heap):Prop where
 keep:∀b o,h.get? b=some o->H b=none->b∉fs->b∉ex->h'.get? b=some o
 slot:∀b o,h.get? b=some o->H b=none->b∈fs->b∉ex->∃sl,h'.get? b=some { o with slots:=sl }
 free:∀b o,h.get? b=some o->H b=none->b∉ex->H' b=none
 there:∀b o,h.get? b=some o->b∉ex->∃o',h'.get? b=some o'
 P9:∀b xs,H b=some (.tup xs)->H' b=some (.tup xs)
 frzs:∀b o u,H b=some (.frz o u)->H' b=some (.frz o u)
 tbls:∀b ps,H b=some (.tbl ps)->∃more,H' b=some (.tbl (ps++more))
section
variable{fs fs' ex ex':UD}{H H1 H2:Hp}{h h1 h2 h':Heap}{a x e:Addr}{o:HO}
theorem Un.any(u:Un fs ex H H1 h h1){b:Addr}{ob:Obj}(q:h.get? b=some ob)(n:H b=none)(c:b∉ex):∃g,h1.get? b=some { ob with slots:=g }:=by
 by_cases d:b∈fs
 ·exact u.slot b ob q n d c
 ·exact⟨ob.slots,u.keep b ob q n d c⟩
theorem Un.trans(a:Un fs ex H H1 h h1)(b:Un fs ex H1 H2 h1 h2):Un fs ex H H2 h h2 where
 keep:=fun c ob q n i d=>b.keep c ob (a.keep c ob q n i d) (a.free c ob q n d) i d
 slot:=fun c ob q n i d=>by
  obtain⟨u,g⟩:=a.slot c ob q n i d
  obtain⟨j,p⟩:=b.slot c _ g (a.free c ob q n d) i d
  exact⟨j,p⟩
 free:=fun c ob q n d=>by
  obtain⟨l,g⟩:=a.there c ob q d
  exact b.free c l g (a.free c ob q n d) d
 there:=fun c ob q d=>by
  obtain⟨l,g⟩:=a.there c ob q d
  exact b.there c l g d
 P9:=fun c xs q=>b.P9 c xs (a.P9 c xs q)
 frzs:=fun c ob xs q=>b.frzs c ob xs (a.frzs c ob xs q)
 tbls:=fun c ps q=>by
  obtain⟨r,g⟩:=a.tbls c ps q
  obtain⟨m2,p⟩:=b.tbls c _ g
  exact⟨r++m2,by rw[p,Array.append_assoc]⟩
theorem Un.kept(k:∀b u,h.get? b=some u->h'.get? b=some u):Un fs ex H H h h':=
 ⟨fun b ob q _ _ _=>k b ob q,fun b ob q _ _ _=>⟨ob.slots,k b ob q⟩,fun _ _ _ n _=>n,fun b ob q _=>⟨ob,k b ob q⟩,fun _ _ q=>q,fun _ _ _ q=>q,fun _ ps q=>⟨#[],by rw[q];simp⟩⟩
theorem Un.refl:Un fs ex H H h h:=Un.kept fun _ _ q=>q
theorem Un.laid(k:∀b u,h.get? b=some u->h'.get? b=some u)(d:h.objs.size<=a)(c:H a=none):Un fs ex H (upd H a o) h h' where
 keep:=fun b u q _ _ _=>k b u q
 slot:=fun b u q _ _ _=>⟨u.slots,k b u q⟩
 free:=fun b u q n _=>by rw[i3 (Ew (Gc (AT q) d))];exact n
 there:=fun b u q _=>⟨u,k b u q⟩
 P9:=fun b xs q=>by rw[i3 (p8 q c)];exact q
 frzs:=fun b u xs q=>by rw[i3 (p8 q c)];exact q
 tbls:=fun b ps q=>⟨#[],by rw[i3 (p8 q c),q];simp⟩
theorem Un.write(d:fY (H x))(p:e=x\/H e=some (.own x))(k:∀b u,b≠e->h.get? b=some u->h'.get? b=some u)(i:∃u,h'.get? e=some u):Un fs ex H (upd H x o) h h':=by
 have j:∀b,H b=none->b≠x:=fun b n z=>by subst z;rw[n] at d;exact d
 have l:∀b,H b=none->b≠e:=fun b n z=>by
  subst z
  rcases p with r | r
  ·exact j b n r
  ·rw[n] at r;cases r
 have g:∀b u,H b=some u->¬fY (some u)->b≠x:=fun b u q nm z=>by subst z;rw[q] at d;exact nm d
 refine⟨fun b u q n _ _=>k b u (l b n) q,fun b u q n _ _=>⟨u.slots,k b u (l b n) q⟩,fun b u q n _=>by rw[i3 (j b n)];exact n,fun b u q _=>?_,
  fun b xs q=>by rw[i3 (g b _ q fun z=>z)];exact q,fun b u xs q=>by rw[i3 (g b _ q fun z=>z)];exact q,fun b ps q=>⟨#[],by rw[i3 (g b _ q fun z=>z),q];simp⟩⟩
 by_cases c:b=e
 ·subst c;exact i
 ·exact⟨u,k b u c q⟩
theorem Un.mono(u:Un fs ex H H1 h h1)(g:∀b∈fs,b∈fs')(d:∀b∈ex,b∈ex'):Un fs' ex' H H1 h h1:=
 ⟨fun b ob q n i c=>u.keep b ob q n (fun z=>i (g b z)) fun z=>c (d b z),fun _ _ q n _ c=>u.any q n fun z=>c (d _ z),fun b ob q n c=>u.free b ob q n fun z=>c (d b z),fun b ob q c=>u.there b ob q fun z=>c (d b z),u.P9,u.frzs,u.tbls⟩
end
def ah(h:Heap)(H:Hp):UD:=(List.range h.objs.size).filter fun a=>(H a).isSome
def lU(h:Heap)(H:Hp):Heap:=PySem.W.hideAll h (ah h H)
theorem yB(h:Heap)(H:Hp):(lU h H).objs.size=h.objs.size:=PySem.W.hideAll_size _ _
theorem AI{h:Heap}{H:Hp}{b:Addr}{o:Obj}(e:h.get? b=some o)(n:H b=none):(lU h H).get? b=some o:=
 PySem.W.hideAll_get _ e fun a=>by
  have q:(H b).isSome=true:=(List.mem_filter.mp a).2
  rw[n] at q;simp at q
theorem Fb{h:Heap}{H:Hp}{b:Addr}{o:Obj}(e:(lU h H).get? b=some o):h.get? b=some o/\H b=none:=by
 have a:h.get? b=some o:=PySem.W.of_hideAll (ah h H) e
 refine⟨a,?_⟩
 cases q:H b with
 | none=>rfl
 | some x=>
  have c:b∈ah h H:=List.mem_filter.mpr ⟨List.mem_range.mpr (AT a),by simp[q]⟩
  have z:(lU h H).get? b=none:=PySem.W.hideAll_none (ah h H) c
  rw[z] at e;cases e
structure Mod(K:UP)(mg:UK)(base:Heap):Prop where
 kin:K.In base
 glob:base.Ns mainGlobals mg
 blt:∃mb,base.Ns builtinsNs mb/\∀x:Str,x ≠ "__name__"->mb x=bootBuiltins x
 nolimit:base.NoLimit
structure Cx where
 prog:Program
 w:World
 K:UP
 mg:Str->UQ
 base:Heap
 A:Around
 N:UE
 s₀:Shared
 H₀:Hp
 env:Env
 outer:List Env
 stack:List Env
 ex:UD
 fn:Str->Bool
 calm:Bool
 pn:TZ
 xe:Value->Shared->Prop
def aK(l:List Env):UD:=l.filterMap (·.frame)
abbrev Cx.fs(X:Cx):UD:=aK X.outer
def Le(a:Scope)(x:Str):Prop:=a.names.lookup x=some .local\/a.names.lookup x=some .cell\/a.names.lookup x=some .free
def Loc(a:Scope)(x:Str):Prop:=a.names.lookup x=some .local\/a.names.lookup x=some .cell
def Look(env:Env)(h:Heap)(m:UK)(x:Str)(u:Value):Prop:=
 (env.kindOf x=some .local/\m x=some u)\/((env.kindOf x=some .cell\/env.kindOf x=some .free)/\∃c,env.cells.lookup x=some c/\h.IsCell c (some u))
structure Cx.Ok(X:Cx):Prop where
 mod:Mod X.K X.mg X.base
 kind:X.env.scope.kind=.function
 glob:X.env.globals=mainGlobals
 blt:X.env.builtins=builtinsNs
 above:X.s₀.heap.objs.size<=X.env.locals
 inj:∀x y c,X.env.cells.lookup x=some c->X.env.cells.lookup y=some c->x=y
 has:∀x,(X.env.kindOf x=some .cell\/X.env.kindOf x=some .free)->∃c,X.env.cells.lookup x=some c
 cab:∀x c,X.fn x=true->X.env.cells.lookup x=some c->X.s₀.heap.objs.size<=c
 hd:X.calm=true->X.A.handled=none
 frames:X.A.frames=some X.stack
 stk:X.stack=X.outer\/(X.stack=X.env::X.outer/\X.env.frame=some X.env.locals)
 exf:∀b∈X.ex,b≠X.env.locals/\∀x c,X.env.cells.lookup x=some c->c≠b
 bs:∀b o,X.base.get? b=some o->X.s₀.heap.get? b=some o/\X.H₀ b=none
 bsz:X.base.objs.size<=X.s₀.heap.objs.size
 noex:∀b o,X.base.get? b=some o->b∉X.ex
 exfs:∀b∈X.ex,b∉X.fs
 iV:X.s₀.heap.FunFrames X.base X.outer
 frf:∀b∈X.fs,X.H₀ b=none
structure Inv(X:Cx)(pins:TZ)(σ:List (Option V))(H:Hp)(s:Shared):Prop where
 ok:X.Ok
 os:s.os=X.s₀.os
 bare:AllBare s.gens
 base:Un X.fs X.ex X.H₀ H X.s₀.heap s.heap
 loc:∃m,s.heap.Ns X.env.locals m/\∀(i:Nat) (x:Str) (v:V),X.N[i]?=some x->σ[i]?=some (some v)->Le X.env.scope x->∃u,RelV v u/\Look X.env s.heap m x u
 cell:∀x c,X.env.cells.lookup x=some c->∃v,s.heap.IsCell c v
 free:H X.env.locals=none
 freeC:∀x c,X.env.cells.lookup x=some c->H c=none
 pin:∀p∈X.pn++pins,s.heap.get? p.1=some p.2/\H p.1=none/\p.1≠X.env.locals/\p.1∉X.fs/\∀v,p.2.data≠.cell v
 hok:V1 X.prog X.w H s.heap
 len:σ.length=X.N.length
section
variable{X:Cx}{pins:TZ}{σ:List (Option V)}{H H':Hp}{s:Shared}{h':Heap}
theorem Cx.Ok.Oh(ok:X.Ok){b:Addr}{o:Obj}(e:X.base.get? b=some o):b∉X.fs:=fun a=>by
 have:=(ok.iV.mem a).1
 rw[e] at this;cases this
theorem Inv.bs(I:Inv X pins σ H s):∀b o,X.base.get? b=some o->s.heap.get? b=some o/\H b=none:=fun b o e=>
 ⟨I.base.keep b o (I.ok.bs b o e).1 (I.ok.bs b o e).2 (I.ok.Oh e) (I.ok.noex b o e),I.base.free b o (I.ok.bs b o e).1 (I.ok.bs b o e).2 (I.ok.noex b o e)⟩
theorem Inv.bk(I:Inv X pins σ H s):∀b o,X.base.get? b=some o->s.heap.get? b=some o:=fun b o e=>(I.bs b o e).1
theorem Inv.mod(I:Inv X pins σ H s):Mod X.K X.mg X.base:=I.ok.mod
theorem Inv.qc(I:Inv X pins σ H s):X.K.In s.heap:=I.ok.mod.kin.keeps I.bk
theorem Inv.fr(I:Inv X pins σ H s):∃m,Fr X.base X.env.locals s.heap m:=
 let ⟨m,a,_⟩:=I.loc
 ⟨m,a,I.bk,Qv I.ok.bsz I.ok.above⟩
theorem Inv.lt(I:Inv X pins σ H s):X.env.locals<s.heap.objs.size:=let ⟨_,a,_⟩:=I.loc;a.lt
theorem Inv.sz(I:Inv X pins σ H s):X.s₀.heap.objs.size<=s.heap.objs.size:=Qv I.ok.above (Re I.lt)
theorem Inv.Oe(I:Inv X pins σ H s){a:Addr}(h:s.heap.objs.size<=a):a∉X.fs:=fun c=>by
 obtain⟨_,o,b,_⟩:=I.ok.iV.mem c
 exact absurd (Gc (AT b) (Qv I.sz h)) (RD _)
theorem Inv.Kj(I:Inv X pins σ H s):∀x c,X.env.cells.lookup x=some c->c≠X.env.locals:=fun x c e z=>by
 obtain⟨v,o,d,hd⟩:=I.cell x c e
 obtain⟨m,⟨g,h,ep,a,b,_⟩,_⟩:=I.loc
 rw[z,a] at d;cases d;rw[b] at hd;cases hd
theorem Inv.iV(I:Inv X pins σ H s):s.heap.FunFrames X.base X.outer:=by
 have all:∀(l:List Env),(∀b∈aK l,b∈X.fs)->X.s₀.heap.FunFrames X.base l->s.heap.FunFrames X.base l:=by
  intro l
  induction l with
  | nil=>intro _ _;trivial
  | cons env r h=>
   intro g q
   obtain⟨u,⟨L,o,a,p,j,hd⟩,i⟩:=q
   have d:L∈X.fs:=g L (by unfold aK;rw[QZ,a];exact lP)
   obtain⟨v,e⟩:=I.base.slot L o j (I.ok.frf L d) d fun z=>I.ok.exfs L z d
   exact⟨u,⟨L,_,a,p,e,hd⟩,h (fun b c=>g b (by unfold aK;rw[QZ,a];exact hQ _ c)) i⟩
 exact all X.outer (fun _ c=>c) I.ok.iV
theorem Inv.stack(I:Inv X pins σ H s):s.heap.FunFrames X.base X.stack:=by
 rcases I.ok.stk with e | ⟨e,b⟩
 ·rw[e];exact I.iV
 ·rw[e]
  obtain⟨m,a,_⟩:=I.loc
  refine .cons (by rw[I.ok.kind];decide) b a ?_ I.iV
  exact Heap.get?_none_of_le (Qv I.ok.bsz I.ok.above)
theorem Inv.uV(I:Inv X pins σ H s):∀b∈aK X.stack,b∈X.env.locals::X.fs:=fun b a=>by
 rcases I.ok.stk with e | ⟨e,c⟩
 ·rw[e] at a;exact hQ _ a
 ·rw[e] at a
  unfold aK at a
  rw[QZ,c] at a
  exact a
theorem Inv.mX(I:Inv X pins σ H s):∀b∈aK X.stack,H b=none:=fun b a=>by
 rcases List.mem_cons.mp (I.uV b a) with e | a
 ·rw[e];exact I.free
 ·obtain⟨_,o,c,_⟩:=I.ok.iV.mem a
  exact I.base.free b o c (I.ok.frf b a) fun z=>I.ok.exfs b z a
theorem Inv.step{g':Array GenState}{t':Nat}{d':Drawn}{ch:UD}(I:Inv X pins σ H s)
  (h:∀b∈ch,(b∈X.ex\/X.s₀.heap.objs.size<=b)/\b≠X.env.locals/\(∀x c,X.env.cells.lookup x=some c->c≠b)/\∀p∈X.pn++pins,p.1≠b)
  (keep:∀b o,b≠X.env.locals->b∉X.fs->b∉ch->s.heap.get? b=some o->H b=none->h'.get? b=some o)
  (slot:∀b o,b≠X.env.locals->b∈X.fs->b∉ch->s.heap.get? b=some o->H b=none->∃Q,h'.get? b=some { o with slots:=Q }) (free:∀b o,b∉ch->s.heap.get? b=some o->H b=none->H' b=none)
  (there:∀b o,b∉ch->s.heap.get? b=some o->∃G,h'.get? b=some G)
  (P9:∀b xs,H b=some (.tup xs)->H' b=some (.tup xs)) (frzs:∀b o u,H b=some (.frz o u)->H' b=some (.frz o u)) (tbls:∀b ps,H b=some (.tbl ps)->∃more,H' b=some (.tbl (ps++more)))
  (ns:∀m,s.heap.Ns X.env.locals m->h'.Ns X.env.locals m) (hok:V1 X.prog X.w H' h') (hg:AllBare g') :
  Inv X pins σ H' { s with heap:=h',gens:=g',drawn:=d',toks:=t' }:=by
 have J:∀b o,X.s₀.heap.get? b=some o->b≠X.env.locals:=fun b o e=>Ew (Gc (AT e) I.ok.above)
 have y:∀b o,X.s₀.heap.get? b=some o->b∉X.ex->b∉ch:=fun b o e a C=>by
  rcases(h b C).1 with z | z
  ·exact a z
  ·exact absurd (Gc (AT e) z) (RD _)
 have j:∀x c,X.env.cells.lookup x=some c->∀v,s.heap.IsCell c v->h'.IsCell c v:=fun x c e v ⟨o,E,hd⟩=>by
  have g:c∉ch:=fun z=>(h c z).2.2.1 x c e rfl
  by_cases T:c∈X.fs
  ·obtain⟨Q,q⟩:=slot c o (I.Kj x c e) T g E (I.freeC x c e)
   exact⟨_,q,hd⟩
  ·exact⟨o,keep c o (I.Kj x c e) T g E (I.freeC x c e),hd⟩
 refine⟨I.ok,I.os,hg,⟨fun b o e n C a=>?_,fun b o e n C a=>?_,fun b o e n a=>?_,fun b o e a=>?_,fun b xs e=>P9 b xs (I.base.P9 b xs e),fun b o xs e=>frzs b o xs (I.base.frzs b o xs e),fun b ps e=>?_⟩,?_,fun x c e=>?_,?_,fun x c e=>?_,fun p S=>?_,hok,I.len⟩
 ·exact keep b o (J b o e) C (y b o e a) (I.base.keep b o e n C a) (I.base.free b o e n a)
 ·obtain⟨Q,B⟩:=I.base.slot b o e n C a
  obtain⟨O,M⟩:=slot b _ (J b o e) C (y b o e a) B (I.base.free b o e n a)
  exact⟨O,M⟩
 ·obtain⟨G,B⟩:=I.base.there b o e a
  exact free b G (y b o e a) B (I.base.free b o e n a)
 ·obtain⟨G,B⟩:=I.base.there b o e a
  exact there b G (y b o e a) B
 ·obtain⟨U,B⟩:=I.base.tbls b ps e
  obtain⟨m2,M⟩:=tbls b _ B
  exact⟨U++m2,by rw[M,Array.append_assoc]⟩
 ·obtain⟨m,Y,hl⟩:=I.loc
  refine⟨m,ns m Y,fun i x v B M e3=>?_⟩
  obtain⟨u,r,l⟩:=hl i x v B M e3
  refine⟨u,r,?_⟩
  rcases l with l | ⟨k,c,e,z⟩
  ·exact .inl l
  ·exact .inr ⟨k,c,e,j x c e _ z⟩
 ·obtain⟨v,z⟩:=I.cell x c e
  exact⟨v,j x c e v z⟩
 ·obtain⟨m,⟨o,_,_,E,_⟩,_⟩:=I.loc
  exact free _ o (fun z=>(h _ z).2.1 rfl) E I.free
 ·obtain⟨v,o,E,hd⟩:=I.cell x c e
  exact free c o (fun z=>(h c z).2.2.1 x c e rfl) E (I.freeC x c e)
 ·obtain⟨e,n,ne,R,d⟩:=I.pin p S
  have g:p.1∉ch:=fun z=>(h p.1 z).2.2.2 p S rfl
  exact⟨keep p.1 p.2 ne R g e n,free p.1 p.2 g e n,ne,R,d⟩
theorem Inv.un{t':Nat}(I:Inv X pins σ H s)(u:Un X.fs [] H H' s.heap h')(hok:V1 X.prog X.w H' h'):Inv X pins σ H' { s with heap:=h',toks:=t' }:=by
 obtain⟨m,⟨o,x,ep,h,r⟩,_⟩:=id I.loc
 obtain⟨p,l⟩:=u.any h I.free (by simp)
 exact I.step (g':=s.gens) (d':=s.drawn) (ch:=[]) (fun _ z=>nomatch z) (fun b o _ c _ e n=>u.keep b o e n c (by simp)) (fun b o _ c _ e n=>u.slot b o e n c (by simp)) (fun b o _ e n=>u.free b o e n (by simp)) (fun b o _ e=>u.there b o e (by simp)) u.P9 u.frzs u.tbls (fun v j=>by
  obtain⟨q,d,g,a,i⟩:=j
  rw[h] at a;cases a
  exact⟨_,d,g,l,i⟩) hok I.bare
theorem Inv.call{g':Array GenState}{t':Nat}{d':Drawn}{ch:UD}(I:Inv X pins σ H s)(u:Un (aK X.stack) ch H H' s.heap h')(hok:V1 X.prog X.w H' h')(y:AllBare g')
  (g:∀b∈ch,(b∈X.ex\/X.s₀.heap.objs.size<=b)/\b≠X.env.locals/\(∀x c,X.env.cells.lookup x=some c->c≠b)/\∀p∈X.pn++pins,p.1≠b) :
  Inv X pins σ H' { s with heap:=h',gens:=g',drawn:=d',toks:=t' }:=by
 obtain⟨m,⟨o,J,ep,l,r⟩,_⟩:=id I.loc
 obtain⟨C,h⟩:=u.any l I.free fun z=>(g _ z).2.1 rfl
 exact I.step (ch:=ch) g (fun b o h B a e n=>u.keep b o e n (fun z=>(List.mem_cons.mp (I.uV b z)).elim h B) a) (fun b o _ _ a e n=>u.any e n a) (fun b o a e n=>u.free b o e n a) (fun b o a e=>u.there b o e a) u.P9 u.frzs u.tbls (fun G v=>by
  obtain⟨E,i,j,d,q⟩:=v
  rw[l] at d;cases d
  exact⟨_,i,j,h,q⟩) hok y
theorem Inv.turned{t':Nat}{it:Addr}(I:Inv X pins σ H s)(k:∀b o,b≠it->s.heap.get? b=some o->h'.get? b=some o)(i:H it=none)(g:it≠X.env.locals)
  (C:it∈X.ex\/X.s₀.heap.objs.size<=it) (B:∀x c,X.env.cells.lookup x=some c->c≠it) (y:∀p∈X.pn++pins,p.1≠it):Inv X pins σ H { s with heap:=h',toks:=t' }:=by
 have d:∀b u,H b=some u->b≠it:=fun b u e z=>by rw[z,i] at e;cases e
 refine I.step (g':=s.gens) (d':=s.drawn) (ch:=[it]) (fun b l=>?_) (fun b o _ _ a e _=>k b o (fun z=>a (by simp[z])) e) (fun b o _ _ a e _=>⟨o.slots,k b o (fun z=>a (by simp[z])) e⟩) (fun _ _ _ _ n=>n)
  (fun b o a e=>⟨o,k b o (fun z=>a (by simp[z])) e⟩) (fun _ _ e=>e) (fun _ _ _ e=>e) (fun b ps e=>⟨#[],by rw[e];simp⟩) (fun m j=>?_) (fun b u e=>?_) I.bare
 ·have e:b=it:=by simpa using l
  subst e
  exact⟨C,g,B,y⟩
 ·obtain⟨o,E,ep,h,r⟩:=j
  exact⟨o,E,ep,k _ o (QO g) h,r⟩
 ·refine(I.hok b u e).dm (fun c v a q=>k c v ?_ q) (fun _ q=>q) fun _ _ q=>q
  rcases a with z | z
  ·rw[z];exact d b u e
  ·exact d c _ z
theorem Inv.tok(I:Inv X pins σ H s)(t:Nat):Inv X pins σ H { s with toks:=t }:=I.un (h':=s.heap) (t':=t) Un.refl I.hok
theorem Inv.kept{t':Nat}(I:Inv X pins σ H s)(k:∀b u,s.heap.get? b=some u->h'.get? b=some u):Inv X pins σ H { s with heap:=h',toks:=t' }:=I.un (Un.kept k) (I.hok.kept k)
theorem Inv.laid{a:Addr}{o:HO}{t':Nat}(I:Inv X pins σ H s)(k:∀b u,s.heap.get? b=some u->h'.get? b=some u)(c:s.heap.objs.size<=a)(new:x6 X.prog X.w (upd H a o) h' a o) :
  Inv X pins σ (upd H a o) { s with heap:=h',toks:=t' }:=I.un (Un.laid k c (I.hok.fresh c)) (I.hok.laid k c new)
theorem Inv.write{x e:Addr}{o:HO}{t':Nat}(I:Inv X pins σ H s)(c:fY (H x))(d:e=x\/H e=some (.own x))(k:∀b u,b≠e->s.heap.get? b=some u->h'.get? b=some u)(a:∃u,h'.get? e=some u)
  (new:x6 X.prog X.w (upd H x o) h' x o):Inv X pins σ (upd H x o) { s with heap:=h',toks:=t' }:=I.un (Un.write c d k a) (I.hok.write c d k a new)
theorem Inv.wt{a:TZ}(I:Inv X pins σ H s)(h:∀p∈a,s.heap.get? p.1=some p.2/\H p.1=none/\p.1≠X.env.locals/\p.1∉X.fs/\∀v,p.2.data≠.cell v):Inv X a σ H s:=
 ⟨I.ok,I.os,I.bare,I.base,I.loc,I.cell,I.free,I.freeC,fun p b=>(List.mem_append.mp b).elim (fun z=>I.pin p (FM _ z)) (h p),I.hok,I.len⟩
theorem rq{N:UE}(c:N.Nodup){i j:Nat}{x:Str}(a:N[i]?=some x)(b:N[j]?=some x):i=j:=by
 obtain⟨h,e⟩:=List.getElem?_eq_some_iff.mp a
 obtain⟨g,d⟩:=List.getElem?_eq_some_iff.mp b
 exact(List.getElem_inj c).mp (e.trans d.symm)
theorem br{M:Model}{A:Around}{E:UM}{i:Nat}{x:Str}{v:V}{u:Value}{Q:Unit->Shared->Prop}(I:Inv X pins σ H s)(hN:X.N.Nodup)(hi:X.N[i]?=some x)(G:Loc X.env.scope x)(r:RelV v u)
  (h:∀s',Inv X pins (σ.set i (some v)) H s'->(∃a,Heap.SameBut a s.heap s'.heap/\(a=X.env.locals\/X.env.cells.lookup x=some a))->Q () s') (hf:X.fn x=true\/X.env.scope.names.lookup x=some .local:=by first | exact .inl rfl | exact .inr rfl | assumption):wpAny M A (storeName X.env x u) Q E s:=by
 obtain⟨m,hn,hl⟩:=id I.loc
 have a2:(X.env.scope.kind == .class||(X.env.scope.kind == .module&&X.env.locals != X.env.globals))=false:=by rw[I.ok.kind];rfl
 have S:i<σ.length:=by rw[I.len];exact(List.getElem?_eq_some_iff.mp hi).1
 have Kj:=I.Kj
 have l:∀{a:Addr} {h':Heap},(∃o,s.heap.get? a=some o/\H a=none)->Heap.SameBut a s.heap h'->V1 X.prog X.w H h':=fun {a h'} ha g b ob e=>by
  obtain⟨_,_,J⟩:=ha
  refine(I.hok b ob e).dm (fun c w' C q=>(g.2 c ?_).trans q) (fun _ q=>q) fun _ _ q=>q
  rintro rfl
  rcases C with rfl | C
  ·rw[J] at e;cases e
  ·rw[J] at C;cases C
 rcases G with R | R
 ·refine wpAny_storeName_local R hn (fun h' a6 g=>?_) a2
  obtain⟨oL,_,_,a5,_⟩:=id hn
  refine h _ ⟨I.ok,I.os,I.bare,⟨fun b o e n Y G=>?_,fun b o e n Y G=>?_,I.base.free,fun b o e G=>?_,I.base.P9,I.base.frzs,I.base.tbls⟩,⟨_,a6,fun j y v' B O e3=>?_⟩,fun y c e=>?_,I.free,I.freeC,fun p hp=>?_,l ⟨oL,a5,I.free⟩ g,by simpa using I.len⟩ ⟨_,g,.inl rfl⟩
  ·exact(g.2 b (Ew (Gc (AT e) I.ok.above))).trans (I.base.keep b o e n Y G)
  ·obtain⟨sl,B⟩:=I.base.slot b o e n Y G
   exact⟨sl,(g.2 b (Ew (Gc (AT e) I.ok.above))).trans B⟩
  ·obtain⟨o',B⟩:=I.base.there b o e G
   exact⟨o',(g.2 b (Ew (Gc (AT e) I.ok.above))).trans B⟩
  ·by_cases T:j=i
   ·subst T
    rw[hi] at B;cases B
    rw[IN S] at O
    cases O
    exact⟨u,r,.inl ⟨R,by simp⟩⟩
   ·rw[No (QO T)] at O
    obtain⟨u',r',q⟩:=hl j y v' B O e3
    refine⟨u',r',?_⟩
    rcases q with⟨k,e⟩ | ⟨k,c,e,z⟩
    ·refine .inl ⟨k,?_⟩
     have:y≠x:=fun e=>T (rq hN B (e▸hi))
     simp[this,e]
    ·exact .inr ⟨k,c,e,z.sameBut g (Kj y c e)⟩
  ·obtain⟨w',z⟩:=I.cell y c e
   exact⟨w',z.sameBut g (Kj y c e)⟩
  ·obtain⟨e,n,ne,nf,d⟩:=I.pin p hp
   exact⟨(g.2 p.1 ne).trans e,n,ne,nf,d⟩
 ·have U:X.fn x=true:=by
   rcases hf with z | z
   ·exact z
   ·rw[z] at R;cases R
  obtain⟨c,C⟩:=I.ok.has x (.inl R)
  obtain⟨w',z⟩:=I.cell x c C
  refine wpAny_storeName_cell I.ok.kind R C z (fun h' a4 g=>?_)
  obtain⟨oc,a1,a0⟩:=id z
  refine h { s with heap:=h' } ⟨I.ok,I.os,I.bare,⟨fun b o e n Y G=>?_,fun b o e n Y G=>?_,I.base.free,fun b o e G=>?_,I.base.P9,I.base.frzs,I.base.tbls⟩,⟨m,hn.sameBut g (QO (Kj x c C)),fun j y v' B O e3=>?_⟩,fun y c' e=>?_,I.free,I.freeC,fun p hp=>?_,l ⟨oc,a1,I.freeC x c C⟩ g,by simpa using I.len⟩ ⟨c,g,.inr C⟩
  ·exact(g.2 b (Ew (Gc (AT e) (I.ok.cab x c U C)))).trans (I.base.keep b o e n Y G)
  ·obtain⟨sl,B⟩:=I.base.slot b o e n Y G
   exact⟨sl,(g.2 b (Ew (Gc (AT e) (I.ok.cab x c U C)))).trans B⟩
  ·obtain⟨o',B⟩:=I.base.there b o e G
   exact⟨o',(g.2 b (Ew (Gc (AT e) (I.ok.cab x c U C)))).trans B⟩
  ·by_cases T:j=i
   ·subst T
    rw[hi] at B;cases B
    rw[IN S] at O
    cases O
    exact⟨u,r,.inr ⟨.inl R,c,C,a4⟩⟩
   ·rw[No (QO T)] at O
    obtain⟨u',r',q⟩:=hl j y v' B O e3
    refine⟨u',r',?_⟩
    rcases q with q | ⟨k,c',e,z'⟩
    ·exact .inl q
    ·refine .inr ⟨k,c',e,z'.sameBut g ?_⟩
     rintro rfl
     exact T (rq hN B (I.ok.inj _ _ _ e C▸hi))
  ·by_cases a3:c'=c
   ·subst a3;exact⟨_,a4⟩
   ·obtain⟨w2,z2⟩:=I.cell y c' e
    exact⟨w2,z2.sameBut g a3⟩
  ·obtain⟨e,n,ne,nf,d⟩:=I.pin p hp
   refine⟨(g.2 p.1 ?_).trans e,n,ne,nf,d⟩
   intro q
   rw[q,a1] at e
   have q':oc=p.2:=Qn e
   exact d w' (by rw[<-q'];exact a0)
theorem aF{M:Model}{A:Around}{E:UM}{i:Nat}{x:Str}{v:V}{u:Value}{Q:Unit->Shared->Prop}(I:Inv X pins σ H s)(e:X.N.Nodup)(c:X.N[i]?=some x)(b:Loc X.env.scope x)(r:RelV v u)
  (h:∀a,Inv X pins (σ.set i (some v)) H a->Q () a) (d:X.fn x=true\/X.env.scope.names.lookup x=some .local:=by first | exact .inl rfl | exact .inr rfl | assumption):wpAny M A (storeName X.env x u) Q E s:=
 br I e c b r (fun a g _=>h a g) d
theorem Inv.zP{a:Shared}{ch:UD}(I:Inv X pins σ H s)(h:a.os=s.os)(u:Un (aK X.stack) ch H H' s.heap a.heap)(hok:V1 X.prog X.w H' a.heap)(i:AllBare a.gens)
  (d:∀b∈ch,(b∈X.ex\/X.s₀.heap.objs.size<=b)/\b≠X.env.locals/\(∀x c,X.env.cells.lookup x=some c->c≠b)/\∀p∈X.pn++pins,p.1≠b):Inv X pins σ H' a:=by
 obtain⟨h',g',d',t',g⟩:=a
 have e:g=s.os:=h
 subst e
 exact I.call (g':=g') (t':=t') (d':=d') u hok i d
end
abbrev XK:=Value->Option Addr->Hp->Prop
abbrev St:=List (Option V)
abbrev VK:=V->Hp->Prop
abbrev TE:=St->Hp->VK->Prop
abbrev TT:=St->Hp->(Bool->Hp->Prop)->Prop
abbrev TA:=St->Hp->(List V->Hp->Prop)->Prop
structure Ends where
 nx:St->Hp->Prop
 rt:VK
 bk:St->Hp->Prop:=fun _ _=>False
 ct:St->Hp->Prop:=fun _ _=>False
abbrev TS:=Ends->St->Hp->Prop
def EP(X:Cx)(pins:TZ)(σ:St)(Q:VK)(u:Value)(b:Shared):Prop:=∃v a,Inv X pins σ a b/\RelV v u/\Q v a
def TP(X:Cx)(pins:TZ)(σ:St)(Q:Bool->Hp->Prop)(b:Bool)(c:Shared):Prop:=∃a,Inv X pins σ a c/\Q b a
def AP(X:Cx)(pins:TZ)(σ:St)(Q:List V->Hp->Prop)(b:UF)(c:Shared):Prop:=∃vs a,Inv X pins σ a c/\Vals vs b/\Q vs a
def SP(X:Cx)(pins:TZ)(D:Ends)(f:Flow)(c:Shared):Prop:=
 match f with
 | .next=>∃a b,Inv X pins a b c/\D.nx a b
 | .brk=>∃a b,Inv X pins a b c/\D.bk a b
 | .cont=>∃a b,Inv X pins a b c/\D.ct a b
 | .ret u=>∃v a b,Inv X pins a b c/\RelV v u/\D.rt v b
structure PE(X:Cx)(e:Expr)(t:TE) : Prop where
 of ::
 run :
 ∀(pins:TZ) (s:Shared) (σ:St) (H:Hp) (Q:VK),Inv X pins σ H s->t σ H Q->wpAny (model X.prog X.w) X.A (eval e X.env) (EP X pins σ Q) X.xe s
instance {X:Cx} {e:Expr} {t:TE} : CoeFun (PE X e t) fun _=>
 ∀(pins:TZ) (s:Shared) (σ:St) (H:Hp) (Q:VK),Inv X pins σ H s->t σ H Q->wpAny (model X.prog X.w) X.A (eval e X.env) (EP X pins σ Q) X.xe s:=⟨PE.run⟩
structure PT(X:Cx)(e:Expr)(t:TT) : Prop where
 of ::
 run :
 ∀(pins:TZ) (s:Shared) (σ:St) (H:Hp) (Q:Bool->Hp->Prop),Inv X pins σ H s->t σ H Q->wpAny (model X.prog X.w) X.A (isTrue e X.env (eval e X.env)) (TP X pins σ Q) X.xe s
instance {X:Cx} {e:Expr} {t:TT} : CoeFun (PT X e t) fun _=>
 ∀(pins:TZ) (s:Shared) (σ:St) (H:Hp) (Q:Bool->Hp->Prop),Inv X pins σ H s->t σ H Q->wpAny (model X.prog X.w) X.A (isTrue e X.env (eval e X.env)) (TP X pins σ Q) X.xe s:=⟨PT.run⟩
structure PW(X:Cx)(e:Expr)(t:TT) : Prop where
 of ::
 run :
 ∀(whole:Sem Value) (pins:TZ) (s:Shared) (σ:St) (H:Hp) (Q:Bool->Hp->Prop),Inv X pins σ H s->t σ H Q->wpAny (model X.prog X.w) X.A (isTrue e X.env whole) (TP X pins σ Q) X.xe s
instance {X:Cx} {e:Expr} {t:TT} : CoeFun (PW X e t) fun _=>
 ∀(whole:Sem Value) (pins:TZ) (s:Shared) (σ:St) (H:Hp) (Q:Bool->Hp->Prop),Inv X pins σ H s->t σ H Q->wpAny (model X.prog X.w) X.A (isTrue e X.env whole) (TP X pins σ Q) X.xe s:=⟨PW.run⟩
theorem PW.pt{X:Cx}{e:Expr}{t:TT}(h:PW X e t):PT X e t:=.of (h _)
structure PA(X:Cx)(es:UG)(t:TA) : Prop where
 of ::
 run :
 ∀(pos:Pos) (pins:TZ) (s:Shared) (σ:St) (H:Hp) (Q:List V->Hp->Prop),Inv X pins σ H s->t σ H Q->wpAny (model X.prog X.w) X.A (spliced (backTo pos (starEach es X.env))) (AP X pins σ Q) X.xe s
instance {X:Cx} {es:UG} {t:TA} : CoeFun (PA X es t) fun _=>
 ∀(pos:Pos) (pins:TZ) (s:Shared) (σ:St) (H:Hp) (Q:List V->Hp->Prop),Inv X pins σ H s->t σ H Q->wpAny (model X.prog X.w) X.A (spliced (backTo pos (starEach es X.env))) (AP X pins σ Q) X.xe s:=⟨PA.run⟩
structure PS(X:Cx)(st:Stmt)(t:TS) : Prop where
 of ::
 run :
 ∀(pins:TZ) (s:Shared) (σ:St) (H:Hp) (D:Ends),Inv X pins σ H s->t D σ H->wpAny (model X.prog X.w) X.A (exec st X.env) (SP X pins D) X.xe s
instance {X:Cx} {st:Stmt} {t:TS} : CoeFun (PS X st t) fun _=>
 ∀(pins:TZ) (s:Shared) (σ:St) (H:Hp) (D:Ends),Inv X pins σ H s->t D σ H->wpAny (model X.prog X.w) X.A (exec st X.env) (SP X pins D) X.xe s:=⟨PS.run⟩
structure pN(X:Cx)(st:UL)(t:TS) : Prop where
 of ::
 run :
 ∀(pins:TZ) (s:Shared) (σ:St) (H:Hp) (D:Ends),Inv X pins σ H s->t D σ H->wpAny (model X.prog X.w) X.A (execs st X.env) (SP X pins D) X.xe s
instance {X:Cx} {st:UL} {t:TS} : CoeFun (pN X st t) fun _=>
 ∀(pins:TZ) (s:Shared) (σ:St) (H:Hp) (D:Ends),Inv X pins σ H s->t D σ H->wpAny (model X.prog X.w) X.A (execs st X.env) (SP X pins D) X.xe s:=⟨pN.run⟩
theorem y3{b:Type}{t:Sem b}{Q c:b->Shared->Prop}{M:Model}{A:Around}{E:UM}{s:Shared}(h:wpAny M A t Q E s)(d:∀a s,Q a s->c a s):wpAny M A t c E s:=NE h d fun _ _ x=>x
section
variable{X:Cx}
def fE(i:Nat):TE:=fun σ H Q=>∃v,σ[i]?=some (some v)/\Q v H
def tC(v:V):TE:=fun _ H Q=>Q v H
theorem IX {i:Nat} {x:Str} {g:Pos} (B:X.N[i]?=some x) (p:Le X.env.scope x) (hd:(x == ("__debug__" : Str))=false:=by decide) (j:(x == ("__classdict__" : Str))=false:=by decide):PE X (.Name x g) (fE i):=by
 refine .of ?_
 intro pins s σ H Q I h
 obtain⟨v,e,h⟩:=h
 obtain⟨m,q,z⟩:=I.loc
 obtain⟨u,r,l⟩:=z i x v B e p
 have d:EP X pins σ Q u s:=⟨v,H,I,r,h⟩
 rcases l with⟨b,y⟩ | ⟨b,c,o,a⟩
 ·exact wpAny_Name (wpAny_loadName_local I.ok.kind b q y d) hd
 ·rcases b with b | b
  ·exact wpAny_Name (wpAny_loadName_cell I.ok.kind b o a d) hd
  ·exact wpAny_Name (wpAny_loadName_free I.ok.kind b o a d j) hd
theorem Io{i j a}:PE X (.Constant (.int i) j a) (tC (.int i)):=.of <| fun _ _ _ H _ I h=>wpAny_Constant_int ⟨.int i,H,I.tok _,⟨_,rfl⟩,h⟩
theorem LF{b j a}:PE X (.Constant (.bool b) j a) (tC (.bl b)):=.of <| fun _ _ _ H _ I h=>Constant_bool ⟨.bl b,H,I,rfl,h⟩
theorem KR{j a}:PE X (.Constant .none j a) (tC .o8):=.of <| fun _ _ _ H _ I h=>Constant_none ⟨.o8,H,I,rfl,h⟩
theorem JB{x j a}:PE X (.Constant (.str x) j a) (tC (.str x)):=.of <| fun _ _ _ H _ I h=>Calls.Constant_str ⟨.str x,H,I.tok _,⟨_,rfl⟩,h⟩
def Gl(X:Cx)(x:Str):Prop:=X.env.kindOf x=some .globalImplicit
theorem wg{E:UM}{pins:TZ}{s:Shared}{σ:St}{H:Hp}{x:Str}{u:Value}{a:Pos}{Q:UM}(I:Inv X pins σ H s)(c:Gl X x)(b:X.mg x=some u)(h:Q u s)
  (hd:(x == ("__debug__" : Str))=false:=by decide):wpAny (model X.prog X.w) X.A (eval (.Name x a) X.env) Q E s:=
 Calls.Name_function_global I.ok.kind c (Calls.loadGlobal_global (by rw[I.ok.glob];exact I.mod.glob.keeps I.bk) b h) hd
theorem bW{E:UM}{pins:TZ}{s:Shared}{σ:St}{H:Hp}{x:Str}{u:Value}{a:Pos}{Q:UM}(I:Inv X pins σ H s)(e:Gl X x)(d:X.mg x=none)(b:bootBuiltins x=some u)(h:Q u s)
  (c:x ≠ "__name__":=by decide) (hd:(x == ("__debug__" : Str))=false:=by decide):wpAny (model X.prog X.w) X.A (eval (.Name x a) X.env) Q E s:=by
 obtain⟨j,i,g⟩:=I.mod.blt
 exact Calls.Name_function_global I.ok.kind e (Calls.loadGlobal_builtin (by rw[I.ok.glob];exact I.mod.glob.keeps I.bk) d (by rw[I.ok.blt];exact i.keeps I.bk) ((g x c).trans b) h) hd
theorem wG {x:Str} {v:V} {u:Value} {a:Pos} (e:Gl X x) (d:X.mg x=none) (b:bootBuiltins x=some u) (r:RelV v u) (c:x ≠ "__name__":=by decide) (hd:(x == ("__debug__" : Str))=false:=by decide):PE X (.Name x a) (tC v):=.of <| 
 fun _ _ _ H _ I h=>bW I e d b ⟨v,H,I,r,h⟩ c hd
variable{a b:Expr}{ta tb:TE}{pos:Pos}
variable{tA tB':TT}{rest:UG}
def NK(t u:TT):TT:=fun σ H Q=>t σ H fun c d=>if c=true then u σ d Q else Q false d
def Qb(t u:TT):TT:=fun σ H Q=>t σ H fun c d=>if c=true then Q true d else u σ d Q
def Oy(t:TT):TT:=fun σ H Q=>t σ H fun c d=>Q (!c) d
theorem FV(d:PT X a tA):PW X (.BoolOp .And [a] pos) tA:=by
 refine .of ?_
 intro g pins s σ H Q I h
 refine isTrue_and (y3 (d pins s σ H Q I h) fun c i e=>?_)
 cases c with
 | true=>exact isTrue_and_nil e
 | false=>exact e
theorem Iy(d:PT X a tA):PW X (.BoolOp .Or [a] pos) tA:=by
 refine .of ?_
 intro g pins s σ H Q I h
 refine isTrue_or (y3 (d pins s σ H Q I h) fun c i e=>?_)
 cases c with
 | false=>exact isTrue_or_nil e
 | true=>exact e
theorem Kt(o:PT X a tA)(l:PW X (.BoolOp .And (b::rest) pos) tB'):PW X (.BoolOp .And (a::b::rest) pos) (NK tA tB'):=by
 refine .of ?_
 intro i pins s σ H Q I h
 refine isTrue_and (y3 (o pins s σ H _ I h) fun c j ⟨g,e,d⟩=>?_)
 cases c with
 | true=>exact l i pins j σ g Q e d
 | false=>exact⟨g,e,d⟩
theorem Mz(o:PT X a tA)(l:PW X (.BoolOp .Or (b::rest) pos) tB'):PW X (.BoolOp .Or (a::b::rest) pos) (Qb tA tB'):=by
 refine .of ?_
 intro i pins s σ H Q I h
 refine isTrue_or (y3 (o pins s σ H _ I h) fun c j ⟨g,e,d⟩=>?_)
 cases c with
 | true=>exact⟨g,e,d⟩
 | false=>exact l i pins j σ g Q e d
theorem Iv(d:PT X a tA):PT X (.UnaryOp .Not a pos) (Oy tA):=by
 refine .of ?_
 intro pins s σ H Q I h
 exact isTrue_not (d pins s σ H (fun c e=>Q (!c) e) I h)
def MO(ta tb:TE):TE:=fun σ H Q=>ta σ H fun x d=>∃c,x=.bl c/\if c=true then tb σ d Q else Q (.bl false) d
def NS(ta tb:TE):TE:=fun σ H Q=>ta σ H fun x d=>∃c,x=.bl c/\if c=true then Q (.bl true) d else tb σ d Q
theorem Ie{op}{t:TE}(h:PE X a t):PE X (.BoolOp op [a] pos) t:=.of <| fun pins s σ H Q I hw=>BoolOp_one (h pins s σ H Q I hw)
theorem KD(o:PE X a ta)(l:PE X (.BoolOp .And (b::rest) pos) tb):PE X (.BoolOp .And (a::b::rest) pos) (MO ta tb):=by
 refine .of ?_
 intro pins s σ H Q I h
 refine BoolOp_and (y3 (o pins s σ H _ I h) fun v i ⟨x,g,e,j,d⟩=>?_)
 obtain⟨c,rfl,d⟩:=d
 cases j
 refine Si ?_
 cases c with
 | true=>exact l pins i σ g Q e d
 | false=>exact⟨.bl false,g,e,rfl,d⟩
theorem Nq(o:PE X a ta)(l:PE X (.BoolOp .Or (b::rest) pos) tb):PE X (.BoolOp .Or (a::b::rest) pos) (NS ta tb):=by
 refine .of ?_
 intro pins s σ H Q I h
 refine BoolOp_or (y3 (o pins s σ H _ I h) fun v i ⟨x,g,e,j,d⟩=>?_)
 obtain⟨c,rfl,d⟩:=d
 cases j
 refine Si ?_
 cases c with
 | false=>exact l pins i σ g Q e d
 | true=>exact⟨.bl true,g,e,rfl,d⟩
def Ql(t:TT)(ta tb:TE):TE:=fun σ H Q=>t σ H fun c d=>if c=true then ta σ d Q else tb σ d Q
theorem AY{c:Expr}(l:PT X c tA)(p:PE X a ta)(o:PE X b tb):PE X (.IfExp c a b pos) (Ql tA ta tb):=by
 refine .of ?_
 intro pins s σ H Q I h
 refine wpAny_IfExp (y3 (l pins s σ H _ I h) fun d e ⟨j,i,g⟩=>?_)
 cases d with
 | true=>exact p pins e σ j Q i g
 | false=>exact o pins e σ j Q i g
end
def L1(K:UP)(H:Hp)(a:Addr)(xs:List V):Prop:=
 Rd H a (.lst xs) \/
  ∃(o:Obj) (its:UJ) (n:Nat),K.lookup a=some o/\o.cls=.type "list" /\ o.dict=none/\o.data=.seq its n/\its.size<=sizeLine/\Vals xs its.toList
def Q0(K:UP)(H:Hp)(a:Addr)(xs:List V):Prop:=
 Rd H a (.tup xs) \/
  ∃(o:Obj) (its:UJ) (n:Nat),K.lookup a=some o/\o.cls=.type "tuple" /\ o.data=.seq its n/\its.size<=sizeLine/\Vals xs its.toList
def Ol:Value->Option V
 | .none=>some .o8
 | .bool b=>some (.bl b)
 | .int i _=>some (.int i)
 | .str x _=>some (.str x)
 | .bytes b _=>some (.byt b)
 | .float b _=>some (.flt b)
 | .ref a=>some (.ref a)
 | .type n=>some (.ty n)
 | _=>none
theorem RelV.abs{x:V}{u:Value}(r:RelV x u):Ol u=some x:=by
 cases x with
 | o8=>cases r;rfl
 | bl _=>cases r;rfl
 | int _=>obtain⟨t,rfl⟩:=r;rfl
 | str _=>obtain⟨t,rfl⟩:=r;rfl
 | byt _=>obtain⟨t,rfl⟩:=r;rfl
 | flt _=>obtain⟨t,rfl⟩:=r;rfl
 | ref _=>cases r;rfl
 | ty _=>cases r;rfl
theorem RelV.inj{x y:V}{u:Value}(r:RelV x u)(q:RelV y u):x=y:=Qn (r.abs.symm.trans q.abs)
theorem Vals.inj:∀{xs a:List V} {b:UF},Vals xs b->Vals a b->xs=a
 | _,_,_,.nil,.nil=>rfl
 | _,_,_,.cons r t,.cons c t'=>by rw[r.inj c,Vals.inj t t']
section
variable{X:Cx}{pins:TZ}{σ:St}{H:Hp}{s:Shared}{a:Addr}{xs ys:List V}
theorem L1.of{K:UP}(h:H a=some (.lst xs)):L1 K H a xs:=.inl (.inl h)
theorem Q0.of{K:UP}(h:H a=some (.tup xs)):Q0 K H a xs:=.inl (.inl h)
theorem Inv.list(I:Inv X pins σ H s)(h:L1 X.K H a xs):∃its:UF,Vals xs its/\PlainL s.heap a its.toArray/\xs.length<=sizeLine:=by
 rcases h with h | ⟨o,its,n,c,d,hd,b,hz,r⟩
 ·obtain⟨z,its,n,r,e⟩:=h.ok I.hok
  exact⟨its,r,⟨_,n,e,rfl,rfl,rfl⟩,z⟩
 ·refine⟨its.toList,r,⟨o,n,I.qc a o c,d,hd,by simpa using b⟩,?_⟩
  have e:=r.length
  simp only[Db] at e
  omega
theorem Inv.tuple(I:Inv X pins σ H s)(h:Q0 X.K H a xs):∃its:UF,Vals xs its/\IsTup s.heap a its.toArray/\xs.length<=sizeLine:=by
 rcases h with h | ⟨o,its,n,c,d,b,hz,r⟩
 ·obtain⟨z,its,r,p⟩:=h.ok I.hok
  exact⟨its,r,p,z⟩
 ·refine⟨its.toList,r,⟨o,I.qc a o c,d,n,by simpa using b⟩,?_⟩
  have e:=r.length
  simp only[Db] at e
  omega
theorem Inv.pM(I:Inv X pins σ H s)(h:L1 X.K H a xs)(h':L1 X.K H a ys):xs=ys:=by
 obtain⟨its,r,⟨o,n,e,_,_,d⟩,_⟩:=I.list h
 obtain⟨its',c,⟨i,j,b,_,_,d'⟩,_⟩:=I.list h'
 rw[e] at b;cases b
 rw[d] at d'
 injection d' with g _
 have:its=its':=by simpa using congrArg Array.toList g
 subst this
 exact r.inj c
theorem Inv.kj(I:Inv X pins σ H s)(h:Q0 X.K H a xs)(h':Q0 X.K H a ys):xs=ys:=by
 obtain⟨its,r,⟨o,e,_,n,d⟩,_⟩:=I.tuple h
 obtain⟨its',c,⟨i,b,_,j,d'⟩,_⟩:=I.tuple h'
 rw[e] at b;cases b
 rw[d] at d'
 injection d' with g _
 have:its=its':=by simpa using congrArg Array.toList g
 subst this
 exact r.inj c
end
abbrev Cx.jK(X:Cx)(E:UM):Cx:={ X with xe:=E }
abbrev Cx.KU(X:Cx):Cx:=X.jK fun _ _=>False
theorem Cx.Ok.jK{X:Cx}(ok:X.Ok)(E:UM):(X.jK E).Ok:=
 ⟨ok.mod,ok.kind,ok.glob,ok.blt,ok.above,ok.inj,ok.has,ok.cab,ok.hd,ok.frames,ok.stk,ok.exf,ok.bs,ok.bsz,ok.noex,ok.exfs,ok.iV,ok.frf⟩
theorem Cx.Ok.aw{X:Cx}{E:UM}(ok:(X.jK E).Ok):X.Ok:=
 ⟨ok.mod,ok.kind,ok.glob,ok.blt,ok.above,ok.inj,ok.has,ok.cab,ok.hd,ok.frames,ok.stk,ok.exf,ok.bs,ok.bsz,ok.noex,ok.exfs,ok.iV,ok.frf⟩
section
variable{X:Cx}{pins:TZ}{σ:St}{H:Hp}{s:Shared}{E:UM}
theorem Inv.jK(I:Inv X pins σ H s)(E:UM):Inv (X.jK E) pins σ H s:=⟨I.ok.jK E,I.os,I.bare,I.base,I.loc,I.cell,I.free,I.freeC,I.pin,I.hok,I.len⟩
theorem Inv.aw(I:Inv (X.jK E) pins σ H s):Inv X pins σ H s:=⟨I.ok.aw,I.os,I.bare,I.base,I.loc,I.cell,I.free,I.freeC,I.pin,I.hok,I.len⟩
theorem SP.aw{D:Ends}{f:Flow}{c:Shared}(h:SP (X.jK E) pins D f c):SP X pins D f c:=by
 cases f with
 | next=>obtain⟨a,b,I,q⟩:=h;exact⟨a,b,I.aw,q⟩
 | brk=>obtain⟨a,b,I,q⟩:=h;exact⟨a,b,I.aw,q⟩
 | cont=>obtain⟨a,b,I,q⟩:=h;exact⟨a,b,I.aw,q⟩
 | ret u=>obtain⟨v,a,b,I,r,q⟩:=h;exact⟨v,a,b,I.aw,r,q⟩
theorem pN.KU{st:UL}{t:TS}(h:pN X.KU st t):pN X st t:=.of <| fun pins s σ H D I hw=>
 NE (h pins s σ H D (I.jK _) hw) (fun _ _ q=>q.aw) fun _ _ z=>False.elim z
end
section
variable{X:Cx}{st:Stmt}{rest:UL}{t u:TS}{e:Expr}{te:TE}{pos:Pos}
def Mr:TS:=fun D σ H=>D.nx σ H
def Oa(t u:TS):TS:=fun D σ H=>t { D with nx:=u D } σ H
theorem GC:pN X [] Mr:=.of <| fun _ _ σ H _ I h=>Ti ⟨σ,H,I,h⟩
theorem CP(d:PS X st t)(c:pN X rest u):pN X (st::rest) (Oa t u):=by
 refine .of ?_
 intro pins s σ H D I h
 refine wpAny_execs_cons (y3 (d pins s σ H { D with nx:=u D } I h) fun f b q=>?_)
 cases f with
 | next=>
  obtain⟨a,i,g,q⟩:=q
  exact c pins b a i D g q
 | ret v=>exact q
 | brk=>exact q
 | cont=>exact q
theorem Fz(a:PS X st t):pN X [st] t:=by
 refine .of ?_
 intro pins s σ H D I h
 refine wpAny_execs_cons (y3 (a pins s σ H D I h) fun f b q=>?_)
 cases f with
 | next=>exact Ti q
 | ret v=>exact q
 | brk=>exact q
 | cont=>exact q
theorem Inv.quiet{pins:TZ}{σ:St}{H:Hp}{s:Shared}(I:Inv X pins σ H s):interactive X.env=false:=by simp[interactive,I.ok.kind]
def Mu(te:TE):TS:=fun D σ H=>te σ H fun _ a=>D.nx σ a
theorem Gz(c:PE X e te)(b:swapsWith e none pos.line X.env=pure false:=by rfl):PS X (.Expr e pos) (Mu te):=by
 refine .of ?_
 intro pins s σ H D I h
 exact wpAny_Expr_any (y3 (c pins s σ H _ I h) fun v i ⟨x,g,d,j,a⟩=>⟨σ,g,d,a⟩) I.quiet b
def OJ(te:TE):TS:=fun D σ H=>te σ H D.rt
theorem yY(c:PE X e te):PS X (.Return (some e) pos) (OJ te):=by
 refine .of ?_
 intro pins s σ H D I h
 exact wpAny_Return_some (y3 (c pins s σ H _ I h) fun v i ⟨x,g,d,a,b⟩=>⟨x,σ,g,d,a,b⟩)
def NW(c:TT)(t u:TS):TS:=fun D σ H=>c σ H fun b a=>if b=true then t D σ a else u D σ a
theorem MY{c:Expr}{a b:UL}{tc:TT}(o:PT X c tc)(q:pN X a t)(p:pN X b u):PS X (.If c a b pos) (NW tc t u):=by
 refine .of ?_
 intro pins s σ H D I h
 refine wpAny_If (y3 (o pins s σ H _ I h) fun d g ⟨l,j,i⟩=>?_)
 cases d with
 | true=>exact q pins g σ l D j i
 | false=>exact p pins g σ l D j i
def JV:TS:=fun _ _ _=>False
theorem AG:PS X st JV:=.of <| fun _ _ _ _ _ _ h=>h.elim
end
abbrev TG:=V->St->Hp->(St->Hp->Prop)->Prop
abbrev ES:=List V->St->Hp->(St->Hp->Prop)->Prop
structure PG(X:Cx)(target:Expr)(t:TG) : Prop where
 of ::
 run :
 ∀(pins:TZ) (s:Shared) (σ:St) (H:Hp) (v:V) (u:Value) (Q:St->Hp->Prop),Inv X pins σ H s->RelV v u->t v σ H Q ->
  wpAny (model X.prog X.w) X.A (assign target X.env u) (fun _ s'=>∃σ' H',Inv X pins σ' H' s'/\Q σ' H') X.xe s
instance {X:Cx} {target:Expr} {t:TG} : CoeFun (PG X target t) fun _=>
 ∀(pins:TZ) (s:Shared) (σ:St) (H:Hp) (v:V) (u:Value) (Q:St->Hp->Prop),Inv X pins σ H s->RelV v u->t v σ H Q ->
  wpAny (model X.prog X.w) X.A (assign target X.env u) (fun _ s'=>∃σ' H',Inv X pins σ' H' s'/\Q σ' H') X.xe s:=⟨PG.run⟩
structure Dx(X:Cx)(ts:UG)(t:ES) : Prop where
 of ::
 run :
 ∀(pins:TZ) (s:Shared) (σ:St) (H:Hp) (vs:List V) (us:UF) (Q:St->Hp->Prop),Inv X pins σ H s->Vals vs us->t vs σ H Q ->
  wpAny (model X.prog X.w) X.A (assignInOrder ((assignEach ts X.env).map (·.2)) us) (fun _ s'=>∃σ' H',Inv X pins σ' H' s'/\Q σ' H') X.xe s
instance {X:Cx} {ts:UG} {t:ES} : CoeFun (Dx X ts t) fun _=>
 ∀(pins:TZ) (s:Shared) (σ:St) (H:Hp) (vs:List V) (us:UF) (Q:St->Hp->Prop),Inv X pins σ H s->Vals vs us->t vs σ H Q ->
  wpAny (model X.prog X.w) X.A (assignInOrder ((assignEach ts X.env).map (·.2)) us) (fun _ s'=>∃σ' H',Inv X pins σ' H' s'/\Q σ' H') X.xe s:=⟨Dx.run⟩
abbrev IL:=V->V->V->Hp->(Hp->Prop)->Prop
def Mn(X:Cx)(t:IL):Prop:=
 ∀(pins:TZ) (s:Shared) (σ:St) (H:Hp) (o i v:V) (a b u:Value) (Q:Hp->Prop),Inv X pins σ H s->RelV o a->RelV i b->RelV v u->t o i v H Q ->
  wpAny (model X.prog X.w) X.A (setItem a b u) (fun _ d=>∃c,Inv X pins σ c d/\Q c) X.xe s
abbrev NJ:=V->V->Hp->VK->Prop
def Pt(X:Cx)(op:Operator)(t:NJ):Prop:=
 ∀(pins:TZ) (s:Shared) (σ:St) (H:Hp) (x y:V) (v u:Value) (Q:VK),Inv X pins σ H s->RelV x v->RelV y u->t x y H Q ->
  wpAny (model X.prog X.w) X.A (inplaceOp op v u) (EP X pins σ Q) X.xe s
section
variable{X:Cx}{pos:Pos}
def kA(i:Nat):TG:=fun v σ H Q=>Q (σ.set i (some v)) H
theorem mw{i:Nat}{x:Str}(d:X.N.Nodup)(b:X.N[i]?=some x)(a:Loc X.env.scope x)(c:X.fn x=true\/X.env.scope.names.lookup x=some .local:=by first | exact .inl rfl | exact .inr rfl | assumption):PG X (.Name x pos) (kA i):=by
 refine .of ?_
 intro pins s σ H v u Q I r h
 exact SS (aF I d b a r (fun g e=>⟨_,H,e,h⟩) c)
def Oz:ES:=fun vs σ H Q=>vs=[]/\Q σ H
def Md(t:TG)(u:ES):ES:=fun vs σ H Q=>∃v r,vs=v::r/\t v σ H fun a b=>u r a b Q
theorem EF:Dx X [] Oz:=by
 refine .of ?_
 intro pins s σ H vs a Q I r h
 obtain⟨e,h⟩:=h
 subst e
 cases r
 exact assignInOrder_nil ⟨σ,H,I,h⟩
theorem Di{e:Expr}{a:UG}{t:TG}{u:ES}(l:PG X e t)(j:Dx X a u)
  (i:(assignEach (e::a) X.env).map (·.2)=assign e X.env::(assignEach a X.env).map (·.2):=by rfl):Dx X (e::a) (Md t u):=by
 refine .of ?_
 intro pins s σ H vs y Q I r h
 obtain⟨v,x,o,h⟩:=h
 subst o
 cases r with
 | cons r d=>
  rw[i]
  refine assignInOrder_cons (y3 (l pins s σ H _ _ _ I r h) fun _ c ⟨b,q,p,g⟩=>?_)
  exact j pins c b q _ _ Q p d g
def Mg(K:UP)(n:Nat)(t:ES):TG:=fun v σ H Q=>∃a xs,v=.ref a/\Q0 K H a xs/\xs.length=n/\t xs σ H Q
theorem lM{c:UG}{k:Nat}{t:ES}{n:Nat}(q:X.calm=true)(h:Dx X c t)
  (l:(assignEach c X.env).length=n:=by rfl) (d:(assignEach c X.env).findIdx? (·.1)=none:=by rfl):PG X (.Tuple c k pos) (Mg X.K n t):=by
 refine .of ?_
 intro pins s σ H v u Q I r hw
 obtain⟨a,xs,x,j,p,hw⟩:=hw
 subst x
 cases r
 obtain⟨its,rv,i,hz⟩:=I.tuple j
 refine assign_Tuple_tuple (I.ok.hd q) i (by simp[l,<-p,rv.length]) d fun h' g=>?_
 have y:Inv X pins σ H { s with heap:=h' }:=I.kept (t':=s.toks) fun b o e=>g b o (Ew (AT e)) e
 exact h pins _ σ H xs _ Q y (by simpa using rv) hw
def aa(a b:TE)(t:IL):TG:=fun v σ H Q=>a σ H fun o e=>b σ e fun i d=>t o i v d fun c=>Q σ c
theorem ij{o i:Expr}{c d:TE}{t:IL}(C:PE X o c)(E:PE X i d)(B:Mn X t)
  (G:∀v,assign (.Subscript o i pos) X.env v=(do
   let a <-holding [v] (eval o X.env)
   let b <-holding [v,a] (eval i X.env)
   standAt pos
   holding [v,a,b] (setItem a b v)
   release [v,a,b] []):=by intro _;rfl):PG X (.Subscript o i pos) (aa c d t):=by
 refine .of ?_
 intro pins s σ H v u Q I r h
 rw[G]
 refine dL (Qq (y3 (C pins s σ H _ I h) fun a g ⟨x,T,O,l,z⟩=>?_))
 refine dL (Qq (y3 (E pins g σ T _ O z) fun b e ⟨y,S,M,j,q⟩=>?_))
 refine dL (Ra (dL (Qq (y3 (B pins e σ S x y v a b u _ M l j r q) fun _ U ⟨R,J,p⟩=>?_))))
 exact wpAny_release ⟨σ,R,J,p⟩
def si(te:TE)(g:TG):TS:=fun D σ H=>te σ H fun x a=>g x σ a D.nx
theorem dM{a e:Expr}{te:TE}{g:TG}(l:PE X e te)(j:PG X a g)(i:swapsWithSole [a] e pos.line X.env=pure false:=by rfl)(hw:swappedStores [a] e X.env=pure none:=by rfl)
  (o:(assignEach [a] X.env).map (·.2)=[assign a X.env]:=by rfl):PS X (.Assign [a] e pos) (si te g):=by
 refine .of ?_
 intro pins s σ H D I h
 refine wpAny_Assign_stores (y3 (l pins s σ H _ I h) fun v b ⟨x,r,p,c,d⟩=>?_) i hw
 rw[o]
 exact y3 (j pins b σ r x v _ p c d) fun _ u q=>q
theorem Dk{i:Nat}{x:Str}{e:Expr}{te:TE}{a:Pos}(p:X.N.Nodup)(j:X.N[i]?=some x)(d:Loc X.env.scope x)(o:PE X e te)(g:swapsWith e (some (.Name x a)) pos.line X.env=pure false:=by rfl)(l:X.fn x=true\/X.env.scope.names.lookup x=some .local:=by first | exact .inl rfl | exact .inr rfl | assumption) :
  PS X (.Assign [.Name x a] e pos) (si te (kA i)):=by
 refine .of ?_
 intro pins s σ H D I h
 refine wpAny_Assign_Name (y3 (o pins s σ H _ I h) fun v B ⟨y,u,r,b,c⟩=>?_) g
 exact aF r p j d b (fun z q=>⟨_,u,q,c⟩) l
def NR(i j:Nat)(a:TA):TS:=fun D σ H=>a σ H fun vs b=>∃v w,vs=[v,w]/\D.nx ((σ.set i (some v)).set j (some w)) b
theorem JR{i j:Nat}{x y:Str}{a b:Expr}{G:TA}{z u pt:Pos}{B k2 c}(hc:X.calm=true)(O:X.N.Nodup)(hi:X.N[i]?=some x)(hj:X.N[j]?=some y)(E:i≠j)
  (M:X.env.scope.names.lookup x=some .local) (J:X.env.scope.names.lookup y=some .local) (ha:PA X [a,b] G)
  (hw:swappedStores [.Tuple [.Name x z,.Name y u] B pt] (.Tuple [a,b] k2 c) X.env=pure (some [x,y]))
  (hs:swapsWithSole [.Tuple [.Name x z,.Name y u] B pt] (.Tuple [a,b] k2 c) pos.line X.env=pure false:=by rfl) :
  PS X (.Assign [.Tuple [.Name x z,.Name y u] B pt] (.Tuple [a,b] k2 c) pos) (NR i j G):=by
 refine .of ?_
 intro pins s σ H D I h
 rw[exec_Assign_arm]
 refine dL (Ra ?_)
 rw[hs]
 refine dL (hH ?_)
 rw[wP (by decide)]
 refine dL (Tuple_ (y3 (ha _ pins s σ H _ I h) fun S g ⟨vs,R,I1,T,r⟩=>?_))
 obtain⟨v,w,e1,r⟩:=r
 subst e1
 obtain⟨d,u2,rfl,rv,l⟩:∃d u2,S=[d,u2]/\RelV v d/\RelV w u2:=by
  cases T with
  | cons p q=>
   cases q with
   | cons Y U=>
    cases U
    exact⟨_,_,rfl,p,Y⟩
 refine IR ?_ (by show 2<=sizeLine;decide)
 have I2:Inv X pins σ R { g with heap:=g.heap.push { cls:=.type "tuple",data:=.seq [d,u2].toArray } }:=I1.kept (t':=g.toks) fun b o e=>hD _ e
 rw[hw]
 refine dL (hH ?_)
 show wpAny (model X.prog X.w) X.A (do rule "assign.swapped-stores";let items <-unpackItems (.ref g.heap.objs.size) 2 none;assignInOrder [fun v=>bindName X.env y v,fun v=>bindName X.env x v] items.reverse;pure Flow.next) _ _ _
 refine dL (Sd (dL (unpackItems_tuple (items:=#[d,u2]) (I.ok.hd hc) (IsTup.new g.heap _) fun h' C=>?_)))
 have I3:=I2.kept (h':=h') (t':=g.toks) fun b o e=>C b o (Ew (AT e)) e
 show wpAny _ _ (assignInOrder [fun v=>bindName X.env y v,fun v=>bindName X.env x v] [u2,d] >>= fun _=>pure Flow.next) _ _ _
 refine dL (assignInOrder_cons (wpAny_bindName (aF I3 O hj (.inl J) l (fun s2 I4=>?_) (.inr J))))
 refine assignInOrder_cons (wpAny_bindName (aF I4 O hi (.inl M) rv (fun s3 Q=>assignInOrder_nil (hH ?_)) (.inr M)))
 rw[List.set_comm _ _ (QO E)] at Q
 exact⟨_,R,Q,r⟩
def Ly(i:Nat)(te:TE)(a:NJ):TS:=fun D σ H=>∃x,σ[i]?=some (some x)/\te σ H fun y c=>a x y c fun z b=>D.nx (σ.set i (some z)) b
theorem Ju{i:Nat}{x:Str}{e:Expr}{te:TE}{op:Operator}{q:NJ}{j:Pos}(hN:X.N.Nodup)(B:X.N[i]?=some x)(p:Loc X.env.scope x)(U:PE X e te)(O:Pt X op q)(T:X.fn x=true\/X.env.scope.names.lookup x=some .local:=by first | exact .inl rfl | exact .inr rfl | assumption) :
  PS X (.AugAssign (.Name x j) op e pos) (Ly i te q):=by
 refine .of ?_
 intro pins s σ H D I h
 obtain⟨v,e1,h⟩:=h
 obtain⟨m,Q,S⟩:=I.loc
 have o:Le X.env.scope x:=by rcases p with k | k;exact .inl k;exact .inr (.inl k)
 obtain⟨u,r,l⟩:=S i x v B e1 o
 refine wpAny_AugAssign_Name ?_
 have go:wpAny (model X.prog X.w) X.A (eval e X.env) (fun w g=>wpAny (model X.prog X.w) X.A (inplaceOp op u w) (fun r d=>wpAny (model X.prog X.w) X.A (storeName X.env x r) (fun _=>SP X pins D .next) X.xe d) X.xe g) X.xe s:=by
  refine y3 (U pins s σ H _ I h) fun w C ⟨y,H1,I1,G,M⟩=>?_
  refine y3 (O pins C σ H1 v y u w _ I1 r G M) fun z s2 ⟨zv,H2,I2,E,J⟩=>?_
  exact aF I2 hN B p E (fun s3 I3=>⟨_,H2,I3,J⟩) T
 rcases l with⟨a,R⟩ | ⟨a,c,Y,b⟩
 ·exact wpAny_loadName_local I.ok.kind a Q R go
 ·rcases a with a | a
  ·exact wpAny_loadName_cell I.ok.kind a Y b go
  ·rcases p with k | k
   ·have:X.env.scope.names.lookup x=some .free:=a
    rw[k] at this;cases this
   ·have:X.env.scope.names.lookup x=some .free:=a
    rw[k] at this;cases this
def Px(f:Int->Int->Int):NJ:=fun x y H Q=>∃i j,x=.int i/\y=.int j/\Q (.int (f i j)) H
theorem Cn:Pt X .Add (Px fun i j=>i+j):=by
 intro pins s σ H x y v u Q I b a h
 obtain⟨i,j,d,c,q⟩:=h
 subst d;subst c
 obtain⟨t,rfl⟩:=b
 obtain⟨t',rfl⟩:=a
 exact iadd_int ⟨.int _,H,I.tok _,⟨_,rfl⟩,q⟩
end
section
variable{X:Cx}{pos:Pos}
def Iu(c:TT)(h:TS):TS:=fun D σ H=>∃W:Nat->St->Hp->Prop,(∃m,W m σ H)/\∀m σ H,W m σ H ->
 c σ H fun b e=>if b=true then ∃N:St->Hp->Prop,(∀a g,N a g->∃d,d<m/\W d a g)/\h { D with nx:=N,ct:=N,bk:=D.nx } σ e else D.nx σ e
theorem An{c:Expr}{body:UL}{tc:TT}{x:TS}(y:PassesOwn (model X.prog X.w) X.A X.env X.xe)(T:PT X c tc)(U:pN X body x):PS X (.While c body [] pos) (Iu tc x):=by
 refine .of ?_
 intro pins s σ H D I h
 obtain⟨W,⟨S,M⟩,g⟩:=h
 refine wpAny_While (codeAny_whileLoop (fun n R=>∃e G,Inv X pins e G R/\W n e G) ?_ S ⟨σ,H,I,M⟩)
 rintro n Q ⟨d,E,Y,J⟩
 refine RL y (y3 (T pins Q d E _ Y (g n d E J)) fun b O ⟨C,B,l⟩=>?_)
 cases b with
 | true=>
  obtain⟨N,z,l⟩:=l
  rw[wS rfl]
  refine RL y (y3 (U pins O d C _ B l) fun f s3 j=>?_)
  cases f with
  | next=>
   obtain⟨a,i,u,p⟩:=j
   obtain⟨q,r,o⟩:=z a i p
   exact⟨q,r,a,i,u,o⟩
  | cont=>
   obtain⟨a,i,u,p⟩:=j
   obtain⟨q,r,o⟩:=z a i p
   exact⟨q,r,a,i,u,o⟩
  | brk=>exact j
  | ret v=>exact j
 | false=>
  rw[wP tL]
  exact Ti ⟨d,C,B,l⟩
end
structure It where
 go:Nat->Hp->Prop
 yld:Nat->Hp->V->Hp->Prop
 stop:Nat->Hp->Prop
def M7(X:Cx)(pins:TZ)(H:Hp)(b:Addr):Prop:=
 H b=none/\b≠X.env.locals/\b∉X.fs/\(b∈X.ex\/X.s₀.heap.objs.size<=b)/\(∀x c,X.env.cells.lookup x=some c->c≠b)/\∀p∈X.pn++pins,p.1≠b
theorem Inv.fH{X:Cx}{pins:TZ}{σ:St}{H d:Hp}{s:Shared}{b:Addr}(I:Inv X pins σ H s)(a:s.heap.objs.size<=b)(h:d b=none):M7 X pins d b:=by
 refine⟨h,RN (Gc I.lt a),I.Oe a,.inr (Qv I.sz a),fun x c e z=>?_,fun p g z=>?_⟩
 ·obtain⟨v,q⟩:=I.cell x c e
  exact absurd (Gc q.lt (by rw[z];exact a)) (RD _)
 ·exact absurd (Gc (AT (I.pin p g).1) (by rw[z];exact a)) (RD _)
structure Turn(P:Program)(w:World)(K:UP)(tg:Expr)(J:It)(fp:UD)(it:Addr)(tn:Nat->Heap->Prop):Prop where
 mem:it∈fp
 obj:∀i h,tn i h->∀b∈fp,∃o,h.get? b=some o/\∀v,o.data≠.cell v
 keep:∀i h h',tn i h->(∀b∈fp,∀o,h.get? b=some o->h'.get? b=some o)->tn i h'
 item:∀(X:Cx),X.prog=P->X.w=w->X.K=K->X.calm=true->∀(i:Nat) (pins:TZ) (s:Shared) (σ:St) (H:Hp) (E:UM),Inv X pins σ H s->(∀b∈fp,M7 X pins H b)->tn i s.heap->J.go i H ->
  wpAny (model P w) X.A (pyNext (.ref it)) (fun r s1=>∃u,r=some u /\
   wpAny (model P w) X.A (letOwnedTupleGo tg (.ref it) u) (fun _ s2=>∃x H',Inv X pins σ H' s2/\RelV x u/\J.yld i H x H'/\tn (i+1) s2.heap/\∀b∈fp,H' b=none) E s1) E s
 done:∀(X:Cx),X.prog=P->X.w=w->X.K=K->X.calm=true->∀(i:Nat) (pins:TZ) (s:Shared) (σ:St) (H:Hp) (E:UM),Inv X pins σ H s->(∀b∈fp,M7 X pins H b)->tn i s.heap->J.stop i H ->
  wpAny (model P w) X.A (pyNext (.ref it)) (fun r s1=>r=none/\Inv X pins σ H s1) E s
 self:∀(A:Around) (i:Nat) (s:Shared) (Q:UM) (E:UM),tn i s.heap->Q (.ref it) s->wpAny (model P w) A (pyIter (.ref it)) Q E s
abbrev TI:=St->Hp->(It->Hp->Prop)->Prop
def ON(X:Cx)(pins:TZ)(σ:St)(h:Expr)(R:It->Hp->Prop)(a:Value)(e:Shared):Prop:=
 ∃(it:Addr) (g:UD) (d:Nat->Heap->Prop) (J:It) (c:Hp),a=.ref it/\Inv X pins σ c e/\Turn X.prog X.w X.K h J g it d/\d 0 e.heap/\(∀b∈g,M7 X pins c b)/\R J c
structure PI(X:Cx)(tg iter:Expr)(wi:TI) : Prop where
 of ::
 run :
 ∀(pins:TZ) (s:Shared) (σ:St) (H:Hp) (R:It->Hp->Prop),Inv X pins σ H s->wi σ H R ->
  wpAny (model X.prog X.w) X.A (eval iter X.env) (fun v s1=>wpAny (model X.prog X.w) X.A (pyIter v) (ON X pins σ tg R) X.xe s1) X.xe s
instance {X:Cx} {tg iter:Expr} {wi:TI} : CoeFun (PI X tg iter wi) fun _=>
 ∀(pins:TZ) (s:Shared) (σ:St) (H:Hp) (R:It->Hp->Prop),Inv X pins σ H s->wi σ H R ->
  wpAny (model X.prog X.w) X.A (eval iter X.env) (fun v s1=>wpAny (model X.prog X.w) X.A (pyIter v) (ON X pins σ tg R) X.xe s1) X.xe s:=⟨PI.run⟩
theorem ou{M:Model}{A:Around}{E:UM}{s:Shared}{b:Expr}{it:Addr}{u:Value}{o:Obj}{n:String}{vs:UJ}{Q:Unit->Shared->Prop}(c:s.heap.get? it=some o)(e:o.cls=.type n)(hd:o.data=.fields vs)
    (d:["enumerate","zip","dict_itemiterator","dict_reverseitemiterator","odict_iterator","itertools.zip_longest","itertools.pairwise"].contains n=false) (a:Q () s):wpAny M A (letOwnedTupleGo b (.ref it) u) Q E s:=by
  unfold letOwnedTupleGo
  cases b<;>first
    | exact hH a
    | (cases u<;>first
        | exact hH a
        | (refine dL (wpAny_load c ?_)
           rw[e,hd]
           show wpAny M A (if (["enumerate","zip","dict_itemiterator","dict_reverseitemiterator","odict_iterator","itertools.zip_longest","itertools.pairwise"].contains n&&vs[0]? == some (rawInt _))=true then _ else _) Q E s
           rw[wP (by intro h;rw[d,Bool.false_and] at h;cases h)]
           exact hH a))
def ND(K:UP)(a:Addr):It:=
 ⟨fun i H=>∃xs x,L1 K H a xs/\xs[i]?=some x,fun i H x b=>b=H/\∀xs,L1 K H a xs->xs[i]?=some x,fun i H=>∃xs,L1 K H a xs/\xs.length<=i⟩
def Nz(K:UP)(a:Addr):It:=
 ⟨fun i H=>∃xs x,Q0 K H a xs/\xs[i]?=some x,fun i H x b=>b=H/\∀xs,Q0 K H a xs->xs[i]?=some x,fun i H=>∃xs,Q0 K H a xs/\xs.length<=i⟩
def MC(lo:Int)(n:Nat):It:=⟨fun i _=>i<n,fun i H x a=>a=H/\x=.int (lo+i),fun i _=>n<=i⟩
theorem xS{P:Program}{w:World}{K:UP}{S:Expr}(a it:Addr):Turn P w K S (ND K a) [it] it (fun i h=>h.IsListIter it a i) where
 mem:=by simp
 obj:=fun i h st b g=>by
  have e:b=it:=by simpa using g
  subst e
  obtain⟨o,e,c,d⟩:=st
  exact⟨o,e,fun v z=>by rw[d] at z;cases z⟩
 keep:=fun i h h' st k=>st.at fun o e=>k it (by simp) o e
 item:=by
  intro X B hw C R i pins s σ H E I q st y
  subst B hw C
  obtain⟨xs,x,l,r⟩:=y
  obtain⟨its,rv,p,hz⟩:=I.list l
  obtain⟨u,hu,U⟩:=rv.get r
  obtain⟨Q,O,f2,M,J,G⟩:=q it (by simp)
  refine wpAny_pyNext_list_item st p.isList (x:=u) (by simpa using hu) fun h' j T=>?_
  have I1:Inv X pins σ H { s with heap:=h' }:=I.turned (t':=s.toks) (fun b o g e=>(T.2 b g).trans e) Q O M J G
  obtain⟨o,e,c,d⟩:=id j
  exact⟨u,rfl,ou (s:={ s with heap:=h' }) e c d (by decide) ⟨x,H,I1,U,⟨rfl,fun ys Y=>by rw[I.pM Y l];exact r⟩,j,fun b g=>(q b g).1⟩⟩
 done:=by
  intro X B hw C R i pins s σ H E I q st y
  subst B hw C
  obtain⟨xs,l,r⟩:=y
  obtain⟨its,rv,p,hz⟩:=I.list l
  obtain⟨Q,O,f2,M,J,G⟩:=q it (by simp)
  have hl:=rv.length
  exact wpAny_pyNext_list_end (I.ok.hd R) st p.isList (by simp;omega) fun h' eb=>⟨rfl,I.turned (t':=s.toks) (fun b o g e=>eb b o g e) Q O M J G⟩
 self:=fun _ _ _ _ _ st h=>wpAny_pyIter_listiter st h
theorem iQ{P:Program}{w:World}{K:UP}{S:Expr}(a it:Addr):Turn P w K S (Nz K a) [it] it (fun i h=>h.IsTupleIter it a i) where
 mem:=by simp
 obj:=fun i h st b g=>by
  have e:b=it:=by simpa using g
  subst e
  obtain⟨o,e,c,d⟩:=st
  exact⟨o,e,fun v z=>by rw[d] at z;cases z⟩
 keep:=fun i h h' st k=>st.at fun o e=>k it (by simp) o e
 item:=by
  intro X B hw C R i pins s σ H E I q st y
  subst B hw C
  obtain⟨xs,x,l,r⟩:=y
  obtain⟨its,rv,p,hz⟩:=I.tuple l
  obtain⟨u,hu,U⟩:=rv.get r
  obtain⟨Q,O,f2,M,J,G⟩:=q it (by simp)
  refine wpAny_pyNext_tuple_item st (show s.heap.IsTuple a its.toArray from p) (x:=u) (by simpa using hu) fun h' j T=>?_
  have I1:Inv X pins σ H { s with heap:=h' }:=I.turned (t':=s.toks) (fun b o g e=>(T.2 b g).trans e) Q O M J G
  obtain⟨o,e,c,d⟩:=id j
  exact⟨u,rfl,ou (s:={ s with heap:=h' }) e c d (by decide) ⟨x,H,I1,U,⟨rfl,fun ys Y=>by rw[I.kj Y l];exact r⟩,j,fun b g=>(q b g).1⟩⟩
 done:=by
  intro X B hw C R i pins s σ H E I q st y
  subst B hw C
  obtain⟨xs,l,r⟩:=y
  obtain⟨its,rv,p,hz⟩:=I.tuple l
  obtain⟨Q,O,f2,M,J,G⟩:=q it (by simp)
  have hl:=rv.length
  exact wpAny_pyNext_tuple_end (I.ok.hd R) st (show s.heap.IsTuple a its.toArray from p) (by simp;omega) fun h' eb=>⟨rfl,I.turned (t':=s.toks) (fun b o g e=>eb b o g e) Q O M J G⟩
 self:=fun _ _ _ _ _ st h=>wpAny_pyIter_tupleiter st h
theorem sN{P:Program}{w:World}{K:UP}{C:Expr}(it:Addr)(lo:Int)(n:Nat):Turn P w K C (MC lo n) [it] it (fun i h=>IsRangeIter h it (lo+(i:Nat)*1) ((n:Int)-(i:Nat)) 1) where
 mem:=by simp
 obj:=fun i h st b a=>by
  have e:b=it:=by simpa using a
  subst e
  exact⟨_,st,fun v z=>by
   have B:Data.fields _=Data.cell v:=z
   cases B⟩
 keep:=fun i h h' st k=>k it (by simp) _ st
 item:=by
  intro X l hw p j i pins s σ H E I d st g
  subst l hw p
  obtain⟨y,x,M,u,r,q⟩:=d it (by simp)
  have W:=Walks.range (prog:=X.prog) (w:=X.w) (I.ok.hd j) it lo 1 n
  refine W.item i s _ _ g st fun v h' tk J c G=>?_
  obtain⟨t,rfl⟩:=J
  have Q:Inv X pins σ H { s with heap:=h',toks:=tk }:=I.turned (fun b o a e=>G b o (by simpa using a) e) y x u r q
  refine⟨_,rfl,ou (s:={ s with heap:=h',toks:=tk }) (n:="range_iterator") c rfl rfl (by decide) ⟨.int (lo+i),H,Q,⟨t,?_⟩,⟨rfl,rfl⟩,c,fun b a=>(d b a).1⟩⟩
  rw[Int.mul_one]
 done:=by
  intro X l hw p j i pins s σ H E I d st g
  subst l hw p
  obtain⟨y,x,M,u,r,q⟩:=d it (by simp)
  exact wpAny_pyNext_range_end (I.ok.hd j) st (by have:n<=i:=g;omega) fun h' O=>⟨rfl,I.turned (t':=s.toks) (fun b o a e=>O b o a e) y x u r q⟩
 self:=fun _ _ _ _ _ st h=>wpAny_pyIter_rangeiter st h
section
variable{X:Cx}{tg:Expr}
def Ow(K:UP)(c:TE):TI:=fun σ H R=>c σ H fun x b=>∃a,x=.ref a/\(∃xs,Q0 K b a xs)/\R (Nz K a) b
theorem Jy{l:Expr}{g:TE}(u:PE X l g):PI X tg l (Ow X.K g):=by
 refine .of ?_
 intro pins s σ H R I h
 refine y3 (u pins s σ H _ I h) fun v c ⟨x,z,d,i,j⟩=>?_
 obtain⟨a,e,⟨xs,r⟩,q⟩:=j
 subst e
 cases i
 obtain⟨its,rv,p,hz⟩:=d.tuple r
 refine TF (show c.heap.IsTuple a its.toArray from p) ?_
 refine⟨c.heap.objs.size,[c.heap.objs.size],_,_,z,rfl,d.kept (t':=c.toks) fun b o e=>hD _ e,iQ a _,⟨_,At _ rfl,rfl,rfl⟩,fun b y=>?_,q⟩
 have e:b=c.heap.objs.size:=by simpa using y
 subst e
 exact d.fH (sK _) (d.hok.fresh (sK _))
theorem ot{pins:TZ}{σ:St}{H:Hp}{s:Shared}{R:It->Hp->Prop}{E:UM}{lo a:Int}{t u v:Tok}{tk:Nat}(I:Inv X pins σ H s)(j:-(2^62)<=lo)(i:lo<2^62)(h:-(2^62)<=a)(g:a<2^62)
  (q:R (MC lo (a-lo).toNat) H):wpAny (model X.prog X.w) X.A (pyIter (.ref s.heap.objs.size)) (ON X pins σ tg R) E { s with heap:=s.heap.push { cls:=.type "range",data:=.fields #[.int lo t,.int a u,.int 1 v] },toks:=tk }:=by
 refine wpAny_pyIter_range (IsRange.new ..) (small_one j i h g) ?_
 have c:Inv X pins σ H { s with heap:=s.heap.push { cls:=.type "range",data:=.fields #[.int lo t,.int a u,.int 1 v] },toks:=tk }:=I.kept fun b o e=>hD _ e
 refine⟨(s.heap.push { cls:=.type "range",data:=.fields #[.int lo t,.int a u,.int 1 v] }).objs.size,[(s.heap.push { cls:=.type "range",data:=.fields #[.int lo t,.int a u,.int 1 v] }).objs.size],_,_,H,rfl,
  c.kept (t':=tk) fun b o e=>hD _ e,sN _ lo (a-lo).toNat,?_,fun b d=>?_,q⟩
 ·have p:lo+((0:Nat):Int)*1=lo:=by simp
  have l:(((a-lo).toNat:Nat):Int)-((0:Nat):Int)=Builtin.Range.rangeSize lo a 1:=by rw[rangeSize_one];split<;>omega
  show IsRangeIter _ _ (lo+((0:Nat):Int)*1) ((((a-lo).toNat:Nat):Int)-((0:Nat):Int)) 1
  rw[p,l]
  exact At _ rfl
 ·have e:b=(s.heap.push { cls:=.type "range",data:=.fields #[.int lo t,.int a u,.int 1 v] }).objs.size:=by simpa using d
  subst e
  exact c.fH (sK _) (c.hok.fresh (sK _))
def zN(a:TA):TI:=fun σ H R=>a σ H fun vs b=>∃j:Int,vs=[.int j]/\-(2^62)<=j/\j<2^62/\R (MC 0 j.toNat) b
def He(a:TA):TI:=fun σ H R=>a σ H fun vs b=>∃i j:Int,vs=[.int i,.int j]/\(-(2^62)<=i/\i<2^62/\-(2^62)<=j/\j<2^62)/\R (MC i (j-i).toNat) b
theorem K8 {a:Expr} {d:TA} {p b:Pos} (v:Gl X "range") (u:X.mg "range"=none) (x:PA X [a] d) (o:starEach [a] X.env=[(false,eval a X.env)]:=by rfl):PI X tg (.Call (.Name "range" p) [a] [] b) (zN d):=by
 refine .of ?_
 intro pins s σ H R I h
 refine Call_ (bW I v u boot_range (RH (y3 (x b pins s σ H _ I h) fun z B ⟨vs,C,y,i,c⟩=>?_) o rfl))
 obtain⟨j,e,c,l,q⟩:=c
 subst e
 cases i with
 | cons r g=>
  cases g
  obtain⟨t,rfl⟩:=r
  exact call_range_1 (ot y (by omega) (by omega) c l (by simpa using q))
theorem dO {a b:Expr} {o:TA} {p c:Pos} (E:Gl X "range") (C:X.mg "range"=none) (G:PA X [a,b] o) (B:starEach [a,b] X.env=[(false,eval a X.env),(false,eval b X.env)]:=by rfl) (d:starEach [b] X.env=[(false,eval b X.env)]:=by rfl) :
  PI X tg (.Call (.Name "range" p) [a,b] [] c) (He o):=by
 refine .of ?_
 intro pins s σ H R I h
 refine Call_ (bW I E C boot_range (RH (y3 (G c pins s σ H _ I h) fun M O ⟨vs,Q,J,u,l⟩=>?_) (by rw[B,d]) (by rw[d];rfl)))
 obtain⟨i,j,e,⟨l,z,y,x⟩,q⟩:=l
 subst e
 cases u with
 | cons r g=>
  cases g with
  | cons v g=>
   cases g
   obtain⟨t,rfl⟩:=r
   obtain⟨t',rfl⟩:=v
   exact call_range_2 (ot J l z y x q)
def Nn(e:TI)(g:TG)(h:TS):TS:=fun D σ H=>e σ H fun J l=>∃W:Nat->Nat->St->Hp->Prop,(∃m,W 0 m σ l)/\∀i m σ H,W i m σ H ->
 (J.stop i H/\D.nx σ H)\/(J.go i H/\∃N:St->Hp->Prop,(∀a b,N a b->∃d,d<m/\W (i+1) d a b)/\∀x b,J.yld i H x b->g x σ b fun c j=>h { D with nx:=N,ct:=N,bk:=D.nx } c j)
def aQ(a:UD)(h:Heap):TZ:=a.filterMap fun b=>(h.get? b).map fun o=>(b,o)
theorem C3{a:UD}{h:Heap}{b:Addr}{o:Obj}(c:b∈a)(e:h.get? b=some o):(b,o)∈aQ a h:=List.mem_filterMap.mpr ⟨b,c,by rw[e];rfl⟩
theorem yb{a:UD}{h:Heap}{p:Addr×Obj}(c:p∈aQ a h):p.1∈a/\h.get? p.1=some p.2:=by
 obtain⟨b,d,e⟩:=List.mem_filterMap.mp c
 cases q:h.get? b with
 | none=>rw[q] at e;cases e
 | some o=>
  rw[q] at e
  have g:(b,o)=p:=Qn e
  subst g
  exact⟨d,q⟩
theorem Inv.pinned{pins:TZ}{σ:St}{H:Hp}{s:Shared}{a:UD}(I:Inv X pins σ H s)(j:∀b∈a,M7 X pins H b)(i:∀b∈a,∃o,s.heap.get? b=some o/\∀v,o.data≠.cell v):Inv X (pins++aQ a s.heap) σ H s:=
 I.wt fun p h=>(List.mem_append.mp h).elim (fun z=>I.pin p (wT _ z)) fun z=>by
  obtain⟨c,e⟩:=yb z
  obtain⟨r,q,l,_⟩:=j p.1 c
  obtain⟨o,g,d⟩:=i p.1 c
  rw[e] at g;cases g
  exact⟨e,r,q,l,d⟩
theorem Inv.R3{pins pl:TZ}{σ:St}{H:Hp}{s:Shared}(I:Inv X (pins++pl) σ H s):Inv X pins σ H s:=I.wt fun p a=>I.pin p (wT _ (FM _ a))
theorem C9{p:Expr}{body:UL}{wi:TI}{g:TG}{tb:TS}{a1:Pos}(Q:PassesOwn (model X.prog X.w) X.A X.env X.xe)(hc:X.calm=true)(hi:PI X tg p wi)(hg:PG X tg g)(q:pN X body tb)
  (hs:∀x,foldedSetIterable p X.env x=pure x:=by intro _;rfl):PS X (.For tg p body [] a1) (Nn wi g tb):=by
 refine .of ?_
 intro pins s σ H D I h
 refine wpAny_For (y3 (hi pins s σ H _ I h) fun v s1 h1=>y3 h1 fun a4 s2 h2=>?_) hs
 obtain⟨it,S,tn,J,H2,e,I2,T,a0,f2,W,⟨m0,w0⟩,G⟩:=h2
 subst e
 have l:∀{B:Hp},(∀b∈S,B b=none)->∀b∈S,M7 X pins B b:=fun hn b q=>⟨hn b q,(f2 b q).2⟩
 refine codeAny_forLoop_any (fun n s'=>∃i j B,Inv X pins j B s'/\tn i s'.heap/\(∀b∈S,B b=none)/\W i n j B) ?_ m0 ⟨0,σ,H2,I2,a0,fun b q=>(f2 b q).1,w0⟩
 rintro n s3 ⟨i,c,U,I3,M,R,w3⟩
 rcases G i n c U w3 with⟨stop,qn⟩ | ⟨go,N,hN,step⟩
 ·refine RL Q (y3 (T.done X rfl rfl rfl hc i pins s3 c U X.xe I3 (l R) M stop) fun r s4 ⟨hr,I4⟩=>?_)
  subst hr
  exact Ti ⟨c,U,I4,qn⟩
 ·refine RL Q (y3 (T.item X rfl rfl rfl hc i pins s3 c U X.xe I3 (l R) M go) fun r s4 ⟨u,hr,h4⟩=>?_)
  subst hr
  refine RL Q (y3 h4 fun _ s5 ⟨x,H5,I5,r5,y5,E,a2⟩=>?_)
  have a3:=I5.pinned (l a2) (T.obj _ _ E)
  refine RL Q (y3 (hg _ s5 c H5 x u _ a3 r5 (step x H5 y5)) fun _ s6 ⟨Y,H6,I6,q6⟩=>?_)
  refine RL Q (y3 (q _ s6 Y H6 _ I6 q6) fun f s7 C=>?_)
  have again:∀{a:St} {z:Hp},Inv X (pins++aQ S s5.heap) a z s7->N a z->∃m,m<n/\∃i j B,Inv X pins j B s7/\tn i s7.heap/\(∀b∈S,B b=none)/\W i m j B:=fun {a z} y O=>by
   obtain⟨m',hm,w7⟩:=hN a z O
   refine⟨m',hm,i+1,a,z,y.R3,T.keep _ _ _ E fun b q o e=>(y.pin (b,o) (wT _ (wT _ (C3 q e)))).1,fun b q=>?_,w7⟩
   obtain⟨o,e,d⟩:=T.obj _ _ E b q
   exact(y.pin (b,o) (wT _ (wT _ (C3 q e)))).2.1
  cases f with
  | next=>obtain⟨a,z,y,O⟩:=C;exact again y O
  | cont=>obtain⟨a,z,y,O⟩:=C;exact again y O
  | brk=>obtain⟨a,z,y,C⟩:=C;exact⟨a,z,y.R3,C⟩
  | ret v=>obtain⟨x7,a,z,y,r7,C⟩:=C;exact⟨x7,a,z,y.R3,r7,C⟩
end
abbrev R2:=V->V->Hp->VK->Prop
def O1(X:Cx)(f:Value->Value->Sem Value)(r:R2):Prop:=
 ∀(pins:TZ) (s:Shared) (σ:St) (H:Hp) (x y:V) (v u:Value) (Q:VK),Inv X pins σ H s->RelV x v->RelV y u->r x y H Q ->
  wpAny (model X.prog X.w) X.A (f v u) (EP X pins σ Q) X.xe s
def Ou(X:Cx)(f:Value->Sem Value)(r:V->Hp->VK->Prop):Prop:=
 ∀(pins:TZ) (s:Shared) (σ:St) (H:Hp) (x:V) (v:Value) (Q:VK),Inv X pins σ H s->RelV x v->r x H Q ->
  wpAny (model X.prog X.w) X.A (f v) (EP X pins σ Q) X.xe s
def I0(X:Cx)(f:Value)(r:List V->Hp->VK->Prop):Prop:=
 ∀(pins:TZ) (s:Shared) (σ:St) (H:Hp) (xs:List V) (a:UF) (Q:VK),Inv X pins σ H s->Vals xs a->r xs H Q ->
  wpAny (model X.prog X.w) X.A (call f a) (EP X pins σ Q) X.xe s
def NN(X:Cx)(r:V->Hp->(Bool->Hp->Prop)->Prop):Prop:=
 ∀(pins:TZ) (s:Shared) (σ:St) (H:Hp) (x:V) (v:Value) (Q:Bool->Hp->Prop),Inv X pins σ H s->RelV x v->r x H Q ->
  wpAny (model X.prog X.w) X.A (truthy v) (TP X pins σ Q) X.xe s
def Lg(r:R2)(b a:TE):TE:=fun σ H Q=>b σ H fun x d=>a σ d fun y c=>r x y c Q
def PQ(r:V->Hp->VK->Prop)(a:TE):TE:=fun σ H Q=>a σ H fun x b=>r x b Q
def rI(C:Int->Int->Prop)(g:Int->Int->V):R2:=fun x y H Q=>∃i j,x=.int i/\y=.int j/\C i j/\Q (g i j) H
def yO(g:Int->Int->V):R2:=fun x y H Q=>∃i j,x=.int i/\y=.int j/\Q (g i j) H
def rU(g:Int->V):V->Hp->VK->Prop:=fun x H Q=>∃i,x=.int i/\Q (g i) H
section
variable{X:Cx}{a b c:Expr}{ta tb tc:TE}{pos:Pos}
theorem HX(C:PE X a ta)(B:PE X b tb){pins:TZ}{s:Shared}{σ:St}{H:Hp}{R:V->V->Hp->Prop}(I:Inv X pins σ H s)
  (h:ta σ H fun x j=>tb σ j fun y d=>R x y d) {Q:UM} {f:Value->Value->Sem Value}
  (z:∀v u i x y d,Inv X pins σ d i->RelV x v->RelV y u->R x y d->wpAny (model X.prog X.w) X.A (f v u) Q X.xe i) :
  wpAny (model X.prog X.w) X.A (eval a X.env) (fun v g=>wpAny (model X.prog X.w) X.A (eval b X.env) (fun u e=>wpAny (model X.prog X.w) X.A (f v u) Q X.xe e) X.xe g) X.xe s:=by
 refine y3 (C pins s σ H _ I h) fun v l ⟨x,j,G,p,r⟩=>?_
 refine y3 (B pins l σ j _ G r) fun u i ⟨y,d,E,o,q⟩=>?_
 exact z v u i x y d E p o q
theorem Hl{op:Operator}{r:R2}(i:O1 X (binaryOp op) r)(l:PE X a ta)(j:PE X b tb):PE X (.BinOp a op b pos) (Lg r ta tb):=by
 refine .of ?_
 intro pins s σ H Q I h
 exact wpAny_BinOp (HX l j I h fun v u d x y p o g e q=>i pins d σ p x y v u Q o g e q)
theorem MH{op:UnaryOp}{r:V->Hp->VK->Prop}(i:Ou X (unaryOp op) r)(j:PE X a ta):PE X (.UnaryOp op a pos) (PQ r ta):=by
 refine .of ?_
 intro pins s σ H Q I h
 exact UnaryOp_ (y3 (j pins s σ H _ I h) fun v d ⟨x,o,l,e,g⟩=>i pins d σ o x v Q l e g)
theorem NI{f:Value->Value->Sem Value}{C:Int->Int->Prop}{g:Int->Int->Int}
  (rule:∀(i j:Int) (t u:Tok) (s:Shared) (Q:UM) (E:UM),C i j->Q (.int (g i j) s.toks) { s with toks:=s.toks+1 }->wpAny (model X.prog X.w) X.A (f (.int i t) (.int j u)) Q E s) :
  O1 X f (rI C fun i j=>.int (g i j)):=by
 intro pins s σ H x y v u Q I e d h
 obtain⟨i,j,rfl,rfl,l,q⟩:=h
 obtain⟨t,rfl⟩:=e
 obtain⟨t',rfl⟩:=d
 exact rule i j t t' s _ _ l ⟨.int (g i j),H,I.tok _,⟨_,rfl⟩,q⟩
theorem Nl{f:Value->Value->Sem Value}{g:Int->Int->Int}
  (rule:∀(i j:Int) (t u:Tok) (s:Shared) (Q:UM) (E:UM),Q (.int (g i j) s.toks) { s with toks:=s.toks+1 }->wpAny (model X.prog X.w) X.A (f (.int i t) (.int j u)) Q E s) :
  O1 X f (yO fun i j=>.int (g i j)):=by
 intro pins s σ H x y v u Q I e d h
 obtain⟨i,j,rfl,rfl,q⟩:=h
 obtain⟨t,rfl⟩:=e
 obtain⟨t',rfl⟩:=d
 exact rule i j t t' s _ _ ⟨.int (g i j),H,I.tok _,⟨_,rfl⟩,q⟩
theorem FX{f:Value->Value->Sem Value}{g:Int->Int->Bool}
  (rule:∀(i j:Int) (t u:Tok) (s:Shared) (Q:UM) (E:UM),Q (.bool (g i j)) s->wpAny (model X.prog X.w) X.A (f (.int i t) (.int j u)) Q E s) :
  O1 X f (yO fun i j=>.bl (g i j)):=by
 intro pins s σ H x y v u Q I e d h
 obtain⟨i,j,rfl,rfl,q⟩:=h
 obtain⟨t,rfl⟩:=e
 obtain⟨t',rfl⟩:=d
 exact rule i j t t' s _ _ ⟨.bl (g i j),H,I,rfl,q⟩
def bN(i j:Int):Prop:=0<=j/\j<=1000000/\i.natAbs<2^64
def M3(i j:Int):Prop:=(-(2^64)<i/\i<2^64)\/(-(2^64)<j/\j<2^64)
theorem M3.ok{i j:Int}(h:M3 i j):IntMulOk i j:=by
 rcases h with⟨e,d⟩ | ⟨e,d⟩
 ·exact .of_left (intBits_le_64 e d)
 ·exact .of_right (intBits_le_64 e d)
theorem JG:O1 X (binaryOp .Add) (yO fun i j=>.int (i+j)):=Nl fun _ _ _ _ _ _ _ q=>add_int q
theorem CQ:O1 X (binaryOp .Sub) (yO fun i j=>.int (i-j)):=Nl fun _ _ _ _ _ _ _ q=>sub_int q
theorem KO:O1 X (binaryOp .Mult) (rI M3 fun i j=>.int (i*j)):=NI fun _ _ _ _ _ _ _ d q=>mul_int q d.ok
theorem zU:O1 X (binaryOp .Mod) (rI (fun _ j=>0<j) fun i j=>.int (i%j)):=NI fun i j _ _ _ _ _ d q=>by
 have e:(0:Int)<j:=d
 exact mod_int' (by omega) (by rw[Int.fmod_eq_emod_of_nonneg i (by omega)];exact q)
theorem IT:O1 X (binaryOp .Pow) (rI bN fun i j=>.int (i^j.toNat)):=NI fun _ _ _ _ _ _ _ d q=>pow_int_small d.1 d.2.1 d.2.2 q
theorem Qc{f:Value->Sem Value}{g:Int->Int}
  (rule:∀(i:Int) (t:Tok) (s:Shared) (Q:UM) (E:UM),Q (.int (g i) s.toks) { s with toks:=s.toks+1 }->wpAny (model X.prog X.w) X.A (f (.int i t)) Q E s) :
  Ou X f (rU fun i=>.int (g i)):=by
 intro pins s σ H x v Q I d h
 obtain⟨i,rfl,q⟩:=h
 obtain⟨t,rfl⟩:=d
 exact rule i t s _ _ ⟨.int (g i),H,I.tok _,⟨_,rfl⟩,q⟩
theorem Jb:Ou X (unaryOp .USub) (rU fun i=>.int (-i)):=Qc fun _ _ _ _ _ q=>neg_int q
end
def HR:V->V->Bool
 | .o8,.o8=>true | .o8,.int _=>true | .int _,.o8=>true | .o8,.bl _=>true | .bl _,.o8=>true | .o8,.str _=>true | .str _,.o8=>true
 | .int _,.int _=>true | .bl _,.bl _=>true | .str _,.str _=>true | .byt _,.byt _=>true
 | .int _,.str _=>true | .str _,.int _=>true | .bl _,.str _=>true | .str _,.bl _=>true
 | _,_=>false
def Pj:R2:=fun x y H Q=>HR x y=true/\Q (.bl (decide (x=y))) H
def Pg:R2:=fun x y H Q=>HR x y=true/\Q (.bl (!decide (x=y))) H
theorem wy{i j:Int}:decide (V.int i=V.int j)=(i == j):=by
 rw[SY]
 simp
theorem CJ{i j:Bool}:decide (V.bl i=V.bl j)=(i == j):=by
 rw[SY]
 simp
theorem wq{i j:Str}:decide (V.str i=V.str j)=(i == j):=by
 rw[SY]
 simp
theorem wC{i j:Array UInt8}:decide (V.byt i=V.byt j)=(i.toList == j.toList):=by
 rw[SY]
 cases i
 cases j
 simp
section
variable{X:Cx}{a b c:Expr}{ta tb tc:TE}{pos:Pos}
theorem p6{pins:TZ}{σ:St}{H:Hp}{s:Shared}{Q:VK}{k d:Bool}(I:Inv X pins σ H s)(q:Q (.bl k) H)(e:k=d):EP X pins σ Q (.bool d) s:=by
 subst e
 exact⟨.bl k,H,I,rfl,q⟩
theorem Ds:O1 X (compareOp .Eq) Pj:=by
 intro pins s σ H x y v u Q I g d h
 obtain⟨e,q⟩:=h
 cases x with
 | o8=>
  cases g
  cases y with
  | o8=>cases d;exact PySem.EqNone.eq_none_none (p6 I q (by simp))
  | bl j=>cases d;exact PySem.EqNone.eq_none_bool (p6 I q (by simp))
  | int j=>obtain⟨t',rfl⟩:=d;exact PySem.EqNone.eq_none_int (p6 I q (by simp))
  | str j=>obtain⟨t',rfl⟩:=d;exact PySem.EqNone.eq_none_str (p6 I q (by simp))
  | _=>exact absurd (show false=true from e) tL
 | bl i=>
  cases g
  cases y with
  | o8=>cases d;exact PySem.EqNone.eq_bool_none (p6 I q (by simp))
  | bl j=>cases d;exact eq_bool (p6 I q CJ)
  | str j=>obtain⟨t',rfl⟩:=d;exact PySem.EqMixed.eq_bool_str (p6 I q (by simp))
  | _=>exact absurd (show false=true from e) tL
 | int i=>
  obtain⟨t,rfl⟩:=g
  cases y with
  | o8=>cases d;exact PySem.EqNone.eq_int_none (p6 I q (by simp))
  | int j=>obtain⟨t',rfl⟩:=d;exact eq_int (p6 I q wy)
  | str j=>obtain⟨t',rfl⟩:=d;exact PySem.EqMixed.eq_int_str (p6 I q (by simp))
  | _=>exact absurd (show false=true from e) tL
 | str i=>
  obtain⟨t,rfl⟩:=g
  cases y with
  | o8=>cases d;exact PySem.EqNone.eq_str_none (p6 I q (by simp))
  | bl j=>cases d;exact PySem.EqMixed.eq_str_bool (p6 I q (by simp))
  | int j=>obtain⟨t',rfl⟩:=d;exact PySem.EqMixed.eq_str_int (p6 I q (by simp))
  | str j=>obtain⟨t',rfl⟩:=d;exact eq_str (p6 I q wq)
  | _=>exact absurd (show false=true from e) tL
 | byt i=>
  obtain⟨t,rfl⟩:=g
  cases y with
  | byt j=>obtain⟨t',rfl⟩:=d;exact PySem.W.eq_bytes (p6 I q wC)
  | _=>exact absurd (show false=true from e) tL
 | _=>cases y<;>exact absurd (show false=true from e) tL
theorem Me:O1 X (compareOp .NotEq) Pg:=by
 intro pins s σ H x y v u Q I g d h
 obtain⟨e,q⟩:=h
 cases x with
 | o8=>
  cases g
  cases y with
  | o8=>cases d;exact PySem.EqNone.ne_none_none (p6 I q (by simp))
  | bl j=>cases d;exact PySem.EqNone.ne_none_bool (p6 I q (by simp))
  | int j=>obtain⟨t',rfl⟩:=d;exact PySem.EqNone.ne_none_int (p6 I q (by simp))
  | str j=>obtain⟨t',rfl⟩:=d;exact PySem.EqNone.ne_none_str (p6 I q (by simp))
  | _=>exact absurd (show false=true from e) tL
 | bl i=>
  cases g
  cases y with
  | o8=>cases d;exact PySem.EqNone.ne_bool_none (p6 I q (by simp))
  | bl j=>cases d;exact ne_bool (p6 I q (QV not CJ))
  | str j=>obtain⟨t',rfl⟩:=d;exact PySem.EqMixed.ne_bool_str (p6 I q (by simp))
  | _=>exact absurd (show false=true from e) tL
 | int i=>
  obtain⟨t,rfl⟩:=g
  cases y with
  | o8=>cases d;exact PySem.EqNone.ne_int_none (p6 I q (by simp))
  | int j=>obtain⟨t',rfl⟩:=d;exact ne_int (p6 I q (QV not wy))
  | str j=>obtain⟨t',rfl⟩:=d;exact PySem.EqMixed.ne_int_str (p6 I q (by simp))
  | _=>exact absurd (show false=true from e) tL
 | str i=>
  obtain⟨t,rfl⟩:=g
  cases y with
  | o8=>cases d;exact PySem.EqNone.ne_str_none (p6 I q (by simp))
  | bl j=>cases d;exact PySem.EqMixed.ne_str_bool (p6 I q (by simp))
  | int j=>obtain⟨t',rfl⟩:=d;exact PySem.EqMixed.ne_str_int (p6 I q (by simp))
  | str j=>obtain⟨t',rfl⟩:=d;exact ne_str (p6 I q (QV not wq))
  | _=>exact absurd (show false=true from e) tL
 | byt i=>
  obtain⟨t,rfl⟩:=g
  cases y with
  | byt j=>obtain⟨t',rfl⟩:=d;exact PySem.W.ne_bytes (p6 I q (QV not wC))
  | _=>exact absurd (show false=true from e) tL
 | _=>cases y<;>exact absurd (show false=true from e) tL
theorem Hs:O1 X (compareOp .Lt) (yO fun i j=>.bl (decide (i<j))):=FX fun _ _ _ _ _ _ _ q=>lt_int q
theorem Mi:O1 X (compareOp .LtE) (yO fun i j=>.bl (decide (i<=j))):=FX fun _ _ _ _ _ _ _ q=>le_int q
theorem Cs:O1 X (compareOp .Gt) (yO fun i j=>.bl (decide (j<i))):=FX fun _ _ _ _ _ _ _ q=>gt_int q
theorem ME:O1 X (compareOp .GtE) (yO fun i j=>.bl (decide (j<=i))):=FX fun _ _ _ _ _ _ _ q=>ge_int q
theorem wY:O1 X (compareOp .In) (fun x y H Q=>∃i j,x=.str i/\y=.str j/\Q (.bl (!(Builtin.Str.occurrences j i 0 j.length 1).isEmpty)) H):=by
 intro pins s σ H x y v u Q I e d h
 obtain⟨i,j,rfl,rfl,q⟩:=h
 obtain⟨t,rfl⟩:=e
 obtain⟨t',rfl⟩:=d
 exact in_str (p6 I q rfl)
theorem CT:O1 X (compareOp .Is) (fun x y H Q=>y=.o8/\Q (.bl (decide (x=.o8))) H):=by
 intro pins s σ H x y v u Q I d e h
 obtain⟨rfl,q⟩:=h
 cases e
 refine is_none_gen (p6 I q ?_)
 cases x<;>first
  | (cases d;rfl)
  | (obtain⟨t,rfl⟩:=d;rfl)
theorem EN:O1 X (compareOp .IsNot) (fun x y H Q=>y=.o8/\Q (.bl (!decide (x=.o8))) H):=by
 intro pins s σ H x y v u Q I d e h
 obtain⟨rfl,q⟩:=h
 cases e
 refine isnot_none_gen (p6 I q ?_)
 cases x<;>first
  | (cases d;rfl)
  | (obtain⟨t,rfl⟩:=d;rfl)
theorem lH:O1 X (compareOp .NotIn) (fun x y H Q=>∃i j,x=.str i/\y=.str j/\Q (.bl (!(!(Builtin.Str.occurrences j i 0 j.length 1).isEmpty))) H):=by
 intro pins s σ H x y v u Q I e d h
 obtain⟨i,j,rfl,rfl,q⟩:=h
 obtain⟨t,rfl⟩:=e
 obtain⟨t',rfl⟩:=d
 exact notIn_str (p6 I q rfl)
theorem O1.or{f:Value->Value->Sem Value}{r g:R2}(h:O1 X f r)(h':O1 X f g):O1 X f (fun x y H Q=>r x y H Q\/g x y H Q):=by
 intro pins s σ H x y v u Q I e d q
 rcases q with q | q
 ·exact h pins s σ H x y v u Q I e d q
 ·exact h' pins s σ H x y v u Q I e d q
theorem o9(b:Expr){op:CmpOp}(h:op≠.In:=by decide)(d:op≠.NotIn:=by decide):behindInMarks op b=false:=by
 have g:(op == CmpOp.In)=false:=by cases op<;>first | rfl | exact absurd rfl h
 have e:(op == CmpOp.NotIn)=false:=by cases op<;>first | rfl | exact absurd rfl d
 cases b<;>simp[behindInMarks,g,e]
theorem wo{op:CmpOp}{r:R2}(i:O1 X (compareOp op) r)(o:PE X a ta)(l:PE X b tb)(j:behindInMarks op b=false):PE X (.Compare a [op] [b] pos) (Lg r ta tb):=by
 refine .of ?_
 intro pins s σ H Q I h
 exact wpAny_Compare1 (HX o l I h fun v u d x y z p g e q=>i pins d σ z x y v u Q p g e q) j
def LQ(t:TE):TT:=fun σ H Q=>t σ H fun x d=>∃k,x=.bl k/\Q k d
theorem wz{op:CmpOp}{r:R2}(B:O1 X (compareOp op) r)(G:PE X a ta)(E:PE X b tb)(C:behindInMarks op b=false):PT X (.Compare a [op] [b] pos) (LQ (Lg r ta tb)):=by
 refine .of ?_
 intro pins s σ H Q I h
 refine wpAny_isTrue_Compare1 (y3 (G pins s σ H _ I h) fun v g ⟨x,T,O,l,q⟩=>y3 (E pins g σ T _ O q) fun u d ⟨y,S,M,j,p⟩=>
  y3 (B pins d σ S x y v u _ M l j p) fun c U ⟨z,R,J,i,k,e,o⟩=>?_) C
 subst e
 cases i
 exact Si ⟨R,J,o⟩
def Nh(K:UP)(x:V)(H:Hp)(k:Bool):Prop:=
 match x with
 | .o8=>k=false
 | .bl b=>k=b
 | .int i=>k=(i != 0)
 | .str y=>y.length<=sizeLine/\k=((y.length:Int) != 0)
 | .byt y=>y.size<=sizeLine/\k=((y.size:Int) != 0)
 | .ref p=>(∃xs,L1 K H p xs/\k=!xs.isEmpty)\/(∃xs,Q0 K H p xs/\k=!xs.isEmpty)\/∃kvs,Dd H p kvs/\k=!kvs.isEmpty
 | _=>False
theorem ug{d:Type}{kvs:List (d×V)}{vs:List (d×Value)}(r:KV kvs vs):(!vs.isEmpty)=!kvs.isEmpty:=by
 cases r<;>rfl
theorem jh{xs:List V}{its:UF}(r:Vals xs its):(!its.toArray.isEmpty)=!xs.isEmpty:=by
 cases r<;>simp
theorem eF:(sizeLine:Nat)<2^63:=by rw[QU];decide
theorem IS:NN X (fun x H Q=>∃k,Nh X.K x H k/\Q k H):=by
 intro pins s σ H x v Q I j h
 obtain⟨k,e,q⟩:=h
 have B:=eF
 have z:sizeLine=16777216:=QU
 cases x with
 | o8=>
  cases j
  have d:k=false:=e
  subst d
  exact truthy_none ⟨H,I,q⟩
 | bl b=>
  cases j
  have d:k=b:=e
  subst d
  exact Si ⟨H,I,q⟩
 | int i=>
  obtain⟨t,rfl⟩:=j
  have d:k=(i != 0):=e
  subst d
  exact PySem.P.truthy_int ⟨H,I,q⟩
 | str y=>
  obtain⟨t,rfl⟩:=j
  obtain⟨o,d⟩:y.length<=sizeLine/\k=((y.length:Int) != 0):=e
  subst d
  exact PySem.P.truthy_str (by omega) ⟨H,I.tok _,q⟩
 | byt y=>
  obtain⟨t,rfl⟩:=j
  obtain⟨o,d⟩:y.size<=sizeLine/\k=((y.size:Int) != 0):=e
  subst d
  exact PySem.W.truthy_bytes (by omega) ⟨H,I.tok _,q⟩
 | ref p=>
  cases j
  have d:(∃xs,L1 X.K H p xs/\k=!xs.isEmpty)\/(∃xs,Q0 X.K H p xs/\k=!xs.isEmpty)\/∃kvs,Dd H p kvs/\k=!kvs.isEmpty:=e
  rcases d with⟨xs,l,d⟩ | ⟨xs,l,d⟩ | ⟨kvs,l,d⟩
  ·subst d
   obtain⟨its,r,pl,hz⟩:=I.list l
   have g:=r.length
   exact wpAny_truthy_list pl.isList (by simp only[A1];omega) ⟨H,I.tok _,by rw[jh r];exact q⟩
  ·subst d
   obtain⟨its,r,pl,hz⟩:=I.tuple l
   have g:=r.length
   exact truthy_tuple pl (by simp only[A1];omega) ⟨H,I.tok _,by rw[jh r];exact q⟩
  ·subst d
   obtain⟨hz,u,vs,r,m⟩:kvs.length<=sizeLine/\(p == sysModules)=false/\∃vs,KV kvs vs/\s.heap.DictOf (j9 X.prog X.w) p vs:=(show x6 X.prog X.w H s.heap p (.dK kvs) from l.ok I.hok)
   have g:kvs.length=vs.length:=TC r
   exact wpAny_truthy_dict u m (by omega) ⟨H,I.tok _,by rw[ug r];exact q⟩
 | _=>exact(show False from e).elim
theorem zc(o:PE X a ta)(l:∀d,isTrue a X.env d=(do let v <-d;standAt a.pos;holding [v] (truthy v))) :
  PT X a (fun σ H Q=>ta σ H fun x e=>∃k,Nh X.K x e k/\Q k e):=by
 refine .of ?_
 intro pins s σ H Q I h
 exact isTrue_plain (y3 (o pins s σ H _ I h) fun v g ⟨x,q,p,i,j⟩=>IS pins g σ q x v Q p i j) (l _)
theorem uA:O1 X (binaryOp .Add) (fun x y H Q=>∃i j,x=.str i/\y=.str j/\i.length+j.length<=sizeLine/\Q (.str (i++j)) H):=by
 intro pins s σ H x y v u Q I e d h
 obtain⟨i,j,rfl,rfl,hz,q⟩:=h
 obtain⟨t,rfl⟩:=e
 obtain⟨t',rfl⟩:=d
 exact add_str (fun t' tk=>⟨.str (i++j),H,I.tok _,⟨_,rfl⟩,q⟩) hz
theorem vals1{x:V}{d:UF}(r:Vals [x] d):∃u,d=[u]/\RelV x u:=by
 cases r with
 | cons g e=>cases e;exact⟨_,rfl,g⟩
theorem vals2{x y:V}{e:UF}(r:Vals [x,y] e):∃u d,e=[u,d]/\RelV x u/\RelV y d:=by
 cases r with
 | cons j i=>
  cases i with
  | cons h g=>cases g;exact⟨_,_,rfl,j,h⟩
theorem yh(e:X.calm=true):I0 X (.builtin "min") (fun xs H Q=>∃i j,xs=[.int i,.int j]/\Q (.int (if j<i then j else i)) H):=by
 intro pins s σ H xs l Q I r h
 obtain⟨i,j,rfl,q⟩:=h
 obtain⟨u,g,rfl,⟨t,rfl⟩,⟨t',rfl⟩⟩:=vals2 r
 refine min_two_ints (I.ok.hd e) fun h' tk k=>⟨_,H,I.kept k,?_,q⟩
 by_cases d:j<i
 ·rw[wS d,wS d];exact⟨_,rfl⟩
 ·rw[wP d,wP d];exact⟨_,rfl⟩
theorem yM:I0 X (.type "int") (fun xs H Q=>(∃i,xs=[.int i]/\Q (.int i) H)\/∃k,xs=[.bl k]/\Q (.int (if k then 1 else 0)) H):=by
 intro pins s σ H xs e Q I r h
 rcases h with⟨i,rfl,q⟩ | ⟨k,rfl,q⟩
 ·obtain⟨u,rfl,t,rfl⟩:=vals1 r
  exact call_int_int ⟨.int i,H,I,⟨_,rfl⟩,q⟩
 ·obtain⟨u,rfl,d⟩:=vals1 r
  cases d
  exact call_int_bool ⟨.int (if k then 1 else 0),H,I.tok _,⟨_,rfl⟩,q⟩
def Ib(K:UP)(x:V)(H:Hp)(n:Nat):Prop:=
 match x with
 | .str y=>y.length<=sizeLine/\n=y.length
 | .byt y=>y.size<=sizeLine/\n=y.size
 | .ref p=>(∃xs,L1 K H p xs/\n=xs.length)\/∃xs,Q0 K H p xs/\n=xs.length
 | _=>False
theorem G4:I0 X (.builtin "len") (fun xs H Q=>∃x n,xs=[x]/\Ib X.K x H n/\Q (.int n) H):=by
 intro pins s σ H xs v Q I r h
 obtain⟨x,n,rfl,e,q⟩:=h
 obtain⟨u,rfl,i⟩:=vals1 r
 have B:=eF
 have z:sizeLine=16777216:=QU
 cases x with
 | str y=>
  obtain⟨t,rfl⟩:=i
  obtain⟨o,g⟩:y.length<=sizeLine/\n=y.length:=e
  subst g
  exact len_str (by omega) ⟨.int _,H,I.tok _,⟨_,rfl⟩,q⟩
 | byt y=>
  obtain⟨t,rfl⟩:=i
  obtain⟨o,g⟩:y.size<=sizeLine/\n=y.size:=e
  subst g
  exact PySem.W.len_bytes (by omega) ⟨.int _,H,I.tok _,⟨_,rfl⟩,q⟩
 | ref p=>
  cases i
  have g:(∃xs,L1 X.K H p xs/\n=xs.length)\/∃xs,Q0 X.K H p xs/\n=xs.length:=e
  rcases g with⟨xs,l,g⟩ | ⟨xs,l,g⟩
  ·subst g
   obtain⟨its,j,pl,hz⟩:=I.list l
   have d:=j.length
   exact Calls.call_len_list pl.isList (by simp only[A1];omega) ⟨.int xs.length,H,I.tok _,⟨_,by simp only[A1];rw[d]⟩,q⟩
  ·subst g
   obtain⟨its,j,pl,hz⟩:=I.tuple l
   have d:=j.length
   exact len_tuple pl (by simp only[A1];omega) ⟨.int xs.length,H,I.tok _,⟨_,by simp only[A1];rw[d]⟩,q⟩
 | _=>exact(show False from e).elim
end
structure Fm(h:Heap)(x dx C:Addr)(mA:UK):Prop where
 obj:h.get? x=some (PySem.W.instObj C dx)
 ns:h.Ns1 dx mA
 ne:dx≠x
theorem yA{h:Heap}{i:Addr}{d:UK}(n:h.Ns1 i d):∃c,h.get? i=some c/\∀name,PySem.W.lookIn name c=some (d name):=by
 obtain⟨o,g,ep,l,hd,r,_,p⟩:=n
 refine⟨o,l,fun name=>?_⟩
 have e:=p name
 unfold nsFind findBy at e
 rw[<-Array.find?_toList] at e
 unfold PySem.W.lookIn
 rw[hd]
 dsimp only
 split
 ·rename_i y q
  rw[q] at e
  exact QV some e
 ·rename_i q
  rw[q] at e
  have a:g.toList.any (·.refKey)=false:=by
   rw[RZ]
   intro y j
   obtain⟨z,t,b⟩:=r y (Array.mem_toList_iff.mp j)
   simp[DictEntry.refKey,b]
  have u:¬g.toList.any (·.refKey)=true:=by rw[a];exact tL
  rw[wP u]
  exact QV some e
theorem Fm.look{h:Heap}{x c C:Addr}{b:UK}(I:Fm h x c C b):∃a,PySem.W.InstAt h x (PySem.W.instObj C c) C (some a)/\∀name,PySem.W.lookIn name a=some (b name):=
 let ⟨a,d,e⟩:=yA I.ns
 ⟨a,⟨I.obj,rfl,rfl,d⟩,e⟩
section
variable{prog:Program}{w:World}{A:Around}{E:UM}{s:Shared}{K:UP}{x dx C f:Addr}{mA:UK}{name:Str}{v:Value}
theorem get_map{a:Bool}{Q:UM}(X:K.In s.heap)(I:Fm s.heap x dx C mA)(g:PySem.W.plainGet K C name=true)(e:PySem.W.hasDictIn K C=true)
  (i:PySem.W.findIn K (.ref C) name=some none) (c:mA name=some v) (b:PySem.W.handedIn v=true) (h:Q v { s with toks:=s.toks+1 }) :
  wpAny (model prog w) A (getAttr (.ref x) name a) Q E s:=by
 obtain⟨j,J,d⟩:=I.look
 exact PySem.W.get_value X J (PySem.W.plainGet_of g).1 (PySem.W.findObj_own e i rfl (by rw[d,c])) b h
end
theorem dg.some_of{v:V}{o:UQ}(r:dg (some v) o):∃u,o=some u/\RelV v u:=by
 cases o with
 | none=>exact(show False from r).elim
 | some u=>exact⟨u,rfl,r⟩
section
variable{P:Program}{w:World}{H H':Hp}{h h':Heap}{a C dx:Addr}{fs fs':List (Str×V)}
theorem EC(hok:V1 P w H h)(e:H a=some (.ins C dx fs)):∃b,Fm h a dx C b/\(∀f,dg (fs.lookup f) (b f))/\PySem.Within b (fs.map (·.1))/\fs.length<=1000/\H dx=some (.own a):=by
 obtain⟨d,z,ne,ob,b,n,r,q⟩:=(show x6 P w H h a (.ins C dx fs) from hok a _ e)
 exact⟨b,⟨ob,n,ne⟩,r,q,z,d⟩
end
structure OA(K:UP)(C:Addr):Prop where
 pg:PySem.W.plainGet K C Str.empty=true
 hd:PySem.W.hasDictIn K C=true
 po:PySem.W.plainOver K C=true
 sa:PySem.W.findIn K (.ref C) "__setattr__"=some (some (.builtin "object.__setattr__"))
theorem OA.get{K:UP}{C:Addr}(c:OA K C)(f:Str):PySem.W.plainGet K C f=true:=c.pg
section
variable{X:Cx}{pins:TZ}{σ:St}{H:Hp}{s:Shared}{a C dx:Addr}{fs:List (Str×V)}{f:Str}{v:V}{A:Around}{E:UM}
end
def NU(X:Cx)(op:Operator)(a:V->V->Hp->VK->Prop):Prop:=
 ∀(pins:TZ) (s:Shared) (σ:St) (H:Hp) (x y:V) (u v:Value) (Q:VK),Inv X pins σ H s->RelV x u->RelV y v->a x y H Q->wpAny (model X.prog X.w) X.A (inplaceOp op u v) (EP X pins σ Q) X.xe s
section
variable{X:Cx}{o e value:Expr}{f:Str}{pos pos' tpos:Pos}{ta tv:TE}
end
section
variable{X:Cx}{pins:TZ}{σ:St}{H:Hp}{s:Shared}{A:Around}{E Q:UM}{c:Value}{b:Bool}
inductive cG(K:UP)(H:Hp):V->Value->Prop where
 | o8:cG K H .o8 (.type "NoneType")
 | bl (x:Bool):cG K H (.bl x) (.type "bool")
 | int (i:Int):cG K H (.int i) (.type "int")
 | str (x:Str):cG K H (.str x) (.type "str")
 | flt (x:UInt64):cG K H (.flt x) (.type "float")
 | lst {a:Addr} {xs:List V} (e:H a=some (.lst xs)):cG K H (.ref a) (.type "list")
 | frz {a:Addr} {o:Obj} {xs:List V} (e:H a=some (.frz o (.lst xs))):cG K H (.ref a) (.type "list")
 | tup {a:Addr} {xs:List V} (e:H a=some (.tup xs)):cG K H (.ref a) (.type "tuple")
 | dK {a:Addr} {kvs:List (Key×V)} (e:Dd H a kvs):cG K H (.ref a) (.type "dict")
 | dT {a:Addr} {kvs:List (List Key×V)} (e:H a=some (.dT kvs)):cG K H (.ref a) (.type "dict")
 | ins {a C dx:Addr} {fs:List (Str×V)} (e:H a=some (.ins C dx fs)) (cl:OA K C) (ha:PySem.W.findIn K (.ref C) "__class__"=some (some (.builtin "object.__class__")))
   (hn:PySem.W.specialIn K (.builtin "object.__class__") "__get__"=some (some (.builtin "getset_descriptor.__get__"))) (htk:PySem.W.takesIn K (.builtin "object.__class__")=some true)
   (hm:PySem.W.mroIn K C (.type "object")=some true):cG K H (.ref a) (.ref C)
theorem wM{x:V}{u t:Value}(I:Inv X pins σ H s)(d:RelV x u)(ty:cG X.K H x t)(e:PySem.W.kitOne X.K t c=some b)(h:∀tk,Q (.bool b) { s with toks:=tk }) :
  wpAny (model X.prog X.w) A (call (.builtin "isinstance") [u,c]) Q E s:=by
 cases ty with
 | o8=>cases(show u=Value.none from d);exact QQ PySem.W.kitx_none I.qc True.intro e (fun z=>nomatch z) h
 | bl y=>cases(show u=Value.bool y from d);exact QQ PySem.W.kitx_bool I.qc True.intro e (fun z=>nomatch z) h
 | int i=>obtain⟨t,q⟩:=(show ∃t,u=Value.int i t from d);cases q;exact QQ PySem.W.kitx_int I.qc True.intro e (fun z=>nomatch z) h
 | str y=>obtain⟨t,q⟩:=(show ∃t,u=Value.str y t from d);cases q;exact QQ PySem.W.kitx_str I.qc True.intro e (fun z=>nomatch z) h
 | flt y=>obtain⟨t,q⟩:=(show ∃t,u=Value.float y t from d);cases q;exact QQ PySem.W.kitx_float I.qc True.intro e (fun z=>nomatch z) h
 | @lst a xs g=>
  cases(show u=Value.ref a from d)
  obtain⟨_,_,n,_,j⟩:=(show x6 X.prog X.w H s.heap a (.lst xs) from I.hok a _ g)
  exact QQ PySem.W.kitx_list I.qc ⟨_,j,rfl⟩ e (fun z=>nomatch z) h
 | @frz a ob xs g=>
  cases(show u=Value.ref a from d)
  obtain⟨_,_,_,n,_,j⟩:=(show x6 X.prog X.w H s.heap a (.frz ob (.lst xs)) from I.hok a _ g)
  exact QQ PySem.W.kitx_list I.qc ⟨_,j,rfl⟩ e (fun z=>nomatch z) h
 | @tup a xs g=>
  cases(show u=Value.ref a from d)
  obtain⟨_,_,_,p⟩:=(show x6 X.prog X.w H s.heap a (.tup xs) from I.hok a _ g)
  obtain⟨o,j,l,_⟩:=p
  exact QQ PySem.W.kitx_tuple I.qc ⟨o,j,l⟩ e (fun z=>nomatch z) h
 | @dK a kvs g=>
  cases(show u=Value.ref a from d)
  obtain⟨_,_,vs,_,p⟩:=(show x6 X.prog X.w H s.heap a (.dK kvs) from g.ok I.hok)
  obtain⟨o,M,ep,j,l,_⟩:=p
  exact QQ PySem.W.kitx_dict I.qc ⟨o,j,l.1⟩ e (fun z=>nomatch z) h
 | @dT a kvs g=>
  cases(show u=Value.ref a from d)
  obtain⟨_,_,xs,_,o,M,ep,j,l,_⟩:=(show x6 X.prog X.w H s.heap a (.dT kvs) from I.hok a _ g)
  exact QQ PySem.W.kitx_dict I.qc ⟨o,j,l.1⟩ e (fun z=>nomatch z) h
 | @ins a C T fs g cl G v r B=>
  cases(show u=Value.ref a from d)
  obtain⟨S,O,_⟩:=EC I.hok g
  obtain⟨R,J,_⟩:=O.look
  exact QQ (PySem.W.kitx_own (cl.get _) cl.hd G v r B) I.qc J e (fun z=>nomatch z) h
end
structure J3(k:Nat)(A:Around):Prop where
 hd:A.handled=none
 dp:A.depth+3*k+5<recursionLimit
 un:A.units+16*k+200<cLine
 gd:A.guards=some []
theorem J3.mono{j k:Nat}{A:Around}(r:J3 k A)(h:j<=k):J3 j A:=⟨r.hd,by have:=r.dp;omega,by have:=r.un;omega,r.gd⟩
theorem J3.deeper{k:Nat}{A:Around}(r:J3 (k+1) A)(env:Env):J3 k (A.deeper env):=
 ⟨r.hd,by have:=r.dp;show A.depth+1+3*k+5<_;omega,by have:=r.un;show A.units+3+16*k+200<_;omega,r.gd⟩
theorem J3.depth{k:Nat}{A:Around}(r:J3 k A):A.depth<recursionLimit:=by have:=r.dp;omega
theorem J3.units{k:Nat}{A:Around}(r:J3 k A):A.units+64<cLine:=by have:=r.un;omega
def OC:TA:=fun _ H Q=>Q [] H
def HJ(a:TE)(tr:TA):TA:=fun σ H Q=>a σ H fun x c=>tr σ c fun xs b=>Q (x::xs) b
section
variable{X:Cx}{e:Expr}{es:UG}{te:TE}{t:TA}{pos:Pos}
theorem P4:PA X [] OC:=.of <| fun _ _ _ _ H Q I h=>Calls.spliced_nil ⟨[],H,I,.nil,h⟩
theorem vK(l:PE X e te)(j:PA X es t)(i:starEach (e::es) X.env=(false,eval e X.env)::starEach es X.env:=by rfl):PA X (e::es) (HJ te t):=by
 refine .of ?_
 intro pos pins s σ H Q I h
 rw[i]
 show wpAny _ _ (spliced ((false,eval e X.env)::backTo pos (starEach es X.env))) _ _ s
 refine TL (y3 (l pins s σ H _ I h) fun u a ⟨x,r,p,c,g⟩=>?_)
 exact y3 (j pos pins a σ r _ p g) fun v y ⟨xs,q,o,b,d⟩=>⟨x::xs,q,o,.cons c b,d⟩
def Of(t:TA):TE:=fun σ H Q=>t σ H fun xs a=>xs.length<=sizeLine/\∀p,a p=none->Q (.ref p) (upd a p (.tup xs))
def Ot(t:TA):TE:=fun σ H Q=>t σ H fun xs a=>xs.length<=sizeLine/\∀p,a p=none->Q (.ref p) (upd a p (.lst xs))
theorem tX{g}(h:PA X es t):PE X (.Tuple es g pos) (Of t):=by
 refine .of ?_
 intro pins s σ H Q I j
 refine wpAny_Tuple_spliced (y3 (h pos pins s σ H _ I j) fun i a ⟨xs,d,c,r,z,q⟩=>⟨by rw[<-r.length];exact z,?_⟩)
 have l:d a.heap.objs.size=none:=c.hok.fresh (sK _)
 refine⟨.ref a.heap.objs.size,upd d a.heap.objs.size (.tup xs),c.laid (t':=a.toks) (fun b u e=>hD _ e) (sK _) ?_,rfl,q _ l⟩
 exact⟨z,i,r,⟨_,At _ rfl,rfl,_,rfl⟩⟩
theorem Bu(h:PA X es t):PE X (.List es pos) (Ot t):=by
 refine .of ?_
 intro pins s σ H Q I i
 refine wpAny_List_spliced (y3 (h pos pins s σ H _ I i) fun g a ⟨xs,d,c,r,z,q⟩=>⟨by rw[<-r.length];exact z,?_⟩)
 have j:d a.heap.objs.size=none:=c.hok.fresh (sK _)
 refine⟨.ref a.heap.objs.size,upd d a.heap.objs.size (.lst xs),c.laid (t':=a.toks) (fun b u e=>hD _ e) (sK _) ?_,rfl,q _ j⟩
 exact⟨z,g,0,r,At _ rfl⟩
end
abbrev Sp:=List V->Hp->VK->XK->Prop
abbrev uN:=List Env->Hp->Shared->XK->Value->Shared->Prop
structure FG(P:Program)(w:World)(K:UP)(mg:UK)(base:Heap)(A:Around)(outer:List Env)(s:Shared)(H:Hp):Prop where
 frames:A.frames=some outer
 mod:Mod K mg base
 bs:∀b o,base.get? b=some o->s.heap.get? b=some o/\H b=none
 bsz:base.objs.size<=s.heap.objs.size
 iV:s.heap.FunFrames base outer
 frf:∀b∈aK outer,H b=none
 hok:V1 P w H s.heap
 bare:AllBare s.gens
def CE(outer:List Env)(P:Program)(w:World)(H:Hp)(s:Shared)(Q:VK)(u:Value)(a:Shared):Prop:=
 ∃v b,a.os=s.os/\AllBare a.gens/\Un (aK outer) [] H b s.heap a.heap/\V1 P w b a.heap/\RelV v u/\Q v b
def CR(CX:uN)(outer:List Env)(P:Program)(w:World)(H:Hp)(s:Shared)(Q:VK)(E:XK)(r:Result)(a:Shared):Prop:=
 match r with
 | .ok (.ret u)=>CE outer P w H s Q u a
 | .ok _=>False
 | .error e=>CX outer H s E e a
structure u6(P:Program)(w:World)(K:UP)(mg:UK)(base:Heap)(CX:uN)(k:Nat)(f:Addr)(fd:FuncData)(ps:UE)(sp:Sp):Prop where
 len:∀vs H Q E,sp vs H Q E->vs.length=ps.length
 run:∀(A:Around) (outer:List Env) (s:Shared) (H:Hp) (args:Args) (us:UF) (vs:List V) (Q:VK) (E:XK),J3 k A->FG P w K mg base A outer s H->BindsTo s fd args (ps.zip us)->Vals vs us->sp vs H Q E ->
  codeAny (model P w) A (.call (.ref f) args) (CR CX outer P w H s Q E) s
theorem u6.mono{P:Program}{w:World}{K:UP}{mg:UK}{base:Heap}{CX:uN}{j k:Nat}{f:Addr}{b:FuncData}{ps:UE}{sp:Sp}(F:u6 P w K mg base CX j f b ps sp)(h:j<=k) :
  u6 P w K mg base CX k f b ps sp:=⟨F.len,fun A outer s H a c vs Q E d=>F.run A outer s H a c vs Q E (d.mono h)⟩
theorem u6.imp{P:Program}{w:World}{K:UP}{mg:UK}{base:Heap}{CX:uN}{k:Nat}{f:Addr}{c:FuncData}{ps:UE}{sp a:Sp}(F:u6 P w K mg base CX k f c ps sp)
  (h:∀vs H Q E,a vs H Q E->sp vs H Q E):u6 P w K mg base CX k f c ps a:=
 ⟨fun vs H Q E q=>F.len vs H Q E (h _ _ _ _ q),fun A outer s H b d vs Q E i j l e g=>F.run A outer s H b d vs Q E i j l e (h _ _ _ _ g)⟩
section
variable{X:Cx}{pins:TZ}{σ:St}{H:Hp}{s s':Shared}
theorem Inv.OL(I:Inv X pins σ H s):FG X.prog X.w X.K X.mg X.base X.A X.stack s H:=
 ⟨I.ok.frames,I.ok.mod,I.bs,Qv I.ok.bsz I.sz,I.stack,I.mX,I.hok,I.bare⟩
theorem Inv.after{Q:VK}{u:Value}(I:Inv X pins σ H s)(h:CE X.stack X.prog X.w H s Q u s'):EP X pins σ Q u s':=by
 obtain⟨v,e,os,bare,un,hok,r,q⟩:=h
 obtain⟨c,g,d,t,a⟩:=s'
 obtain rfl:a=s.os:=os
 exact⟨v,e,I.call (h':=c) (g':=g) (d':=d) (t':=t) (ch:=[]) un hok bare (fun b z=>absurd z (by simp)),r,q⟩
end
def LK(sp:Sp)(a:List V)(E:XK)(t:TA):TE:=fun σ H Q=>t σ H fun vs b=>sp (vs++a) b Q E
def Binds(K:UP)(b:FuncData)(ps:UE)(ds:UF):Prop:=
 ∀(s:Shared) (a:UF),K.In s.heap->(a++ds).length=ps.length->BindsTo s b ⟨a,[]⟩ (ps.zip (a++ds))
theorem Binds.all{K:UP}{c:FuncData}{ps:UE}(h:∀a:UF,a.length=ps.length->bindArgs c ⟨a,[]⟩=pure (ps.zip a)):Binds K c ps []:=fun s a _ b=>by
 rw[Do] at b ⊢
 exact .of_eq (h a b)
def Passes(CX:uN)(X:Cx)(E:XK):Prop:=∀(pins:TZ) (σ:St) (H:Hp) (s:Shared) (e:Value) (a:Shared),Inv X pins σ H s->CX X.stack H s E e a->X.xe e a
section
variable{X:Cx}{CX:uN}{k:Nat}{f C:Addr}{fd:FuncData}{ps:UE}{sp:Sp}{dvs:List V}{ds:UF}{E:XK}{x m:Str}{p pos apos:Pos}{e o:Expr}{es:UG}{ta:TE}{t:TA}
theorem Kw{pins:TZ}{σ:St}{H:Hp}{s:Shared}{Q:VK}{a:UF}{vs:List V}(F:u6 X.prog X.w X.K X.mg X.base CX k f fd ps sp)(i:J3 k X.A)(l:Binds X.K fd ps ds)(hd:Vals dvs ds)(g:Passes CX X E)
  (I:Inv X pins σ H s) (r:Vals vs a) (h:sp (vs++dvs) H Q E):wpAny (model X.prog X.w) X.A (call (.ref f) a) (EP X pins σ Q) X.xe s:=by
 have c:Vals (vs++dvs) (a++ds):=r.append hd
 have j:(a++ds).length=ps.length:=by rw[<-c.length];exact F.len _ _ _ _ h
 refine wpAny_call (SD (F.run X.A X.stack s H ⟨a,[]⟩ (a++ds) (vs++dvs) Q E i I.OL (l s a I.qc j) c h) fun r d b=>?_)
 cases r with
 | error e=>exact g pins σ H s e d I b
 | ok q=>
  cases q with
  | ret u=>exact I.after b
  | next=>exact False.elim b
  | brk=>exact False.elim b
  | cont=>exact False.elim b
theorem gh(F:u6 X.prog X.w X.K X.mg X.base CX k f fd ps sp)(g:J3 k X.A)(l:Gl X x)(i:X.mg x=some (.ref f))(j:PySem.W.keepIn X.K (.ref f)=true)(v:Binds X.K fd ps ds)(hd:Vals dvs ds)(d:Passes CX X E)
  (y:PA X (e::es) t) (b:(x == ("__debug__" : Str))=false:=by decide) (u:starEach (e::es) X.env=(false,eval e X.env)::starEach es X.env:=by rfl) (a:(backTo pos (starEach es X.env)).any (·.1)=false:=by rfl) :
  PE X (.Call (.Name x p) (e::es) [] pos) (LK sp dvs E t):=by
 refine .of ?_
 intro pins s σ H Q I h
 refine SG (wg I l i ?_ b)
 refine PySem.W.callWith_K (h₀:=X.base) I.ok.mod.kin j (y3 (y pos pins s σ H _ I h) fun z B ⟨vs,G,c,r,q⟩=>⟨c.qc,?_⟩) u a
 exact Kw F g v hd d c r q
end
section
variable{X:Cx}{CX:uN}{k:Nat}{f C:Addr}{fd:FuncData}{ps ks:UE}{sp:Sp}{E:XK}{x m:Str}{p pos apos kpos:Pos}{e o:Expr}{es:UG}{kws:List Keyword}{te ta:TE}{t tk:TA}{nm:Option Str}
variable{g:UF->UF->UF}{gV:List V->List V->List V}
end
structure i8(N P:UE)(sc:Scope):Prop where
 kind:sc.kind=.function
 co:sc.isCoroutine=false
 gen:sc.isGenerator=false
 nd:N.Nodup
 pre:N.take P.length=P
 par:∀x∈P,sc.names.lookup x=some .local\/sc.names.lookup x=some .cell
 nofree:∀y∈sc.names,y.2≠.free
theorem kT{kindOf:Str->Option NameKind}{x:Str}:∀{binds:UC} {m:UK},(∀v,(x,v)∉binds)->bindL kindOf binds m x=m x
 | [],_,_=>rfl
 | (n,v)::r,m,h=>by
  unfold bindL
  rw[kT fun w hw=>h w (hQ _ hw)]
  split
  ·have:x≠n:=by rintro rfl;exact h v lP
   simp[this]
  ·rfl
theorem ka{kindOf:Str->Option NameKind}{x:Str}:∀{binds:UC} {m:UK},(∀v,(x,v)∉binds)->bindC kindOf binds m x=m x
 | [],_,_=>rfl
 | (n,v)::r,m,h=>by
  unfold bindC
  rw[ka fun w hw=>h w (hQ _ hw)]
  split
  ·rfl
  ·have:x≠n:=by rintro rfl;exact h v lP
   simp[this]
theorem kS{kindOf:Str->Option NameKind}{x:Str}{v:Value}:∀{P:UE} {vs:UF} {i:Nat} {m:UK},P.Nodup->P[i]?=some x->vs[i]?=some v->kindOf x=some .local ->
  bindL kindOf (P.zip vs) m x=some v
 | [],_,_,_,_,h,_,_=>by simp at h
 | _::_,[],_,_,_,_,h,_=>by simp at h
 | p::P,w::vs,0,m,nd,b,a,c=>by
  simp at b a;subst b;subst a
  show bindL kindOf ((p,w)::P.zip vs) m p=_
  unfold bindL
  rw[kT fun v d=>(List.nodup_cons.mp nd).1 (TJ d).1,wS c]
  simp
 | p::P,w::vs,i+1,m,nd,b,a,c=>by
  show bindL kindOf ((p,w)::P.zip vs) m x=_
  unfold bindL
  exact kS (i:=i) (List.nodup_cons.mp nd).2 (by simpa using b) (by simpa using a) c
theorem kK{kindOf:Str->Option NameKind}{x:Str}{v:Value}:∀{P:UE} {vs:UF} {i:Nat} {m:UK},P.Nodup->P[i]?=some x->vs[i]?=some v->kindOf x≠some .local ->
  bindC kindOf (P.zip vs) m x=some v
 | [],_,_,_,_,h,_,_=>by simp at h
 | _::_,[],_,_,_,_,h,_=>by simp at h
 | p::P,w::vs,0,m,nd,b,a,c=>by
  simp at b a;subst b;subst a
  show bindC kindOf ((p,w)::P.zip vs) m p=_
  unfold bindC
  rw[ka fun v d=>(List.nodup_cons.mp nd).1 (TJ d).1,wP c]
  simp
 | p::P,w::vs,i+1,m,nd,b,a,c=>by
  show bindC kindOf ((p,w)::P.zip vs) m x=_
  unfold bindC
  exact kK (i:=i) (List.nodup_cons.mp nd).2 (by simpa using b) (by simpa using a) c
def start(N:UE)(vs:List V):St:=vs.map some++List.replicate (N.length-vs.length) none
def dW(CX:uN)(P:Program)(w:World)(K:UP)(mg:UK)(base:Heap)(N:UE)(a:Str)(scope:Scope)(f:Addr)(c:Value)(A:Around)(outer:List Env)(s:Shared)(H:Hp)(E:XK):Cx where
 prog:=P
 w:=w
 K:=K
 mg:=mg
 base:=base
 A:=A.deeper (envOfC a scope s.heap.objs.size f c)
 N:=N
 s₀:=s
 H₀:=H
 env:=envOfC a scope s.heap.objs.size f c
 outer:=outer
 stack:=envOfC a scope s.heap.objs.size f c::outer
 ex:=[]
 calm:=true
 fn:=fun _=>true
 pn:=[]
 xe:=fun e d=>wpAny (model P w) (A.deeper (envOfC a scope s.heap.objs.size f c)) (leaving (envOfC a scope s.heap.objs.size f c) e) (fun _ b=>CX outer H s E e b) (fun g b=>CX outer H s E g b) d
theorem pU{a:Scope}{n:Nat}{x:Str}(h:a.names.lookup x=some .cell):∃c,(cellsFrom n a.names []).lookup x=some c:=by
 have q:=PySem.W.cellsFrom_some a.names n [] (.inl h)
 exact Option.isSome_iff_exists.mp q
theorem yf{CX:uN}{P:Program}{w:World}{K:UP}{mg:UK}{base:Heap}{N ps:UE}{d:Str}{scope:Scope}{f:Addr}{J:Value}{A:Around}{outer:List Env}{s O:Shared}{H:Hp}{E:XK}{M:UF}{vs:List V}
  (S:i8 N ps scope) (hd:A.handled=none) (j:FG P w K mg base A outer s H) (X:vs.length=ps.length) (r:Vals vs M)
  (x:InCallC s s.heap.objs.size (bindL (envOfC d scope s.heap.objs.size f J).kindOf (ps.zip M) fun _=>none) (cellsFrom (s.heap.objs.size+1) scope.names []) (bindC (envOfC d scope s.heap.objs.size f J).kindOf (ps.zip M) fun _=>none) O) :
  Inv (dW CX P w K mg base N d scope f J A outer s H E) [] (start N vs) H O:=by
 have T:ps.length<=N.length:=by have:=QV List.length S.pre;rw[Op] at this;omega
 obtain⟨I,tk,rfl,R⟩:=x.done
 have l:∀b:Addr,b∉(dW CX P w K mg base N d scope f J A outer s H E).ex:=fun b z=>absurd (show b∈([]:UD) from z) (by simp)
 refine⟨⟨j.mod,S.kind,rfl,rfl,sK _,fun y z c I g=>?_,fun y o=>?_,fun y c _ h=>?_,fun _=>hd,Around.frames_deeper j.frames,.inr ⟨rfl,rfl⟩,fun b z=>absurd z (l b),j.bs,j.bsz,fun b _ _=>l b,fun b z=>absurd z (l b),j.iV,j.frf⟩,
  rfl,j.bare,Un.kept R,⟨_,x.toInCall.ns,fun i y v I g Y=>?_⟩,fun y c h=>⟨_,x.cell y c h⟩,j.hok.fresh (sK _),fun y c h=>?_,fun p C=>absurd (show p∈([]:TZ) from C) (by simp),j.hok.kept R,?_⟩
 ·exact name_of_addr x.apart (Rr I) (Rr g)
 ·have o:scope.names.lookup y=some .cell\/scope.names.lookup y=some .free:=o
  rcases o with o | o
  ·exact pU o
  ·exact absurd rfl (S.nofree _ (Rr o))
 ·exact Re (x.above y c (Rr h))
 ·have G:i<vs.length:=by
   unfold start at g
   by_cases G:i<vs.length
   ·exact G
   ·rw[Qr (by simpa using G)] at g
    rw[List.getElem?_replicate] at g
    split at g<;>cases g
  have U:vs[i]?=some v:=by
   unfold start at g
   rw[EQ (by simpa using G),wE] at g
   cases e:vs[i]? with
   | none=>rw[e] at g;cases g
   | some a=>rw[e] at g;cases g;rfl
  obtain⟨u,Q,rv⟩:=r.get U
  have C:ps[i]?=some y:=by
   rw[<-S.pre,QP (by omega)];exact I
  have B:ps.Nodup:=by rw[<-S.pre];exact S.nd.sublist (RI _ _)
  refine⟨u,rv,?_⟩
  rcases S.par y (AC C) with k | k
  ·exact .inl ⟨k,kS B C Q k⟩
  ·obtain⟨c,e⟩:=pU (n:=s.heap.objs.size+1) k
   refine .inr ⟨.inl k,c,e,?_⟩
   have q:=x.cell y c e
   rw[kK B C Q (by show scope.names.lookup y≠_;rw[k];decide)] at q
   exact q
 ·exact j.hok.fresh (Re (x.above y c (Rr h)))
 ·unfold start
  show _=N.length
  rw[C2,eH,RF]
  omega
theorem HP{CX:uN}{P:Program}{w:World}{K:UP}{mg:UK}{base:Heap}{k:Nat}{f:Addr}{name a:Str}{params:Arguments}{body:UL}{scope:Scope}{X kV B U c ct oc:Value}{an od:Option Addr}
  {G:Array (UQ)} {N ps:UE} {sp:Sp} (lk:K.lookup f=some ⟨oc,od,.func (PySem.W.fnOf name a params body scope X kV B U an c ct),G⟩) (R:PySem.W.codeIn K c a=true) (S:i8 N ps scope)
  (len:∀vs H Q E,sp vs H Q E->vs.length=ps.length)
  (i:∀(A:Around) (outer:List Env) (s:Shared) (H:Hp) (vs:List V) (Q:VK) (E:XK),J3 k (A.deeper (envOfC a scope s.heap.objs.size f c))->sp vs H Q E ->
   ∃t,pN (dW CX P w K mg base N a scope f c A outer s H E) body t/\t { nx:=fun _ g=>Q .o8 g,rt:=Q } (start N vs) H) :
  u6 P w K mg base CX (k+1) f (PySem.W.fnOf name a params body scope X kV B U an c ct) ps sp:=by
 refine⟨len,fun A outer s H Y us vs Q E O z hb r l=>?_⟩
 have hl:=len _ _ _ _ l
 have KX:K.In s.heap:=z.mod.kin.keeps fun b o e=>(z.bs b o e).1
 have M:s.heap.NoLimit:=z.mod.nolimit.keeps fun b o e=>(z.bs b o e).1
 have h:∀y∈ps.zip us,scope.names.lookup y.1=some .local\/(scope.names.lookup y.1=some .cell/\((cellsFrom (s.heap.objs.size+1) scope.names []).lookup y.1).isSome=true):=fun⟨n,v⟩ hy=>by
  rcases S.par n (TJ hy).1 with q | q
  ·exact .inl q
  ·exact .inr ⟨q,PySem.W.cellsFrom_some _ _ _ (.inl q)⟩
 refine codeAny_call_function O.depth (KX _ _ lk) rfl S.co S.gen rfl (PySem.W.codeRec_of KX R) (hb _ _ _ _ ?_)
 refine wpAny_newFunctionEnv_cells S.kind h fun env he T x=>?_
 subst he
 refine⟨M.keeps x.toInCall.keep,codeAny_func ?_⟩
 obtain⟨t,ht,hq⟩:=i A outer s H vs Q E (O.deeper _) l
 have I:Inv (dW CX P w K mg base N a scope f c A outer s H E) [] (start N vs) H T:=yf S O.hd z hl r x
 refine NE (ht [] T (start N vs) H _ I hq) (fun fl C j=>?_) fun e C j=>j
 have p:∀{d:St} {g:Hp} {v:V} {u:Value},Inv (dW CX P w K mg base N a scope f c A outer s H E) [] d g C->RelV v u->Q v g->CE outer P w H s Q u C:=
  fun {d g v u} J rv q=>⟨v,g,J.os,J.bare,J.base,J.hok,rv,q⟩
 cases fl with
 | ret u=>
  obtain⟨v,d,g,J,rv,q⟩:=j
  exact p J rv q
 | next=>
  obtain⟨d,g,J,q⟩:=j
  exact p (v:=V.o8) (u:=Value.none) J rfl q
 | brk=>
  obtain⟨_,_,_,q⟩:=j
  exact False.elim q
 | cont=>
  obtain⟨_,_,_,q⟩:=j
  exact False.elim q
section
variable{X:Cx}{x:Str}{p pos:Pos}{e:Expr}{es:UG}{t:TA}{id T:String}{r:List V->Hp->VK->Prop}
def NF(r:List V->Hp->VK->Prop)(t:TA):TE:=fun σ H Q=>t σ H fun vs a=>r vs a Q
theorem oK (v:I0 X (.builtin id) r) (q:Gl X x) (o:X.mg x=none) (j:bootBuiltins x=some (.builtin id)) (y:PA X (e::es) t) (l:x ≠ "__name__":=by decide) (b:(x == ("__debug__" : Str))=false:=by decide)
  (u:starEach (e::es) X.env=(false,eval e X.env)::starEach es X.env:=by rfl) (a:(backTo pos (starEach es X.env)).any (·.1)=false:=by rfl):PE X (.Call (.Name x p) (e::es) [] pos) (NF r t):=by
 refine .of ?_
 intro pins s σ H Q I h
 refine SG (bW I q o j ?_ l b)
 exact PyProof.Rows.callWith_builtin1 (y3 (y pos pins s σ H _ I h) fun c d ⟨vs,B,z,g,i⟩=>v pins d σ B vs c Q z g i) u a
theorem dH (v:I0 X (.type T) r) (q:Gl X x) (o:X.mg x=none) (j:bootBuiltins x=some (.type T)) (y:PA X (e::es) t) (l:x ≠ "__name__":=by decide) (b:(x == ("__debug__" : Str))=false:=by decide)
  (u:starEach (e::es) X.env=(false,eval e X.env)::starEach es X.env:=by rfl) (a:(backTo pos (starEach es X.env)).any (·.1)=false:=by rfl):PE X (.Call (.Name x p) (e::es) [] pos) (NF r t):=by
 refine .of ?_
 intro pins s σ H Q I h
 refine SG (bW I q o j ?_ l b)
 exact RH (y3 (y pos pins s σ H _ I h) fun c d ⟨vs,B,z,g,i⟩=>v pins d σ B vs c Q z g i) u a
end
end L2
namespace HT
open PySem PyProof.Rows
section
open PySem.SeqAt
open PySem.AutoSeq1 (wpAny_loadPart')
open PySem.MeetsSeq PySem.MeetsSeq2 PySem.MeetsSeq3
end
section
variable{prog:Program}{w:World}{A:Around}{E:UM}{s:Shared}
theorem Ge{t b:Addr}{vs a:UF}{Q:UM}(u:IsTup s.heap t vs.toArray)(v:IsTup s.heap b a.toArray)(o:vs≠[])
  (y:a=[]->Q (.ref t) s) (x:a≠[]->Q (.ref s.heap.objs.size) { s with heap:=s.heap.push { cls:=.type "tuple",data:=.seq (vs++a).toArray } })
  (hsz:vs.length+a.length<=sizeLine):wpAny (model prog w) A (binaryOp .Add (.ref t) (.ref b)) Q E s:=by
 obtain⟨⟨z,dd,q,l⟩,j,p,n,hd⟩:=id u
 obtain⟨⟨r,i,data2,d⟩,c,h,n2,g⟩:=id v
 simp only at p hd h g
 subst p hd h g
 have e:vs.toArray++a.toArray=(vs++a).toArray:=by simp
 by_cases hw:a=[]
 ·exact TR ⟨_,j,rfl⟩ ⟨_,c,rfl⟩ noFill_tuple_add seq_tuple_add SM SI (SE _ _)
   (tuple_addW1 t b vs.toArray a.toArray n n2 dd i l d (by simpa using o) (by simp[hw])) ⟨j,c,y hw⟩
 ·refine TR ⟨_,j,rfl⟩ ⟨_,c,rfl⟩ noFill_tuple_add seq_tuple_add SM SI (SE _ _)
   (tuple_addW2 t b vs.toArray a.toArray n n2 dd i l d (by simpa using o) (by simpa using hw) (by rw[A1,A1];exact hsz)) ⟨j,c,?_⟩
  rw[e]
  exact x hw
def D5(n d:Nat):Option Int->Nat
 | none=>d
 | some v=>if v<0 then(v+(n:Int)).toNat else min v.toNat n
theorem KP(n d:Nat)(hd:d<=n)(o:Option Int):D5 n d o<=n:=by
 cases o with
 | none=>exact hd
 | some v=>
  show(if v<0 then(v+(n:Int)).toNat else min v.toNat n)<=n
  by_cases a:v<0
  ·rw[wS a];omega
  ·rw[wP a];exact Nat.min_le_right _ _
theorem vZ(v:Int)(n d:Nat):(if v<0 then max (v+(n:Int)) 0 else min v (n:Int))=((D5 n d (some v):Nat):Int):=by
 show(if v<0 then max (v+(n:Int)) 0 else min v (n:Int))=(((if v<0 then(v+(n:Int)).toNat else min v.toNat n):Nat):Int)
 by_cases a:v<0
 ·simp only[wS a];omega
 ·simp only[wP a];omega
theorem sr(lo a:Option Int)(n:Nat):Builtin.Slice.sliceAdjust lo a 1 (n:Int)=(((D5 n 0 lo:Nat):Int),((D5 n n a:Nat):Int)):=by
 have b:¬((1:Int)<0):=by omega
 unfold Builtin.Slice.sliceAdjust
 simp only[b,SH]
 refine Prod.ext ?_ ?_
 ·cases lo with
  | none=>rfl
  | some v=>exact vZ v n 0
 ·cases a with
  | none=>rfl
  | some v=>exact vZ v n n
theorem uR(i j:Nat):Builtin.Slice.slicePlaces (i:Int) (j:Int) 1=j-i:=by
 unfold Builtin.Slice.slicePlaces
 have a:(1:Int)>0:=by omega
 simp only[a,SL,Int.ediv_one]
 split<;>omega
theorem gZ{v:Value}{o:Option Int}{Q:Option Int->Shared->Prop}(p:IsPart v o)(h:Q o s):wpAny (model prog w) A (Builtin.Slice.slicePartIndex v) Q E s:=by
 cases p with
 | none=>exact slicePart_none h
 | int i t=>exact slicePart_int h
theorem X6{g:Addr}{e d:Value}{lo b:Option Int}{n:Nat}{Q:Int×Int×Nat->Shared->Prop}(j:s.heap.IsSliceOf g e d .none)(pl:IsPart e lo)(i:IsPart d b)
  (h:Q (((D5 n 0 lo:Nat):Int),1,D5 n n b-D5 n 0 lo) s):wpAny (model prog w) A (Builtin.Slice.sliceApplied (.ref g) (pure (n:Int))) Q E s:=by
 obtain⟨os,a,l,c⟩:=id j
 unfold Builtin.Slice.sliceApplied Builtin.Slice.sliceFields
 refine dL (dL (Sf a c (x:=e) rfl (dL (Sf a c (x:=d) rfl (dL (Sf a c (x:=.none) rfl (hH ?_)))))))
 refine dL (slicePart_none ?_)
 show wpAny _ _ (if ((1:Int) == 0)=true then _ else _) _ _ s
 rw[wP (by decide)]
 refine dL (gZ pl (dL (gZ i (dL (hH ?_)))))
 show wpAny _ _ (match Builtin.Slice.sliceAdjust lo b 1 (n:Int) with | (lo,b)=>pure (lo,(1:Int),Builtin.Slice.slicePlaces lo b 1)) _ _ s
 rw[sr lo b n]
 show wpAny _ _ (pure (((D5 n 0 lo:Nat):Int),(1:Int),Builtin.Slice.slicePlaces ((D5 n 0 lo:Nat):Int) ((D5 n n b:Nat):Int) 1)) _ _ s
 rw[uR]
 exact hH h
theorem BJ(xs:UJ)(i k:Nat):((List.range k).filterMap fun(m:Nat)=>xs[((i:Int)+(m:Int)*1).toNat]?).toArray=((xs.toList.drop i).take k).toArray:=by
 have e:(fun(m:Nat)=>xs[((i:Int)+(m:Int)*1).toNat]?)=fun m=>xs[i+m]?:=by
  funext m
  have:((i:Int)+(m:Int)*1).toNat=i+m:=by omega
  rw[this]
 rw[e]
 have:=pick_run xs i k
 rw[List.filterMap_map] at this
 have a:((fun x=>xs[x]?)∘fun x=>i+x)=fun m=>xs[i+m]?:=rfl
 rw[a] at this
 rw[this]
theorem cQ{t d:Addr}{items:UJ}{o l:Value}{lo b:Option Int}{Q:UM}(c:IsTup s.heap t items)(p:s.heap.IsSliceOf d o l .none)(pl:IsPart o lo)(r:IsPart l b)
  (hw:¬(D5 items.size 0 lo=0/\D5 items.size items.size b=items.size))
  (h:Q (.ref s.heap.objs.size) { s with heap:=s.heap.push { cls:=.type "tuple",data:=.seq ((items.toList.drop (D5 items.size 0 lo)).take (D5 items.size items.size b-D5 items.size 0 lo)).toArray } })
  (hsz:items.size<=sizeLine):wpAny (model prog w) A (getItem (.ref t) (.ref d)) Q E s:=by
 have a:sizeOk (.seq ((items.toList.drop (D5 items.size 0 lo)).take (D5 items.size items.size b-D5 items.size 0 lo)).toArray):=by
  show((items.toList.drop (D5 items.size 0 lo)).take (D5 items.size items.size b-D5 items.size 0 lo)).toArray.size<=sizeLine
  rw[A1,Op,Rk,Db]
  omega
 have y:D5 items.size items.size b<=items.size:=KP _ _ (sK _) b
 obtain⟨os,e,i,u⟩:=id p
 have j:s.TypeIs (.ref d) "slice":=⟨os,e,i⟩
 unfold getItem
 try with_reducible refine Qq ?_
 first | refine dL (hH ?_) | skip
 refine dL (wpAny_sequenceKey c.typeIs (by decide) ?_)
 refine dL (QJ (name:=Str.ofString "__getitem__") c.typeIs Rp
  (Qz Rp c.typeIs entry_tuple_getitem ?_ (args_tuple_getitem _ _)))
 show wpAny _ _ (Builtin.Tuple.tupleItemsOf (.ref t) >>= _) _ _ s
 refine dL (tupleItemsOf_ c ?_)
 refine dL (SC j ?_)
 rw[wS (by decide)]
 refine dL (X6 p pl r ?_)
 have g:¬((((D5 items.size 0 lo:Nat):Int) == 0&&(1:Int) == 1&&(D5 items.size items.size b-D5 items.size 0 lo) == items.size)=true):=by
  intro q
  rw[Fa,Fa] at q
  have x:((D5 items.size 0 lo:Nat):Int)=0:=eq_of_beq q.1.1
  have v:D5 items.size items.size b-D5 items.size 0 lo=items.size:=eq_of_beq q.2
  exact hw ⟨by omega,by omega⟩
 show wpAny _ _ (if (((D5 items.size 0 lo:Nat):Int) == 0&&(1:Int) == 1&&(D5 items.size items.size b-D5 items.size 0 lo) == items.size)=true then _ else _) _ _ s
 rw[wP g,BJ]
 first
  | exact dL (m:=Builtin.Tuple.tupleExact _) (IR (hH ⟨_,rfl,hH h⟩) a)
  | exact dL (m:=Builtin.Tuple.tupleExact _) (IR (dL (hH (hH ⟨_,rfl,hH h⟩))) a)
  | exact dL (dL (m:=Builtin.Tuple.tupleExact _) (IR (hH (hH ⟨_,rfl,hH h⟩)) a))
  | exact dL (dL (m:=Builtin.Tuple.tupleExact _) (IR (hH ⟨_,rfl,hH h⟩) a))
end
end HT
namespace L2
open PySem PySem.Spec PyProof.Rows
abbrev TO:=St->Hp->(Option Int->Hp->Prop)->Prop
structure PO(X:Cx)(e:Option Expr)(t:TO) : Prop where
 of ::
 run :
 ∀(pins:TZ) (s:Shared) (σ:St) (H:Hp) (Q:Option Int->Hp->Prop),Inv X pins σ H s->t σ H Q ->
  wpAny (model X.prog X.w) X.A (evalPart e X.env) (fun u s'=>∃o H',Inv X pins σ H' s'/\IsPart u o/\Q o H') X.xe s
instance {X:Cx} {e:Option Expr} {t:TO} : CoeFun (PO X e t) fun _=>
 ∀(pins:TZ) (s:Shared) (σ:St) (H:Hp) (Q:Option Int->Hp->Prop),Inv X pins σ H s->t σ H Q ->
  wpAny (model X.prog X.w) X.A (evalPart e X.env) (fun u s'=>∃o H',Inv X pins σ H' s'/\IsPart u o/\Q o H') X.xe s:=⟨PO.run⟩
def Gg:TO:=fun _ H Q=>Q none H
def Ll(t:TE):TO:=fun σ H Q=>t σ H fun x a=>∃i,x=.int i/\Q (some i) a
section
variable{X:Cx}{e:Expr}{te:TE}{lo hi:Option Expr}{tl th:TO}{pos p2:Pos}
theorem DD:PO X none Gg:=by
 refine .of ?_
 intro pins s σ H Q I h
 rw[evalPart_none]
 exact hH ⟨none,H,I,.none,h⟩
theorem EX(h:PE X e te):PO X (some e) (Ll te):=by
 refine .of ?_
 intro pins s σ H Q I hw
 rw[evalPart_some]
 refine y3 (h pins s σ H _ I hw) fun u g ⟨x,d,c,a,b⟩=>?_
 obtain⟨i,rfl,q⟩:=b
 obtain⟨t,rfl⟩:=a
 exact⟨some i,d,c,.int i t,q⟩
def GU(X:Cx)(r:V->Option Int->Option Int->Hp->VK->Prop):Prop:=
 ∀(pins:TZ) (s:Shared) (σ:St) (H:Hp) (x:V) (v b a:Value) (lo hi:Option Int) (c:Addr) (Q:VK),Inv X pins σ H s->RelV x v->s.heap.IsSliceOf c b a .none->IsPart b lo->IsPart a hi->r x lo hi H Q ->
  ∃T id,typeLookup (.type T) "__getitem__"=pure (some (.builtin id))/\s.TypeIs v T/\wpAny (model X.prog X.w) X.A (getItem v (.ref c)) (EP X pins σ Q) X.xe s
theorem GU.or{r g:V->Option Int->Option Int->Hp->VK->Prop}(h:GU X r)(h':GU X g):GU X (fun x lo hi H Q=>r x lo hi H Q\/g x lo hi H Q):=by
 intro pins s σ H x v b a lo hi c Q I d j pl i q
 rcases q with q | q
 ·exact h pins s σ H x v b a lo hi c Q I d j pl i q
 ·exact h' pins s σ H x v b a lo hi c Q I d j pl i q
def PY(r:V->Option Int->Option Int->Hp->VK->Prop)(te:TE)(tl th:TO):TE:=fun σ H Q=>te σ H fun x c=>tl σ c fun l b=>th σ b fun u a=>r x l u a Q
theorem BS{r:V->Option Int->Option Int->Hp->VK->Prop}(G:GU X r)(O:PE X e te)(J:PO X lo tl)(C:PO X hi th):PE X (.Subscript e (.Slice lo hi none p2) pos) (PY r te tl th):=by
 refine .of ?_
 intro pins s σ H Q I h
 refine Subscript_ (y3 (O pins s σ H _ I h) fun v j ⟨x,H1,I1,o,z⟩=>?_)
 refine wpAny_Slice (y3 (J pins j σ H1 _ I1 z) fun d i ⟨l,H2,Y,pl,y⟩=>y3 (C pins i σ H2 _ Y y) fun c a ⟨u,g,U,B,p⟩=>?_)
 rw[evalPart_none]
 refine hH ?_
 have S:Inv X pins σ g { a with heap:=a.heap.push { cls:=.type "slice",data:=.fields #[d,c,.none] } }:=U.kept (t':=a.toks) fun b ob q=>hD _ q
 obtain⟨T,id,R,E,M⟩:=G pins { a with heap:=a.heap.push { cls:=.type "slice",data:=.fields #[d,c,.none] } } σ g x v d c l u a.heap.objs.size Q S o (Heap.IsSliceOf.new ..) pl B p
 show wpAny (model X.prog X.w) X.A (subscriptTail e (.Slice lo hi none p2) v (.ref a.heap.objs.size)) (EP X pins σ Q) X.xe { a with heap:=a.heap.push { cls:=.type "slice",data:=.fields #[d,c,.none] } }
 exact tail_any (ops:=[.ref a.heap.objs.size,v]) E R M (by with_unfolding_all rfl)
def gE(xs:List V)(lo hi:Option Int):List V:=(xs.drop (HT.D5 xs.length 0 lo)).take (HT.D5 xs.length xs.length hi-HT.D5 xs.length 0 lo)
theorem eS(xs:List V)(lo hi:Option Int):(gE xs lo hi).length<=xs.length:=by
 unfold gE
 rw[Op,Rk]
 omega
def Oi(K:UP):V->Option Int->Option Int->Hp->VK->Prop:=fun x lo hi H Q=>∃a xs,x=.ref a/\Q0 K H a xs /\
 ¬(HT.D5 xs.length 0 lo=0/\HT.D5 xs.length xs.length hi=xs.length)/\∀p,H p=none->Q (.ref p) (upd H p (.tup (gE xs lo hi)))
theorem Kz:GU X (Oi X.K):=by
 intro pins s σ H x v u p lo hi y Q I g l pl i h
 obtain⟨a,xs,rfl,j,hw,q⟩:=h
 cases g
 obtain⟨its,r,d,hz⟩:=I.tuple j
 have c:its.toArray.size=xs.length:=by rw[A1];exact r.length.symm
 refine⟨"tuple",_,PyProof.Rows.slot_tuple_getitem.lookup,d.typeIs,?_⟩
 refine HT.cQ d l pl i (by rw[c];exact hw) ?_ (by rw[c];exact hz)
 rw[c]
 refine⟨.ref s.heap.objs.size,_,I.laid (t':=s.toks) (o:=.tup (gE xs lo hi)) (fun b ob q=>hD _ q) (sK _) ?_,rfl,q _ (I.hok.fresh (sK _))⟩
 exact⟨Qv (eS xs lo hi) hz,_,(r.drop (HT.D5 xs.length 0 lo)).take (HT.D5 xs.length xs.length hi-HT.D5 xs.length 0 lo),IsTup.new _ _⟩
def Lx(K:UP):R2:=fun x y H Q=>∃a b xs c,x=.ref a/\y=.ref b/\Q0 K H a xs/\Q0 K H b c/\xs≠[]/\xs.length+c.length<=sizeLine /\
 (c=[]->Q (.ref a) H)/\(c≠[]->∀p,H p=none->Q (.ref p) (upd H p (.tup (xs++c))))
theorem Vals.fU{xs:List V}{a:UF}(r:Vals xs a):a=[] ↔ xs=[]:=by
 cases r with
 | nil=>simp
 | cons _ _=>simp
theorem DG:O1 X (binaryOp .Add) (Lx X.K):=by
 intro pins s σ H x y v u Q I l j h
 obtain⟨a,b,xs,i,rfl,rfl,G,E,C,hz,r,p⟩:=h
 cases l
 cases j
 obtain⟨its,d,B,_⟩:=I.tuple G
 obtain⟨g,c,p2,_⟩:=I.tuple E
 refine HT.Ge B p2 (fun z=>C (d.fU.mp z)) (fun z=>⟨.ref a,H,I,rfl,r (c.fU.mp z)⟩) (fun z=>?_) (by rw[<-d.length,<-c.length];exact hz)
 refine⟨.ref s.heap.objs.size,_,I.laid (t':=s.toks) (o:=.tup (xs++i)) (fun b ob q=>hD _ q) (sK _) ?_,rfl,p (fun w=>z (c.fU.mpr w)) _ (I.hok.fresh (sK _))⟩
 exact⟨by rw[C2];exact hz,_,d.append c,IsTup.new _ _⟩
end
def kN(n:Nat)(i:Int):UR:=if 0<=i then(if i<n then some i.toNat else none) else if -(n:Int)<=i then some (i+n).toNat else none
def P0{a:Type}(xs:List a)(i:Int):Option a:=(kN xs.length i).bind fun j=>xs[j]?
theorem vF{n:Nat}{i:Int}{j:Nat}(h:kN n i=some j):seqIndex? i n=some j/\j<n/\-(n:Int)<=i/\i<n:=by
 unfold kN at h
 by_cases h0:0<=i
 ·rw[wS h0] at h
  by_cases a:i<n
  ·rw[wS a] at h
   have e:i.toNat=j:=Qn h
   exact⟨by rw[seqIndex_of h0 a,e],by omega,by omega,a⟩
  ·rw[wP a] at h;cases h
 ·rw[wP h0] at h
  by_cases a:-(n:Int)<=i
  ·rw[wS a] at h
   have e:(i+n).toNat=j:=Qn h
   exact⟨by rw[seqIndex_neg (by omega) a,e],by omega,a,by omega⟩
  ·rw[wP a] at h;cases h
theorem lF{a:Type}{xs:List a}{i:Int}{v:a}(h:P0 xs i=some v):∃j,seqIndex? i xs.length=some j/\xs[j]?=some v/\j<xs.length/\-(xs.length:Int)<=i/\i<xs.length:=by
 unfold P0 at h
 cases e:kN xs.length i with
 | none=>rw[e] at h;cases h
 | some j=>
  rw[e] at h
  obtain⟨g,d,c,b⟩:=vF e
  exact⟨j,g,h,d,c,b⟩
theorem mQ{a:Type}{xs:List a}{j:Nat}{v:a}(h:xs[j]?=some v):P0 xs (j:Int)=some v:=by
 have b:j<xs.length:=(List.getElem?_eq_some_iff.mp h).1
 have e:kN xs.length (j:Int)=some j:=by
  unfold kN
  rw[wS (by omega),wS (by omega)];simp
 unfold P0;rw[e];exact h
def gz(b:Expr):Prop:=∀o i,subscripted b false o i=operate [o,i] (getItem o i)
def Dz(X:Cx)(r:R2):Prop:=
 ∀(b a:Expr) (pins:TZ) (s:Shared) (σ:St) (H:Hp) (x y:V) (v u:Value) (Q:VK),Inv X pins σ H s->RelV x v->RelV y u->r x y H Q ->
  subscripted a false v u=operate [v,u] (getItem v u)->wpAny (model X.prog X.w) X.A (subscriptTail b a v u) (EP X pins σ Q) X.xe s
def PF(X:Cx)(id:String)(r:V->List V->Hp->VK->Prop):Prop:=
 ∀(pins:TZ) (s:Shared) (σ:St) (H:Hp) (x:V) (xs:List V) (v:Value) (a:UF) (Q:VK),Inv X pins σ H s->RelV x v->Vals xs a->r x xs H Q ->
  wpAny (model X.prog X.w) X.A (call (.builtin id) (v::a)) (EP X pins σ Q) X.xe s
section
variable{X:Cx}{a b:Expr}{ta tb:TE}{pos:Pos}
theorem Dz.or{r i:R2}(h:Dz X r)(h':Dz X i):Dz X (fun x y H Q=>r x y H Q\/i x y H Q):=by
 intro c d pins s σ H x y v u Q I g e q j
 rcases q with q | q
 ·exact h c d pins s σ H x y v u Q I g e q j
 ·exact h' c d pins s σ H x y v u Q I g e q j
theorem Hv{r:R2}(i:Dz X r)(l:PE X a ta)(j:PE X b tb)(g:gz b):PE X (.Subscript a b pos) (Lg r ta tb):=by
 refine .of ?_
 intro pins s σ H Q I h
 exact Subscript_ (HX l j I h fun v u c x y p o e d q=>i a b pins c σ p x y v u Q o e d q (g _ _))
def Mw(K:UP):R2:=fun x y H Q=>∃p xs i v,x=.ref p/\y=.int i/\L1 K H p xs/\P0 xs i=some v/\Q v H
def Lu(K:UP):R2:=fun x y H Q=>∃p xs i v,x=.ref p/\y=.int i/\Q0 K H p xs/\P0 xs i=some v/\Q v H
def LI:R2:=fun x y H Q=>∃z i c,x=.str z/\y=.int i/\z.length<=sizeLine/\P0 z.cps.toList i=some c/\Q (.str ⟨#[c]⟩) H
theorem FO:Dz X (Mw X.K):=by
 intro e g pins s σ H x y v u Q I J G h B
 obtain⟨p,xs,i,z,rfl,rfl,M,R,q⟩:=h
 cases J
 obtain⟨t,rfl⟩:=G
 obtain⟨its,r,pl,hz⟩:=I.list M
 obtain⟨j,d,U,h3,T,S⟩:=lF R
 obtain⟨w,C,l⟩:=r.get U
 have O:=r.length
 have Y:=eF
 have c:EP X pins σ Q w s:=⟨z,H,I,l,q⟩
 by_cases h0:0<=i
 ·have o:i.toNat=j:=by
   rw[seqIndex_of h0 S] at d
   exact Qn d
  exact item_listR pl.isList h0 (by omega) (by rw[o];simpa using C) c B
 ·have o:(i+(its.toArray.size:Int)).toNat=j:=by
   rw[seqIndex_neg (by omega) T] at d
   rw[A1,<-O]
   exact Qn d
  exact subscriptTail_builtinR (x:=w) pl.isList.typeIs slot_list_getitem.lookup
   (wpAny_getItem_list_neg (Q:=fun r E=>r=w/\EP X pins σ Q r E) pl.isList (by omega) (by rw[A1]<;>omega) (by omega) (by rw[o];simpa using C) ⟨rfl,c⟩) B
theorem JZ:Dz X (Lu X.K):=by
 intro c d pins s σ H x y v u Q I B o h C
 obtain⟨p,xs,i,z,rfl,rfl,E,J,q⟩:=h
 cases B
 obtain⟨t,rfl⟩:=o
 obtain⟨its,r,pl,hz⟩:=I.tuple E
 obtain⟨j,O,M,Y,U,T⟩:=lF J
 obtain⟨w,R,e⟩:=r.get M
 have G:=r.length
 have S:=eF
 have g:EP X pins σ Q w s:=⟨z,H,I,e,q⟩
 exact subscriptTail_builtinR (x:=w) pl.typeIs slot_tuple_getitem.lookup
  (getItem_tuple (j:=j) (Q:=fun r l=>r=w/\EP X pins σ Q r l) pl (by omega) (by omega) (by rw[A1,<-G];exact O) (by simpa using R) ⟨rfl,g⟩) C
theorem JN:Dz X LI:=by
 intro d e pins s σ H x y v u Q I o l h p
 obtain⟨z,i,c,rfl,rfl,hz,B,q⟩:=h
 obtain⟨t,rfl⟩:=o
 obtain⟨t',rfl⟩:=l
 obtain⟨j,g,G,R,E,C⟩:=lF B
 have r:z.cps.toList.length=z.length:=by simp[Str.length]
 rw[r] at g E C
 have O:=eF
 exact tail_any (typeIs_str s z t) slot_str_getitem.lookup (getItem_str (c:=c) (by
  have M:decide (i < -(2^63:Int))=false:=Fk (by omega)
  have J:decide (i ≥ 2^63)=false:=Fk (by omega)
  rw[M,J,Bool.or_false]) (by rw[g];simpa using G) ⟨.str ⟨#[c]⟩,H,I.tok _,⟨_,rfl⟩,q⟩) p
def Nv(K:UP):R2:=fun x y H Q=>Mw K x y H Q\/Lu K x y H Q\/LI x y H Q
theorem Bo:Dz X (Nv X.K):=FO.or (JZ.or JN)
theorem rV(its:UF)(n j:Nat)(u:Value):Obj.mapSeq (·.setIfInBounds j u) { cls:=.type "list",data:=.seq its.toArray n }={ cls:=.type "list",data:=.seq (its.set j u).toArray n }:=by
 simp[Obj.mapSeq]
theorem Inv.lst{pins:TZ}{σ:St}{H:Hp}{s:Shared}{p:Addr}{xs:List V}(I:Inv X pins σ H s)(h:H p=some (.lst xs)) :
  ∃(its:UF) (n:Nat),Vals xs its/\s.heap.get? p=some { cls:=.type "list",data:=.seq its.toArray n }/\xs.length<=sizeLine:=by
 obtain⟨z,its,n,r,e⟩:=I.hok p _ h
 exact⟨its,n,r,e,z⟩
theorem Inv.IG{pins:TZ}{σ:St}{H:Hp}{s:Shared}{p:Addr}{xs c:List V}{its its':UF}{n d:Nat}{f:Obj->Obj}(I:Inv X pins σ H s)(h:H p=some (.lst xs))
  (i:s.heap.get? p=some { cls:=.type "list",data:=.seq its.toArray n }) (g:f { cls:=.type "list",data:=.seq its.toArray n }={ cls:=.type "list",data:=.seq its'.toArray d }) (r:Vals c its') (hz:c.length<=sizeLine) (t:Nat) :
  Inv X pins σ (upd H p (.lst c)) { s with heap:=s.heap.update p f,toks:=t }:=by
 have e:(s.heap.update p f).get? p=some { cls:=.type "list",data:=.seq its'.toArray d }:=by
  rw[OV f i (by rw[g]<;>rfl),g]
 refine I.write (x:=p) (e:=p) (by rw[h];trivial) (.inl rfl) (fun b u j q=>(QI _ _ (QO j)).trans q) ⟨_,e⟩ ?_
 exact⟨hz,its',d,r,e⟩
def Ha:V->V->V->Hp->(Hp->Prop)->Prop:=fun o i v H Q=>∃p xs k j,o=.ref p/\i=.int k/\H p=some (.lst xs)/\kN xs.length k=some j/\Q (upd H p (.lst (xs.set j v)))
theorem set_list:Mn X Ha:=by
 intro pins s σ H o i v G J u Q I B C rv h
 obtain⟨p,xs,k,j,rfl,rfl,l,E,q⟩:=h
 cases B
 obtain⟨t,rfl⟩:=C
 obtain⟨its,n,r,d,hz⟩:=I.lst l
 obtain⟨c,O,y,x⟩:=vF E
 have e:=r.length
 have M:=eF
 have z:Inv X pins σ (upd H p (.lst (xs.set j v))) { s with heap:=s.heap.update p (Obj.mapSeq (·.setIfInBounds j u)) }:=
  I.IG l d (rV its n j u) (r.set rv j) (by rw[Rh];exact hz) s.toks
 by_cases h0:0<=k
 ·have g:k.toNat=j:=by
   rw[seqIndex_of h0 x] at c
   exact Qn c
  exact PySem.W.ki_setAt d h0 (by omega) (by rw[A1,<-e];exact x) (by rw[g];exact⟨_,z,q⟩)
 ·have g:(k+(its.toArray.size:Int)).toNat=j:=by
   rw[seqIndex_neg (by omega) y] at c
   rw[A1,<-e]
   exact Qn c
  exact PySem.W.ki_setBack d (by omega) (by rw[A1,<-e];exact y) (by omega) (by rw[g];exact⟨_,z,q⟩)
theorem lO(lo c:Option Int)(n:Nat):(sliceBounds lo c none n).1=((HT.D5 n 0 lo:Nat):Int)/\(sliceBounds lo c none n).2.1=((HT.D5 n n c:Nat):Int)/\(sliceBounds lo c none n).2.2=1:=by
 refine⟨?_,?_,rfl⟩
 ·cases lo with
  | none=>simp[sliceBounds,HT.D5]
  | some i=>
   simp only[sliceBounds,HT.D5,Option.getD_none,show(1:Int)>0 by decide,SL]
   by_cases h:i<0
   ·simp only[h,SL]<;>omega
   ·simp only[h,SH]<;>omega
 ·cases c with
  | none=>simp[sliceBounds,HT.D5]
  | some i=>
   simp only[sliceBounds,HT.D5,Option.getD_none,show(1:Int)>0 by decide,SL]
   by_cases h:i<0
   ·simp only[h,SL]<;>omega
   ·simp only[h,SH]<;>omega
theorem jJ(its:UF)(lo c:Option Int):slicePick its.toArray lo c none=((its.drop (HT.D5 its.length 0 lo)).take (HT.D5 its.length its.length c-HT.D5 its.length 0 lo)).toArray:=by
 obtain⟨g,e,d⟩:=lO lo c its.toArray.size
 unfold slicePick
 rw[g,e,d]
 simp only[sliceRange_one,pick_run,A1]<;>rfl
def Nf(K:UP):V->Option Int->Option Int->Hp->VK->Prop:=fun x lo c H Q=>∃a xs,x=.ref a/\L1 K H a xs/\∀p,H p=none->Q (.ref p) (upd H p (.lst (gE xs lo c)))
theorem Gu:GU X (Nf X.K):=by
 intro pins s σ H x v u p lo d y Q I g l pl i h
 obtain⟨a,xs,rfl,j,q⟩:=h
 cases g
 obtain⟨its,r,e,hz⟩:=I.list j
 have c:=r.length
 refine⟨"list",_,slot_list_getitem.lookup,e.isList.typeIs,?_⟩
 refine wpAny_getItem_list_slice e.isList l pl i .none (by simp) ?_ (by rw[A1]<;>omega)
 rw[jJ,<-c]
 refine⟨.ref s.heap.objs.size,_,I.laid (t':=s.toks) (o:=.lst (gE xs lo d)) (fun b ob q=>hD _ q) (sK _) ?_,rfl,q _ (I.hok.fresh (sK _))⟩
 exact⟨Qv (eS xs lo d) hz,_,0,(r.drop (HT.D5 xs.length 0 lo)).take (HT.D5 xs.length xs.length d-HT.D5 xs.length 0 lo),At _ rfl⟩
def bB:V->Bool
 | .o8=>true
 | .bl _=>true
 | .int _=>true
 | .str _=>true
 | _=>false
def EU:V->V->Bool
 | .o8,.o8=>true
 | .bl a,.bl b=>a == b
 | .bl a,.int b=>(if a then 1 else 0) == b
 | .int a,.bl b=>a == (if b then 1 else 0)
 | .int a,.int b=>a == b
 | .str a,.str b=>a == b
 | _,_=>false
theorem Jo{A:Around}{s:Shared}{y x:V}{u v:Value}(d:RelV y u)(c:RelV x v)(g:bB y=true)(e:bB x=true):SeqAt.EqAt A s u v (EU y x):=by
 cases y with
 | o8=>
  cases d
  cases x with
  | o8=>cases c;exact SeqAt.EqAt.same _
  | bl b=>cases c;exact SeqAt.EqAt.none_bool b
  | int b=>obtain⟨t,rfl⟩:=c;exact SeqAt.EqAt.none_int b t
  | str b=>obtain⟨t,rfl⟩:=c;exact SeqAt.EqAt.none_str b t
  | _=>exact absurd (show false=true from e) tL
 | bl a=>
  cases d
  cases x with
  | o8=>cases c;exact SeqAt.EqAt.bool_none a
  | bl b=>cases c;exact SeqAt.EqAt.bool_bool a b
  | int b=>obtain⟨t,rfl⟩:=c;exact SeqAt.EqAt.bool_int a b t
  | str b=>obtain⟨t,rfl⟩:=c;exact SeqAt.EqAt.bool_str a b t
  | _=>exact absurd (show false=true from e) tL
 | int a=>
  obtain⟨t',rfl⟩:=d
  cases x with
  | o8=>cases c;exact SeqAt.EqAt.int_none a t'
  | bl b=>cases c;exact SeqAt.EqAt.int_bool a t' b
  | int b=>obtain⟨t,rfl⟩:=c;exact SeqAt.EqAt.int_int a t' b t
  | str b=>obtain⟨t,rfl⟩:=c;exact SeqAt.EqAt.int_str a t' b t
  | _=>exact absurd (show false=true from e) tL
 | str a=>
  obtain⟨t',rfl⟩:=d
  cases x with
  | o8=>cases c;exact SeqAt.EqAt.str_none a t'
  | bl b=>cases c;exact SeqAt.EqAt.str_bool a t' b
  | int b=>obtain⟨t,rfl⟩:=c;exact SeqAt.EqAt.str_int a t' b t
  | str b=>obtain⟨t,rfl⟩:=c;exact SeqAt.EqAt.str_str a t' b t
  | _=>exact absurd (show false=true from e) tL
 | _=>exact absurd (show false=true from g) tL
def tQ(x:V)(u:Value):Bool:=match u with
 | .none=>EU .o8 x
 | .bool b=>EU (.bl b) x
 | .int i _=>EU (.int i) x
 | .str z _=>EU (.str z) x
 | _=>false
theorem Aw{x y:V}{u:Value}(r:RelV y u)(f:bB y=true):tQ x u=EU y x:=by
 cases y with
 | o8=>cases r;rfl
 | bl b=>cases r;rfl
 | int i=>obtain⟨t,rfl⟩:=r;rfl
 | str z=>obtain⟨t,rfl⟩:=r;rfl
 | _=>exact absurd (show false=true from f) tL
theorem cZ{x:V}:∀{xs:List V} {c:UF},Vals xs c->xs.all bB=true->c.any (tQ x)=xs.any fun y=>EU y x
 | _,_,.nil,_=>rfl
 | y::xs,u::c,.cons r t,f=>by
  rw[RE,Fa] at f
  rw[Ro,Ro,Aw r f.1,cZ t f.2]
theorem aA{A:Around}{s:Shared}{x:V}{v:Value}(e:RelV x v)(g:bB x=true):∀{xs:List V} {d:UF},Vals xs d->xs.all bB=true->∀u∈d,SeqAt.EqAt A s u v (tQ x u)
 | _,_,.nil,_=>fun u c=>by cases c
 | y::xs,u::d,.cons r t,f=>fun h c=>by
  rw[RE,Fa] at f
  rcases List.mem_cons.mp c with rfl | c
  ·rw[Aw r f.1];exact Jo r e f.1 g
  ·exact aA e g t f.2 h c
def NA(x:V)(xs:List V):Bool:=xs.any fun y=>EU y x
def LR(K:UP)(c:Bool):R2:=fun x y H Q=>∃p xs,y=.ref p/\(L1 K H p xs\/Q0 K H p xs)/\bB x=true/\xs.all bB=true/\Q (.bl (if c then !NA x xs else NA x xs)) H
theorem lh:O1 X (compareOp .In) (LR X.K false):=by
 intro pins s σ H x y v u Q I d g h
 obtain⟨p,xs,rfl,c,e,fs,q⟩:=h
 cases g
 rcases c with c | c
 ·obtain⟨its,r,pl,hz⟩:=I.list c
  refine SeqAt.in_listAt (tQ x) pl.isList (fun w hw=>aA d e r fs w (by simpa using hw)) ⟨.bl _,H,I,rfl,?_⟩
  rw[show its.toArray.any (tQ x)=its.any (tQ x) by simp,cZ r fs]
  exact q
 ·obtain⟨its,r,pl,hz⟩:=I.tuple c
  refine SeqAt.in_tupleAt (tQ x) pl (fun w hw=>aA d e r fs w (by simpa using hw)) ⟨.bl _,H,I,rfl,?_⟩
  rw[show its.toArray.any (tQ x)=its.any (tQ x) by simp,cZ r fs]
  exact q
theorem lX:O1 X (compareOp .NotIn) (LR X.K true):=by
 intro pins s σ H x y v u Q I d g h
 obtain⟨p,xs,rfl,c,e,fs,q⟩:=h
 cases g
 rcases c with c | c
 ·obtain⟨its,r,pl,hz⟩:=I.list c
  refine SeqAt.notIn_listAt (tQ x) pl.isList (fun w hw=>aA d e r fs w (by simpa using hw)) ⟨.bl _,H,I,rfl,?_⟩
  rw[show its.toArray.any (tQ x)=its.any (tQ x) by simp,cZ r fs]
  exact q
 ·obtain⟨its,r,pl,hz⟩:=I.tuple c
  refine SeqAt.notIn_tupleAt (tQ x) pl (fun w hw=>aA d e r fs w (by simpa using hw)) ⟨.bl _,H,I,rfl,?_⟩
  rw[show its.toArray.any (tQ x)=its.any (tQ x) by simp,cZ r fs]
  exact q
theorem lJ:I0 X (.type "list") (fun xs H Q=>∃p c,xs=[.ref p]/\(L1 X.K H p c\/Q0 X.K H p c)/\∀l,H l=none->Q (.ref l) (upd H l (.lst c))):=by
 intro pins s σ H xs C Q I r h
 obtain⟨p,c,rfl,i,q⟩:=h
 obtain⟨u,rfl,B⟩:=vals1 r
 cases B
 have v:∀(its:UF),Vals c its->c.length<=sizeLine->∀(h':Heap) (g:Nat),(∀b z,s.heap.get? b=some z->h'.get? b=some z) ->
   h'.get? s.heap.objs.size=some { cls:=.type "list",dict:=none,data:=.seq its.toArray g,slots:=#[] }->EP X pins σ Q (.ref s.heap.objs.size) { s with heap:=h' }:=fun its d hz h' g kp e=>
  ⟨.ref s.heap.objs.size,_,I.laid (t':=s.toks) kp (sK _) (show x6 X.prog X.w _ h' _ (.lst c) from⟨hz,its,g,d,e⟩),rfl,q _ (I.hok.fresh (sK _))⟩
 rcases i with i | i
 ·obtain⟨its,d,pl,hz⟩:=I.list i
  have j:=d.length
  obtain⟨o,x,y,n,hd⟩:=pl.isList
  exact call_list_seq p (.inl rfl) x y hd (fun h' g kp e=>v its d hz h' g kp e) (by simp only[A1]<;>omega)
 ·obtain⟨its,d,pl,hz⟩:=I.tuple i
  have j:=d.length
  obtain⟨o,x,y,n,hd⟩:=pl
  exact call_list_seq p (.inr rfl) x y hd (fun h' g kp e=>v its d hz h' g kp e) (by simp only[A1]<;>omega)
theorem J1:I0 X (.type "tuple") (fun xs H Q=>∃p c,xs=[.ref p]/\((L1 X.K H p c/\∀l,H l=none->Q (.ref l) (upd H l (.tup c)))\/(Q0 X.K H p c/\Q (.ref p) H))):=by
 intro pins s σ H xs y Q I r h
 obtain⟨p,c,rfl,h⟩:=h
 obtain⟨u,rfl,v⟩:=vals1 r
 cases v
 rcases h with⟨g,q⟩ | ⟨g,q⟩
 ·obtain⟨its,d,pl,hz⟩:=I.list g
  have i:=d.length
  refine call_tuple_list pl.isList (fun h' kp=>?_) (by simp only[A1]<;>omega)
  have j:Inv X pins σ H { s with heap:=h' }:=I.kept (t':=s.toks) kp
  have x:Inv X pins σ (upd H h'.objs.size (.tup c)) { s with heap:=h'.push { cls:=.type "tuple",data:=.seq its.toArray } }:=
   j.laid (t':=s.toks) (fun b o e=>hD _ e) (sK _) (show x6 X.prog X.w _ _ _ (.tup c) from⟨hz,its,d,IsTup.new _ _⟩)
  exact⟨.ref h'.objs.size,_,x,rfl,q _ (j.hok.fresh (sK _))⟩
 ·obtain⟨its,d,pl,hz⟩:=I.tuple g
  exact call_tuple_same pl ⟨.ref p,H,I,rfl,q⟩
def PB(K:UP)(T:String)(x:V)(H:Hp):Prop:=match x with
 | .str _=>T="str"
 | .int _=>T="int"
 | .ref p=>(T="list" /\ ∃xs,L1 K H p xs)\/(T="tuple" /\ ∃o,K.lookup p=some o/\o.cls=.type "tuple" /\ o.dict=none) \/
   (T="dict" /\ ((∃kvs,Dd H p kvs)\/∃kvs,H p=some (.dT kvs)))\/(T="set" /\ ∃S n,H p=some (.set S n))
 | _=>False
theorem IW{pins:TZ}{σ:St}{H:Hp}{s:Shared}{T:String}{x:V}{v:Value}(I:Inv X pins σ H s)(r:RelV x v)(ty:PB X.K T x H) :
  s.TypeIs v T/\∀a,v=.ref a->∃ob,s.heap.get? a=some ob/\ob.dict=none:=by
 cases x with
 | str z=>
  obtain⟨t,rfl⟩:=r
  cases(show T="str" from ty)
  exact⟨typeIs_str s z t,fun _ e=>nomatch e⟩
 | int i=>
  obtain⟨t,rfl⟩:=r
  cases(show T="int" from ty)
  exact⟨typeIs_int s i t,fun _ e=>nomatch e⟩
 | ref p=>
  cases r
  rcases ty with⟨rfl,xs,h⟩ | ⟨rfl,o,d,j,hd⟩ | ⟨rfl,d⟩ | ⟨rfl,S,n,d⟩
  ·obtain⟨its,_,pl,_⟩:=I.list h
   refine⟨pl.isList.typeIs,fun a e=>?_⟩
   cases e
   obtain⟨o,n,e,c,hd,_⟩:=pl
   exact⟨o,e,hd⟩
  ·refine⟨⟨o,I.qc p o d,j⟩,fun a e=>?_⟩
   cases e
   exact⟨o,I.qc _ o d,hd⟩
  ·have z:∃o,s.heap.get? p=some o/\o.ExactDict:=by
    rcases d with⟨kvs,d⟩ | ⟨kvs,d⟩
    ·obtain⟨_,_,_,_,o,_,_,e,ex,_⟩:=(show x6 X.prog X.w H s.heap p (.dK kvs) from d.ok I.hok)
     exact⟨o,e,ex⟩
    ·obtain⟨_,_,_,_,o,_,_,e,ex,_⟩:=I.hok p _ d
     exact⟨o,e,ex⟩
   obtain⟨o,e,ex⟩:=z
   refine⟨⟨o,e,ex.1⟩,fun a g=>?_⟩
   cases g
   exact⟨o,e,ex.2.1⟩
  ·obtain⟨o,_,_,_,e,ex,_⟩:=I.hok p _ d
   refine⟨⟨o,e,ex.1⟩,fun a g=>?_⟩
   cases g
   exact⟨o,e,ex.2.1⟩
 | _=>exact False.elim ty
def Og(K:UP)(T:String)(r:V->List V->Hp->VK->Prop)(d:TE)(t:TA):TE:=fun σ H Q=>d σ H fun x c=>PB K T x c/\t σ c fun xs e=>r x xs e Q
variable{o e:Expr}{es:UG}{to:TE}{t:TA}{name:Str}{apos cpos:Pos}{T id:String}{r:V->List V->Hp->VK->Prop}
theorem aP (G:PlainAttrs T) (slot:Slot T name id) (j:typeOf (.builtin id)=pure (.type "method_descriptor")) (O:PF X id r) (M:PE X o to) (R:PA X (e::es) t)
  (g:attributeBase o name X.env (eval o X.env)=eval o X.env:=by rfl)
  (i:((backTo cpos (starEach (e::es) X.env)).all (fun x=>!x.1)&&(backToKw cpos (keywordEach [] X.env)).all (fun x=>x.1.isSome)
   && decide ((e::es).length+([]:List Keyword).length+(if ([]:List Keyword).isEmpty then 0 else 1)<30))=true:=by rfl)
  (d:(apos.endLine == cpos.line)=true:=by rfl) (J:starEach (e::es) X.env=(false,eval e X.env)::starEach es X.env:=by rfl) (c:(backTo cpos (starEach es X.env)).any (·.1)=false:=by rfl) :
  PE X (.Call (.Attribute o name apos) (e::es) [] cpos) (Og X.K T r to t):=by
 refine .of ?_
 intro pins s σ H Q I h
 refine wpAny_Call_method_late g i d rfl (y3 (M pins s σ H _ I h) fun v z ⟨x,H1,q,l,ty,E⟩=>?_)
 obtain⟨U,S⟩:=IW q l ty
 refine⟨T,id,G,slot,j,U,S,?_⟩
 have p:=R cpos pins z σ H1 _ q E
 rw[J] at p ⊢
 refine Calls.callWith_builtin (by show(false||(backTo cpos (starEach es X.env)).any (·.1))=false;rw[c]<;>rfl) (Ts ?_)
 exact y3 p fun u y ⟨vs,H2,Y,B,C⟩=>O pins y σ H2 x vs v u Q Y l B C
end
def Qg(X:Cx)(id:String)(r:V->List V->Hp->VK->Prop):Prop:=
 ∀(pins:TZ) (s:Shared) (σ:St) (H:Hp) (x:V) (xs:List V) (v:Value) (a:UF) (Q:VK),Inv X pins σ H s->RelV x v->Vals xs a->r x xs H Q ->
  wpAny (model X.prog X.w) X.A (call (.builtin id) (v::a)) (EP X pins σ Q) X.xe s
theorem Vals.one:∀{x:V} {a:UF},Vals [x] a->∃u,a=[u]/\RelV x u
 | _,_,.cons r .nil=>⟨_,rfl,r⟩
theorem Vals.rep{xs:List V}{a:UF}(h:Vals xs a):∀k:Nat,Vals (List.replicate k xs).flatten (List.replicate k a).flatten
 | 0=>.nil
 | k+1=>by
  rw[QY,QY,RK,RK]
  exact Vals.append h (Vals.rep h k)
theorem foldl_rep(its:UF):∀(k:Nat) (acc:UF),
  List.foldl (fun b a=>b++a) acc.toArray (List.replicate k its.toArray)=(acc++(List.replicate k its).flatten).toArray
 | 0,acc=>by simp
 | k+1,acc=>by
  have e:acc.toArray++its.toArray=(acc++its).toArray:=by simp
  have c:(acc++its)++(List.replicate k its).flatten=acc++(List.replicate (k+1) its).flatten:=by
   rw[QY,RK,PP]
  rw[<-c,<-foldl_rep its k (acc++its),<-e,QY,RC]
section
variable{X:Cx}{pins:TZ}{σ:St}{H:Hp}{s:Shared}{l b:Addr}{xs ys zs:List V}
theorem Inv.Ob{its its':UF}{n:Nat}{f:UJ->UJ}{t':Nat}(I:Inv X pins σ H s)(h:H l=some (.lst xs))
  (e:s.heap.get? l=some { cls:=.type "list",data:=.seq its.toArray n }) (d:f its.toArray=its'.toArray) (a:Vals ys its') (hz:ys.length<=sizeLine) :
  Inv X pins σ (upd H l (.lst ys)) { s with heap:=s.heap.update l (Obj.mapSeq f),toks:=t' }:=by
 have q:=PySem.IsL.update e f
 rw[d] at q
 refine I.write (x:=l) (e:=l) (by rw[h];exact trivial) (.inl rfl) (fun i u g c=>(QI s.heap (Obj.mapSeq f) (QO g)).trans c) ⟨_,q⟩ ?_
 exact⟨hz,its',_,a,q⟩
theorem Inv.Dg{its:UF}{t':Nat}(I:Inv X pins σ H s)(a:Vals ys its)(hz:ys.length<=sizeLine) :
  Inv X pins σ (upd H s.heap.objs.size (.lst ys)) { s with heap:=s.heap.push { cls:=.type "list",data:=.seq its.toArray },toks:=t' }:=
 I.laid (fun _ _ q=>hD _ q) (sK _) ⟨hz,its,0,a,At _ rfl⟩
theorem Inv.fresh(I:Inv X pins σ H s):H s.heap.objs.size=none:=I.hok.fresh (sK _)
theorem Inv.ET(I:Inv X pins σ H s)(a:H l=some (.lst xs)):xs.length<=sizeLine/\∃(its:UF) (n:Nat),Vals xs its/\xs.length=its.length/\s.heap.get? l=some { cls:=.type "list",data:=.seq its.toArray n }:=by
 obtain⟨z,its,n,r,e⟩:=I.hok l _ a
 exact⟨z,its,n,r,r.length,e⟩
theorem CY{n:Nat}(h:n<=sizeLine):Builtin.List.listTooLong n=false:=by
 unfold Builtin.List.listTooLong
 exact Fk (by omega)
end
section
variable{X:Cx}
def J5:V->List V->Hp->VK->Prop:=fun x vs H Q=>∃l xs y,x=.ref l/\vs=[y]/\H l=some (.lst xs)/\xs.length<sizeLine/\Q .o8 (upd H l (.lst (xs++[y])))
theorem B7:Qg X "list.append" J5:=by
 intro pins s σ H x vs v d Q I b rv h
 obtain⟨l,xs,y,rfl,rfl,a,hz,q⟩:=h
 cases b
 obtain⟨u,rfl,c⟩:=rv.one
 obtain⟨z,its,n,r,g,e⟩:=I.ET a
 refine call_meets F.slot_list_append ⟨_,e,rfl⟩ F.entry_list_append (F.args_list_append_2 _ _) (PySem.list_append l its.toArray n u (by rw[List.size_toArray];omega)) ⟨e,?_⟩
 refine⟨.o8,_,I.Ob (its':=its++[u]) a e (by simp) (r.append (.cons c .nil)) ?_,rfl,q⟩
 rw[C2,QB]
 omega
def Jq:R2:=fun x y H Q=>∃l b xs a,x=.ref l/\y=.ref b/\H l=some (.lst xs)/\H b=some (.lst a)/\xs.length+a.length<=sizeLine/\∀p,H p=none->Q (.ref p) (upd H p (.lst (xs++a)))
theorem IY:O1 X (binaryOp .Add) Jq:=by
 intro pins s σ H x y v u Q I d c h
 obtain⟨l,b,xs,C,rfl,rfl,j,o,hz,q⟩:=h
 cases d
 cases c
 obtain⟨z,its,n,r,E,e⟩:=I.ET j
 obtain⟨z2,a,n2,g,i,B⟩:=I.ET o
 refine PySem.P.add_list e B ?_ (by rw[A1,A1];omega)
 have p:its.toArray++a.toArray=(its++a).toArray:=by simp
 rw[p]
 exact⟨.ref _,_,I.Dg (t':=s.toks) (r.append g) (by rw[C2];omega),rfl,q _ I.fresh⟩
def Lw:R2:=fun x y H Q=>∃l k xs,x=.ref l/\y=.int k/\H l=some (.lst xs)/\-(2^63)<=k/\k<2^63/\xs.length*k.toNat<=sizeLine /\
 ∀p,H p=none->Q (.ref p) (upd H p (.lst (List.replicate k.toNat xs).flatten))
theorem len_rep{a:Type}(xs:List a)(k:Nat):(List.replicate k xs).flatten.length=k*xs.length:=by
 induction k with
 | zero=>simp
 | succ k b=>rw[QY,RK,C2,b,Nat.succ_mul,Nat.add_comm]
theorem Jh:O1 X (binaryOp .Mult) Lw:=by
 intro pins s σ H x y v u Q I C B h
 obtain⟨l,k,xs,rfl,rfl,G,M,J,hz,q⟩:=h
 cases C
 obtain⟨t,rfl⟩:=B
 obtain⟨z,its,n,r,E,e⟩:=I.ET G
 have d:its.toArray.size*k.toNat<=sizeLine:=by rw[A1,<-E];exact hz
 have i:¬its.toArray.size*k.toNat>(2^63-1)/8:=by
  have:(sizeLine:Nat)<=(2^63-1)/8:=by decide
  omega
 have g:¬(!Builtin.List.listFitsIndex k)=true:=by
  rw[fitsIndex_both M J]
  exact tL
 have b:¬Builtin.List.listTooLong (its.toArray.size*k.toNat)=true:=by
  rw[CY d]
  exact tL
 have c:List.foldl (fun o j=>o++j) #[] (List.replicate (if its.toArray.isEmpty=true then 0 else k.toNat) its.toArray)=(List.replicate k.toNat its).flatten.toArray:=by
  have O:∀m:Nat,List.foldl (fun o j=>o++j) #[] (List.replicate m its.toArray)=(List.replicate m its).flatten.toArray:=fun m=>by
   have:=foldl_rep its m []
   rw[Go] at this
   exact this
  rw[O]
  cases its with
  | nil=>simp
  | cons a R=>rw[wP (by simp)]
 refine wpAny_binaryOp_repeat_ref (T:="list") (U:="int") (by decide) ⟨_,e,rfl⟩ (fun p=>typeIs_int p k t) noFill_list_mul F.fills_int_mul F.slot_int_rmul repeat_list F.slot_int_index.lookup
  (call_meets F.slot_int_rmul (typeIs_int s k t) F.entry_int_rmul (F.args_int_rmul_2 _ _) (int___rmul___int_list k t l its.toArray n)
   ⟨e,rfl,⟨_,e,rfl⟩,call_meets F.slot_list_mul ⟨_,e,rfl⟩ F.entry_list_mul (F.args_list_mul_2 _ _) (AutoListH.list___mul___list_int_3 l its.toArray n k t g i b) ⟨e,?_⟩⟩)
 rw[c]
 exact⟨.ref _,_,I.Dg (t':=s.toks) (r.rep k.toNat) (by rw[len_rep,Nat.mul_comm];exact hz),rfl,q _ I.fresh⟩
end
section
variable{prog:Program}{w:World}{A:Around}{E:UM}{s:Shared}
set_option maxRecDepth 100000 in
end
section
variable{X:Cx}
end
end L2
namespace Att
open PySem PySem.W PySem.Calls PyProof.Rows
theorem fO{P:Params}{h:Heap}:∀(ns:UH) (vs:UF),WellAll P h vs (ns.map WData.int)->IntsAre vs ns:=by
 intro ns
 induction ns with
 | nil=>
  intro vs w
  rw[SO] at w
  cases w
  exact .nil
 | cons n ns c=>
  intro vs w
  rw[Bi] at w
  cases w with
  | cons a b=>
   cases a
   exact .cons _ _ (c _ b)
theorem xT{l:OpenLaw}{n:Nat}(C:l.most=some n){P:Params}{h:Heap}{b:List WData}{c:UF}
  (e:l.row.toRowW.claim.pre b=true) (p:WellAll P h c b) :
  ∃a vs ns,c=[Value.ref a]/\b=[WData.list (ns.map WData.int)]/\h.get? a=some { cls:=.type "list",data:=.seq vs.toArray }/\IntsAre vs ns/\ns.length<=n:=by
 have u:WShape.hasAll [] b [.list .int]=true:=(pre_splitW e).1
 have v:l.pre.holds [] { args:=b }=true:=(pre_splitW e).2
 obtain⟨d,r,rfl,H,G⟩:=hasAllW_cons u
 obtain rfl:=hasAllW_nil G
 obtain⟨xs,rfl,E⟩:=hasW_list H
 obtain⟨ns,rfl⟩:=items_int E
 have g:ns.length<=n:=by
  unfold OpenLaw.pre at v
  have o:(WTm.not (.lt (.lit (.int (n:Int))) (.len (.arg 0)))).holds [] { args:=[.list (ns.map .int)] }=true:=by
   have o:=(holds_andW v).1
   rw[C] at o
   exact o
  have j:=condW_of o (w_not (w_lt w_lit (w_len_list (w_arg rfl))))
  rw[eH] at j
  refine Tu fun q=>?_
  have z:(n:Int)<((ns.length:Nat):Int):=by omega
  first
   | (rw[Da z] at j;exact absurd j (by decide))
   | (simp at j;omega)
 cases p with
 | cons y x=>
  cases x
  cases y with
  | list B i=>exact⟨_,_,ns,rfl,rfl,B,fO ns _ i,g⟩
theorem xO(l:OpenLaw)(a:List WData):l.row.toRowW.claim.post a (.bool true) a=true:=
 postW_of (r:=l.row.toRowW) (X:=(true == true))
  (show WShape.has [] (.bool true) .bool=true by first | rfl | decide | simp[WShape.has,WShape.arms,WShape.armsAll])
  (show(WTm.eq .res (.lit (.bool true))).value [] { args:=a,res:=some (.bool true),after:=a }=some (.bool (true == true)) from w_eq_bool (w_res rfl) w_lit) rfl
theorem nT{l:OpenLaw}{n:Nat}{q:Program}{c:UE}{Q:(UK)->Heap->Prop}{O:World->Heap->Prop}{d:DefRec}
  (U:l.most=some n) (C:d.params.defaults=[])
  (call:∀(w:World) (s₀ b:Shared) (mg y:UK) (p:Addr) (o:Obj) (x v g:Value) (a:Addr) (vs:UF) (ns:UH),
   Ground q c [] Q w s₀ mg y b.heap->O w b.heap ->
   b.heap.get? p=some o->o.data=.func (docDef d.name d.params d.body d.scope x v g)->b.heap.CodeRec v d.name->mg d.name=some (.ref p) ->
   b.heap.get? a=some { cls:=.type "list",data:=.seq vs.toArray }->IntsAre vs ns->ns.length<=n->b.gens=#[] ->
   codeAny (model l.prog w) callerA (.call (.ref p) ⟨[.ref a],[]⟩) (fun r u=>r=.ok (.ret (.bool true))/\OldK b.heap u.heap/\u.os=b.os/\AllBare u.gens) b) :
  WalkO q c Q O l.row.toRowW d [] (fun f vs=>PySem.call f vs):=by
 intro w s₀ b mg y G Y p o x v g dV kV T hd E J B hg M H as h I R z a0
 obtain rfl:dV=.none:=Dflts.none J C
 obtain rfl:kV=.none:=Dflts.noKw J
 obtain⟨a,vs,ns,rfl,rfl,i,e,j⟩:=xT U h z
 refine enter_call (SD (call w s₀ b mg y p o x v g a vs ns G Y T (fd_plain hd) E B i e j hg) fun r u S=>?_)
 obtain⟨rfl,h2,h3,h4⟩:=S
 exact⟨.inl ⟨.bool true,.bool true,[],rfl,fun _=>rfl,.bool true,xO l _,fun _=>⟨List.Pairwise.nil,fun _ X=>(nomatch X)⟩⟩,h2,h3,h4⟩
section
variable{prog:Program}{w:World}{A:Around}{E:UM}{s:Shared}{K:Frag}
end
end Att
namespace L2
open PySem PySem.Spec PyProof.Rows
theorem kL:∀{vs:UF} {ns:UH},IntsAre vs ns->Vals (ns.map V.int) vs
 | _,_,.nil=>.nil
 | _,_,.cons n t h=>.cons ⟨t,rfl⟩ (kL h)
def Km(H:Hp):Prop:=∀b,H b=none\/∃o xs,H b=some (.frz o (.lst xs))
theorem Dv{P:Program}{w:World}{K:UP}{mg R:UK}{CX:uN}{k:Nat}{Y a:Addr}{fd:FuncData}{x:Str}{sp:Sp}{c:Shared}{vs:UF}{ns:UH}
  (KX:K.In c.heap) (G:c.heap.Ns mainGlobals mg) (i:c.heap.Ns builtinsNs R) (U:∀x:Str,x ≠ "__name__"->R x=bootBuiltins x) (I:c.heap.NoLimit) (hg:c.gens=#[])
  (O:c.heap.get? a=some { cls:=.type "list",data:=.seq vs.toArray }) (hi:IntsAre vs ns) (hl:ns.length<=sizeLine) (hr:J3 k callerA)
  (F:∀base:Heap,K.In base->base.Ns mainGlobals mg->u6 P w K mg base CX k Y fd [x] sp) (y:∀(s:Shared) (u:Value),BindsTo s fd ⟨[u],[]⟩ [(x,u)])
  (S:∀H:Hp,Km H->L1 K H a (ns.map V.int)->sp [.ref a] H (fun v _=>v=.bl true) fun _ _ _=>False)
  (X:∀H e j,CX [] H c (fun _ _ _=>False) e j->False) :
  codeAny (model P w) callerA (.call (.ref Y) ⟨[.ref a],[]⟩) (fun r j=>r=.ok (.ret (.bool true))/\OldK c.heap j.heap/\j.os=c.os/\AllBare j.gens) c:=by
 have rv:=kL hi
 have C:=hi.length
 have p:∀H:Hp,Km H->L1 K H a (ns.map V.int)->V1 P w H c.heap->(∀b,H b≠none->b=a)->(H a≠none->K.lookup a=none) ->
   codeAny (model P w) callerA (.call (.ref Y) ⟨[.ref a],[]⟩) (fun r j=>r=.ok (.ret (.bool true))/\OldK c.heap j.heap/\j.os=c.os/\AllBare j.gens) c:=by
  intro H hO hS hok hA hK
  have g:∀{b:Addr} {o:Obj},c.heap.get? b=some o->H b=none->(lU c.heap H).get? b=some o:=fun e n=>AI e n
  have Q:∀{b:Addr} {o:Obj} {M:Array DictEntry} {ep:Nat},c.heap.get? b=some o->o.data=.dict M ep->H b=none:=fun {b o M ep} e d=>by
   cases q:H b with
   | none=>rfl
   | some u=>
    have e':b=a:=hA b (by rw[q];simp)
    subst e'
    rw[O] at e;cases e
    have d':Data.seq vs.toArray _=Data.dict M ep:=d
    cases d'
  have l:∀{b:Addr} {m:UK},c.heap.Ns b m->(lU c.heap H).Ns b m:=fun {b m} ⟨o,M,ep,e,d,r⟩=>⟨o,M,ep,g e (Q e d),d,r⟩
  have J:K.In (lU c.heap H):=fun b o e=>g (KX b o e) (by
   cases q:H b with
   | none=>rfl
   | some u=>
    have e':b=a:=hA b (by rw[q];simp)
    subst e'
    rw[hK (by rw[q];simp)] at e;cases e)
  have hM:Mod K mg (lU c.heap H):=⟨J,l G,⟨R,l i,U⟩,let ⟨mc,h1,h2⟩:=I;⟨mc,l h1,h2⟩⟩
  have e0:FG P w K mg (lU c.heap H) callerA [] c H:=⟨rfl,hM,fun b o e=>Fb e,RO (yB _ _),trivial,fun b i=>absurd (show b∈([]:UD) from i) (by simp),hok,.of_eq hg⟩
  refine SD ((F _ J (l G)).run callerA [] c H ⟨[.ref a],[]⟩ [.ref a] [.ref a] _ _ hr e0 (y c (.ref a)) (.cons rfl .nil) (S H hO hS)) fun r j h=>?_
  cases r with
  | error e=>exact(X H e j h).elim
  | ok fl=>
   cases fl with
   | next=>exact False.elim h
   | brk=>exact False.elim h
   | cont=>exact False.elim h
   | ret u=>
    obtain⟨v,H',os,bare,un,E,r',q⟩:=h
    have q':v=.bl true:=q
    subst q'
    obtain rfl:u=Value.bool true:=r'
    refine⟨rfl,OldK.of_keep fun b o e=>?_,os,bare⟩
    cases q:H b with
    | none=>exact un.keep b o e q (by intro z;exact absurd (show b∈([]:UD) from z) (by simp)) (by simp)
    | some u=>
     rcases hO b with z | ⟨ob,xs,z⟩
     ·rw[q] at z;cases z
     ·have z2:=un.frzs b ob _ z
      obtain⟨e1,_⟩:=hok b _ z
      obtain⟨e2,_⟩:=E b _ z2
      rw[e] at e1;cases e1
      exact e2
 cases T:K.lookup a with
 | some o=>
  have e:=KX a o T
  rw[O] at e
  cases e
  refine p (fun _=>none) (fun _=>.inl rfl) (.inr ⟨_,vs.toArray,_,T,rfl,rfl,rfl,by rw[A1,C];exact hl,by simpa using rv⟩) (fun b u z=>by have B:(none:Option HO)=some u:=z;cases B) (fun b z=>absurd rfl z) fun z=>absurd rfl z
 | none=>
  refine p (fun b=>if b=a then some (.frz { cls:=.type "list",data:=.seq vs.toArray } (.lst (ns.map V.int))) else none) (fun b=>?_) (.inl (.inr ⟨{ cls:=.type "list",data:=.seq vs.toArray },wS rfl⟩)) (fun b u z=>?_) (fun b z=>?_) fun _=>T
  ·by_cases i:b=a
   ·exact .inr ⟨_,_,wS i⟩
   ·exact .inl (wP i)
  ·by_cases i:b=a
   ·have B:=(wS i).symm.trans z
    cases B
    subst i
    exact⟨O,by rw[eH];exact hl,vs,_,rv,O⟩
   ·have B:=(wP i).symm.trans z
    cases B
  ·by_cases i:b=a
   ·exact i
   ·exact absurd (wP i) z
abbrev Qm{K:UP}{h:Heap}(_:K.In h):UP:=K
theorem El{l:PySem.W.OpenLaw}{n k:Nat}{q:Program}{i:UE}{XP:(UK)->Heap->Prop}{O:World->Heap->Prop}{d:DefRec}{K:Params->UP}{CX:World->uN}{sp:World->Sp}{x:Str}
  (S:l.most=some n) (C:n<=sizeLine) (I:d.params.defaults=[]) (R:J3 k callerA)
  (hY:∀(w:World) (h:Heap),O w h->(K w.params).In h)
  (F:∀(w:World) (mg:UK) (y:Addr) (h:Heap),(K w.params).In h->h.Ns mainGlobals mg->mg d.name=some (.ref y) ->
   ∃M:FuncData,(∀(s:Shared) (u:Value),BindsTo s M ⟨[u],[]⟩ [(x,u)]) /\
    ∀base:Heap,(K w.params).In base->base.Ns mainGlobals mg->u6 l.prog w (K w.params) mg base (CX w) k y M [x] (sp w))
  (B:∀(w:World) (H:Hp) (a:Addr) (ns:UH),ns.length<=n->Km H->L1 (K w.params) H a (ns.map V.int)->sp w [.ref a] H (fun v _=>v=.bl true) fun _ _ _=>False)
  (J:∀(w:World) (H:Hp) (s:Shared) (e:Value) (z:Shared),CX w [] H s (fun _ _ _=>False) e z->False) :
  PySem.W.WalkO q i XP O l.row.toRowW d [] (fun f vs=>PySem.call f vs):=by
 refine Att.nT S I fun w s₀ p mg mb y o pm cd a0 a vs ns G Y ho hd X E r j c U=>?_
 have Q:=hY w _ Y
 obtain⟨M,hb,hF⟩:=F w mg y _ Q G.T.g E
 exact Dv Q G.T.g G.T.b G.T.builtins G.T.nolimit U r j (Qv c C) R hF hb (fun H hO hS=>B w H a ns c hO hS) fun H e z=>J w H p e z
def j5(s:Stmt):Arguments:=match s with
 | .FunctionDef _ a _ _ _ _ _ _ _ _=>a
 | _=>{ posonlyargs:=[],args:=[],vararg:=none,kwonlyargs:=[],kw_defaults:=[],kwarg:=none,defaults:=[] }
def i6(s:Stmt):UL:=match s with
 | .FunctionDef _ _ b _ _ _ _ _ _ _=>b
 | _=>[]
def e5(s:Stmt):Scope:=match s with
 | .FunctionDef _ _ _ _ _ _ a _ _ _=>a
 | _=>{ kind:=.function,names:=[],isGenerator:=false,isCoroutine:=false }
abbrev P6:uN:=fun _ _ _ _ _ _=>False
abbrev E0:XK:=fun _ _ _=>False
theorem CA{X:Cx}:Passes P6 X E0:=fun _ _ _ _ _ _ _ h=>h.elim
structure P7(K:UP)(x qual:Str)(st:Stmt)(f:Addr)(fd:FuncData):Prop where
 ex:∃(oc:Value) (od:Option Addr) (kV doc pm:Value) (an:Option Addr) (cdv ct:Value) (osl:Array (UQ)),
  fd=PySem.W.fnOf x qual (j5 st) (i6 st) (e5 st) .none kV doc pm an cdv ct/\K.lookup f=some ⟨oc,od,.func fd,osl⟩/\PySem.W.codeIn K cdv qual=true
 kp:PySem.W.keepIn K (.ref f)=true
section
variable{P:Program}{w:World}{K:UP}{mg:UK}{base:Heap}
theorem P7.ok{x a:Str}{st:Stmt}{f:Addr}{g:FuncData}{N ps:UE}{k:Nat}{sp:Sp}(F:P7 K x a st f g)(S:i8 N ps (e5 st))(len:∀vs H Q E,sp vs H Q E->vs.length=ps.length)
  (c:∀(b:Value) (A:Around) (outer:List Env) (s:Shared) (H:Hp) (vs:List V) (Q:VK) (E:XK),J3 k (A.deeper (envOfC a (e5 st) s.heap.objs.size f b))->sp vs H Q E ->
   ∃t,pN (dW P6 P w K mg base N a (e5 st) f b A outer s H E).KU (i6 st) t/\t { nx:=fun _ o=>Q .o8 o,rt:=Q } (start N vs) H):u6 P w K mg base P6 (k+1) f g ps sp:=by
 obtain⟨u,r,kV,l,p,v,b,ct,i,rfl,lk,e⟩:=F.ex
 refine HP lk e S len fun A outer s H vs Q E j d=>?_
 obtain⟨t,h,q⟩:=c b A outer s H vs Q E j d
 exact⟨t,h.KU,q⟩
theorem P7.binds{x a:Str}{st:Stmt}{f:Addr}{i:FuncData}{ps:UE}(F:P7 K x a st f i)
  (h:∀(kV b e:Value) (g:Option Addr) (c ct:Value) (d:UF),d.length=ps.length->bindArgs (PySem.W.fnOf x a (j5 st) (i6 st) (e5 st) .none kV b e g c ct) ⟨d,[]⟩=pure (ps.zip d)):Binds K i ps []:=by
 obtain⟨p,o,kV,b,e,g,c,ct,j,rfl,lk,l⟩:=F.ex
 exact .all (h kV b e g c ct)
theorem o4{x a:Str}{st:Stmt}{f:Addr}{j:Value}{i h:Option Addr}{e:Array (UQ)}{kV d g b ct:Value}(l:K.lookup f=some ⟨j,i,.func (PySem.W.fnOf x a (j5 st) (i6 st) (e5 st) .none kV d g h b ct),e⟩)
  (c:PySem.W.codeIn K b a=true) (k:PySem.W.keepIn K (.ref f)=true):P7 K x a st f (PySem.W.fnOf x a (j5 st) (i6 st) (e5 st) .none kV d g h b ct):=⟨⟨j,i,kV,d,g,h,b,ct,e,rfl,l,c⟩,k⟩
end
theorem D9{A:Around}{k:Nat}(a:J3 k A):A.units+1<cLine:=Su (Nat.add_le_add_left (by decide:1<=64) _) a.units
theorem xj{n:Nat}(h:n<=1000):n<sizeLine:=Su h (by decide)
section
variable{X:Cx}
theorem pv (i:Nat) {x:Str} {a:Pos} (d:X.N[i]?=some x:=by rfl) (c:Le X.env.scope x:=by first | exact Or.inl rfl | exact Or.inr (Or.inl rfl) | exact Or.inr (Or.inr rfl)) (hd:(x == ("__debug__" : Str))=false:=by decide)
  (b:(x == ("__classdict__" : Str))=false:=by decide):PE X (.Name x a) (fE i):=IX d c hd b
end
def g4(H a:Hp):Prop:=∀b o,H b=some o->a b=some o
theorem g4.refl(H:Hp):g4 H H:=fun _ _ h=>h
theorem g4.trans{H e d:Hp}(a:g4 H e)(b:g4 e d):g4 H d:=fun c o h=>b c o (a c o h)
theorem g4.free{H a:Hp}(e:g4 H a){l:Addr}(h:a l=Option.none):H l=Option.none:=by
 cases q:H l with
 | none=>rfl
 | some o=>
  rw[e l o q] at h
  cases h
theorem g4.seq{K:UP}{H b:Hp}{a:Addr}{xs:List V}(e:g4 H b)(h:L1 K H a xs):L1 K b a xs:=by
 rcases h with(h | ⟨o,h⟩) | h
 ·exact .inl (.inl (e _ _ h))
 ·exact .inl (.inr ⟨o,e _ _ h⟩)
 ·exact .inr h
end L2
set_option maxHeartbeats 4000000
namespace L2
open PySem PySem.Spec PyProof.Rows
theorem mW{prog:Program}{w:World}{A:Around}{R:Result->Shared->Prop}{s:Shared}{e a b:Expr}{d:UG}{scope:Scope}{i:Pos}{it acc:Value}{env:Env}(I:Nat->Shared->Prop)
  (g:∀n s,I n s->wpAny (model prog w) A (pyNext it) (fun r l=>match r with
   | none=>R (.ok .next) l
   | some v=>wpAny (model prog w) A (letOwnedTupleGo a it v) (fun _ u=>wpAny (model prog w) A (assign a env v) (fun _ q=>
     wpAny (model prog w) A (forIn d true fun c r=>if r=true then do let ok <-isTrue c env (eval c env);pure (ForInStep.yield ok) else pure (ForInStep.yield r)) (fun ok j=>
      if ok=true then wpAny (model prog w) A (eval e env) (fun x p=>
       wpAny (model prog w) A (call (.builtin "list.append") [acc,x]) (fun _ o=>∃m,m<n/\I m o) (fun _ _=>False) p) (fun _ _=>False) j
      else ∃m,m<n/\I m j) (fun _ _=>False) q) (fun _ _=>False) u) (fun _ _=>False) l) (fun _ _=>False) s)
  (n:Nat) (h:I n s) :
  codeAny (model prog w) A (.compLoop (.ListComp e [⟨a,b,d,0⟩] scope i) 0 it acc env) R s:=by
 refine TV rfl I (fun n s B=>?_) n h
 show wpAny _ A ((compTurn (.ListComp e [⟨a,b,d,0⟩] scope i) 0 it acc env).onRaise (fun x=>do noteFrame x env;theTreesLotGoes x)) _ _ s
 refine wpAny_noted ?_
 rw[compTurn_list]
 refine dL (Ra (dL (NE (g n s B) (fun r l z=>?_) fun _ _ h'=>h'.elim)))
 cases r with
 | none=>exact hH z
 | some v=>
  refine dL (NE z (fun _ u H=>?_) fun _ _ h'=>h'.elim)
  refine dL (NE H (fun _ q G=>dL (NE G (fun ok j y=>?_) fun _ _ h'=>h'.elim)) fun _ _ h'=>h'.elim)
  cases ok with
  | false=>exact hH ⟨rfl,y⟩
  | true=>
   exact dL (dL (NE y (fun x p E=>dL (NE E (fun _ o C=>hH (hH ⟨rfl,C⟩)) fun _ _ h'=>h'.elim)) fun _ _ h'=>h'.elim))
def A9(env:Env):List (Str×NameKind)->UB->UB
 | [],acc=>acc
 | (n,k)::r,acc=>if (k == .free)=true then(match env.cells.lookup n with
   | some a=>A9 env r ((n,a)::acc)
   | none=>A9 env r acc) else A9 env r acc
theorem iM{env:Env}:∀(names:List (Str×NameKind)) (acc:UB),(∀x∈names,x.2=.free->∃a,env.cells.lookup x.1=some a) ->
  (forIn names acc fun(x:Str×NameKind) (cs:UB)=>(if (x.2 == NameKind.free)=true then(do let c <-cellOf env x.1;pure (ForInStep.yield ((x.1,c)::cs))) else pure (ForInStep.yield cs):Sem (ForInStep (UB))))=(pure (A9 env names acc):Sem (UB))
 | [],acc,_=>rfl
 | (n,k)::r,acc,h=>by
  have i:=fun b=>iM (env:=env) r b fun x j=>h x (hQ _ j)
  rw[List.forIn_cons]
  unfold A9
  by_cases e:(k == NameKind.free)=true
  ·obtain⟨a,l⟩:=h (n,k) lP (by simpa using e)
   have g:env.cells.lookup n=some a:=l
   simp only[e,SL,cellOf,g,pure_bind]
   exact i _
  ·have d:(k == NameKind.free)=false:=by simpa using e
   simp only[d,SH,RV,pure_bind]
   exact i _
theorem R8{env:Env}{scope:Scope}(h:∀x∈scope.names,x.2=.free->∃a,env.cells.lookup x.1=some a):closureFor scope env=pure (A9 env scope.names []):=by
 have e:=iM (env:=env) scope.names [] h
 simp only[closureFor]
 exact(QV (fun z=>z >>= fun cs=>pure cs) e).trans (by simp)
theorem cN{env:Env}:∀{names:List (Str×NameKind)} {acc:UB} {x:Str} {c:Addr},(A9 env names acc).lookup x=some c->acc.lookup x=some c\/env.cells.lookup x=some c
 | [],acc,x,c,h=>.inl h
 | (n,k)::r,acc,x,c,h=>by
  unfold A9 at h
  by_cases d:(k == NameKind.free)=true
  ·rw[wS d] at h
   cases e:env.cells.lookup n with
   | none=>rw[e] at h;exact cN h
   | some a=>
    rw[e] at h
    rcases cN h with z | z
    ·by_cases b:x=n
     ·subst b
      rw[Qu] at z
      simp at z
      subst z
      exact .inr e
     ·rw[Qu] at z
      have:(x == n)=false:=by simpa using b
      rw[this] at z
      exact .inl z
    ·exact .inr z
  ·rw[wP d] at h
   exact cN h
theorem W8{env:Env}:∀{names:List (Str×NameKind)} {acc:UB} {x:Str} {c:Addr},acc.lookup x=some c->∃g,(A9 env names acc).lookup x=some g
 | [],acc,x,c,h=>⟨c,h⟩
 | (n,k)::r,acc,x,c,h=>by
  unfold A9
  by_cases d:(k == NameKind.free)=true
  ·rw[wS d]
   cases e:env.cells.lookup n with
   | none=>exact W8 h
   | some a=>
    by_cases b:x=n
    ·subst b
     exact W8 (c:=a) (by rw[Qu];simp)
    ·refine W8 (c:=c) ?_
     rw[Qu]
     have:(x == n)=false:=by simpa using b
     rw[this]
     exact h
  ·rw[wP d]
   exact W8 h
theorem iz{env:Env}:∀{names:List (Str×NameKind)} {acc:UB} {x:Str},(∀y∈names,y.2=.free->∃a,env.cells.lookup y.1=some a)->(x,NameKind.free)∈names->∃c,(A9 env names acc).lookup x=some c
 | [],acc,x,_,h=>by cases h
 | (n,k)::r,acc,x,i,h=>by
  unfold A9
  rcases List.mem_cons.mp h with z | z
  ·injection z with o l
   subst o
   subst l
   rw[wS (by simp)]
   obtain⟨a,e⟩:=i (x,.free) lP rfl
   have p:env.cells.lookup x=some a:=e
   rw[p]
   exact W8 (c:=a) (by rw[Qu];simp)
  ·have d:=fun b=>iz (acc:=b) (fun y j=>i y (hQ _ j)) z
   by_cases g:(k == NameKind.free)=true
   ·rw[wS g]
    cases e:env.cells.lookup n with
    | none=>exact d _
    | some a=>exact d _
   ·rw[wP g]
    exact d _
theorem Y8{env:Env}:∀{names:List (Str×NameKind)} {x:Str} {k:NameKind},
  (names.map fun(n,k)=>if (k == NameKind.free&&env.scope.kind == .function&&env.kindOf n == some .cell) then(n,NameKind.cell) else(n,k)).lookup x=some k->(k=.cell\/k=.free)->(∀y∈names,y.2≠.cell)->(x,NameKind.free)∈names
 | [],_,_,h,_,_=>by cases h
 | (n,q)::r,x,k,h,g,i=>by
  have j:=@Y8 env r x k
  rw[Bi] at h
  by_cases e:(q == NameKind.free&&env.scope.kind == .function&&env.kindOf n == some .cell)=true
  ·have c:q=.free:=by
    have:=(Bool.and_eq_true_iff.mp (Bool.and_eq_true_iff.mp e).1).1
    simpa using this
   simp only[e,SL] at h
   by_cases a:x=n
   ·subst a;rw[c];exact lP
   ·rw[Qu] at h
    have:(x == n)=false:=by simpa using a
    rw[this] at h
    exact hQ _ (j h g fun y b=>i y (hQ _ b))
  ·have d:(q == NameKind.free&&env.scope.kind == .function&&env.kindOf n == some .cell)=false:=by simpa using e
   simp only[d,RV,SH] at h
   by_cases a:x=n
   ·subst a
    rw[Qu] at h
    simp at h
    subst h
    rcases g with z | z
    ·exact absurd z (i (x,q) lP)
    ·rw[z];exact lP
   ·rw[Qu] at h
    have:(x == n)=false:=by simpa using a
    rw[this] at h
    exact hQ _ (j h g fun y b=>i y (hQ _ b))
def A7(X:Cx)(N:UE)(scope:Scope)(cl:UB)(a:UD)(s:Shared)(H:Hp):Cx where
 prog:=X.prog
 w:=X.w
 K:=X.K
 mg:=X.mg
 base:=X.base
 A:=X.A
 N:=N
 s₀:=s
 H₀:=H
 env:=compEnvC scope cl s.heap.objs.size X.env
 outer:=X.stack
 stack:=X.stack
 ex:=a
 fn:=fun _=>false
 calm:=X.calm
 pn:=[]
 xe:=fun _ _=>False
def L5(cap:UA)(σ:St):St:=cap.map fun o=>match o with
 | some j=>(σ[j]?).join
 | none=>none
def X0(XN N:UE)(XS scope:Scope)(cap:UA):Bool:=
 (cap.length == N.length)&&(List.range N.length).all (fun i=>match N[i]?,cap[i]? with
  | some x,some (some j)=>(XN[j]? == some x)&&((XS.names.lookup x == some .cell)||(XS.names.lookup x == some .free))&&(scope.names.lookup x == some .free)
  | some _,some none=>true
  | _,_=>false)
 && scope.names.all (fun y=>y.2 != .cell)&&scope.names.all (fun y=>y.2 != .free||(XS.names.lookup y.1 == some .cell)||(XS.names.lookup y.1 == some .free))
 && scope.names.all (fun y=>y.2 != .local||(scope.names.lookup y.1 == some .local))
theorem dt{env:Env}:∀{names:List (Str×NameKind)} {x:Str},names.lookup x=some .free ->
  (names.map fun(n,k)=>if (k == NameKind.free&&env.scope.kind == .function&&env.kindOf n == some .cell) then(n,NameKind.cell) else(n,k)).lookup x=some .cell \/
  (names.map fun(n,k)=>if (k == NameKind.free&&env.scope.kind == .function&&env.kindOf n == some .cell) then(n,NameKind.cell) else(n,k)).lookup x=some .free
 | [],_,h=>by cases h
 | (n,q)::r,x,h=>by
  have g:=@dt env r x
  rw[Bi]
  by_cases e:x=n
  ·subst e
   rw[Qu] at h
   simp at h
   subst h
   by_cases c:(NameKind.free == NameKind.free&&env.scope.kind == .function&&env.kindOf x == some .cell)=true
   ·left
    simp only[c,SL]
    rw[Qu];simp
   ·right
    have a:(NameKind.free == NameKind.free&&env.scope.kind == .function&&env.kindOf x == some .cell)=false:=by simpa using c
    simp only[a,RV,SH]
    rw[Qu];simp
  ·have d:(x == n)=false:=by simpa using e
   rw[Qu,d] at h
   have b:=g h
   by_cases c:(q == NameKind.free&&env.scope.kind == .function&&env.kindOf n == some .cell)=true
   ·simp only[c,SL]
    rw[Qu,d]
    exact b
   ·have a:(q == NameKind.free&&env.scope.kind == .function&&env.kindOf n == some .cell)=false:=by simpa using c
    simp only[a,RV,SH]
    rw[Qu,d]
    exact b
structure L6(X:Cx)(N:UE)(scope:Scope)(cap:UA):Prop where
 len:cap.length=N.length
 slot:∀(i:Nat) (x:Str) (j:Nat),N[i]?=some x->cap[i]?=some (some j)->X.N[j]?=some x/\(X.env.kindOf x=some .cell\/X.env.kindOf x=some .free)/\scope.names.lookup x=some .free
 nocell:∀y∈scope.names,y.2≠.cell
 free:∀y∈scope.names,y.2=.free->(X.env.kindOf y.1=some .cell\/X.env.kindOf y.1=some .free)
 loc:∀y∈scope.names,y.2=.local->scope.names.lookup y.1=some .local
theorem O6{X:Cx}{XN N:UE}{XS scope:Scope}{cap:UA}(B:X.N=XN)(v:X.env.scope=XS)(h:X0 XN N XS scope cap=true):L6 X N scope cap:=by
 subst B
 subst v
 unfold X0 at h
 rw[Fa,Fa,Fa,Fa] at h
 obtain⟨⟨⟨⟨C,l⟩,g⟩,e⟩,d⟩:=h
 rw[RQ] at l g e d
 have c:cap.length=N.length:=by simpa using C
 refine⟨c,fun i x j o E=>?_,fun y b z=>?_,fun y b z=>?_,fun y b z=>?_⟩
 ·have u:i<N.length:=(List.getElem?_eq_some_iff.mp o).1
  have q:=l i (List.mem_range.mpr u)
  rw[o,E] at q
  dsimp only at q
  rw[Fa,Fa,SX] at q
  obtain⟨⟨r,a⟩,p⟩:=q
  refine⟨by simpa using r,?_,by simpa using p⟩
  rcases a with a | a
  ·exact .inl (beq_iff_eq.mp a)
  ·exact .inr (beq_iff_eq.mp a)
 ·have q:=g y b
  rw[z] at q
  exact absurd q (by decide)
 ·have q:=e y b
  rw[z,SX,SX] at q
  rcases q with(q | q) | q
  ·exact absurd q (by decide)
  ·exact .inl (beq_iff_eq.mp q)
  ·exact .inr (beq_iff_eq.mp q)
 ·have q:=d y b
  rw[z,SX] at q
  rcases q with q | q
  ·exact absurd q (by decide)
  ·simpa using q
section
variable{X:Cx}{N:UE}{scope:Scope}{cap:UA}{fp:UD}{pins:TZ}{σ:St}{H:Hp}{s:Shared}
theorem Inv.R9(I:Inv X pins σ H s)(c:L6 X N scope cap):∀y∈scope.names,y.2=.free->∃a,X.env.cells.lookup y.1=some a:=fun y b z=>I.ok.has y.1 (c.free y b z)
theorem Z6{x:Str}{c:Addr}(h:(A9 X.env scope.names []).lookup x=some c):X.env.cells.lookup x=some c:=by
 rcases cN h with z | z
 ·cases z
 ·exact z
theorem pk(I:Inv X pins σ H s)(G:L6 X N scope cap)(O:∀b∈fp,∀x c,X.env.cells.lookup x=some c->c≠b){C:Addr}{S:Hp}{h':Heap}(u:Un (aK X.stack) fp H S s.heap h') :
  ∀(i:Nat) (x:Str) (v:V),N[i]?=some x->(L5 cap σ)[i]?=some (some v)->∃w,RelV v w/\∀m,Look (compEnvC scope (A9 X.env scope.names []) C X.env) h' m x w:=by
 intro i x v R a
 unfold L5 at a
 rw[wE] at a
 cases E:cap[i]? with
 | none=>rw[E] at a;cases a
 | some o=>
  rw[E] at a
  cases o with
  | none=>cases a
  | some j=>
   have p:(σ[j]?).join=some v:=Qn a
   have Q:σ[j]?=some (some v):=by
    cases q:σ[j]? with
    | none=>rw[q] at p;cases p
    | some U=>rw[q] at p;exact QV some p
   obtain⟨k1,k2,k3⟩:=G.slot i x j R E
   obtain⟨m,hn,M⟩:=I.loc
   have y:Le X.env.scope x:=by
    rcases k2 with k | k
    ·exact .inr (.inl k)
    ·exact .inr (.inr k)
   obtain⟨w,r,l⟩:=M j x v k1 Q y
   refine⟨w,r,fun Y=>?_⟩
   rcases l with⟨h,_⟩ | ⟨_,c,B,o,J,hd⟩
   ·rcases k2 with k | k
    ·rw[k] at h;cases h
    ·rw[k] at h;cases h
   ·obtain⟨c',g⟩:=iz (acc:=[]) (I.R9 G) (Rr k3)
    have d:=Z6 g
    rw[B] at d
    cases d
    obtain⟨T,e⟩:=u.any J (I.freeC x c B) (fun z=>O c z x c B rfl)
    exact .inr ⟨dt k3,c,g,⟨_,e,hd⟩⟩
theorem Cx.Ok.comp(I:Inv X pins σ H s)(i:L6 X N scope cap)(j:scope.kind=.function)(d:∀b∈fp,M7 X pins H b)(l:∀b∈fp,b<s.heap.objs.size):(A7 X N scope (A9 X.env scope.names []) fp s H).Ok:=by
 refine⟨I.ok.mod,j,I.ok.glob,I.ok.blt,sK _,fun x y c r p=>I.ok.inj x y c (Z6 r) (Z6 p),fun x a=>?_,fun x c z=>absurd (show false=true from z) tL,I.ok.hd,I.ok.frames,.inl rfl,fun b z=>⟨Ew (l b z),fun x c h=>(d b z).2.2.2.2.1 x c (Z6 h)⟩,I.bs,Qv I.ok.bsz I.sz,fun b o e z=>?_,fun b z q=>?_,I.stack,I.mX⟩
 ·have g:(x,NameKind.free)∈scope.names:=by
   rcases a with a | a
   ·exact Y8 a (.inl rfl) i.nocell
   ·exact Y8 a (.inr rfl) i.nocell
  exact iz (acc:=[]) (I.R9 i) g
 ·rcases(d b z).2.2.2.1 with q | q
  ·exact I.ok.noex b o e q
  ·exact absurd (Gc (AT e) (Qv I.ok.bsz q)) (RD _)
 ·rcases List.mem_cons.mp (I.uV b q) with e | e
  ·exact(d b z).2.1 e
  ·exact(d b z).2.2.1 e
theorem gH(I:Inv X pins σ H s)(d:L6 X N scope cap)(u:scope.kind=.function)(e:∀b∈fp,M7 X pins H b)(y:∀b∈fp,b<s.heap.objs.size){a:Heap}{m:UK}{tk:Nat}
  (q:a.Ns s.heap.objs.size m) (keep:∀b o,s.heap.get? b=some o->a.get? b=some o):Inv (A7 X N scope (A9 X.env scope.names []) fp s H) [] (L5 cap σ) H { s with heap:=a,toks:=tk }:=by
 refine⟨Cx.Ok.comp I d u e y,rfl,I.bare,Un.kept keep,⟨m,q,fun i x v E B _=>?_⟩,fun x c h=>?_,I.hok.fresh (sK _),fun x c h=>I.freeC x c (Z6 h),fun p g=>absurd (show p∈([]:TZ) from g) (by simp),I.hok.kept keep,?_⟩
 ·obtain⟨w,r,l⟩:=pk (C:=s.heap.objs.size) I d (fun b z=>(e b z).2.2.2.2.1) (Un.kept keep) i x v E B
  exact⟨w,r,l m⟩
 ·obtain⟨v,o,j,hd⟩:=I.cell x c (Z6 h)
  exact⟨v,o,keep c o j,hd⟩
 ·unfold L5
  rw[eH]
  exact d.len
theorem eK(I:Inv X pins σ H s)(e:L6 X N scope cap)(j:∀b∈fp,M7 X pins H b){a:TZ}{c:St}{g:Hp}{d:Shared}(J:Inv (A7 X N scope (A9 X.env scope.names []) fp s H) a c g d) :
  Inv (A7 X N scope (A9 X.env scope.names []) fp s H) a (L5 cap σ) g d:=by
 refine⟨J.ok,J.os,J.bare,J.base,?_,J.cell,J.free,J.freeC,J.pin,J.hok,?_⟩
 ·obtain⟨m,h,_⟩:=J.loc
  refine⟨m,h,fun i x v p o _=>?_⟩
  obtain⟨w,r,l⟩:=pk (C:=s.heap.objs.size) I e (fun b z=>(j b z).2.2.2.2.1) J.base i x v p o
  exact⟨w,r,l m⟩
 ·unfold L5
  rw[eH]
  exact e.len
theorem Inv.qW{C:Addr}{h':Heap}(I:Inv X pins σ H s)(a:M7 X pins H C)(c:Heap.SameBut C s.heap h'):Inv X pins σ H { s with heap:=h' }:=
 I.turned (t':=s.toks) (fun b o d e=>(c.2 b d).trans e) a.1 a.2.1 a.2.2.2.1 a.2.2.2.2.1 a.2.2.2.2.2
end
def uY(X:Cx)(a:UG)(t:TT):Prop:=
 ∀(pins:TZ) (s:Shared) (σ:St) (H:Hp) (Q:Bool->Hp->Prop),Inv X pins σ H s->t σ H Q ->
  wpAny (model X.prog X.w) X.A (forIn a true fun c r=>if r=true then do let ok <-isTrue c X.env (eval c X.env);pure (ForInStep.yield ok) else pure (ForInStep.yield r)) (TP X pins σ Q) X.xe s
def OQ:TT:=fun _ H Q=>Q true H
theorem wx{X:Cx}:uY X [] OQ:=fun _ _ _ H _ I h=>wpAny_tests_nil ⟨H,I,h⟩
theorem Eu{X:Cx}{c:Expr}{t:TT}(h:PT X c t):uY X [c] t:=fun pins s σ H Q I q=>wpAny_tests_one (h pins s σ H Q I q)
def NC(J:It)(g:TG)(tc:TT)(te:TE)(e:St)(Q:VK)(l:Hp):Prop:=∀d,l d=none ->
 ∃W:Nat->Nat->Hp->Prop,(∃m,W 0 m (upd l d (.lst [])))/\∀i m H,W i m H ->
  (J.stop i H/\Q (.ref d) H) \/
  (J.go i H/\∀x o,J.yld i H x o->g x e o fun a p=>tc a p fun b j=>
   if b=true then te a j fun v h=>∃acc,h d=some (.lst acc)/\acc.length<sizeLine/\∃c,c<m/\W (i+1) c (upd h d (.lst (acc++[v])))
   else ∃c,c<m/\W (i+1) c j)
def OU(H a:Hp):Prop:=∀b xs,H b=some (.tup xs)->a b=some (.tup xs)
theorem g4.P9{H a:Hp}(h:g4 H a):OU H a:=fun b xs e=>h b _ e
theorem g4.i4{H:Hp}{d:Addr}{o:HO}(h:H d=none):g4 H (upd H d o):=fun b u e=>by
 rw[i3 (p8 e h)];exact e
section
variable{X:Cx}
def Np:V->UQ
 | .ty n=>some (.type n)
 | .ref a=>some (.ref a)
 | _=>none
theorem fh:I0 X (.builtin "isinstance") (fun xs H Q=>∃x c t cv b,xs=[x,c]/\Np c=some cv/\cG X.K H x t/\PySem.W.kitOne X.K t cv=some b/\Q (.bl b) H):=by
 intro pins s σ H xs p Q I r h
 obtain⟨x,c,t,cv,b,rfl,d,j,l,q⟩:=h
 obtain⟨u,g,rfl,i,e⟩:=vals2 r
 have o:g=cv:=by
  cases c with
  | ty n=>cases d;exact e
  | ref a=>cases d;exact e
  | _=>cases d
 subst o
 exact wM I i j l fun tk=>⟨.bl b,H,I.tok tk,rfl,q⟩
def R4(i j:Int):Prop:=0<j/\j.natAbs.log2<9000
theorem Ce:O1 X (binaryOp .FloorDiv) (rI R4 fun i j=>.int (i/j)):=NI fun i j _ _ _ _ _ a q=>by
 have b:(0:Int)<j:=a.1
 exact floordiv_int (by omega) (by rw[Int.fdiv_eq_ediv_of_nonneg i (by omega)];exact q) (.inl (PyProof.noPylong_of_log2 a.2))
end
section
variable{X:Cx}{pins:TZ}{σ:St}{H:Hp}{s:Shared}{h':Heap}
theorem Inv.xq{ch:UD}{T:Addr}{xs:List V}{its:UF}{t':Nat}(I:Inv X pins σ H s)(a:∀b∈ch,M7 X pins H b)(k:∀b o,b∉ch->s.heap.get? b=some o->h'.get? b=some o)
  (j:s.heap.objs.size<=T) (rv:Vals xs its) (hz:xs.length<=sizeLine) (p:IsTup h' T its.toArray):Inv X pins σ (upd H T (.tup xs)) { s with heap:=h',toks:=t' }:=by
 have i:H T=none:=I.hok.fresh j
 have h:∀b u,H b=some u->b∉ch:=fun b u e z=>by rw[(a b z).1] at e;cases e
 have neT:∀b o,s.heap.get? b=some o->b≠T:=fun b o e=>Ew (Gc (AT e) j)
 refine I.step (g':=s.gens) (d':=s.drawn) (ch:=ch) (fun b g=>⟨(a b g).2.2.2.1,(a b g).2.1,(a b g).2.2.2.2.1,(a b g).2.2.2.2.2⟩) (fun b o _ _ d e _=>k b o d e) (fun b o _ _ d e _=>⟨o.slots,k b o d e⟩)
  (fun b o d e n=>by rw[i3 (neT b o e)];exact n) (fun b o d e=>⟨o,k b o d e⟩) (fun b l e=>by rw[i3 (p8 e i)];exact e) (fun b o u e=>by rw[i3 (p8 e i)];exact e)
  (fun b ps e=>⟨#[],by rw[i3 (p8 e i),e];simp⟩) (fun m y=>?_) (fun b u e=>?_) I.bare
 ·obtain⟨o,B,ep,x,r⟩:=y
  exact⟨o,B,ep,k _ o (fun z=>(a _ z).2.1 rfl) x,r⟩
 ·by_cases g:b=T
  ·subst g
   rw[e9] at e
   cases e
   exact⟨hz,its,rv,p⟩
  ·rw[i3 g] at e
   refine(I.hok b u e).dm (fun c v d q=>k c v ?_ q) (fun c q=>by rw[i3 (p8 q i)];exact q) fun c l q=>by rw[i3 (p8 q i)];exact q
   rcases d with z | z
   ·rw[z];exact h b u e
   ·exact h c _ z
theorem Inv.Gw{ch:UD}{t':Nat}(I:Inv X pins σ H s)(a:∀b∈ch,M7 X pins H b)(k:∀b o,b∉ch->s.heap.get? b=some o->h'.get? b=some o):Inv X pins σ H { s with heap:=h',toks:=t' }:=by
 have g:∀b u,H b=some u->b∉ch:=fun b u e z=>by rw[(a b z).1] at e;cases e
 refine I.step (g':=s.gens) (d':=s.drawn) (ch:=ch) (fun b h=>⟨(a b h).2.2.2.1,(a b h).2.1,(a b h).2.2.2.2.1,(a b h).2.2.2.2.2⟩) (fun b o _ _ d e _=>k b o d e) (fun b o _ _ d e _=>⟨o.slots,k b o d e⟩)
  (fun b o d e n=>n) (fun b o d e=>⟨o,k b o d e⟩) (fun _ _ e=>e) (fun _ _ _ e=>e) (fun b ps e=>⟨#[],by rw[e];simp⟩) (fun m j=>?_) (fun b u e=>?_) I.bare
 ·obtain⟨o,l,ep,i,r⟩:=j
  exact⟨o,l,ep,k _ o (fun z=>(a _ z).2.1 rfl) i,r⟩
 ·refine(I.hok b u e).dm (fun c v d q=>k c v ?_ q) (fun _ q=>q) fun _ _ q=>q
  rcases d with z | z
  ·rw[z];exact g b u e
  ·exact g c _ z
end
def FK(K:UP)(a:Addr):It:=
 ⟨fun i H=>∃xs x,L1 K H a xs/\xs[i]?=some x,fun i H x b=>∃p y,x=.ref p/\H p=none/\b=upd H p (.tup [.int i,y])/\∀xs,L1 K H a xs->xs[i]?=some y,fun i H=>∃xs,L1 K H a xs/\xs.length<=i⟩
theorem xY{P:Program}{w:World}{K:UP}{M:UG}{x1:Nat}{tp:Pos}(a e it:Addr)(J:e≠it):Turn P w K (.Tuple M x1 tp) (FK K a) [e,it] e (fun i h=>(∃old,IsEnum h e it (i:Nat) old)/\h.IsListIter it a i) where
 mem:=by simp
 obj:=fun i h st b j=>by
  obtain⟨⟨old,r⟩,o,S,c,d⟩:=st
  rcases List.mem_cons.mp j with rfl | j
  ·exact⟨_,r,fun v z=>by
    have z':Data.fields _=Data.cell v:=z
    cases z'⟩
  ·have z:b=it:=by simpa using j
   subst z
   exact⟨o,S,fun v z=>by rw[d] at z;cases z⟩
 keep:=fun i h h' st k=>by
  obtain⟨⟨old,r⟩,g⟩:=st
  exact⟨⟨old,k e (by simp) _ r⟩,g.at fun o q=>k it (by simp) o q⟩
 item:=by
  intro X hP hw hK hc i pins s σ H E I G st T
  subst hP hw hK
  obtain⟨⟨old,r⟩,g⟩:=st
  obtain⟨xs,x,O,Q⟩:=T
  obtain⟨its,rv,p,hz⟩:=I.list O
  obtain⟨u,hu,ru⟩:=rv.get Q
  refine wpAny_pyNext_enum_item r g p.isList (x:=u) (by simpa using hu) J fun h1 U B hT hsz hk=>?_
  refine⟨_,rfl,wpAny_letOwnedTupleGo_enum U fun h2 Y y=>?_⟩
  have l:e<s.heap.objs.size:=AT r
  have C:it<s.heap.objs.size:=by obtain⟨o,S,_⟩:=g;exact AT S
  have R:IsTup h2 s.heap.objs.size [Value.int i s.toks,u].toArray:=⟨_,(y.2 _ (RN l)).trans hT,rfl,_,rfl⟩
  have I2:Inv X pins σ (upd H s.heap.objs.size (.tup [.int i,x])) { s with heap:=h2,toks:=s.toks+1 }:=by
   refine I.xq (ch:=[e,it]) G (fun b o j q=>?_) (sK _) (.cons ⟨_,rfl⟩ (.cons ru .nil)) (by show 2<=sizeLine;decide) R
   have b1:b≠e:=fun z=>j (by simp[z])
   have b2:b≠it:=fun z=>j (by simp[z])
   exact(y.2 b b1).trans (hk b o b1 b2 q)
  refine⟨.ref s.heap.objs.size,_,I2,rfl,⟨s.heap.objs.size,x,rfl,I.fresh,rfl,fun ys hy=>by rw[I.pM hy O];exact Q⟩,⟨⟨u,by simpa using Y⟩,B.extBut y.extBut (Ne.symm J)⟩,fun b j=>?_⟩
  rcases List.mem_cons.mp j with rfl | j
  ·rw[i3 (Ew l)]
   exact(G _ (by simp)).1
  ·have z:b=it:=by simpa using j
   subst z
   rw[i3 (Ew C)]
   exact(G _ (by simp)).1
 done:=by
  intro X hP hw hK hc i pins s σ H E I G st T
  subst hP hw hK
  obtain⟨⟨old,r⟩,g⟩:=st
  obtain⟨xs,O,Q⟩:=T
  obtain⟨its,rv,p,hz⟩:=I.list O
  have hl:=rv.length
  refine wpAny_pyNext_enum_end (I.ok.hd hc) r g p.isList (by simp;omega) fun h1 eb=>⟨rfl,I.Gw (t':=s.toks) (ch:=[e,it]) G fun b o j q=>eb b o (fun z=>j (by simp[z])) q⟩
 self:=fun _ _ _ _ _ st h=>wpAny_pyIter_enum st.1.choose_spec h
def Hw(K:UP)(c:TA):TI:=fun σ H R=>c σ H fun vs b=>∃a,vs=[.ref a]/\(∃xs,L1 K b a xs)/\R (FK K a) b
theorem FE {X:Cx} {i:UG} {y:Nat} {tp:Pos} {a:Expr} {u:TA} {p g:Pos} (Q:Gl X "enumerate") (M:X.mg "enumerate"=none) (S:PA X [a] u) (G:starEach [a] X.env=[(false,eval a X.env)]:=by rfl) :
  PI X (.Tuple i y tp) (.Call (.Name "enumerate" p) [a] [] g) (Hw X.K u):=by
 refine .of ?_
 intro pins s σ H R I h
 refine Call_ (bW I Q M boot_enumerate (RH (y3 (S g pins s σ H _ I h) fun U c ⟨vs,x,d,C,E⟩=>?_) G rfl))
 obtain⟨l,e,⟨xs,J⟩,q⟩:=E
 subst e
 cases C with
 | cons r B=>
  cases B
  cases r
  obtain⟨its,rv,pl,hz⟩:=d.list J
  refine call_enumerate_list pl.isList fun h' v j hsz O=>wpAny_pyIter_enum v ?_
  have T:Inv X pins σ x { c with heap:=h' }:=d.kept (t':=c.toks) O
  refine⟨c.heap.objs.size+1,[c.heap.objs.size+1,c.heap.objs.size],_,_,x,rfl,T,xY l _ _ (Nat.succ_ne_self _),⟨⟨_,v⟩,j⟩,fun b o=>?_,q⟩
  rcases List.mem_cons.mp o with rfl | o
  ·exact d.fH (Tc _) (d.hok.fresh (Tc _))
  ·have z:b=c.heap.objs.size:=by simpa using o
   subst z
   exact d.fH (sK _) (d.hok.fresh (sK _))
section
variable{prog:Program}{w:World}{A:Around}{E:UM}{s:Shared}
end
def NL(b:Bool)(h:Heap)(it l:Addr)(i:Nat):Prop:=match b with
 | true=>h.IsTupleIter it l i
 | false=>h.IsListIter it l i
def MQ(b:Bool)(h:Heap)(l:Addr)(items:UJ):Prop:=match b with
 | true=>h.IsTuple l items
 | false=>h.IsList l items
theorem NL.at{b:Bool}{h h':Heap}{it l:Addr}{i:Nat}(x:NL b h it l i)(k:∀o,h.get? it=some o->h'.get? it=some o):NL b h' it l i:=by
 cases b with
 | true=>obtain⟨o,a,r⟩:=x;exact⟨o,k o a,r⟩
 | false=>obtain⟨o,a,r⟩:=x;exact⟨o,k o a,r⟩
theorem MQ.at{b:Bool}{h h':Heap}{l:Addr}{items:UJ}(x:MQ b h l items)(k:∀o,h.get? l=some o->h'.get? l=some o):MQ b h' l items:=by
 cases b with
 | true=>obtain⟨o,a,r⟩:=x;exact⟨o,k o a,r⟩
 | false=>obtain⟨o,a,r⟩:=x;exact⟨o,k o a,r⟩
theorem MQ.lt{b:Bool}{h:Heap}{l:Addr}{items:UJ}(x:MQ b h l items):l<h.objs.size:=by
 cases b with
 | true=>obtain⟨o,a,r⟩:=x;exact AT a
 | false=>obtain⟨o,a,r⟩:=x;exact AT a
section
variable{prog:Program}{w:World}{A:Around}{E:UM}{s:Shared}{z TI TO i1 i2 l1 l2:Addr}{b1 b2:Bool}{k:Nat}{xs ys:UJ}{x y a b:Value}
def OX(b:Bool):String:=if b then "tuple_iterator" else "list_iterator"
end
end L2
namespace HT
open PySem PySem.Spec PyProof.Rows
section
variable{prog:Program}{w:World}{A:Around}{E:UM}{s:Shared}
theorem zD{t b:Addr}{a:UF}{Q:UM}(i:IsTup s.heap t ([]:UF).toArray)(j:IsTup s.heap b a.toArray)(h:Q (.ref b) s) :
  wpAny (model prog w) A (binaryOp .Add (.ref t) (.ref b)) Q E s:=by
 obtain⟨⟨c1,o,q,l1⟩,g1,g,n1,d⟩:=id i
 obtain⟨⟨c2,l,p,l2⟩,g2,e,n2,c⟩:=id j
 simp only at g d e c
 subst g d e c
 exact TR ⟨_,g1,rfl⟩ ⟨_,g2,rfl⟩ noFill_tuple_add seq_tuple_add SM SI (SE _ _) (tuple_addW0 t b _ a.toArray n1 n2 o l l1 l2 rfl) ⟨g1,g2,h⟩
theorem vd{t c:Addr}{items:UJ}{j i:Value}{lo b:Option Int}{Q:UM}(a:IsTup s.heap t items)(l:s.heap.IsSliceOf c j i .none)(pl:IsPart j lo)(u:IsPart i b)
  (r:D5 items.size 0 lo=0) (q:D5 items.size items.size b=items.size) (h:Q (.ref t) s):wpAny (model prog w) A (getItem (.ref t) (.ref c)) Q E s:=by
 obtain⟨os,d,e,v⟩:=id l
 have g:s.TypeIs (.ref c) "slice":=⟨os,d,e⟩
 unfold getItem
 try with_reducible refine Qq ?_
 first | refine dL (hH ?_) | skip
 refine dL (wpAny_sequenceKey a.typeIs (by decide) ?_)
 refine dL (QJ (name:=Str.ofString "__getitem__") a.typeIs Rp
  (Qz Rp a.typeIs entry_tuple_getitem ?_ (args_tuple_getitem _ _)))
 show wpAny _ _ (Builtin.Tuple.tupleItemsOf (.ref t) >>= _) _ _ s
 refine dL (tupleItemsOf_ a ?_)
 refine dL (SC g ?_)
 rw[wS (by decide)]
 refine dL (X6 l pl u ?_)
 have yes:(((D5 items.size 0 lo:Nat):Int) == 0&&(1:Int) == 1&&(D5 items.size items.size b-D5 items.size 0 lo) == items.size)=true:=by
  rw[r,q]
  simp
 show wpAny _ _ (if (((D5 items.size 0 lo:Nat):Int) == 0&&(1:Int) == 1&&(D5 items.size items.size b-D5 items.size 0 lo) == items.size)=true then _ else _) _ _ s
 rw[wS yes]
 obtain⟨⟨c1,y,x,l1⟩,g1,p,n1,o⟩:=id a
 simp only at p o
 subst p o
 wp_walk using wpAny_loadPart' g1
 exact⟨_,rfl,hH h⟩
end
end HT
namespace L2
open PySem PySem.Spec PyProof.Rows
section
variable{X:Cx}{pos:Pos}
def Aq:R2:=fun x y H Q=>∃a b xs c,x=.ref a/\y=.ref b/\H a=some (.tup xs)/\H b=some (.tup c)/\xs.length+c.length<=sizeLine/\∀r d,g4 H d->d r=some (.tup (xs++c))->Q (.ref r) d
theorem EZ:O1 X (binaryOp .Add) Aq:=by
 intro pins s σ H x y v u Q I g e h
 obtain⟨a,b,xs,j,rfl,rfl,d,c,hz,q⟩:=h
 by_cases i:xs=[]
 ·subst i
  cases g
  cases e
  obtain⟨B,l,r,_⟩:=I.tuple (Q0.of d)
  obtain⟨G,E,o,_⟩:=I.tuple (Q0.of c)
  obtain rfl:B=[]:=l.fU.mpr rfl
  exact HT.zD r o ⟨.ref b,H,I,rfl,q b H (g4.refl _) c⟩
 ·refine DG pins s σ H _ _ v u Q I g e ⟨a,b,xs,j,rfl,rfl,Q0.of d,Q0.of c,i,hz,fun z=>q a H (g4.refl _) (by rw[z,Do];exact d),fun z p C=>q p _ (g4.i4 C) e9⟩
def OP:V->Option Int->Option Int->Hp->VK->Prop:=fun x lo c H Q=>∃a xs,x=.ref a/\H a=some (.tup xs)/\∀r b,g4 H b->b r=some (.tup (gE xs lo c))->Q (.ref r) b
theorem Jf:GU X OP:=by
 intro pins s σ H x v o l lo j u Q I d i pl e h
 obtain⟨a,xs,rfl,c,q⟩:=h
 by_cases hw:HT.D5 xs.length 0 lo=0/\HT.D5 xs.length xs.length j=xs.length
 ·cases d
  obtain⟨its,r,g,hz⟩:=I.tuple (Q0.of c)
  have b:its.toArray.size=xs.length:=by rw[A1];exact r.length.symm
  refine⟨"tuple",_,PyProof.Rows.slot_tuple_getitem.lookup,g.typeIs,?_⟩
  refine HT.vd g i pl e (by rw[b];exact hw.1) (by rw[b];exact hw.2) ⟨.ref a,H,I,rfl,q a H (g4.refl _) ?_⟩
  rw[c]
  unfold gE
  rw[hw.1,hw.2]
  simp
 ·exact Kz pins s σ H _ v o l lo j u Q I d i pl e ⟨a,xs,rfl,Q0.of c,hw,fun p y=>q p _ (g4.i4 y) e9⟩
end
section
variable{X:Cx}
def isStar:Expr->Bool
 | .Starred _ _=>true
 | _=>false
theorem Q6{e:Expr}{a:UG}{env:Env}(h:isStar e=false):starEach (e::a) env=(false,eval e env)::starEach a env:=by
 cases e<;>first | rfl | cases h
theorem dJ{e:Expr}{a:UG}{te:TE}{t:TA}(d:PE X e te)(c:PA X a t)(b:isStar e=false):PA X (e::a) (HJ te t):=vK d c (Q6 b)
end
def Qj(b:Addr)(fs:List (Str×V)):HO:=.ext fun h=>∃a,h.Ns1 b a/\(∀f,dg (fs.lookup f) (a f))/\Within a (fs.map (·.1))
end L2
namespace L3
open PySem PySem.Spec L2
inductive D where
 | o8 | bl (b:Bool) | int (i:Int) | str (x:Str)
 | tup (xs:List D) | lst (xs:List D) | dic (kvs:List (Key×D)) | obj (C:Addr) (fs:List (Str×D)) | ty (n:String) | adr (a:Addr) | fz (xs:List D) | st (ks:List Key) | xc (e dx:Addr) (fs:List (Str×V)) | dn (kvs:List (vb×Int))
mutual
def y1:D->Bool
 | .o8=>true
 | .bl _=>true
 | .int _=>true
 | .str _=>true
 | .tup xs=>y9 xs
 | .lst _=>false
 | .dic _=>false
 | .obj _ _=>false
 | .st _=>false
 | .dn _=>false
 | .xc _ _ _=>false
 | .ty _=>true
 | .adr _=>true
 | .fz xs=>y9 xs
def y9:List D->Bool
 | []=>true
 | x::xs=>y1 x&&y9 xs
end
def HN(K:UP)(H:Hp)(a:Addr)(xs:List V):Prop:=
 (∃o,H a=some (.frz o (.lst xs))) \/
  ∃(o:Obj) (its:UJ) (n:Nat),K.lookup a=some o/\o.cls=.type "list" /\ o.dict=none/\o.data=.seq its n/\its.size<=sizeLine/\Vals xs its.toList
theorem HN.sq{K:UP}{H:Hp}{a:Addr}{xs:List V}(h:HN K H a xs):L1 K H a xs:=by
 rcases h with⟨o,h⟩ | h
 ·exact .inl (.inr ⟨o,h⟩)
 ·exact .inr h
mutual
inductive Rep(K:UP)(H:Hp):V->D->UD->Prop
 | o8:Rep K H .o8 .o8 []
 | bl {b:Bool}:Rep K H (.bl b) (.bl b) []
 | int {i:Int}:Rep K H (.int i) (.int i) []
 | str {x:Str}:Rep K H (.str x) (.str x) []
 | tup {p:Addr} {vs:List V} {ds:List D} {A:UD}:H p=some (.tup vs)->j7 K H vs ds A->Rep K H (.ref p) (.tup ds) A
 | lst {p:Addr} {vs:List V} {ds:List D} {A:UD}:H p=some (.lst vs)->j7 K H vs ds A->Rep K H (.ref p) (.lst ds) (p::A)
 | frz {p:Addr} {vs:List V} {ds:List D} {A:UD}:HN K H p vs->j7 K H vs ds A->Rep K H (.ref p) (.fz ds) A
 | dic {p:Addr} {kvs:List (Key×V)} {kds:List (Key×D)} {A:UD} {ep:Nat}:H p=some (.dE kvs ep)->A3 K H kvs kds A->Rep K H (.ref p) (.dic kds) (p::A)
 | obj {p C dx:Addr} {fs:List (Str×V)} {fds:List (Str×D)} {A:UD}:H p=some (.ins C dx fs)->fC K H fs fds A->Rep K H (.ref p) (.obj C fds) (p::A)
 | st {p:Addr} {S:Key->Bool} {n:Nat} {ks:List Key}:H p=some (.set S n)->(∀k:Key,S k=ks.any fun z=>decide (z=k))->Rep K H (.ref p) (.st ks) [p]
 | xc {e dx:Addr} {fs:List (Str×V)}:H dx=some (Qj dx fs)->Rep K H (.ref e) (.xc e dx fs) [dx]
 | dn {p:Addr} {kvs:List (vb×Int)}:H p=some (.dN (kvs.map fun q=>(q.1,V.int q.2)))->Rep K H (.ref p) (.dn kvs) [p]
 | ty {n:String}:Rep K H (.ty n) (.ty n) []
 | adr {p:Addr}:Rep K H (.ref p) (.adr p) []
inductive j7(K:UP)(H:Hp):List V->List D->UD->Prop
 | nil:j7 K H [] [] []
 | cons {v:V} {d:D} {vs:List V} {ds:List D} {A B:UD}:Rep K H v d A->j7 K H vs ds B->j7 K H (v::vs) (d::ds) (A++B)
inductive A3(K:UP)(H:Hp):List (Key×V)->List (Key×D)->UD->Prop
 | nil:A3 K H [] [] []
 | cons {k:Key} {v:V} {d:D} {vs:List (Key×V)} {ds:List (Key×D)} {A B:UD}:Rep K H v d A->A3 K H vs ds B->A3 K H ((k,v)::vs) ((k,d)::ds) (A++B)
inductive fC(K:UP)(H:Hp):List (Str×V)->List (Str×D)->UD->Prop
 | nil:fC K H [] [] []
 | cons {k:Str} {v:V} {d:D} {vs:List (Str×V)} {ds:List (Str×D)} {A B:UD}:Rep K H v d A->fC K H vs ds B->fC K H ((k,v)::vs) ((k,d)::ds) (A++B)
end
structure V4(H H':Hp):Prop where
 P9:∀b xs,H b=some (.tup xs)->H' b=some (.tup xs)
 frzs:∀b o u,H b=some (.frz o u)->H' b=some (.frz o u)
 dom:∀b,H' b=none->H b=none
structure Tf(H H':Hp):Prop where
 P9:∀b xs,H b=some (.tup xs)->H' b=some (.tup xs)
 frzs:∀b o u,H b=some (.frz o u)->H' b=some (.frz o u)
theorem V4.tf{H a:Hp}(s:V4 H a):Tf H a:=⟨s.P9,s.frzs⟩
theorem V4.refl(H:Hp):V4 H H:=⟨fun _ _ h=>h,fun _ _ _ h=>h,fun _ h=>h⟩
theorem V4.trans{H e d:Hp}(a:V4 H e)(b:V4 e d):V4 H d:=⟨fun c x h=>b.P9 c x (a.P9 c x h),fun c o u h=>b.frzs c o u (a.frzs c o u h),fun c h=>a.dom c (b.dom c h)⟩
theorem V4.of{H a:Hp}(s:g4 H a):V4 H a:=⟨fun b _ h=>s b _ h,fun b _ _ h=>s b _ h,fun b h=>s.free h⟩
theorem Tf.OR{K:UP}{H b:Hp}(s:Tf H b){a:Addr}{xs:List V}(h:HN K H a xs):HN K b a xs:=by
 rcases h with⟨o,h⟩ | h
 ·exact .inl ⟨o,s.frzs _ _ _ h⟩
 ·exact .inr h
section
variable{K:UP}{H H':Hp}
mutual
theorem Rep.D8(s:Tf H H'):∀{v:V} {d:D} {A:UD},Rep K H v d A->(∀a∈A,H' a=H a)->Rep K H' v d A
 | _,_,_,.o8,_=>.o8
 | _,_,_,.bl,_=>.bl
 | _,_,_,.int,_=>.int
 | _,_,_,.str,_=>.str
 | _,_,_,.ty,_=>.ty
 | _,_,_,.adr,_=>.adr
 | _,_,_,.tup h r,e=>.tup (s.P9 _ _ h) (r.D8 s e)
 | _,_,_,.lst h r,e=>.lst ((e _ lP).trans h) (r.D8 s fun a ha=>e a (hQ _ ha))
 | _,_,_,.frz h r,e=>.frz (s.OR h) (r.D8 s e)
 | _,_,_,.dic h r,e=>.dic ((e _ lP).trans h) (r.D8 s fun a ha=>e a (hQ _ ha))
 | _,_,_,.obj h r,e=>.obj ((e _ lP).trans h) (r.D8 s fun a ha=>e a (hQ _ ha))
 | _,_,_,.st h r,e=>.st ((e _ lP).trans h) r
 | _,_,_,.dn h,e=>.dn ((e _ lP).trans h)
 | _,_,_,.xc h,e=>.xc ((e _ lP).trans h)
theorem j7.D8(s:Tf H H'):∀{v:List V} {d:List D} {A:UD},j7 K H v d A->(∀a∈A,H' a=H a)->j7 K H' v d A
 | _,_,_,.nil,_=>.nil
 | _,_,_,.cons h r,e=>.cons (h.D8 s fun a ha=>e a (FM _ ha)) (r.D8 s fun a ha=>e a (wT _ ha))
theorem A3.D8(s:Tf H H'):∀{v:List (Key×V)} {d:List (Key×D)} {A:UD},A3 K H v d A->(∀a∈A,H' a=H a)->A3 K H' v d A
 | _,_,_,.nil,_=>.nil
 | _,_,_,.cons h r,e=>.cons (h.D8 s fun a ha=>e a (FM _ ha)) (r.D8 s fun a ha=>e a (wT _ ha))
theorem fC.D8(s:Tf H H'):∀{v:List (Str×V)} {d:List (Str×D)} {A:UD},fC K H v d A->(∀a∈A,H' a=H a)->fC K H' v d A
 | _,_,_,.nil,_=>.nil
 | _,_,_,.cons h r,e=>.cons (h.D8 s fun a ha=>e a (FM _ ha)) (r.D8 s fun a ha=>e a (wT _ ha))
end
theorem Rep.mono(s:V4 H H'){v:V}{d:D}{A:UD}(r:Rep K H v d A)(h:∀a∈A,H' a=H a):Rep K H' v d A:=r.D8 s.tf h
theorem j7.mono(s:V4 H H'){v:List V}{d:List D}{A:UD}(r:j7 K H v d A)(h:∀a∈A,H' a=H a):j7 K H' v d A:=r.D8 s.tf h
theorem A3.mono(s:V4 H H'){v:List (Key×V)}{d:List (Key×D)}{A:UD}(r:A3 K H v d A)(h:∀a∈A,H' a=H a):A3 K H' v d A:=r.D8 s.tf h
theorem fC.mono(s:V4 H H'){v:List (Str×V)}{d:List (Str×D)}{A:UD}(r:fC K H v d A)(h:∀a∈A,H' a=H a):fC K H' v d A:=r.D8 s.tf h
mutual
theorem Rep.ah:∀{v:V} {d:D} {A:UD},Rep K H v d A->∀a∈A,fY (H a)
 | _,_,_,.tup _ r,a,ha=>r.ah a ha
 | _,_,_,.lst h r,a,ha=>by
  rcases List.mem_cons.mp ha with e | e
  ·rw[e,h];trivial
  ·exact r.ah a e
 | _,_,_,.frz _ r,a,ha=>r.ah a ha
 | _,_,_,.dic h r,a,ha=>by
  rcases List.mem_cons.mp ha with e | e
  ·rw[e,h];trivial
  ·exact r.ah a e
 | _,_,_,.obj h r,a,ha=>by
  rcases List.mem_cons.mp ha with e | e
  ·rw[e,h];trivial
  ·exact r.ah a e
 | _,_,_,.xc h,a,ha=>by
  rw[List.mem_singleton.mp ha,h];trivial
 | _,_,_,.dn h,a,ha=>by
  rw[List.mem_singleton.mp ha,h];trivial
 | _,_,_,.st h r,a,ha=>by
  rw[List.mem_singleton.mp ha,h];trivial
theorem j7.ah:∀{v:List V} {d:List D} {A:UD},j7 K H v d A->∀a∈A,fY (H a)
 | _,_,_,.cons h r,a,ha=>(List.mem_append.mp ha).elim (h.ah a) (r.ah a)
theorem A3.ah:∀{v:List (Key×V)} {d:List (Key×D)} {A:UD},A3 K H v d A->∀a∈A,fY (H a)
 | _,_,_,.cons h r,a,ha=>(List.mem_append.mp ha).elim (h.ah a) (r.ah a)
theorem fC.ah:∀{v:List (Str×V)} {d:List (Str×D)} {A:UD},fC K H v d A->∀a∈A,fY (H a)
 | _,_,_,.cons h r,a,ha=>(List.mem_append.mp ha).elim (h.ah a) (r.ah a)
end
theorem fY.some{o:Option HO}(h:fY o):∃x,o=Option.some x:=by
 cases o with
 | none=>cases h
 | some x=>exact⟨x,rfl⟩
theorem Rep.same(s:g4 H H'){v:V}{d:D}{A:UD}(r:Rep K H v d A):Rep K H' v d A:=
 r.mono (V4.of s) fun a b=>by
  obtain⟨o,e⟩:=fY.some (r.ah a b)
  rw[e];exact s a o e
theorem j7.same(s:g4 H H'){v:List V}{d:List D}{A:UD}(r:j7 K H v d A):j7 K H' v d A:=
 r.mono (V4.of s) fun a b=>by
  obtain⟨o,e⟩:=fY.some (r.ah a b)
  rw[e];exact s a o e
mutual
theorem Rep.D4:∀{v:V} {d:D} {A:UD},Rep K H v d A->y1 d=true->A=[]
 | _,_,_,.o8,_=>rfl
 | _,_,_,.bl,_=>rfl
 | _,_,_,.int,_=>rfl
 | _,_,_,.str,_=>rfl
 | _,_,_,.ty,_=>rfl
 | _,_,_,.adr,_=>rfl
 | _,_,_,.tup _ r,e=>r.D4 (by simpa[y1] using e)
 | _,_,_,.lst _ _,e=>by simp[y1] at e
 | _,_,_,.frz _ r,e=>r.D4 (by simpa[y1] using e)
 | _,_,_,.dic _ _,e=>by simp[y1] at e
 | _,_,_,.obj _ _,e=>by simp[y1] at e
 | _,_,_,.st _ _,e=>by simp[y1] at e
 | _,_,_,.dn _,e=>by simp[y1] at e
 | _,_,_,.xc _,e=>by simp[y1] at e
theorem j7.D4:∀{v:List V} {d:List D} {A:UD},j7 K H v d A->y9 d=true->A=[]
 | _,_,_,.nil,_=>rfl
 | _,_,_,.cons h r,e=>by
  simp[y9] at e
  rw[h.D4 e.1,r.D4 e.2];rfl
end
theorem j7.length:∀{v:List V} {d:List D} {A:UD},j7 K H v d A->v.length=d.length
 | _,_,_,.nil=>rfl
 | _,_,_,.cons _ r=>by simp[r.length]
theorem j7.get:∀{vs:List V} {ds:List D} {A:UD} {i:Nat} {d:D},j7 K H vs ds A->ds[i]?=some d->∃v B,vs[i]?=some v/\Rep K H v d B/\B.Sublist A
 | _,_,_,_,_,.nil,e=>by simp at e
 | _,_,_,0,_,.cons (A:=A) h r,e=>by simp at e;subst e;exact⟨_,A,rfl,h,SF _ _⟩
 | _,_,_,i+1,d,.cons h r,e=>by
  obtain⟨v,B,c,b,a⟩:=j7.get (i:=i) (d:=d) r (by simpa using e)
  exact⟨v,B,by simpa using c,b,a.trans (List.sublist_append_right _ _)⟩
theorem j7.append:∀{vs a:List V} {ds b:List D} {A B:UD},j7 K H vs ds A->j7 K H a b B->j7 K H (vs++a) (ds++b) (A++B)
 | _,_,_,_,_,_,.nil,q=>q
 | _,_,_,_,_,_,.cons h r,q=>by rw[PP];exact .cons h (r.append q)
theorem j7.split:∀{vs:List V} {ds:List D} {A:UD} (n:Nat),j7 K H vs ds A->∃B C,A=B++C/\j7 K H (vs.take n) (ds.take n) B/\j7 K H (vs.drop n) (ds.drop n) C
 | _,_,_,0,r=>⟨[],_,rfl,.nil,r⟩
 | _,_,_,n+1,.nil=>⟨[],[],rfl,.nil,.nil⟩
 | _,_,_,n+1,.cons h r=>by
  obtain⟨B,C,e,b,a⟩:=r.split n
  exact⟨_++B,C,by rw[e,PP],.cons h b,a⟩
theorem j7.cut{vs:List V}{ds:List D}{A:UD}(i j:Nat)(r:j7 K H vs ds A):∃B,B.Sublist A/\j7 K H ((vs.drop i).take j) ((ds.drop i).take j) B:=by
 obtain⟨B,C,e,_,b⟩:=r.split i
 obtain⟨d,g,c,a,_⟩:=b.split j
 exact⟨d,by rw[e,c];exact(SF _ _).trans (Sx _ _),a⟩
theorem j7.set:∀{vs:List V} {ds:List D} {A:UD} {v:V} {d:D} {B:UD} (i:Nat),j7 K H vs ds A->Rep K H v d B->∃C,j7 K H (vs.set i v) (ds.set i d) C/\(∀a∈C,a∈A\/a∈B)/\(A.Nodup->B.Nodup->(∀a∈B,a∉A)->C.Nodup)
 | _,_,_,_,_,_,_,.nil,_=>⟨[],.nil,(fun _ h=>absurd h (by simp)),fun _ _ _=>xL⟩
 | _,_,_,_,_,B,0,.cons (A:=p) (B:=o) h r,q=>⟨B++o,.cons q r,fun a c=>(List.mem_append.mp c).elim .inr fun z=>.inl (wT _ z),fun n1 n2 g=>by
   refine List.nodup_append.mpr ⟨n2,(List.nodup_append.mp n1).2.1,fun a c b j e=>?_⟩
   subst e
   exact g a c (wT _ j)⟩
 | _,_,_,_,_,B,i+1,.cons (A:=p) (B:=o) h r,q=>by
  obtain⟨C,x,l,u⟩:=j7.set i r q
  refine⟨p++C,.cons h x,fun a c=>?_,fun n1 n2 g=>?_⟩
  ·rcases List.mem_append.mp c with z | z
   ·exact .inl (FM _ z)
   ·exact(l a z).elim (fun y=>.inl (wT _ y)) .inr
  ·have:=List.nodup_append.mp n1
   refine List.nodup_append.mpr ⟨this.1,u this.2.1 n2 fun a c z=>g a c (wT _ z),fun a c b j e=>?_⟩
   subst e
   rcases l a j with z | z
   ·exact this.2.2 a c a z rfl
   ·exact g a z (FM _ c)
end
inductive Cl where | own | bor | loc | mk (H:Hp)
abbrev Ev:=List (Option D)
structure Ent where
 H₀:Hp
 L:Nat->UD
 vs:List V
 cl:List Cl
 /-- what is frozen meanwhile (a loop's list),and how it stands -/
 Z:Addr->Prop
 Hz:Hp
def Ent.own(G:Ent)(i:Nat):Prop:=G.cl[i]?=some .own
structure Ent.Po(G:Ent):Prop where
 one:∀i,i<G.vs.length->G.own i->i=0
 lk:∀(j:Nat) (H':Hp),G.cl[j]?=some (.mk H')->∀a o,H' a=some o->G.H₀ a=some o/\∀i,i<G.vs.length->G.own i->a∉G.L i
structure E3(K:UP)(G:Ent)(ρ:Ev)(σ:St)(H:Hp)(fa:UN):Prop where
 rep:∀i d,ρ[i]?=some (some d)->∃v,σ[i]?=some (some v)/\Rep K H v d (fa i)
 emp:∀i,(∀d,ρ[i]?≠some (some d))->fa i=[]
 len:ρ.length=σ.length
 nd:∀i,(G.own i\/G.cl[i]?=some .loc)->(fa i).Nodup
 dj:∀i j,i≠j->G.own i->∀a∈fa i,a∉fa j
 par:∀i,i<G.vs.length->G.own i->σ[i]?=some G.vs[i]?
 old:∀i,i<G.vs.length->G.own i->∀a∈fa i,a∈G.L i\/G.H₀ a=none
 new:∀i,(G.cl[i]?=some .loc\/(G.own i/\¬i<G.vs.length))->∀a∈fa i,G.H₀ a=none
 frm:∀a o,G.H₀ a=some o->(∀i,i<G.vs.length->G.own i->a∉G.L i)->H a=some o
 stb:V4 G.H₀ H
 zk:∀a,G.Z a->H a=G.Hz a
 zn:∀a,G.Z a->G.Hz a≠none
 zo:∀i,G.own i->∀a∈fa i,¬G.Z a
 po:G.Po
theorem E3.kept{K:UP}{G:Ent}{c:Ev}{σ:St}{H:Hp}{i:UN}(E:E3 K G c σ H i){j:Nat}{b:Hp}(h:G.cl[j]?=some (.mk b)):g4 b H:=fun a o e=>let ⟨g,d⟩:=E.po.lk j b h a o e;E.frm a o g d
section
variable{K:UP}{G:Ent}{ρ:Ev}{σ:St}{H H':Hp}{fa:UN}
theorem E3.ah(E:E3 K G ρ σ H fa)(i:Nat):∀a∈fa i,fY (H a):=fun a b=>by
 cases e:ρ[i]? with
 | none=>rw[E.emp i (fun d z=>by rw[e] at z;cases z)] at b;cases b
 | some o=>
  cases o with
  | none=>rw[E.emp i (fun d z=>by rw[e] at z;cases z)] at b;cases b
  | some d=>
   obtain⟨v,_,r⟩:=E.rep i d e
   exact r.ah a b
theorem E3.there(E:E3 K G ρ σ H fa)(i:Nat){a:Addr}(b:a∈fa i):H a≠none:=fun z=>by
 have:=E.ah i a b
 rw[z] at this
 exact this
theorem E3.same(E:E3 K G ρ σ H fa)(s:g4 H H'):E3 K G ρ σ H' fa:=
 ⟨fun i d e=>let ⟨v,c,b⟩:=E.rep i d e;⟨v,c,b.same s⟩,E.emp,E.len,E.nd,E.dj,E.par,E.old,E.new,fun a o h n=>s a o (E.frm a o h n),E.stb.trans (V4.of s),fun a z=>(by
  obtain⟨o,e⟩:=Option.ne_none_iff_exists'.mp (E.zn a z)
  have h:=E.zk a z
  rw[e] at h ⊢
  exact s a o h),E.zn,E.zo,E.po⟩
inductive Fl where | any | stab | locl | fresh
def B0(G:Ent)(H:Hp)(fa:UN)(B:UD):Fl->Prop
 | .any=>True
 | .stab=>∀i,G.own i->∀a∈B,a∉fa i
 | .locl=>(∀i,G.own i->∀a∈B,a∉fa i)/\(∀a∈B,G.H₀ a=none)/\B.Nodup
 | .fresh=>B.Nodup/\∀a∈B,H a=none
def gQ:Fl->Fl->Bool
 | _,.any=>true
 | .any,_=>false
 | _,.stab=>true
 | .stab,_=>false
 | _,.locl=>true
 | .locl,_=>false
 | .fresh,.fresh=>true
theorem B0.bz(E:E3 K G ρ σ H fa){B:UD}(h:B0 G H fa B .fresh):B0 G H fa B .stab:=fun i _ a b z=>E.there i z (h.2 a b)
theorem B0.jl(E:E3 K G ρ σ H fa){B:UD}(h:B0 G H fa B .fresh):B0 G H fa B .locl:=⟨B0.bz E h,fun a b=>E.stb.dom a (h.2 a b),h.1⟩
theorem B0.weak(E:E3 K G ρ σ H fa){B:UD}{f g:Fl}(h:B0 G H fa B f)(a:gQ f g=true):B0 G H fa B g:=by
 cases f<;>cases g<;>first | trivial | exact h | (cases a;done) | exact h.1 | exact B0.bz E h | exact B0.jl E h
theorem B0.nil(f:Fl):B0 G H fa [] f:=by
 cases f with
 | any=>trivial
 | stab=>intro i _ a b;cases b
 | locl=>exact⟨fun i _ a b=>(by cases b),fun a b=>(by cases b),xL⟩
 | fresh=>exact⟨xL,fun a b=>(by cases b)⟩
theorem B0.sub{B C:UD}{f:Fl}(h:B0 G H fa B f)(s:C.Sublist B):B0 G H fa C f:=by
 cases f with
 | any=>trivial
 | stab=>exact fun i o a b=>h i o a (s.mem b)
 | locl=>exact⟨fun i o a b=>h.1 i o a (s.mem b),fun a b=>h.2.1 a (s.mem b),h.2.2.sublist s⟩
 | fresh=>exact⟨h.1.sublist s,fun a b=>h.2 a (s.mem b)⟩
end
abbrev TU:=Ev->(D->Prop)->Prop
structure PU(X:Cx)(cl:List Cl)(e:Expr)(f:Fl)(u:TU):Prop where
 of ::
 run:∃t,PE X e t/\∀(G:Ent) (ρ:Ev) (σ:St) (H:Hp) (fa:UN) (Q:D->Prop) (R:VK),G.cl=cl->E3 X.K G ρ σ H fa->u ρ Q ->
  (∀v H' d B,g4 H H'->Rep X.K H' v d B->B0 G H fa B f->Q d->R v H')->t σ H R
abbrev TM:=Ev->(D->Ev->Prop)->Prop
structure Q2(K:UP)(G:Ent)(H:Hp)(fa:UN)(H':Hp)(fa':UN):Prop where
 frm:∀a o,H a=some o->(∀i,G.own i->a∉fa i)->H' a=some o
 stb:V4 H H'
 new:∀i,G.own i->∀a∈fa' i,a∈fa i\/H a=none
 bor:∀i,¬G.own i->fa' i=fa i
section
variable{K:UP}{G:Ent}{ρ ρ':Ev}{σ:St}{H H' H2:Hp}{fa fa' fa2:UN}
theorem Q2.refl:Q2 K G H fa H fa:=⟨fun _ _ h _=>h,V4.refl H,fun _ _ _ h=>.inl h,fun _ _=>rfl⟩
theorem Q2.same(s:g4 H H'):Q2 K G H fa H' fa:=⟨fun _ _ h _=>s _ _ h,V4.of s,fun _ _ _ h=>.inl h,fun _ _=>rfl⟩
theorem Q2.trans(a:Q2 K G H fa H' fa')(b:Q2 K G H' fa' H2 fa2):Q2 K G H fa H2 fa2:=
  ⟨fun x o h n=>b.frm x o (a.frm x o h n) fun i c z=>(a.new i c x z).elim (n i c) (fun e=>by rw[h] at e;cases e),a.stb.trans b.stb,
   fun i c x d=>(b.new i c x d).elim (a.new i c x) (fun e=>.inr (a.stb.dom x e)),fun i c=>(b.bor i c).trans (a.bor i c)⟩
theorem Q2.keep(c:Q2 K G H fa H' fa'){v:V}{d:D}{B:UD}(r:Rep K H v d B)(n:∀i,G.own i->∀a∈B,a∉fa i):Rep K H' v d B:=
 r.mono c.stb fun a b=>by
  obtain⟨o,e⟩:=fY.some (r.ah a b)
  rw[e];exact c.frm a o e fun i g=>n i g a b
theorem Q2.apart(c:Q2 K G H fa H' fa'){B:UD}(t:∀a∈B,H a≠none)(n:∀i,G.own i->∀a∈B,a∉fa i):∀i,G.own i->∀a∈B,a∉fa' i:=fun i b a d z=>
 (c.new i b a z).elim (n i b a d) (t a d)
theorem E3.step(E:E3 K G ρ σ H fa)(c:Q2 K G H fa H' fa')(y:ρ'.length=ρ.length)(u:∀i,¬G.own i->ρ'[i]?=ρ[i]?)
  (x:∀i d,G.own i->ρ'[i]?=some (some d)->∃v,σ[i]?=some (some v)/\Rep K H' v d (fa' i)) (B:∀i,G.own i->(∀d,ρ'[i]?≠some (some d))->fa' i=[])
  (nd:∀i,G.own i->(fa' i).Nodup) (dj:∀i j,i≠j->G.own i->G.own j->∀a∈fa' i,a∉fa' j):E3 K G ρ' σ H' fa' where
 rep:=fun i d e=>by
  by_cases b:G.own i
  ·exact x i d b e
  ·rw[u i b] at e
   obtain⟨v,C,r⟩:=E.rep i d e
   refine⟨v,C,?_⟩
   rw[c.bor i b]
   exact c.keep r fun j l a g z=>E.dj j i (fun q=>b (q▸l)) l a z g
 emp:=fun i e=>by
  by_cases b:G.own i
  ·exact B i b e
  ·rw[c.bor i b]
   exact E.emp i fun d z=>e d (by rw[u i b];exact z)
 len:=y.trans E.len
 nd:=fun i h=>by
  by_cases b:G.own i
  ·exact nd i b
  ·rw[c.bor i b];exact E.nd i h
 dj:=fun i j n b a g=>by
  by_cases l:G.own j
  ·exact dj i j n b l a g
  ·rw[c.bor j l]
   intro z
   rcases c.new i b a g with q | q
   ·exact E.dj i j n b a q z
   ·exact E.there j z q
 par:=E.par
 old:=fun i h b a g=>(c.new i b a g).elim (E.old i h b a) fun q=>.inr (E.stb.dom a q)
 new:=fun i h a g=>by
  by_cases b:G.own i
  ·exact(c.new i b a g).elim (E.new i h a) fun q=>E.stb.dom a q
  ·rw[c.bor i b] at g
   exact E.new i h a g
 frm:=fun a o h n=>c.frm a o (E.frm a o h n) fun i b z=>by
  by_cases p:i<G.vs.length
  ·rcases E.old i p b a z with q | q
   ·exact n i p b q
   ·rw[h] at q;cases q
  ·have q:=E.new i (.inr ⟨b,p⟩) a z
   rw[h] at q;cases q
 stb:=E.stb.trans c.stb
 zk:=fun a z=>by
  obtain⟨o,e⟩:=Option.ne_none_iff_exists'.mp (E.zn a z)
  have h:=E.zk a z
  rw[e] at h ⊢
  exact c.frm a o h fun i b q=>E.zo i b a q z
 zn:=E.zn
 zo:=fun i b a g z=>by
  rcases c.new i b a g with q | q
  ·exact E.zo i b a q z
  ·have h:=E.zk a z
   rw[q] at h
   exact E.zn a z h.symm
 po:=E.po
end
structure PM(X:Cx)(cl:List Cl)(e:Expr)(u:TM):Prop where
 of ::
 run:∃t,PE X e t/\∀(G:Ent) (ρ:Ev) (σ:St) (H:Hp) (fa:UN) (Q:D->Ev->Prop) (R:VK),G.cl=cl->E3 X.K G ρ σ H fa->u ρ Q ->
  (∀v H' d B ρ' fa',E3 X.K G ρ' σ H' fa'->Q2 X.K G H fa H' fa'->Rep X.K H' v d B->B.Nodup->(∀a∈B,H a=none/\∀i,a∉fa' i)->Q d ρ'->R v H')->t σ H R
structure W7 where
 nx:Ev->Prop
 rt:D->Ev->Prop
 bk:Ev->Prop:=fun _=>False
 ct:Ev->Prop:=fun _=>False
abbrev i9:=W7->Ev->Prop
def Cy(K:UP)(G:Ent)(N:Ev->Prop):St->Hp->Prop:=fun σ H=>∃a b,E3 K G a σ H b/\N a
def Oc(K:UP)(G:Ent)(N:D->Ev->Prop):VK:=fun v H=>∃d b σ c B,E3 K G b σ H c/\Rep K H v d B/\B.Nodup/\(∀a∈B,G.H₀ a=none)/\(∀i,i<G.vs.length->G.own i->∀a∈B,a∉c i)/\N d b
def low(K:UP)(G:Ent)(T:W7):Ends:={ nx:=Cy K G T.nx,rt:=Oc K G T.rt,bk:=Cy K G T.bk,ct:=Cy K G T.ct }
structure NB(A B:Ends):Prop where
 nx:∀σ H,A.nx σ H->B.nx σ H
 rt:∀v H,A.rt v H->B.rt v H
 bk:∀σ H,A.bk σ H->B.bk σ H
 ct:∀σ H,A.ct σ H->B.ct σ H
theorem NB.refl(A:Ends):NB A A:=⟨fun _ _ h=>h,fun _ _ h=>h,fun _ _ h=>h,fun _ _ h=>h⟩
structure U3(X:Cx)(cl:List Cl)(e:Expr)(u:Ev->(Bool->Prop)->Prop):Prop where
 of ::
 run:∃t,PT X e t/\∀(G:Ent) (ρ:Ev) (σ:St) (H:Hp) (fa:UN) (Q:Bool->Prop) (R:Bool->Hp->Prop),G.cl=cl->E3 X.K G ρ σ H fa->u ρ Q ->
  (∀b H',g4 H H'->Q b->R b H')->t σ H R
structure L7(X:Cx)(cl:List Cl)(st:Stmt)(s:i9):Prop where
 of ::
 run:∃t,PS X st t/\∀(G:Ent) (T:W7) (ρ:Ev) (σ:St) (H:Hp) (fa:UN) (R:Ends),G.cl=cl->E3 X.K G ρ σ H fa->s T ρ->NB (low X.K G T) R->t R σ H
structure jY(X:Cx)(cl:List Cl)(st:UL)(s:i9):Prop where
 of ::
 run:∃t,pN X st t/\∀(G:Ent) (T:W7) (ρ:Ev) (σ:St) (H:Hp) (fa:UN) (R:Ends),G.cl=cl->E3 X.K G ρ σ H fa->s T ρ->NB (low X.K G T) R->t R σ H
section
variable{X:Cx}{cl:List Cl}{e a b c:Expr}{f:Fl}{pos:Pos}
def uC(d:D):TU:=fun _ Q=>Q d
def d8(i:Nat):TU:=fun g Q=>match g[i]? with
 | some (some d)=>Q d
 | _=>False
def Kb:Option Cl->Fl
 | some .bor=>.stab
 | some .loc=>.locl
 | _=>.any
theorem E3.vE{K:UP}{G:Ent}{l:Ev}{σ:St}{H:Hp}{d:UN}(E:E3 K G l σ H d){i:Nat}(h:¬G.own i):∀j,G.own j->∀a∈d i,a∉d j:=fun j g a o z=>
 E.dj j i (fun e=>h (e▸g)) g a z o
theorem E3.var{K:UP}{G:Ent}{g:Ev}{σ:St}{H:Hp}{d:UN}(E:E3 K G g σ H d)(i:Nat):B0 G H d (d i) (Kb G.cl[i]?):=by
 cases e:G.cl[i]? with
 | none=>trivial
 | some k=>
  cases k with
  | own=>trivial
  | mk _=>trivial
  | bor=>exact E.vE (fun z=>by unfold Ent.own at z;rw[e] at z;cases z)
  | loc=>exact⟨E.vE (fun z=>by unfold Ent.own at z;rw[e] at z;cases z),E.new i (.inl e),E.nd i (.inr e)⟩
theorem IC(i:Nat){x:Str}(h:PE X (.Name x pos) (fE i))(l:Kb cl[i]?=f):PU X cl (.Name x pos) f (d8 i):=.of<|by
 refine⟨_,h,fun G j σ H q Q R p E g k=>?_⟩
 unfold d8 at g
 cases e:j[i]? with
 | none=>rw[e] at g;cases g
 | some o=>
  cases o with
  | none=>rw[e] at g;cases g
  | some d=>
   rw[e] at g
   obtain⟨v,u,r⟩:=E.rep i d e
   refine⟨v,u,k v H d (q i) (g4.refl H) r ?_ g⟩
   rw[<-l,<-p]
   exact E.var i
theorem d9{i:Int}{j}:PU X cl (.Constant (.int i) j pos) .fresh (uC (.int i)):=.of ⟨_,Io,fun G g σ H h Q R _ E d k=>k _ H _ _ (g4.refl H) .int (B0.nil _) d⟩
theorem MN{i:Bool}{j}:PU X cl (.Constant (.bool i) j pos) .fresh (uC (.bl i)):=.of ⟨_,LF,fun G g σ H h Q R _ E d k=>k _ H _ _ (g4.refl H) .bl (B0.nil _) d⟩
theorem B6{j}:PU X cl (.Constant .none j pos) .fresh (uC .o8):=.of ⟨_,KR,fun G g σ H h Q R _ E d k=>k _ H _ _ (g4.refl H) .o8 (B0.nil _) d⟩
theorem K1{x:Str}{j}:PU X cl (.Constant (.str x) j pos) .fresh (uC (.str x)):=.of ⟨_,JB,fun G g σ H h Q R _ E d k=>k _ H _ _ (g4.refl H) .str (B0.nil _) d⟩
theorem PU.weak{u:TU}{g:Fl}(h:PU X cl e f u)(o:gQ f g=true):PU X cl e g u:=.of<|by
 obtain⟨t,l,h⟩:=h.run
 exact⟨t,l,fun G i σ H y Q R p E j k=>h G i σ H y Q R p E j fun v z d B s r x q=>k v z d B s r (x.weak E o) q⟩
def A4(u:TU):TU:=fun g Q=>u g fun d=>y1 d=true/\Q d
theorem PU.y1{u:TU}(h:PU X cl e f u):PU X cl e .fresh (A4 u):=.of<|by
 obtain⟨t,j,h⟩:=h.run
 refine⟨t,j,fun G g σ H o Q R l E i k=>h G g σ H o _ R l E i fun v p d B s r x q=>k v p d B s r ?_ q.2⟩
 rw[r.D4 q.1]
 exact B0.nil _
section
variable{K:UP}{G:Ent}{H H':Hp}{fa:UN}{B:UD}{f:Fl}
theorem B0.back(s:g4 H H')(h:B0 G H' fa B f):B0 G H fa B f:=by
 cases f with
 | any=>trivial
 | stab=>exact h
 | locl=>exact h
 | fresh=>exact⟨h.1,fun a d=>s.free (h.2 a d)⟩
end
theorem u2{C z:TU}{O M:Fl}(q:PU X cl a O C)(p:PU X cl b M z):∃j i,PE X a j/\PE X b i/\∀(G:Ent) (g:Ev) (σ:St) (H:Hp) (h:UN) (Q:D->D->Prop) (R:V->V->Hp->Prop),G.cl=cl->E3 X.K G g σ H h->(C g fun x=>z g fun y=>Q x y) ->
  (∀v w l d e A B,g4 H l->Rep X.K l v d A->Rep X.K l w e B->B0 G H h A O->B0 G H h B M->Q d e->R v w l)->j σ H fun x u=>i σ u fun y r=>R x y r:=by
 obtain⟨j,pa,q⟩:=q.run
 obtain⟨i,pb,p⟩:=p.run
 refine⟨j,i,pa,pb,fun G g σ H h Q R J E hu k=>?_⟩
 refine q G g σ H h _ _ J E hu fun v u d A o T f1 Y=>?_
 refine p G g σ u h _ _ J (E.same o) Y fun w r e B I S f2 U=>?_
 exact k v w r d e A B (o.trans I) (T.same I) S f1 (f2.back o) U
def bH(X:Cx)(r:R2)(g:D->D->(D->Prop)->Prop):Prop:=∀(H:Hp) (v w:V) (d e:D) (A B:UD) (Q:D->Prop) (R:VK),Rep X.K H v d A->Rep X.K H w e B->g d e Q ->
 (∀x h y C,g4 H h->Rep X.K h x y C->C.Nodup->(∀a∈C,H a=none)->Q y->R x h)->r v w H R
def p9(g:D->D->(D->Prop)->Prop)(i h:TU):TU:=fun d Q=>i d fun x=>h d fun y=>g x y Q
theorem MV{u p:TU}{fa fb:Fl}{r:R2}{g:D->D->(D->Prop)->Prop}(o:bH X r g){t:TE->TE->TE}(ht:t=Lg r)(l:PU X cl a fa u)(hb:PU X cl b fb p)(mk:∀{j i},PE X a j->PE X b i->PE X e (t j i)):PU X cl e .fresh (p9 g u p):=.of<|by
 obtain⟨j,i,U,T,h⟩:=u2 l hb
 subst ht
 refine⟨_,mk U T,fun G z σ H fo Q R hG E Y k=>?_⟩
 refine h G z σ H fo _ _ hG E Y fun v w H' d e A B s O M _ _ q=>?_
 exact o H' v w d e A B Q R O M q fun x H2 y C I J n1 n2 S=>k x H2 y C (s.trans I) J ⟨n1,fun a l=>s.free (n2 a l)⟩ S
theorem iB{h d:TU}{v u:Fl}{r:R2}{op:Operator}{g:D->D->(D->Prop)->Prop}(l:O1 X (binaryOp op) r)(o:bH X r g)(q:PU X cl a v h)(p:PU X cl b u d):PU X cl (.BinOp a op b pos) .fresh (p9 g h d):=
 MV o rfl q p fun j i=>Hl l j i
theorem ir{h d:TU}{x v:Fl}{r:R2}{op:CmpOp}{g:D->D->(D->Prop)->Prop}(l:O1 X (compareOp op) r)(o:bH X r g)(u:PU X cl a x h)(q:PU X cl b v d)(p:behindInMarks op b=false):PU X cl (.Compare a [op] [b] pos) .fresh (p9 g h d):=
 MV o rfl u q fun j i=>wo l j i p
def gI(C:Int->Int->Prop)(g:Int->Int->D):D->D->(D->Prop)->Prop
 | .int i,.int j,Q=>C i j/\Q (g i j)
 | _,_,_=>False
def vI(g:Int->Int->D):D->D->(D->Prop)->Prop
 | .int i,.int j,Q=>Q (g i j)
 | _,_,_=>False
theorem x5{K:UP}{H:Hp}{v:V}{i:Int}{A:UD}(h:Rep K H v (.int i) A):v=.int i:=by cases h;rfl
theorem C8{K:UP}{H:Hp}{v:V}{i:Str}{A:UD}(h:Rep K H v (.str i) A):v=.str i:=by cases h;rfl
theorem Z0{K:UP}{H:Hp}{v:V}{i:Bool}{A:UD}(h:Rep K H v (.bl i) A):v=.bl i:=by cases h;rfl
theorem fX{K:UP}{H:Hp}{v:V}{A:UD}(h:Rep K H v .o8 A):v=.o8:=by cases h;rfl
theorem qp{C:Int->Int->Prop}{g:Int->Int->Int}:bH X (rI C fun i j=>.int (g i j)) (gI C fun i j=>.int (g i j)):=by
 intro H v w d e A B Q R o l q k
 cases d<;>cases e<;>first | exact q.elim | skip
 cases x5 o;cases x5 l
 exact⟨_,_,rfl,rfl,q.1,k _ H _ _ (g4.refl H) .int xL (fun _ h=>(by cases h)) q.2⟩
theorem ur{g:Int->Int->Int}:bH X (yO fun i j=>.int (g i j)) (vI fun i j=>.int (g i j)):=by
 intro H v w d e A B Q R o l q k
 cases d<;>cases e<;>first | exact q.elim | skip
 cases x5 o;cases x5 l
 exact⟨_,_,rfl,rfl,k _ H _ _ (g4.refl H) .int xL (fun _ h=>(by cases h)) q⟩
theorem hX{g:Int->Int->Bool}:bH X (yO fun i j=>.bl (g i j)) (vI fun i j=>.bl (g i j)):=by
 intro H v w d e A B Q R o l q k
 cases d<;>cases e<;>first | exact q.elim | skip
 cases x5 o;cases x5 l
 exact⟨_,_,rfl,rfl,k _ H _ _ (g4.refl H) .bl xL (fun _ h=>(by cases h)) q⟩
section
variable{ua ub:TU}{fa fb:Fl}
theorem N7(g:PU X cl a fa ua)(d:PU X cl b fb ub):PU X cl (.BinOp a .Sub b pos) .fresh (p9 (vI fun i j=>.int (i-j)) ua ub):=iB CQ ur g d
theorem gq(g:PU X cl a fa ua)(d:PU X cl b fb ub):PU X cl (.BinOp a .FloorDiv b pos) .fresh (p9 (gI R4 fun i j=>.int (i/j)) ua ub):=iB Ce qp g d
theorem U9(g:PU X cl a fa ua)(d:PU X cl b fb ub):PU X cl (.BinOp a .Mod b pos) .fresh (p9 (gI (fun _ j=>0<j) fun i j=>.int (i%j)) ua ub):=iB zU qp g d
theorem Jw(g:PU X cl a fa ua)(d:PU X cl b fb ub):PU X cl (.BinOp a .Pow b pos) .fresh (p9 (gI bN fun i j=>.int (i^j.toNat)) ua ub):=iB IT qp g d
theorem LC(h:PU X cl a fa ua)(g:PU X cl b fb ub)(d:behindInMarks .Lt b=false):PU X cl (.Compare a [.Lt] [b] pos) .fresh (p9 (vI fun i j=>.bl (decide (i<j))) ua ub):=ir Hs hX h g d
def OS:D->D->(D->Prop)->Prop
 | .str i,.str j,Q=>i.length+j.length<=sizeLine/\Q (.str (i++j))
 | _,_,_=>False
theorem MW:bH X (fun x y H Q=>∃i j,x=.str i/\y=.str j/\i.length+j.length<=sizeLine/\Q (.str (i++j)) H) OS:=by
 intro H v w d e A B Q R l g q k
 cases d<;>cases e<;>first | exact q.elim | skip
 cases C8 l;cases C8 g
 exact⟨_,_,rfl,rfl,q.1,k _ H _ _ (g4.refl H) .str xL (fun _ h=>(by cases h)) q.2⟩
def aC:D->Bool
 | .o8=>true
 | .bl _=>true
 | .int _=>true
 | .str _=>true
 | _=>false
def toV:D->V
 | .o8=>.o8
 | .bl b=>.bl b
 | .int i=>.int i
 | .str x=>.str x
 | _=>.o8
theorem W0{K:UP}{H:Hp}{v:V}{d:D}{A:UD}(h:Rep K H v d A)(f:aC d=true):v=toV d/\A=[]:=by
 cases h<;>first | exact⟨rfl,rfl⟩ | cases f
def ng(d b:Bool):Bool:=match d with
 | true=>!b
 | false=>b
def Ov:D->D->Option Bool
 | .int a,.int b=>some (decide (a=b))
 | .str a,.str b=>some (decide (a=b))
 | .bl a,.bl b=>some (decide (a=b))
 | .o8,.o8=>some true
 | .o8,.int _=>some false
 | .int _,.o8=>some false
 | .o8,.bl _=>some false
 | .bl _,.o8=>some false
 | .o8,.str _=>some false
 | .str _,.o8=>some false
 | .int _,.str _=>some false
 | .str _,.int _=>some false
 | .bl _,.str _=>some false
 | .str _,.bl _=>some false
 | _,_=>none
theorem AM{d e:D}{b:Bool}(h:Ov d e=some b):aC d=true/\aC e=true/\HR (toV d) (toV e)=true/\decide (toV d=toV e)=b:=by
 cases d<;>cases e<;>first | (cases h;done) | skip
 all_goals cases h
 all_goals refine⟨rfl,rfl,rfl,?_⟩
 all_goals first | rfl | (simp[toV];done)
def La(g:Bool):D->D->(D->Prop)->Prop:=fun d e Q=>match Ov d e with
 | some b=>Q (.bl (ng g b))
 | none=>False
theorem zy{g:Bool}{d e:D}{Q:D->Prop}(h:La g d e Q):∃b,Ov d e=some b/\Q (.bl (ng g b)):=by
 unfold La at h
 split at h
 ·exact⟨_,by assumption,h⟩
 ·exact h.elim
theorem KC:bH X Pj (La false):=by
 intro H v w d e A B Q R i g q k
 obtain⟨b,r,q⟩:=zy q
 obtain⟨p,o,l,j⟩:=AM r
 obtain⟨rfl,rfl⟩:=W0 i p
 obtain⟨rfl,rfl⟩:=W0 g o
 refine⟨l,?_⟩
 rw[j]
 exact k _ H _ _ (g4.refl H) .bl xL (fun _ h=>(by cases h)) q
theorem OD:bH X Pg (La true):=by
 intro H v w d e A B Q R i g q k
 obtain⟨b,r,q⟩:=zy q
 obtain⟨p,o,l,j⟩:=AM r
 obtain⟨rfl,rfl⟩:=W0 i p
 obtain⟨rfl,rfl⟩:=W0 g o
 refine⟨l,?_⟩
 rw[j]
 exact k _ H _ _ (g4.refl H) .bl xL (fun _ h=>(by cases h)) q
def vO:D->Bool
 | .o8=>true
 | _=>false
def Pz(g:Bool):D->D->(D->Prop)->Prop
 | d,.o8,Q=>Q (.bl (ng g (vO d)))
 | _,_,_=>False
theorem vD{K:UP}{H:Hp}{v:V}{d:D}{A:UD}(h:Rep K H v d A):decide (v=.o8)=vO d:=by
 cases h<;>first | rfl | simp[vO]
theorem Od:bH X (fun x y H Q=>y=.o8/\Q (.bl (decide (x=.o8))) H) (Pz false):=by
 intro H v w d e A B Q R i g q k
 cases e<;>first | exact q.elim | skip
 cases fX g
 refine⟨rfl,?_⟩
 rw[vD i]
 refine k _ H _ _ (g4.refl H) .bl xL (fun _ h=>(by cases h)) ?_
 exact q
theorem Kg:bH X (fun x y H Q=>y=.o8/\Q (.bl (!decide (x=.o8))) H) (Pz true):=by
 intro H v w d e A B Q R i g q k
 cases e<;>first | exact q.elim | skip
 cases fX g
 refine⟨rfl,?_⟩
 rw[vD i]
 refine k _ H _ _ (g4.refl H) .bl xL (fun _ h=>(by cases h)) ?_
 exact q
def qY:D->Option (List D)
 | .lst xs=>some xs
 | .tup xs=>some xs
 | .fz xs=>some xs
 | _=>none
theorem cL{K:UP}{H:Hp}{v:V}{d:D}{A:UD}{xs:List D}(h:Rep K H v d A)(e:qY d=some xs):∃p vs B,v=.ref p/\(L1 K H p vs\/Q0 K H p vs)/\j7 K H vs xs B/\B.Sublist A:=by
 cases h with
 | tup h r=>cases e;exact⟨_,_,_,rfl,.inr (Q0.of h),r,Sa _⟩
 | lst h r=>cases e;exact⟨_,_,_,rfl,.inl (L1.of h),r,RB _ _⟩
 | frz h r=>cases e;exact⟨_,_,_,rfl,.inl h.sq,r,Sa _⟩
 | _=>cases e
theorem qr{d:D}(h:aC d=true):bB (toV d)=true:=by cases d<;>first | rfl | cases h
theorem j7.flat:∀{K:UP} {H:Hp} {vs:List V} {ds:List D} {A:UD},j7 K H vs ds A->ds.all aC=true->vs=ds.map toV/\vs.all bB=true
 | _,_,_,_,_,.nil,_=>⟨rfl,rfl⟩
 | _,_,_,_,_,.cons h r,f=>by
  rw[RE,Fa] at f
  obtain⟨i,_⟩:=W0 h f.1
  obtain⟨g,d⟩:=r.flat f.2
  subst i
  refine⟨by rw[Bi,<-g],?_⟩
  rw[RE,d,Bool.and_true]
  exact qr f.1
def inD(x:D)(xs:List D):Bool:=xs.any fun y=>EU (toV y) (toV x)
def Pb(g:Bool):D->D->(D->Prop)->Prop:=fun d e Q=>aC d=true/\∃xs,qY e=some xs/\xs.all aC=true/\Q (.bl (ng g (inD d xs)))
theorem OB{g:Bool}:bH X (LR X.K g) (Pb g):=by
 intro H v w d e A B Q R l j q k
 obtain⟨i,xs,z,x,q⟩:=q
 obtain⟨rfl,rfl⟩:=W0 l i
 obtain⟨p,vs,C,rfl,o,r,_⟩:=cL j z
 obtain⟨rfl,u⟩:=r.flat x
 refine⟨p,_,rfl,o,qr i,u,k _ H _ _ (g4.refl H) .bl xL (fun _ h=>(by cases h)) ?_⟩
 have y:NA (toV d) (xs.map toV)=inD d xs:=by unfold NA inD;rw[List.any_map];rfl
 rw[y]
 cases g
 ·exact q
 ·exact q
theorem j7.P0{K:UP}{H:Hp}{vs:List V}{ds:List D}{A:UD}{i:Int}{d:D}(r:j7 K H vs ds A)(h:L2.P0 ds i=some d):∃v B,L2.P0 vs i=some v/\Rep K H v d B/\B.Sublist A:=by
 unfold L2.P0 at h ⊢
 rw[r.length]
 cases e:kN ds.length i with
 | none=>rw[e] at h;cases h
 | some j=>
  rw[e] at h
  exact r.get h
def Pl:D->D->(D->Prop)->Prop
 | .str z,.int i,Q=>z.length<=sizeLine/\∃c,L2.P0 z.cps.toList i=some c/\Q (.str ⟨#[c]⟩)
 | .lst xs,.int i,Q=>∃d,L2.P0 xs i=some d/\Q d
 | .tup xs,.int i,Q=>∃d,L2.P0 xs i=some d/\Q d
 | .fz xs,.int i,Q=>∃d,L2.P0 xs i=some d/\Q d
 | _,_,_=>False
end
end
section
variable{X:Cx}{cl:List Cl}{e a b c:Expr}{es:UG}{f:Fl}{pos:Pos}{ua ub uc:TU}{fa fb fc:Fl}
abbrev cg:=Ev->(List D->Prop)->Prop
structure Lj(X:Cx)(cl:List Cl)(es:UG)(u:cg):Prop where
 of ::
 run:∃t,PA X es t/\∀(G:Ent) (ρ:Ev) (σ:St) (H:Hp) (fa:UN) (Q:List D->Prop) (R:List V->Hp->Prop),G.cl=cl->E3 X.K G ρ σ H fa->u ρ Q ->
  (∀vs H' ds A,g4 H H'->j7 X.K H' vs ds A->A.Nodup->(∀a∈A,H a=none)->ds.length=es.length->Q ds->R vs H')->t σ H R
structure xf(X:Cx)(cl:List Cl)(es:UG)(u:cg):Prop where
 of ::
 run:∃t,PA X es t/\∀(G:Ent) (ρ:Ev) (σ:St) (H:Hp) (fa:UN) (Q:List D->Prop) (R:List V->Hp->Prop),G.cl=cl->E3 X.K G ρ σ H fa->u ρ Q ->
  (∀vs H' ds A,g4 H H'->j7 X.K H' vs ds A->ds.length=es.length->Q ds->R vs H')->t σ H R
def j4:cg:=fun _ Q=>Q []
def e7(ua:TU)(g:cg):cg:=fun d Q=>ua d fun x=>g d fun xs=>Q (x::xs)
theorem u9:Lj X cl [] j4:=.of ⟨_,P4,fun G g σ H fa Q R _ E d k=>k [] H [] [] (g4.refl H) .nil xL (fun _ h=>(by cases h)) rfl d⟩
theorem g6:xf X cl [] j4:=.of ⟨_,P4,fun G g σ H fa Q R _ E d k=>k [] H [] [] (g4.refl H) .nil rfl d⟩
theorem Rep.there{K:UP}{H:Hp}{v:V}{d:D}{A:UD}(r:Rep K H v d A){x:Addr}(g:x∈A):H x≠none:=fun z=>by
 have:=r.ah x g
 rw[z] at this
 exact this
theorem j6{j:cg}(Y:PU X cl e .fresh ua)(U:Lj X cl es j)(T:isStar e=false):Lj X cl (e::es) (e7 ua j):=.of<|by
 obtain⟨t1,J,h1⟩:=Y.run
 obtain⟨t2,I,h2⟩:=U.run
 refine⟨_,dJ J I T,fun G i σ H fa Q R p E S k=>?_⟩
 refine h1 G i σ H fa _ _ p E S fun v H1 d A g o q C=>?_
 refine h2 G i σ H1 fa _ _ p (E.same g) C fun vs H2 ds B l r n1 n2 M u=>?_
 refine k (v::vs) H2 (d::ds) (A++B) (g.trans l) (.cons (o.same l) r) ?_ (fun x h=>?_) (by simp[M]) u
 ·refine List.nodup_append.mpr ⟨q.1,n1,fun x h y O e=>?_⟩
  subst e
  exact o.there h (n2 x O)
 ·rcases List.mem_append.mp h with z | z
  ·exact q.2 x z
  ·exact g.free (n2 x z)
theorem e6{h:cg}(J:PU X cl e f ua)(I:xf X cl es h)(C:isStar e=false):xf X cl (e::es) (e7 ua h):=.of<|by
 obtain⟨Y,x,O⟩:=J.run
 obtain⟨U,u,M⟩:=I.run
 refine⟨_,dJ x u C,fun G g σ H fa Q R l E z k=>?_⟩
 refine O G g σ H fa _ _ l E z fun v T d A j p f1 r=>?_
 refine M G g σ T fa _ _ l (E.same j) r fun vs S ds B i o y q=>?_
 exact k (v::vs) S (d::ds) (A++B) (j.trans i) (.cons (p.same i) o) (by simp[y]) q
def aj(g:cg):TU:=fun d Q=>g d fun xs=>Q (.lst xs)
def bL(g:cg):TU:=fun d Q=>g d fun xs=>Q (.tup xs)
theorem aG{n:Nat}(h:n<=1000):n<=sizeLine:=Re (xj h)
theorem G0{g:cg}(h:Lj X cl es g)(u:Nat.ble es.length 1000=true):PU X cl (.List es pos) .fresh (aj g):=.of<|by
 obtain⟨t,p,h⟩:=h.run
 refine⟨_,Bu p,fun G i σ H fa Q R v E o k=>?_⟩
 refine h G i σ H fa _ _ v E o fun vs B ds A s r n1 n2 j q=>⟨by rw[r.length,j];exact aG (Ix u),fun x d=>?_⟩
 refine k _ _ (.lst ds) (x::A) (s.trans (g4.i4 d)) (.lst e9 (r.same (g4.i4 d))) ⟨List.nodup_cons.mpr ⟨fun z=>?_,n1⟩,fun y l=>?_⟩ q
 ·have:=r.ah x z
  rw[d] at this;exact this
 ·rcases List.mem_cons.mp l with z | z
  ·rw[z];exact s.free d
  ·exact n2 y z
theorem P1{d:cg}{j}(h:Lj X cl es d)(u:Nat.ble es.length 1000=true):PU X cl (.Tuple es j pos) .fresh (bL d):=.of<|by
 obtain⟨t,p,h⟩:=h.run
 refine⟨_,tX p,fun G i σ H fa Q R v E o k=>?_⟩
 refine h G i σ H fa _ _ v E o fun vs y ds A s r n1 n2 l q=>⟨by rw[r.length,l];exact aG (Ix u),fun x g=>?_⟩
 exact k _ _ (.tup ds) A (s.trans (g4.i4 g)) (.tup e9 (r.same (g4.i4 g))) ⟨n1,n2⟩ q
def Call3(X:Cx)(r:List V->Hp->VK->Prop)(g:List D->(D->Prop)->Prop):Prop:=∀(H:Hp) (vs:List V) (ds:List D) (A:UD) (Q:D->Prop) (R:VK),j7 X.K H vs ds A->g ds Q ->
 (∀x d y C,g4 H d->Rep X.K d x y C->C.Nodup->(∀a∈C,H a=none)->Q y->R x d)->r vs H R
def cq(g:List D->(D->Prop)->Prop)(h:cg):TU:=fun d Q=>h d fun ds=>g ds Q
theorem PH{d:cg}{r:List V->Hp->VK->Prop}{g:List D->(D->Prop)->Prop}(o:Call3 X r g)(h:xf X cl es d)(mk:∀{t},PA X es t->PE X e (NF r t)):PU X cl e .fresh (cq g d):=.of<|by
 obtain⟨t,p,h⟩:=h.run
 refine⟨_,mk p,fun G i σ H fa Q R B E v k=>?_⟩
 refine h G i σ H fa _ _ B E v fun vs J ds A s r M q=>?_
 exact o J vs ds A Q R r q fun x I y C j l n1 n2 u=>k x I y C (s.trans j) l ⟨n1,fun a z=>s.free (n2 a z)⟩ u
section
variable{id T:String}{r:List V->Hp->VK->Prop}{g:List D->(D->Prop)->Prop}{x:Str}{p:Pos}{us:cg}
theorem A8 (v:I0 X (.builtin id) r) (o:Call3 X r g) (q:Gl X x) (l:X.mg x=none) (i:bootBuiltins x=some (.builtin id)) (y:xf X cl (e::es) us) (j:x ≠ "__name__":=by decide) (hd:(x == ("__debug__" : Str))=false:=by decide)
  (u:starEach (e::es) X.env=(false,eval e X.env)::starEach es X.env:=by rfl) (d:(backTo pos (starEach es X.env)).any (·.1)=false:=by rfl):PU X cl (.Call (.Name x p) (e::es) [] pos) .fresh (cq g us):=
 PH o y fun h=>oK v q l i h j hd u d
theorem C5 (v:I0 X (.type T) r) (o:Call3 X r g) (q:Gl X x) (l:X.mg x=none) (i:bootBuiltins x=some (.type T)) (y:xf X cl (e::es) us) (j:x ≠ "__name__":=by decide) (hd:(x == ("__debug__" : Str))=false:=by decide)
  (u:starEach (e::es) X.env=(false,eval e X.env)::starEach es X.env:=by rfl) (d:(backTo pos (starEach es X.env)).any (·.1)=false:=by rfl):PU X cl (.Call (.Name x p) (e::es) [] pos) .fresh (cq g us):=
 PH o y fun h=>dH v q l i h j hd u d
end
theorem j7.one{K:UP}{H:Hp}{vs:List V}{d:D}{A:UD}(r:j7 K H vs [d] A):∃v,vs=[v]/\Rep K H v d A:=by
 cases r with
 | cons h t=>cases t;exact⟨_,rfl,by rw[Do];exact h⟩
theorem j7.two{K:UP}{H:Hp}{vs:List V}{d e:D}{A:UD}(r:j7 K H vs [d,e] A):∃v w B C,vs=[v,w]/\Rep K H v d B/\Rep K H w e C/\A=B++C:=by
 cases r with
 | cons h t=>
  cases t with
  | cons i g=>cases g;exact⟨_,_,_,_,rfl,h,i,by rw[Do]⟩
theorem J7{K:UP}{H:Hp}{v:V}{xs:List D}{A:UD}(h:Rep K H v (.lst xs) A):∃p vs B,v=.ref p/\H p=some (.lst vs)/\j7 K H vs xs B/\A=p::B:=by
 cases h with
 | lst h r=>exact⟨_,_,_,rfl,h,r,rfl⟩
theorem jd{K:UP}{H:Hp}{v:V}{xs:List D}{A:UD}(h:Rep K H v (.fz xs) A):∃p vs,v=.ref p/\HN K H p vs/\j7 K H vs xs A:=by
 cases h with
 | frz h r=>exact⟨_,_,rfl,h,r⟩
theorem M4{K:UP}{H:Hp}{v:V}{xs:List D}{A:UD}(h:Rep K H v (.tup xs) A):∃p vs,v=.ref p/\H p=some (.tup vs)/\j7 K H vs xs A:=by
 cases h with
 | tup h r=>exact⟨_,_,rfl,h,r⟩
def eI:List D->(D->Prop)->Prop
 | [.lst xs],Q=>Q (.int xs.length)
 | [.tup xs],Q=>Q (.int xs.length)
 | [.fz xs],Q=>Q (.int xs.length)
 | [.str z],Q=>z.length<=sizeLine/\Q (.int z.length)
 | _,_=>False
theorem aS:Call3 X (fun xs H Q=>∃x n,xs=[x]/\Ib X.K x H n/\Q (.int n) H) eI:=by
 intro H vs ds A Q R r q k
 have i:∀{n:Nat},Q (.int n)->R (.int n) H:=fun q=>k _ H _ _ (g4.refl H) .int xL (fun _ h=>(by cases h)) q
 have sq:∀{d:D} {xs:List D},ds=[d]->qY d=some xs->Q (.int xs.length)->∃x n,vs=[x]/\Ib X.K x H n/\R (.int n) H:=fun {d xs} z y u=>by
  subst z
  obtain⟨v,rfl,j⟩:=r.one
  obtain⟨p,l,B,rfl,g,o,_⟩:=cL j y
  refine⟨_,l.length,rfl,?_,i (by rw[o.length];exact u)⟩
  rcases g with g | g
  ·exact .inl ⟨_,g,rfl⟩
  ·exact .inr ⟨_,g,rfl⟩
 unfold eI at q
 split at q
 ·exact sq rfl rfl q
 ·exact sq rfl rfl q
 ·exact sq rfl rfl q
 ·obtain⟨v,rfl,j⟩:=r.one
  cases C8 j
  exact⟨_,_,rfl,⟨q.1,rfl⟩,i q.2⟩
 ·exact q.elim
def HM:List D->(D->Prop)->Prop:=fun ds Q=>∃d xs,ds=[d]/\qY d=some xs/\y9 xs=true/\Q (.lst xs)
theorem Ia:Call3 X (fun xs H Q=>∃p g,xs=[.ref p]/\(L1 X.K H p g\/Q0 X.K H p g)/\∀l,H l=none->Q (.ref l) (upd H l (.lst g))) HM:=by
 intro H vs ds A Q R r q k
 obtain⟨d,xs,rfl,e,u,q⟩:=q
 obtain⟨v,rfl,o⟩:=r.one
 obtain⟨p,j,B,rfl,x,i,_⟩:=cL o e
 have z:=i.D4 u
 subst z
 refine⟨p,j,rfl,x,fun l h=>k _ _ (.lst xs) [l] (g4.i4 h) (.lst e9 (i.same (g4.i4 h))) (by simp) (fun a y=>?_) q⟩
 have:a=l:=by simpa using y
 rw[this];exact h
def dR:List D->(D->Prop)->Prop:=fun ds Q=>∃d xs,ds=[d]/\qY d=some xs/\y9 xs=true/\Q (.tup xs)
theorem cI:Call3 X (fun xs H Q=>∃p h,xs=[.ref p]/\((L1 X.K H p h/\∀l,H l=none->Q (.ref l) (upd H l (.tup h)))\/(Q0 X.K H p h/\Q (.ref p) H))) dR:=by
 intro H vs ds A Q R r q k
 obtain⟨d,xs,rfl,e,z,q⟩:=q
 obtain⟨v,rfl,y⟩:=r.one
 cases d with
 | lst h=>
  cases e
  obtain⟨p,x,B,rfl,i,g,_⟩:=J7 y
  have u:=g.D4 z
  subst u
  exact⟨p,x,rfl,.inl ⟨L1.of i,fun l j=>k _ _ (.tup xs) [] (g4.i4 j) (.tup e9 (g.same (g4.i4 j))) xL (fun a o=>(by cases o)) q⟩⟩
 | fz h=>
  cases e
  obtain⟨p,x,rfl,i,g⟩:=jd y
  have u:=g.D4 z
  subst u
  exact⟨p,x,rfl,.inl ⟨i.sq,fun l j=>k _ _ (.tup xs) [] (g4.i4 j) (.tup e9 (g.same (g4.i4 j))) xL (fun a o=>(by cases o)) q⟩⟩
 | tup h=>
  cases e
  obtain⟨p,x,rfl,i,g⟩:=M4 y
  have u:=g.D4 z
  subst u
  exact⟨_,_,rfl,.inr ⟨Q0.of i,k _ H (.tup xs) [] (g4.refl H) y xL (fun a o=>(by cases o)) q⟩⟩
 | _=>cases e
def Mm:List D->(D->Prop)->Prop
 | [.int i],Q=>Q (.int i)
 | [.bl k],Q=>Q (.int (if k then 1 else 0))
 | _,_=>False
theorem Hy:Call3 X (fun xs H Q=>(∃i,xs=[.int i]/\Q (.int i) H)\/∃k,xs=[.bl k]/\Q (.int (if k then 1 else 0)) H) Mm:=by
 intro H vs ds A Q R r q k
 unfold Mm at q
 split at q
 ·obtain⟨v,rfl,d⟩:=r.one
  cases x5 d
  exact .inl ⟨_,rfl,k _ H _ _ (g4.refl H) .int xL (fun _ h=>(by cases h)) q⟩
 ·obtain⟨v,rfl,d⟩:=r.one
  cases Z0 d
  exact .inr ⟨_,rfl,k _ H _ _ (g4.refl H) .int xL (fun _ h=>(by cases h)) q⟩
 ·exact q.elim
def NQ(g:Int->Int->Int):List D->(D->Prop)->Prop
 | [.int i,.int j],Q=>Q (.int (g i j))
 | _,_=>False
theorem NV{g:Int->Int->Int}:Call3 X (fun xs H Q=>∃i j,xs=[.int i,.int j]/\Q (.int (g i j)) H) (NQ g):=by
 intro H vs ds A Q R r q k
 unfold NQ at q
 split at q
 ·obtain⟨v,w,B,C,rfl,l,d,_⟩:=r.two
  cases x5 l;cases x5 d
  exact⟨_,_,rfl,k _ H _ _ (g4.refl H) .int xL (fun _ h=>(by cases h)) q⟩
 ·exact q.elim
end
structure Br(b:Bool)(P Q:Prop):Prop where
 t:b=true->P
 f:b=false->Q
theorem Br.yes{b:Bool}{P Q:Prop}(h:b=true)(p:P):Br b P Q:=⟨fun _=>p,fun e=>by rw[h] at e;cases e⟩
theorem Br.no{b:Bool}{P Q:Prop}(h:b=false)(p:Q):Br b P Q:=⟨fun e=>(by rw[h] at e;cases e),fun _=>p⟩
abbrev ar:=Ev->(Bool->Prop)->Prop
section
variable{X:Cx}{cl:List Cl}{e a b c:Expr}{es:UG}{f:Fl}{pos:Pos}{ua ub uc:TU}{fa fb fc:Fl}
def uT(u:TU):ar:=fun g Q=>u g fun d=>match d with
 | .bl k=>Q k
 | _=>False
theorem V3{r:R2}{op:CmpOp}{g:D->D->(D->Prop)->Prop}(O:O1 X (compareOp op) r)(o:bH X r g)(U:PU X cl a fa ua)(T:PU X cl b fb ub)(S:behindInMarks op b=false):U3 X cl (.Compare a [op] [b] pos) (uT (p9 g ua ub)):=.of<|by
 obtain⟨ta,tb,J,I,h⟩:=u2 U T
 refine⟨_,wz O J I S,fun G j σ H fo Q R Y E M k=>?_⟩
 refine h G j σ H fo (fun d e=>g d e fun d=>match d with | .bl k=>Q k | _=>False) _ Y E M fun v w H' d e A B s z u _ _ q=>?_
 refine o H' v w d e A B _ _ z u q fun x H2 y C l p n1 n2 i=>?_
 cases y<;>first | exact(show False from i).elim | skip
 cases Z0 p
 exact⟨_,rfl,k _ H2 (s.trans l) i⟩
theorem Li(h:PU X cl a fa ua)(g:PU X cl b fb ub)(d:behindInMarks .Lt b=false):U3 X cl (.Compare a [.Lt] [b] pos) (uT (p9 (vI fun i j=>.bl (decide (i<j))) ua ub)):=V3 Hs hX h g d
theorem wu(h:PU X cl a fa ua)(g:PU X cl b fb ub)(d:behindInMarks .Gt b=false):U3 X cl (.Compare a [.Gt] [b] pos) (uT (p9 (vI fun i j=>.bl (decide (j<i))) ua ub)):=V3 Cs hX h g d
theorem BL(h:PU X cl a fa ua)(g:PU X cl b fb ub)(d:behindInMarks .GtE b=false):U3 X cl (.Compare a [.GtE] [b] pos) (uT (p9 (vI fun i j=>.bl (decide (j<=i))) ua ub)):=V3 ME hX h g d
def tE(u:TU):ar:=fun g Q=>u g fun d=>match d with
 | .o8=>Q false
 | .bl k=>Q k
 | .int i=>Q (i != 0)
 | .str y=>y.length<=sizeLine/\Q ((y.length:Int) != 0)
 | .lst xs=>Q (!xs.isEmpty)
 | .tup xs=>Q (!xs.isEmpty)
 | .fz xs=>Q (!xs.isEmpty)
 | .dic kvs=>Q (!kvs.isEmpty)
 | _=>False
theorem A3.empty{K:UP}{H:Hp}{kvs:List (Key×V)}{d:List (Key×D)}{A:UD}(r:A3 K H kvs d A):kvs.isEmpty=d.isEmpty:=by cases r<;>rfl
theorem j7.empty{K:UP}{H:Hp}{kvs:List V}{d:List D}{A:UD}(r:j7 K H kvs d A):kvs.isEmpty=d.isEmpty:=by cases r<;>rfl
theorem X5(h:PU X cl e f ua)(y:∀g,isTrue e X.env g=(do let v <-g;standAt e.pos;holding [v] (truthy v))):U3 X cl e (tE ua):=.of<|by
 obtain⟨t,p,h⟩:=h.run
 refine⟨_,zc p y,fun G u σ H C Q R z E x k=>h G u σ H C _ _ z E x fun v j d B s r _ q=>?_⟩
 cases d with
 | o8=>cases fX r;exact⟨_,rfl,k _ j s q⟩
 | bl i=>cases Z0 r;exact⟨_,rfl,k _ j s q⟩
 | int i=>cases x5 r;exact⟨_,rfl,k _ j s q⟩
 | str i=>cases C8 r;exact⟨_,⟨q.1,rfl⟩,k _ j s q.2⟩
 | lst xs=>
  obtain⟨p,vs,B,rfl,o,l,_⟩:=J7 r
  exact⟨_,.inl ⟨vs,L1.of o,rfl⟩,by rw[l.empty];exact k _ j s q⟩
 | tup xs=>
  obtain⟨p,vs,rfl,o,l⟩:=M4 r
  exact⟨_,.inr (.inl ⟨vs,Q0.of o,rfl⟩),by rw[l.empty];exact k _ j s q⟩
 | fz xs=>
  obtain⟨p,vs,rfl,o,l⟩:=jd r
  exact⟨_,.inl ⟨vs,o.sq,rfl⟩,by rw[l.empty];exact k _ j s q⟩
 | dic kvs=>
  cases r with
  | dic o l=>exact⟨_,.inr (.inr ⟨_,.inr ⟨_,o⟩,rfl⟩),by rw[l.empty];exact k _ j s q⟩
 | _=>exact(show False from q).elim
structure sQ(X:Cx)(cl:List Cl)(e:Expr)(u:ar):Prop where
 of ::
 run:∃t,PW X e t/\∀(G:Ent) (ρ:Ev) (σ:St) (H:Hp) (fa:UN) (Q:Bool->Prop) (R:Bool->Hp->Prop),G.cl=cl->E3 X.K G ρ σ H fa->u ρ Q ->
  (∀b H',g4 H H'->Q b->R b H')->t σ H R
theorem sQ.pt{u:ar}(h:sQ X cl e u):U3 X cl e u:=.of<|let ⟨t,p,h⟩:=h.run;⟨t,PW.pt p,h⟩
def Dl(c:ar):ar:=fun d Q=>c d fun k=>Q (!k)
def tI(c d:ar):ar:=fun g Q=>c g fun k=>Br k (d g Q) (Q false)
def OZ(c d:ar):ar:=fun g Q=>c g fun k=>Br k (Q true) (d g Q)
variable{tc td:ar}{rest:UG}
theorem lT(h:U3 X cl a tc):U3 X cl (.UnaryOp .Not a pos) (Dl tc):=.of<|by
 obtain⟨t,p,h⟩:=h.run
 exact⟨_,Iv p,fun G d σ H j Q R i E g k=>h G d σ H j _ _ i E g fun b l s q=>k _ l s q⟩
theorem cT(h:U3 X cl a tc):sQ X cl (.BoolOp .And [a] pos) tc:=.of<|let ⟨t,p,h⟩:=h.run;⟨t,FV p,h⟩
theorem Dw(h:U3 X cl a tc):sQ X cl (.BoolOp .Or [a] pos) tc:=.of<|let ⟨t,p,h⟩:=h.run;⟨t,Iy p,h⟩
theorem eE(h:U3 X cl a tc)(d:sQ X cl (.BoolOp .And (b::rest) pos) td):sQ X cl (.BoolOp .And (a::b::rest) pos) (tI tc td):=.of<|by
 obtain⟨t,p,h⟩:=h.run
 obtain⟨y,u,d⟩:=d.run
 refine⟨_,Kt p u,fun G g σ H j Q R i E v k=>h G g σ H j _ _ i E v fun b l s q=>?_⟩
 cases b with
 | true=>
  rw[wS rfl]
  exact d G g σ l j Q R i (E.same s) (q.t rfl) fun b x o r=>k b x (s.trans o) r
 | false=>rw[wP tL];exact k _ l s (q.f rfl)
theorem HL(h:U3 X cl a tc)(d:sQ X cl (.BoolOp .Or (b::rest) pos) td):sQ X cl (.BoolOp .Or (a::b::rest) pos) (OZ tc td):=.of<|by
 obtain⟨t,p,h⟩:=h.run
 obtain⟨y,u,d⟩:=d.run
 refine⟨_,Mz p u,fun G g σ H j Q R i E v k=>h G g σ H j _ _ i E v fun b l s q=>?_⟩
 cases b with
 | true=>rw[wS rfl];exact k _ l s (q.t rfl)
 | false=>
  rw[wP tL]
  exact d G g σ l j Q R i (E.same s) (q.f rfl) fun b x o r=>k b x (s.trans o) r
def GO(ua ub:TU):TU:=fun d Q=>ua d fun x=>match x with
 | .bl k=>Br k (ub d Q) (Q (.bl false))
 | _=>False
def OK(ua ub:TU):TU:=fun d Q=>ua d fun x=>match x with
 | .bl k=>Br k (Q (.bl true)) (ub d Q)
 | _=>False
theorem iT{op}(h:PU X cl a f ua):PU X cl (.BoolOp op [a] pos) f ua:=.of<|let ⟨t,p,h⟩:=h.run;⟨t,Ie p,h⟩
theorem su(h:PU X cl a fa ua)(i:PU X cl (.BoolOp .And (b::rest) pos) fb ub):PU X cl (.BoolOp .And (a::b::rest) pos) fb (GO ua ub):=.of<|by
 obtain⟨t,p,h⟩:=h.run
 obtain⟨M,z,i⟩:=i.run
 refine⟨_,KD p z,fun G g σ H l Q R j E C k=>h G g σ H l _ _ j E C fun v o d B s r _ q=>?_⟩
 cases d<;>first | exact(show False from q).elim | skip
 rename_i b
 cases Z0 r
 refine⟨_,rfl,?_⟩
 have q:Br b (ub g Q) (Q (.bl false)):=q
 cases b with
 | true=>
  rw[wS rfl]
  exact i G g σ o l Q R j (E.same s) (q.t rfl) fun v J d B u x I y=>k v J d B (s.trans u) x (I.back s) y
 | false=>rw[wP tL];exact k _ o _ [] s .bl (B0.nil _) (q.f rfl)
theorem Hi(h:PU X cl a fa ua)(i:PU X cl (.BoolOp .Or (b::rest) pos) fb ub):PU X cl (.BoolOp .Or (a::b::rest) pos) fb (OK ua ub):=.of<|by
 obtain⟨t,p,h⟩:=h.run
 obtain⟨M,z,i⟩:=i.run
 refine⟨_,Nq p z,fun G g σ H l Q R j E C k=>h G g σ H l _ _ j E C fun v o d B s r _ q=>?_⟩
 cases d<;>first | exact(show False from q).elim | skip
 rename_i b
 cases Z0 r
 refine⟨_,rfl,?_⟩
 have q:Br b (Q (.bl true)) (ub g Q):=q
 cases b with
 | true=>rw[wS rfl];exact k _ o _ [] s .bl (B0.nil _) (q.t rfl)
 | false=>
  rw[wP tL]
  exact i G g σ o l Q R j (E.same s) (q.f rfl) fun v J d B u x I y=>k v J d B (s.trans u) x (I.back s) y
def Ph(c:ar)(ua ub:TU):TU:=fun d Q=>c d fun k=>Br k (ua d Q) (ub d Q)
theorem MU(l:U3 X cl c tc)(M:PU X cl a f ua)(J:PU X cl b f ub):PU X cl (.IfExp c a b pos) f (Ph tc ua ub):=.of<|by
 obtain⟨t,p,l⟩:=l.run
 obtain⟨U,C,S⟩:=M.run
 obtain⟨T,z,O⟩:=J.run
 refine⟨_,AY p C z,fun G g σ H r Q R o E I k=>l G g σ H r _ _ o E I fun b y s q=>?_⟩
 cases b with
 | true=>rw[wS rfl];exact S G g σ y r Q R o (E.same s) (q.t rfl) fun v x d B h i u j=>k v x d B (s.trans h) i (u.back s) j
 | false=>rw[wP tL];exact O G g σ y r Q R o (E.same s) (q.f rfl) fun v x d B h i u j=>k v x d B (s.trans h) i (u.back s) j
end
structure PN(X:Cx)(cl:List Cl)(e:Expr)(u:TM):Prop where
 of ::
 run:∃t,PE X e t/\∀(G:Ent) (ρ:Ev) (σ:St) (H:Hp) (fa:UN) (Q:D->Ev->Prop) (R:VK),G.cl=cl->E3 X.K G ρ σ H fa->u ρ Q ->
  (∀v H' d B ρ' fa',E3 X.K G ρ' σ H' fa'->Q2 X.K G H fa H' fa'->Rep X.K H' v d B->(∀i,G.own i->∀a∈B,a∉fa' i)->Q d ρ'->R v H')->t σ H R
section
variable{X:Cx}{cl:List Cl}{e a b c:Expr}{es:UG}{f:Fl}{pos:Pos}{ua ub uc:TU}{fa fb fc:Fl}{ma mb:TM}
def mP(u:TU):TM:=fun g Q=>u g fun d=>Q d g
theorem PU.m(h:PU X cl e .fresh ua):PM X cl e (mP ua):=.of<|by
 obtain⟨t,p,h⟩:=h.run
 exact⟨t,p,fun G g σ H l Q R u E o k=>h G g σ H l _ _ u E o fun v y d B s r f q=>k v y d B g l (E.same s) (Q2.same s) r f.1 (fun x j=>⟨f.2 x j,fun i z=>E.there i z (f.2 x j)⟩) q⟩
theorem PU.n(h:PU X cl e f ua)(l:gQ f .stab=true):PN X cl e (mP ua):=.of<|by
 obtain⟨t,p,h⟩:=h.run
 exact⟨t,p,fun G g σ H i Q R o E j k=>h G g σ H i _ _ o E j fun v u d B s r f q=>k v u d B g i (E.same s) (Q2.same s) r (f.weak E l) q⟩
theorem PM.n(h:PM X cl e ma):PN X cl e ma:=.of<|by
 obtain⟨t,p,h⟩:=h.run
 exact⟨t,p,fun G l σ H y Q R x E o k=>h G l σ H y _ _ x E o fun v z d B g j C c r n1 n2 q=>k v z d B g j C c r (fun i _ a u=>(n2 a u).2 i) q⟩
def Bq(u:TM):TM:=fun h Q=>u h fun d g=>y1 d=true/\Q d g
theorem PN.y1(h:PN X cl e ma):PM X cl e (Bq ma):=.of<|by
 obtain⟨t,p,h⟩:=h.run
 refine⟨t,p,fun G j σ H x Q R u E l k=>h G j σ H x _ _ u E l fun v y d B g i z c r n q=>?_⟩
 have e:=r.D4 q.1
 subst e
 exact k v y d [] g i z c r xL (fun a o=>(by cases o)) q.2
theorem m2(C:PN X cl a ma)(z:PN X cl b mb):∃r q,PE X a r/\PE X b q/\∀(G:Ent) (p:Ev) (σ:St) (H:Hp) (u:UN) (Q:D->D->Ev->Prop) (R:V->V->Hp->Prop),G.cl=cl->E3 X.K G p σ H u->(ma p fun x j=>mb j fun y h=>Q x y h) ->
  (∀v w o d e A B l g,E3 X.K G l σ o g->Q2 X.K G H u o g->Rep X.K o v d A->Rep X.K o w e B->(∀i,G.own i->∀a∈A,a∉g i)->(∀i,G.own i->∀a∈B,a∉g i)->Q d e l->R v w o)->r σ H fun x O=>q σ O fun y M=>R x y M:=by
 obtain⟨r,pa,C⟩:=C.run
 obtain⟨q,pb,z⟩:=z.run
 refine⟨r,q,pa,pb,fun G p σ H u Q R T E hu k=>?_⟩
 refine C G p σ H u _ _ T E hu fun v O d A j J E1 c1 S n1 q1=>?_
 refine z G j σ O J _ _ T E1 q1 fun w M e B h I E2 c2 U n2 Y=>?_
 exact k v w M d e A B h I E2 (c1.trans c2) (c2.keep S n1) U (c2.apart (fun x hx=>S.there hx) n1) n2 Y
def bq(g:D->D->(D->Prop)->Prop)(ma mb:TM):TM:=fun j Q=>ma j fun x i=>mb i fun y h=>g x y fun d=>Q d h
theorem Lo{r:R2}{g:D->D->(D->Prop)->Prop}(o:bH X r g)(j:PN X cl a ma)(hb:PN X cl b mb)(mk:∀{u p},PE X a u->PE X b p->PE X e (Lg r u p)):PM X cl e (bq g ma mb):=.of<|by
 obtain⟨u,p,pa,pb,h⟩:=m2 j hb
 refine⟨_,mk pa pb,fun G O σ H fo Q R hG E hu k=>?_⟩
 refine h G O σ H fo _ _ hG E hu fun v w H' d e A B l I M c U T _ _ q=>?_
 exact o H' v w d e A B _ R U T q fun x H2 y C J S n1 n2 Y=>k x H2 y C l I (M.same J) (c.trans (Q2.same J)) S n1 (fun a j=>⟨c.stb.dom a (n2 a j),fun i z=>M.there i z (n2 a j)⟩) Y
theorem wc{r:R2}{op:Operator}{g:D->D->(D->Prop)->Prop}(i:O1 X (binaryOp op) r)(o:bH X r g)(l:PN X cl a ma)(j:PN X cl b mb):PM X cl (.BinOp a op b pos) (bq g ma mb):=Lo o l j fun h d=>Hl i h d
theorem JA{r:R2}{op:CmpOp}{g:D->D->(D->Prop)->Prop}(i:O1 X (compareOp op) r)(o:bH X r g)(p:PN X cl a ma)(l:PN X cl b mb)(j:behindInMarks op b=false):PM X cl (.Compare a [op] [b] pos) (bq g ma mb):=Lo o p l fun h d=>wo i h d j
theorem Iz(g:PN X cl a ma)(d:PN X cl b mb):PM X cl (.BinOp a .Sub b pos) (bq (vI fun i j=>.int (i-j)) ma mb):=wc CQ ur g d
theorem KH(g:PN X cl a ma)(d:PN X cl b mb):PM X cl (.BinOp a .Mod b pos) (bq (gI (fun _ j=>0<j) fun i j=>.int (i%j)) ma mb):=wc zU qp g d
theorem Hc(h:PN X cl a ma)(g:PN X cl b mb)(d:behindInMarks .Gt b=false):PM X cl (.Compare a [.Gt] [b] pos) (bq (vI fun i j=>.bl (decide (j<i))) ma mb):=JA Cs hX h g d
theorem JY{v w:V}{H:Hp}{d e:D}{A B:UD}{Q:D->Prop}{R:VK}(u:Rep X.K H v d A)(o:Rep X.K H w e B)(q:Pl d e Q)(k:∀x z C,Rep X.K H x z C->C.Sublist A->Q z->R x H):Nv X.K v w H R:=by
 have go:∀{xs:List D} {i:Int} {z:D},qY d=some xs->e=.int i->L2.P0 xs i=some z->Q z->Nv X.K v w H R:=fun {xs i z} T S O y=>by
  subst S
  cases x5 o
  obtain⟨p,vs,C,rfl,j,r,l⟩:=cL u T
  obtain⟨x,J,I,G,E⟩:=r.P0 O
  rcases j with j | j
  ·exact .inl ⟨p,vs,i,x,rfl,rfl,j,I,k x z J G (E.trans l) y⟩
  ·exact .inr (.inl ⟨p,vs,i,x,rfl,rfl,j,I,k x z J G (E.trans l) y⟩)
 cases d<;>cases e<;>first | exact(show False from q).elim | skip
 ·obtain⟨M,c,h,g⟩:=q
  cases C8 u;cases x5 o
  exact .inr (.inr ⟨_,_,c,rfl,rfl,M,h,k _ _ [] .str (Tw _) g⟩)
 ·obtain⟨z,h,g⟩:=q
  exact go rfl rfl h g
 ·obtain⟨z,h,g⟩:=q
  exact go rfl rfl h g
 ·obtain⟨z,h,g⟩:=q
  exact go rfl rfl h g
theorem w6{i:Nat}{g:Ev}{Q:D->Prop}(h:d8 i g Q):∃d,g[i]?=some (some d)/\Q d:=by
 unfold d8 at h
 split at h
 ·exact⟨_,by assumption,h⟩
 ·exact h.elim
abbrev rE:=Ev->(Bool->Ev->Prop)->Prop
structure Lc(X:Cx)(cl:List Cl)(e:Expr)(u:rE):Prop where
 of ::
 run:∃t,PT X e t/\∀(G:Ent) (ρ:Ev) (σ:St) (H:Hp) (fa:UN) (Q:Bool->Ev->Prop) (R:Bool->Hp->Prop),G.cl=cl->E3 X.K G ρ σ H fa->u ρ Q ->
  (∀b H' ρ' fa',E3 X.K G ρ' σ H' fa'->Q2 X.K G H fa H' fa'->Q b ρ'->R b H')->t σ H R
def tP(u:ar):rE:=fun d Q=>u d fun b=>Q b d
variable{tc td:ar}{mc md:rE}{rest:UG}
theorem U3.m(h:U3 X cl e tc):Lc X cl e (tP tc):=.of<|by
 obtain⟨t,p,h⟩:=h.run
 exact⟨t,p,fun G d σ H g Q R j E i k=>h G d σ H g _ _ j E i fun b l s q=>k b l d g (E.same s) (Q2.same s) q⟩
def mT(u:TM):rE:=fun h Q=>u h fun d g=>match d with
 | .bl k=>Q k g
 | _=>False
theorem Co{r:R2}{op:CmpOp}{g:D->D->(D->Prop)->Prop}(T:O1 X (compareOp op) r)(o:bH X r g)(ha:PN X cl a ma)(Y:PN X cl b mb)(U:behindInMarks op b=false):Lc X cl (.Compare a [op] [b] pos) (mT (bq g ma mb)):=.of<|by
 obtain⟨ta,tb,O,M,h⟩:=m2 ha Y
 refine⟨_,wz T O M U,fun G u σ H fo Q R hG E S k=>?_⟩
 refine h G u σ H fo (fun d e i=>g d e fun d=>match d with | .bl k=>Q k i | _=>False) _ hG E S fun v w H' d e A B i j E' c J I _ _ q=>?_
 refine o H' v w d e A B _ _ J I q fun x H2 y C l z n1 n2 p=>?_
 cases y<;>first | exact(show False from p).elim | skip
 cases Z0 z
 exact⟨_,rfl,k _ H2 i j (E'.same l) (c.trans (Q2.same l)) p⟩
theorem Ln(h:PN X cl a ma)(g:PN X cl b mb)(d:behindInMarks .Gt b=false):Lc X cl (.Compare a [.Gt] [b] pos) (mT (bq (vI fun i j=>.bl (decide (j<i))) ma mb)):=Co Cs hX h g d
inductive xR(K:UP)(H:Hp)(N:Addr->Prop):List V->List D->List (UD)->Prop
 | nil:xR K H N [] [] []
 | cons {v:V} {d:D} {B:UD} {vs:List V} {ds:List D} {Bs:List (UD)}:Rep K H v d B->(∀a∈B,¬N a)->xR K H N vs ds Bs->xR K H N (v::vs) (d::ds) (B::Bs)
def ML(G:Ent)(fa:UN):Addr->Prop:=fun a=>∃i,G.own i/\a∈fa i
abbrev ni:=Ev->(List D->Ev->Prop)->Prop
structure HV(X:Cx)(cl:List Cl)(es:UG)(u:ni):Prop where
 of ::
 run:∃t,PA X es t/\∀(G:Ent) (ρ:Ev) (σ:St) (H:Hp) (fa:UN) (Q:List D->Ev->Prop) (R:List V->Hp->Prop),G.cl=cl->E3 X.K G ρ σ H fa->u ρ Q ->
  (∀vs H' ds Bs ρ' fa',E3 X.K G ρ' σ H' fa'->Q2 X.K G H fa H' fa'->xR X.K H' (ML G fa') vs ds Bs->ds.length=es.length->Q ds ρ'->R vs H')->t σ H R
def C7:ni:=fun d Q=>Q [] d
def o6(ma:TM)(i:ni):ni:=fun h Q=>ma h fun x g=>i g fun xs d=>Q (x::xs) d
theorem u3:HV X cl [] C7:=.of ⟨_,P4,fun G d σ H fa Q R _ E g k=>k [] H [] [] d fa E Q2.refl .nil rfl g⟩
theorem n9{q:ni}(j:PN X cl e ma)(U:HV X cl es q)(T:isStar e=false):HV X cl (e::es) (o6 ma q):=.of<|by
 obtain⟨t1,J,h1⟩:=j.run
 obtain⟨t2,I,h2⟩:=U.run
 refine⟨_,dJ J I T,fun G u σ H fa Q R r E S k=>?_⟩
 refine h1 G u σ H fa _ _ r E S fun v H1 d A h o E1 c1 p n1 C=>?_
 refine h2 G h σ H1 o _ _ r E1 C fun vs H2 ds Bs g l E2 c2 y M B=>?_
 exact k (v::vs) H2 (d::ds) (A::Bs) g l E2 (c1.trans c2) (.cons (c2.keep p n1) (fun a j ⟨i,Y,z⟩=>c2.apart (fun x O=>p.there O) n1 i Y a j z) y) (by simp[M]) B
structure KY(X:Cx)(cl:List Cl)(es:UG)(u:ni):Prop where
 of ::
 run:∃t,PA X es t/\∀(G:Ent) (ρ:Ev) (σ:St) (H:Hp) (fa:UN) (Q:List D->Ev->Prop) (R:List V->Hp->Prop),G.cl=cl->E3 X.K G ρ σ H fa->u ρ Q ->
  (∀vs H' ds B ρ' fa',E3 X.K G ρ' σ H' fa'->Q2 X.K G H fa H' fa'->j7 X.K H' vs ds B->B.Nodup->(∀a∈B,H a=none/\∀i,a∉fa' i)->ds.length=es.length->Q ds ρ'->R vs H')->t σ H R
theorem cC:KY X cl [] C7:=.of ⟨_,P4,fun G d σ H fa Q R _ E g k=>k [] H [] [] d fa E Q2.refl .nil xL (fun a h=>(by cases h)) rfl g⟩
theorem B9{r:ni}(o:PM X cl e ma)(hr:KY X cl es r)(hs:isStar e=false):KY X cl (e::es) (o6 ma r):=.of<|by
 obtain⟨t1,T,h1⟩:=o.run
 obtain⟨t2,S,h2⟩:=hr.run
 refine⟨_,dJ T S hs,fun G I σ H fa Q R C E hu k=>?_⟩
 refine h1 G I σ H fa _ _ C E hu fun v H1 d A h q E1 c1 j n1 n2 O=>?_
 refine h2 G h σ H1 q _ _ C E1 O fun vs H2 ds B g p E2 c2 J Y m2 U M=>?_
 refine k (v::vs) H2 (d::ds) (A++B) g p E2 (c1.trans c2) (.cons (c2.keep j fun i _ a o=>(n2 a o).2 i) J) ?_ (fun x l=>?_) (by simp[U]) M
 ·refine List.nodup_append.mpr ⟨n1,Y,fun x l y hy e=>?_⟩
  subst e
  exact j.there l (m2 x hy).1
 ·rcases List.mem_append.mp l with z | z
  ·refine⟨(n2 x z).1,fun i y=>?_⟩
   by_cases u:G.own i
   ·rcases c2.new i u x y with w | w
    ·exact(n2 x z).2 i w
    ·exact j.there z w
   ·rw[c2.bor i u] at y
    exact(n2 x z).2 i y
  ·exact⟨c1.stb.dom x (m2 x z).1,(m2 x z).2⟩
def Ex(h:ni):TM:=fun g Q=>h g fun xs d=>Q (.lst xs) d
def Gy(h:ni):TM:=fun g Q=>h g fun xs d=>Q (.tup xs) d
theorem tY{l:ni}(h:KY X cl es l)(I:Nat.ble es.length 1000=true):PM X cl (.List es pos) (Ex l):=.of<|by
 obtain⟨t,p,h⟩:=h.run
 refine⟨_,Bu p,fun G u σ H fa Q R J E C k=>?_⟩
 refine h G u σ H fa _ _ J E C fun vs M ds A g j o c r n1 n2 v q=>⟨by rw[r.length,v];exact aG (Ix I),fun x d=>?_⟩
 refine k _ _ (.lst ds) (x::A) g j (o.same (g4.i4 d)) (c.trans (Q2.same (g4.i4 d))) (.lst e9 (r.same (g4.i4 d))) (List.nodup_cons.mpr ⟨fun z=>?_,n1⟩) (fun y B=>?_) q
 ·have:=r.ah x z
  rw[d] at this;exact this
 ·rcases List.mem_cons.mp B with z | z
  ·rw[z];exact⟨c.stb.dom x d,fun i z=>o.there i z d⟩
  ·exact n2 y z
theorem tS{j:ni}{o}(h:KY X cl es j)(y:Nat.ble es.length 1000=true):PM X cl (.Tuple es o pos) (Gy j):=.of<|by
 obtain⟨t,p,h⟩:=h.run
 refine⟨_,tX p,fun G l σ H fa Q R z E v k=>?_⟩
 refine h G l σ H fa _ _ z E v fun vs C ds A d i B c r n1 n2 u q=>⟨by rw[r.length,u];exact aG (Ix y),fun x g=>?_⟩
 exact k _ _ (.tup ds) A d i (B.same (g4.i4 g)) (c.trans (Q2.same (g4.i4 g))) (.tup e9 (r.same (g4.i4 g))) n1 n2 q
def NY(g:List D->(D->Prop)->Prop)(j:ni):TM:=fun i Q=>j i fun ds h=>g ds fun d=>Q d h
theorem xR.Ni{K:UP}{H:Hp}{N:Addr->Prop}:∀{vs:List V} {ds:List D} {d:List (UD)},xR K H N vs ds d->∃A,j7 K H vs ds A
 | _,_,_,.nil=>⟨_,.nil⟩
 | _,_,_,.cons h _ r=>let ⟨A,q⟩:=r.Ni;⟨_,.cons h q⟩
theorem Qk{u:ni}{r:List V->Hp->VK->Prop}{g:List D->(D->Prop)->Prop}(o:Call3 X r g)(h:HV X cl es u)(mk:∀{t},PA X es t->PE X e (NF r t)):PM X cl e (NY g u):=.of<|by
 obtain⟨t,p,h⟩:=h.run
 refine⟨_,mk p,fun G I σ H fa Q R S E O k=>?_⟩
 refine h G I σ H fa _ _ S E O fun vs U ds Bs d j B c r Y q=>?_
 obtain⟨A,r⟩:=r.Ni
 exact o U vs ds A _ R r q fun x T y C l J n1 n2 M=>k x T y C d j (B.same l) (c.trans (Q2.same l)) J n1 (fun a v=>⟨c.stb.dom a (n2 a v),fun i z=>B.there i z (n2 a v)⟩) M
section
variable{id T:String}{r:List V->Hp->VK->Prop}{g:List D->(D->Prop)->Prop}{x:Str}{p:Pos}{ms:ni}
theorem xk (v:I0 X (.type T) r) (o:Call3 X r g) (q:Gl X x) (l:X.mg x=none) (i:bootBuiltins x=some (.type T)) (y:HV X cl (e::es) ms) (j:x ≠ "__name__":=by decide) (hd:(x == ("__debug__" : Str))=false:=by decide)
  (u:starEach (e::es) X.env=(false,eval e X.env)::starEach es X.env:=by rfl) (d:(backTo pos (starEach es X.env)).any (·.1)=false:=by rfl):PM X cl (.Call (.Name x p) (e::es) [] pos) (NY g ms):=
 Qk o y fun h=>dH v q l i h j hd u d
end
end
end L3
namespace L3
open PySem PySem.Spec L2 PyProof.Rows
abbrev Cp:=List D->(D->Prop)->Prop
abbrev Cm:=List D->(D->D->Prop)->Prop
def D1(K:UP)(c:Cp):Sp:=fun vs H Q _=>∃ds A d,j7 K H vs ds A/\c ds d/\∀r v b B,d r->g4 H b->Rep K b v r B->B.Nodup->(∀a∈B,H a=none)->Q v b
def AH(K:UP)(c:Cm):Sp:=fun vs H Q _=>∃w b d ds A i h,vs=w::b/\Rep K H w d A/\A.Nodup/\xR K H (fun a=>a∈A) b ds i/\c (d::ds) h/\∀r l v e g B,h r l->Rep K e w l g->g.Nodup->(∀a∈g,a∈A\/H a=none) ->
 (∀a o,H a=some o->a∉A->e a=some o)->V4 H e->Rep K e v r B->B.Nodup->(∀a∈B,H a=none/\a∉g)->Q v e
structure V5(P:Program)(w:World)(K:UP)(mg:UK)(base:Heap)(x:Str)(k:Nat)(ps:UE)(sp:Sp)(f:Addr)(fd:FuncData):Prop where
 ok:u6 P w K mg base P6 k f fd ps sp
 mgf:mg x=some (.ref f)
 kp:PySem.W.keepIn K (.ref f)=true
 bd:Binds K fd ps []
section
variable{X:Cx}{cl:List Cl}{e a b:Expr}{es:UG}{f:Fl}{pos:Pos}{ua:TU}{ma mb:TM}{us:cg}{ms:ni}{k:Nat}{fn:Addr}{fd:FuncData}{ps:UE}{x:Str}{p:Pos}
def o7(c:Cp)(us:cg):TU:=fun d Q=>us d fun ds=>c ds Q
theorem Fy {c:Cp} (C:V5 X.prog X.w X.K X.mg X.base x k ps (D1 X.K c) fn fd) (J:J3 k X.A) (M:Gl X x) (j:xf X cl (e::es) us) (d:isStar e=false) (i:(x == ("__debug__" : Str))=false:=by decide)
  (g:(backTo pos (starEach es X.env)).any (·.1)=false:=by rfl):PU X cl (.Call (.Name x p) (e::es) [] pos) .fresh (o7 c us):=.of<|by
 obtain⟨t,pt,h⟩:=j.run
 refine⟨_,gh C.ok J M C.mgf C.kp C.bd .nil CA pt i (Q6 d) g,fun G l σ H S Q R O E I z=>?_⟩
 refine h G l σ H S _ _ O E I fun vs Y ds A s r U q=>?_
 rw[Do]
 exact⟨ds,A,Q,r,q,fun r v T B y o u n1 n2=>z v T r B (s.trans o) u ⟨n1,fun a j=>s.free (n2 a j)⟩ y⟩
def A6(j:Nat)(c:Cm)(ms:ni):TM:=fun h Q=>d8 j h fun _=>ms h fun ds g=>d8 j g fun d=>c (d::ds) fun r l=>Q r (g.set j (some l))
theorem xR.imp{K:UP}{H:Hp}{N c:Addr->Prop}(h:∀a,c a->N a):∀{vs:List V} {ds:List D} {d:List (UD)},xR K H N vs ds d->xR K H c vs ds d
 | _,_,_,.nil=>.nil
 | _,_,_,.cons r n t=>.cons r (fun a g z=>n a g (h a z)) (t.imp h)
theorem Gj {c:Cm} (j:Nat) {y:Str} {vp:Pos} (hv:PE X (.Name y vp) (fE j)) (hj:cl[j]?=some .own) (C:V5 X.prog X.w X.K X.mg X.base x k ps (AH X.K c) fn fd) (hr:J3 k X.A) (hg:Gl X x) (g:HV X cl es ms) (a1:(x == ("__debug__" : Str))=false:=by decide)
  (a0:(backTo pos (starEach es X.env)).any (·.1)=false:=by rfl):PM X cl (.Call (.Name x p) (.Name y vp::es) [] pos) (A6 j c ms):=.of<|by
 obtain⟨t,pt,h⟩:=g.run
 refine⟨_,gh C.ok hr hg C.mgf C.kp C.bd .nil CA (dJ hv pt rfl) a1 (Q6 rfl) a0,fun G ρ σ H fa Q R hG E hu kk=>?_⟩
 obtain⟨d0,e0,hu⟩:=w6 hu
 obtain⟨v,Y,_⟩:=E.rep j d0 e0
 refine⟨v,Y,h G ρ σ H fa _ _ hG E hu fun vs H1 ds Bs J S u c' r n3 q=>?_⟩
 obtain⟨d,e1,q⟩:=w6 q
 obtain⟨v',O,rp⟩:=u.rep j d e1
 have ev:v'=v:=by rw[Y] at O;cases O;rfl
 subst ev
 have own:G.own j:=by unfold Ent.own;rw[hG];exact hj
 rw[Do]
 refine⟨v',vs,d,ds,S j,Bs,_,rfl,rp,u.nd j (.inl own),r.imp fun a g=>⟨j,own,g⟩,q,fun r l v H2 A' B qd r2 n1 n2 n3 n4 r3 n5 n6=>?_⟩
 have ch:Q2 X.K G H1 S H2 (fun i=>if i=j then A' else S i):=by
  refine⟨fun a o h n=>n3 a o h (n j own),n4,fun i I a g=>?_,fun i I=>?_⟩
  ·by_cases e:i=j
   ·subst e;rw[wS rfl] at g;exact n2 a g
   ·rw[wP e] at g;exact .inl g
  ·exact wP fun e:i=j=>I (by rw[e];exact own)
 have lj:j<J.length:=(List.getElem?_eq_some_iff.mp e1).1
 have M:∀i,i≠j->(J.set j (some l))[i]?=J[i]?:=fun i n=>No (QO n)
 refine kk v H2 r B (J.set j (some l)) _ (u.step ch (by simp) (fun i I=>M i fun e=>I (by rw[e];exact own)) (fun i d' I e=>?_) (fun i I e=>?_) (fun i I=>?_) fun i U n I a2 a g z=>?_) (c'.trans ch) r3 n5 (fun a g=>⟨c'.stb.dom a (n6 a g).1,fun i z=>?_⟩) qd
 ·by_cases q:i=j
  ·subst q
   rw[IN lj] at e
   cases e
   exact⟨v',O,by rw[wS rfl];exact r2⟩
  ·rw[M i q] at e
   obtain⟨w,e2,r4⟩:=u.rep i d' e
   refine⟨w,e2,?_⟩
   rw[wP q]
   refine r4.mono n4 fun a g=>?_
   obtain⟨o,eo⟩:=fY.some (r4.ah a g)
   rw[eo]
   exact n3 a o eo fun z=>u.dj i j q I a g z
 ·by_cases q:i=j
  ·subst q
   exact absurd (IN lj) (e l)
  ·rw[wP q]
   exact u.emp i fun d z=>e d (by rw[M i q];exact z)
 ·by_cases q:i=j
  ·rw[wS q];exact n1
  ·rw[wP q];exact u.nd i (.inl I)
 ·by_cases q:i=j
  ·rw[wS q] at g
   have T:U≠j:=fun e=>n (q.trans e.symm)
   rw[wP T] at z
   rcases n2 a g with y | y
   ·exact u.dj j U (QO T) own a y z
   ·exact u.there U z y
  ·rw[wP q] at g
   by_cases T:U=j
   ·rw[wS T] at z
    rcases n2 a z with y | y
    ·exact u.dj i j q I a g y
    ·exact u.there i g y
   ·rw[wP T] at z
    exact u.dj i U n I a g z
 ·by_cases q:i=j
  ·rw[wS q] at z;exact(n6 a g).2 z
  ·rw[wP q] at z;exact u.there i z (n6 a g).1
def zj(c:Cm)(ma:TM)(ms:ni):TM:=fun i Q=>ma i fun d g=>ms g fun ds h=>c (d::ds) fun r _=>Q r h
theorem j7.Py{K:UP}{H:Hp}{N:Addr->Prop}:∀{vs:List V} {ds:List D} {B:UD},j7 K H vs ds B->(∀a∈B,¬N a)->∃d,xR K H N vs ds d
 | _,_,_,.nil,_=>⟨_,.nil⟩
 | _,_,_,.cons h r,n=>let ⟨d,q⟩:=r.Py fun a c=>n a (wT _ c);⟨_,.cons h (fun a c=>n a (FM _ c)) q⟩
theorem E3.away{K:UP}{G:Ent}{j:Ev}{σ:L2.St}{H g:Hp}{c:UN}{A:UD}(E:E3 K G j σ H c)(s:V4 H g)(k:∀a o,H a=some o->a∉A->g a=some o)(n:∀i,∀a∈A,a∉c i)(h0:∀a∈A,G.H₀ a=none)(z:∀a∈A,¬G.Z a):E3 K G j σ g c where
 rep:=fun i d e=>by
  obtain⟨v,B,r⟩:=E.rep i d e
  refine⟨v,B,r.mono s fun a l=>?_⟩
  obtain⟨o,u⟩:=fY.some (r.ah a l)
  rw[u];exact k a o u fun q=>n i a q l
 emp:=E.emp
 len:=E.len
 nd:=E.nd
 dj:=E.dj
 par:=E.par
 old:=E.old
 new:=E.new
 frm:=fun a o h q=>k a o (E.frm a o h q) fun y=>by rw[h0 a y] at h;cases h
 stb:=E.stb.trans s
 zk:=fun a y=>by
  obtain⟨o,e⟩:=Option.ne_none_iff_exists'.mp (E.zn a y)
  have h:=E.zk a y
  rw[e] at h ⊢
  exact k a o h fun q=>z a q y
 zn:=E.zn
 zo:=E.zo
 po:=E.po
theorem BV {c:Cm} (C:V5 X.prog X.w X.K X.mg X.base x k ps (AH X.K c) fn fd) (hr:J3 k X.A) (hg:Gl X x) (h0:PM X cl e ma) (g:KY X cl es ms) (I:isStar e=false) (a0:(x == ("__debug__" : Str))=false:=by decide)
  (Y:(backTo pos (starEach es X.env)).any (·.1)=false:=by rfl):PM X cl (.Call (.Name x p) (e::es) [] pos) (zj c ma ms):=.of<|by
 obtain⟨t0,p0,h0⟩:=h0.run
 obtain⟨t,pt,h⟩:=g.run
 refine⟨_,gh C.ok hr hg C.mgf C.kp C.bd .nil CA (dJ p0 pt I) a0 (Q6 I) Y,fun G ρ σ H fa Q R hG E hu kk=>?_⟩
 refine h0 G ρ σ H fa _ _ hG E hu fun w H0 d A O a2 E0 c0 T m1 m2 q0=>?_
 refine h G O σ H0 a2 _ _ hG E0 q0 fun vs H1 ds B1 S u E' M r k1 k2 U q=>?_
 show AH X.K c ((w::vs)++[]) H1 R L2.E0
 rw[Do]
 have j:∀i,∀a∈A,a∉u i:=fun i a g z=>by
  by_cases hi:G.own i
  ·rcases M.new i hi a z with y | y
   ·exact(m2 a g).2 i y
   ·exact T.there g y
  ·rw[M.bor i hi] at z
   exact(m2 a g).2 i z
 obtain⟨Bs,a1⟩:=r.Py (N:=fun a=>a∈A) fun a g z=>T.there z (k2 a g).1
 refine⟨w,vs,d,ds,A,Bs,_,rfl,M.keep T fun i _ a g=>(m2 a g).2 i,m1,a1,q,fun r l v H2 A' B qd r2 n1 n2 U n4 r3 n5 n6=>?_⟩
 have J:=c0.trans M
 have ch:Q2 X.K G H fa H2 u:=⟨fun a o h n=>U a o (J.frm a o h n) fun z=>(by rw[(m2 a z).1] at h;cases h),J.stb.trans n4,J.new,J.bor⟩
 refine kk v H2 r B S u (E'.away n4 U j (fun a g=>E.stb.dom a (m2 a g).1) fun a g z=>?_) ch r3 n5 (fun a g=>⟨J.stb.dom a (n6 a g).1,fun i z=>E'.there i z (n6 a g).1⟩) qd
 have h:=E.zk a z
 rw[(m2 a g).1] at h
 exact E.zn a z h.symm
end
def i7(n:Nat)(ds:List D):Ev:=ds.map some++List.replicate (n-ds.length) none
theorem j7.each{K:UP}{H:Hp}:∀{vs:List V} {ds:List D} {A:UD},j7 K H vs ds A->∃a:Nat->UD,(∀i d,ds[i]?=some d->∃v,vs[i]?=some v/\Rep K H v d (a i))/\∀i,ds.length<=i->a i=[]
 | _,_,_,.nil=>⟨fun _=>[],fun i d e=>(by simp at e),fun _ _=>rfl⟩
 | _,_,_,.cons (A:=A) h r=>by
  obtain⟨a,g,c⟩:=r.each
  refine⟨fun i=>match i with | 0=>A | i+1=>a i,fun i d e=>?_,fun i b=>?_⟩
  ·cases i with
   | zero=>simp at e;subst e;exact⟨_,rfl,h⟩
   | succ i=>
    obtain⟨v,l,j⟩:=g i d (by simpa using e)
    exact⟨v,by simpa using l,j⟩
  ·cases i with
   | zero=>simp at b
   | succ i=>exact c i (by simpa using b)
theorem xR.each{K:UP}{H:Hp}{N:Addr->Prop}:∀{vs:List V} {ds:List D} {u:List (UD)},xR K H N vs ds u->∃b:Nat->UD,(∀i d,ds[i]?=some d->∃v,vs[i]?=some v/\Rep K H v d (b i))/\(∀i,ds.length<=i->b i=[])/\(∀i,∀a∈b i,¬N a)/\ds.length=vs.length
 | _,_,_,.nil=>⟨fun _=>[],fun i d e=>(by simp at e),fun _ _=>rfl,fun _ _ h=>(by cases h),rfl⟩
 | _,_,_,.cons (B:=B) h n r=>by
  obtain⟨b,o,l,j,g⟩:=r.each
  refine⟨fun i=>match i with | 0=>B | i+1=>b i,fun i d e=>?_,fun i c=>?_,fun i=>?_,by simp[g]⟩
  ·cases i with
   | zero=>simp at e;subst e;exact⟨_,rfl,h⟩
   | succ i=>
    obtain⟨v,q,p⟩:=o i d (by simpa using e)
    exact⟨v,by simpa using q,p⟩
  ·cases i with
   | zero=>simp at c
   | succ i=>exact l i (by simpa using c)
  ·cases i with
   | zero=>exact n
   | succ i=>exact j i
theorem cp{n:Nat}{ds:List D}{i:Nat}{d:D}(h:(i7 n ds)[i]?=some (some d)):ds[i]?=some d:=by
 unfold i7 at h
 by_cases a:i<ds.length
 ·rw[EQ (by simpa using a),wE] at h
  cases e:ds[i]? with
  | none=>rw[e] at h;cases h
  | some x=>rw[e] at h;cases h;rfl
 ·rw[Qr (by simpa using a),List.getElem?_replicate] at h
  split at h<;>cases h
theorem V8{N:UE}{vs:List V}{i:Nat}{v:V}(h:vs[i]?=some v):(L2.start N vs)[i]?=some (some v):=by
 unfold L2.start
 have a:=(List.getElem?_eq_some_iff.mp h).1
 rw[EQ (by simpa using a),wE,h]
 rfl
theorem cx{N:UE}{ds:List D}{vs:List V}(h:ds.length=vs.length):(i7 N.length ds).length=(L2.start N vs).length:=by
 unfold i7 L2.start
 simp[h]
theorem bh{n:Nat}{ds:List D}{i:Nat}{d:D}(h:ds[i]?=some d):(i7 n ds)[i]?=some (some d):=by
 unfold i7
 have a:=(List.getElem?_eq_some_iff.mp h).1
 rw[EQ (by simpa using a),wE,h]
 rfl
section
variable{P:Program}{w:World}{K:UP}{mg:UK}{base:Heap}
def Kn:List Cl->Bool
 | []=>true
 | .mk _::_=>false
 | _::r=>Kn r
theorem pJ:∀{cl:List Cl} {j:Nat} {a:Hp},Kn cl=true->cl[j]?=some (.mk a)->False
 | [],j,_,_,e=>by cases j<;>cases e
 | c::r,0,a,h,e=>by
  cases e
  cases h
 | c::r,j+1,a,h,e=>by
  rw[Pv] at e
  cases c<;>first | cases h | exact pJ (cl:=r) h e
def noOwn:List Cl->Nat->Bool
 | cl,0=>Kn cl
 | .bor::r,n+1=>noOwn r n
 | _,_=>false
theorem bp:∀{cl:List Cl} {n i:Nat},noOwn cl n=true->i<n->cl[i]?=some .bor
 | _,0,i,_,h=>by omega
 | .bor::r,n+1,0,h,_=>rfl
 | .bor::r,n+1,i+1,h,a=>by
  rw[Pv]
  exact bp (cl:=r) (n:=n) (i:=i) h (by omega)
 | [],n+1,i,h,_=>by cases h
 | .own::r,n+1,i,h,_=>by cases h
 | .loc::r,n+1,i,h,_=>by cases h
 | .mk _::r,n+1,i,h,_=>by cases h
theorem cO:∀{cl:List Cl} {n j:Nat} {a:Hp},noOwn cl n=true->cl[j]?=some (.mk a)->False
 | cl,0,j,_,h,e=>by
  rw[noOwn] at h
  exact pJ h e
 | .bor::r,n+1,0,_,h,e=>by cases e
 | .bor::r,n+1,j+1,_,h,e=>cO (cl:=r) (n:=n) (show noOwn r n=true from h) (by rw[Pv] at e;exact e)
 | [],n+1,j,_,h,_=>by cases h
 | .own::r,n+1,j,_,h,_=>by cases h
 | .loc::r,n+1,j,_,h,_=>by cases h
 | .mk _::r,n+1,j,_,h,_=>by cases h
theorem aq{x l:Str}{st:Stmt}{f:Addr}{fd:FuncData}{N ps:UE}{k:Nat}{c:Cp}{s:i9}{cl:List Cl}(F:P7 K x l st f fd)(S:i8 N ps (e5 st))(Y:noOwn cl ps.length=true)
  (hl:∀ds Q,c ds Q->ds.length=ps.length)
  (hb:∀(y:Value) (A:Around) (outer:List Env) (s0:Shared) (H:Hp) (E:XK),J3 k (A.deeper (envOfC l (e5 st) s0.heap.objs.size f y))->jY (dW P6 P w K mg base N l (e5 st) f y A outer s0 H E).KU cl (i6 st) s)
  (hc:∀ds Q,c ds Q->s { nx:=fun _=>Q .o8,rt:=fun d _=>Q d } (i7 N.length ds)):u6 P w K mg base P6 (k+1) f fd ps (D1 K c):=by
 refine F.ok S (fun vs H Q E h=>?_) (fun y A outer s0 H vs Q E hr h=>?_)
 ·obtain⟨ds,A,T,r,q,_⟩:=h
  rw[r.length];exact hl ds T q
 ·obtain⟨ds,B,T,r,q,kk⟩:=h
  have X:=hl ds T q
  obtain⟨t,pt,h⟩:=(hb y A outer s0 H E hr).run
  obtain⟨fa,h1,h2⟩:=r.each
  let G:Ent:=⟨H,fun _=>[],vs,cl,fun _=>False,H⟩
  have vl:vs.length=ps.length:=r.length.trans X
  have bor:∀i,i<vs.length->cl[i]?=some .bor:=fun i b=>bp Y (by omega)
  have g:∀i,i<vs.length->¬G.own i:=fun i b z=>by
   have C:cl[i]?=some .own:=z
   rw[bor i b] at C;cases C
  have a0:∀i,G.own i->fa i=[]:=fun i b=>h2 i (by
   have q1:¬i<vs.length:=fun q=>g i q b
   have q2:=r.length
   omega)
  have E0:E3 K G (i7 N.length ds) (L2.start N vs) H fa:=by
   refine⟨fun i d e=>?_,fun i e=>h2 i ?_,cx r.length.symm,fun i b=>?_,fun i j _ b a u=>?_,fun i b p=>absurd p (g i b),fun i b p=>absurd p (g i b),fun i b a u=>?_,fun a o h _=>h,V4.refl H,fun a z=>z.elim,fun a z=>z.elim,fun i _ a _ z=>z,⟨fun i b p=>absurd p (g i b),fun j U e=>(cO Y e).elim⟩⟩
   ·obtain⟨v,e1,r1⟩:=h1 i d (cp e)
    exact⟨v,V8 e1,r1⟩
   ·by_cases b:i<ds.length
    ·exact absurd (bh (iU b)) (e _)
    ·omega
   ·rw[h2 i (by
     by_cases q:i<ds.length
     ·have q2:=r.length
      rcases b with b | b
      ·exact absurd b (g i (by omega))
      ·have C:cl[i]?=some .loc:=b
       rw[bor i (by omega)] at C;cases C
     ·omega)];exact xL
   ·rw[a0 i b] at u;cases u
   ·rcases b with b | b
    ·have:¬i<vs.length:=fun q=>by
      have C:cl[i]?=some .loc:=b
      rw[bor i q] at C;cases C
     rw[h2 i (by have:=r.length;omega)] at u;cases u
    ·rw[a0 i b.1] at u;cases u
  refine⟨t,pt,h G { nx:=fun _=>T .o8,rt:=fun d _=>T d } _ _ H fa _ rfl E0 (hc ds T q) ⟨fun I U O=>?_,fun v U O=>?_,fun I U O=>?_,fun I U O=>?_⟩⟩
  ·obtain⟨J,R,E',M⟩:=O
   exact kk .o8 .o8 U [] M (fun a o h=>E'.frm a o h fun i b p=>absurd p (g i b)) .o8 xL fun a u=>(by cases u)
  ·obtain⟨d,J,I,R,B',E',r',n1,n2,_,M⟩:=O
   exact kk d v U B' M (fun a o h=>E'.frm a o h fun i b p=>absurd p (g i b)) r' n1 n2
  ·obtain⟨J,R,E',M⟩:=O
   exact M
  ·obtain⟨J,R,E',M⟩:=O
   exact M
theorem Oq{x U:Str}{st:Stmt}{f:Addr}{fd:FuncData}{N ps:UE}{k:Nat}{c:Cm}{s:i9}{cl:List Cl}(F:P7 K x U st f fd)(S:i8 N ps (e5 st))(a1:noOwn cl (ps.length-1)=true)
  (hl:∀ds Q,c ds Q->ds.length=ps.length)
  (hb:∀(X:Value) (A:Around) (outer:List Env) (s0:Shared) (H:Hp) (E:XK),J3 k (A.deeper (envOfC U (e5 st) s0.heap.objs.size f X))->jY (dW P6 P w K mg base N U (e5 st) f X A outer s0 H E).KU (.own::cl) (i6 st) s)
  (hc:∀ds Q,c ds Q->s { nx:=fun ρ=>d8 0 ρ fun l=>Q .o8 l,rt:=fun d ρ=>d8 0 ρ fun l=>Q d l } (i7 N.length ds)):u6 P w K mg base P6 (k+1) f fd ps (AH K c):=by
 refine F.ok S (fun vs H Q E h=>?_) (fun X A outer s0 H vs Q E hr h=>?_)
 ·obtain⟨w,p,d,ds,A,Bs,Qd,rfl,r,n,ap,q,_⟩:=h
  obtain⟨fa,h1,h2,h3,h4⟩:=ap.each
  have:=hl _ Qd q
  simp at this ⊢
  omega
 ·obtain⟨w,p,d,ds,A0,Bs,Qd,rfl,r,n,ap,q,kk⟩:=h
  obtain⟨fa,h1,h2,h3,h4⟩:=ap.each
  have a0:=hl _ Qd q
  have a5:ds.length=ps.length-1:=by simp at a0;omega
  obtain⟨t,pt,h⟩:=(hb X A outer s0 H E hr).run
  let fb:Nat->UD:=fun i=>match i with | 0=>A0 | i+1=>fa i
  let G:Ent:=⟨H,fun i=>if i=0 then A0 else[],w::p,.own::cl,fun _=>False,H⟩
  have bor:∀i,i<p.length->cl[i]?=some .bor:=fun i b=>bp a1 (by omega)
  have g:∀i,i<p.length->¬G.own (i+1):=fun i b z=>by
   have Y:cl[i]?=some .own:=z
   rw[bor i b] at Y;cases Y
  have J:G.own 0:=rfl
  have a3:∀i,G.own (i+1)->fa i=[]:=fun i b=>h2 i (by
   have q1:¬i<p.length:=fun q=>g i q b
   omega)
  have E0:E3 K G (i7 N.length (d::ds)) (L2.start N (w::p)) H fb:=by
   refine⟨fun i d' e=>?_,fun i e=>?_,cx (by simp[h4]),fun i b=>?_,fun i j a4 b a I=>?_,fun i b ho=>?_,fun i b ho a I=>?_,fun i b a I=>?_,fun a o h _=>h,V4.refl H,fun a z=>z.elim,fun a z=>z.elim,fun i _ a _ z=>z,⟨fun i b ho=>?_,fun j R e=>?_⟩⟩
   ·have e':=cp e
    cases i with
    | zero=>simp at e';subst e';exact⟨w,V8 (vs:=w::p) (i:=0) rfl,r⟩
    | succ i=>
     obtain⟨v,e1,r1⟩:=h1 i d' (by simpa using e')
     exact⟨v,V8 (by simpa using e1),r1⟩
   ·cases i with
    | zero=>exact absurd (bh (ds:=d::ds) (i:=0) rfl) (e _)
    | succ i=>
     refine h2 i ?_
     by_cases b:i<ds.length
     ·exact absurd (bh (ds:=d::ds) (i:=i+1) (by rw[Pv];exact iU b)) (e _)
     ·omega
   ·cases i with
    | zero=>exact n
    | succ i=>
     show(fa i).Nodup
     rw[h2 i (by
      by_cases q:i<ds.length
      ·rcases b with b | b
       ·exact absurd b (g i (by omega))
       ·have Y:cl[i]?=some .loc:=b
        rw[bor i (by omega)] at Y;cases Y
      ·omega)];exact xL
   ·cases i with
    | zero=>
     cases j with
     | zero=>exact absurd rfl a4
     | succ j=>exact fun z=>h3 j a z I
    | succ i=>
     have C:a∈fa i:=I
     rw[a3 i b] at C;cases C
   ·cases i with
    | zero=>exact V8 (vs:=w::p) (i:=0) rfl
    | succ i=>exact absurd ho (g i (by simpa[G] using b))
   ·cases i with
    | zero=>exact .inl I
    | succ i=>exact absurd ho (g i (by simpa[G] using b))
   ·cases i with
    | zero=>
     rcases b with b | b
     ·have z:some Cl.own=some .loc:=b
      cases z
     ·exact absurd (SK _) b.2
    | succ i=>
     have C:a∈fa i:=I
     rcases b with b | b
     ·have:¬i<p.length:=fun q=>by
       have Y:cl[i]?=some .loc:=b
       rw[bor i q] at Y;cases Y
      rw[h2 i (by omega)] at C;cases C
     ·rw[a3 i b.1] at C;cases C
   ·cases i with
    | zero=>rfl
    | succ i=>exact absurd ho (g i (by simpa[G] using b))
   ·cases j with
    | zero=>exact absurd (show some Cl.own=some (.mk R) from e) (by intro z;cases z)
    | succ j=>exact(cO a1 (show cl[j]?=some (.mk R) from e)).elim
  have a2:∀{y:Ev} {M:L2.St} {R:Hp} {u:UN} {v:V} {r':D} {l:D} {B:UD},E3 K G y M R u->y[0]?=some (some l)->Qd r' l->Rep K R v r' B->B.Nodup->(∀a∈B,H a=none)->(∀a∈B,a∉u 0)->Q v R:=fun {y M R u v r' l B} T e O rr n1 n2 n3=>by
   obtain⟨v',e1,r1⟩:=T.rep 0 l e
   have e2:=T.par 0 (SK _) J
   rw[e1] at e2
   have e3:v'=w:=by
    have e4:some (some v')=some (some w):=e2
    cases e4;rfl
   subst e3
   refine kk r' l v R (u 0) B O r1 (T.nd 0 (.inl J)) (fun a I=>?_) (fun a o h hn=>T.frm a o h fun i b ho z=>?_) T.stb rr n1 fun a I=>⟨n2 a I,n3 a I⟩
   ·exact T.old 0 (SK _) J a I
   ·cases i with
    | zero=>exact hn z
    | succ i=>exact absurd ho (g i (by simpa[G] using b))
  refine⟨t,pt,h G { nx:=fun ρ=>d8 0 ρ fun l=>Qd .o8 l,rt:=fun d ρ=>d8 0 ρ fun l=>Qd d l } _ _ H fb _ rfl E0 (hc _ Qd q) ⟨fun M R hq=>?_,fun v R hq=>?_,fun M R hq=>?_,fun M R hq=>?_⟩⟩
  ·obtain⟨y,u,T,O⟩:=hq
   obtain⟨l,e,O⟩:=w6 O
   exact a2 T e O .o8 xL (fun a I=>(by cases I)) fun a I=>(by cases I)
  ·obtain⟨d,y,M,u,B',T,r',n1,n2,n3,O⟩:=hq
   obtain⟨l,e,O⟩:=w6 O
   exact a2 T e O r' n1 n2 (n3 0 (SK _) J)
  ·obtain⟨y,u,T,O⟩:=hq
   exact O
  ·obtain⟨y,u,T,O⟩:=hq
   exact O
end
end L3
namespace L3
open PySem PySem.Spec L2
section
variable{K:UP}{G:Ent}{ρ:Ev}{σ:St}{H:Hp}{fa:UN}
def fM(G:Ent)(fa:UN)(B:UD)(i:Nat):Prop:=
 (∀j,j≠i->G.own j->∀a∈B,a∉fa j) /\
 match G.cl[i]? with
 | some .own=>i≠0/\B.Nodup/\(∀a∈B,G.H₀ a=none/\¬G.Z a/\∀j,j≠i->a∉fa j)
 | some .loc=>B.Nodup/\∀a∈B,G.H₀ a=none
 | _=>True
theorem E3.set{v:V}{d:D}{B:UD}{i:Nat}(E:E3 K G ρ σ H fa)(x:i<ρ.length)(r:Rep K H v d B)(h:fM G fa B i):E3 K G (ρ.set i (some d)) (σ.set i (some v)) H (fun j=>if j=i then B else fa j):=by
 have I:i<σ.length:=by rw[<-E.len];exact x
 have c:G.own i->i≠0/\B.Nodup/\(∀a∈B,G.H₀ a=none/\¬G.Z a/\∀j,j≠i->a∉fa j):=fun o=>by
  have q:=h.2
  unfold Ent.own at o
  rw[o] at q
  exact q
 have p:G.cl[i]?=some .loc->B.Nodup/\∀a∈B,G.H₀ a=none:=fun o=>by
  have q:=h.2
  rw[o] at q
  exact q
 refine⟨fun j d' e=>?_,fun j e=>?_,by simp[E.len],fun j b=>?_,fun j l n b a g=>?_,fun j b u=>?_,fun j b u a g=>?_,fun j b a g=>?_,E.frm,E.stb,E.zk,E.zn,fun j b a g=>?_,E.po⟩
 ·by_cases q:j=i
  ·subst q
   rw[IN x] at e
   cases e
   exact⟨v,IN I,by rw[wS rfl];exact r⟩
  ·rw[No (QO q)] at e
   obtain⟨w,J,C⟩:=E.rep j d' e
   exact⟨w,by rw[No (QO q)];exact J,by rw[wP q];exact C⟩
 ·by_cases q:j=i
  ·subst q
   exact absurd (IN x) (e d)
  ·rw[wP q]
   exact E.emp j fun d z=>e d (by rw[No (QO q)];exact z)
 ·by_cases q:j=i
  ·subst q
   rw[wS rfl]
   rcases b with b | b
   ·exact(c b).2.1
   ·exact(p b).1
  ·rw[wP q];exact E.nd j b
 ·by_cases q:j=i
  ·subst q
   rw[wS rfl] at g
   rw[wP (QO n)]
   exact((c b).2.2 a g).2.2 l (QO n)
  ·rw[wP q] at g
   by_cases y:l=i
   ·subst y
    rw[wS rfl]
    exact fun z=>h.1 j q b a z g
   ·rw[wP y]
    exact E.dj j l n b a g
 ·have q:j≠i:=fun e=>(c (e▸u)).1 (e▸E.po.one j b u)
  rw[No (QO q)]
  exact E.par j b u
 ·have q:j≠i:=fun e=>(c (e▸u)).1 (e▸E.po.one j b u)
  rw[wP q] at g
  exact E.old j b u a g
 ·by_cases q:j=i
  ·subst q
   rw[wS rfl] at g
   rcases b with b | b
   ·exact(p b).2 a g
   ·exact((c b.1).2.2 a g).1
  ·rw[wP q] at g;exact E.new j b a g
 ·by_cases q:j=i
  ·subst q
   rw[wS rfl] at g
   exact((c b).2.2 a g).2.1
  ·rw[wP q] at g;exact E.zo j b a g
def xB(c:Option Cl)(f:Fl)(i:Nat):Bool:=match c,f with
 | some .own,.fresh=>decide (i≠0)
 | some .own,_=>false
 | some .loc,.fresh=>true
 | some .loc,.locl=>true
 | some .loc,_=>false
 | _,.any=>false
 | _,_=>true
theorem E3.qC(E:E3 K G ρ σ H fa){a:Addr}(h:H a=none):¬G.Z a:=fun z=>by
 have q:=E.zk a z
 rw[h] at q
 exact E.zn a z q.symm
theorem fM.of(E:E3 K G ρ σ H fa){B:UD}{f:Fl}{i:Nat}(h:B0 G H fa B f)(b:xB G.cl[i]? f i=true):fM G fa B i:=by
 have st:f≠.any->B0 G H fa B .stab:=fun n=>h.weak E (by cases f<;>first | rfl | exact absurd rfl n)
 have l:f≠.any:=fun e=>by
  subst e
  generalize G.cl[i]?=c at b
  cases c with
  | none=>cases b
  | some c=>cases c<;>cases b
 refine⟨fun j _ o a d=>st l j o a d,?_⟩
 cases e:G.cl[i]? with
 | none=>trivial
 | some c=>
  rw[e] at b
  cases c with
  | own=>
   cases f with
   | fresh=>exact⟨QD b,h.1,fun a d=>⟨E.stb.dom a (h.2 a d),E.qC (h.2 a d),fun j _ z=>E.there j z (h.2 a d)⟩⟩
   | _=>cases b
  | loc=>
   have q:=h.weak E (g:=.locl) (by cases f<;>first | rfl | cases b)
   exact⟨q.2.2,q.2.1⟩
  | bor=>trivial
  | mk _=>trivial
theorem fM.new(E:E3 K G ρ σ H fa){l:Hp}{h:UN}{g:Ev}{d:St}(E0:E3 K G g d l h){B:UD}{i:Nat}(n1:B.Nodup)(n2:∀a∈B,l a=none/\∀j,a∉fa j)(o:G.cl[i]?≠some .own\/i≠0):fM G fa B i:=by
 refine⟨fun j _ p a b=>(n2 a b).2 j,?_⟩
 cases e:G.cl[i]? with
 | none=>trivial
 | some c=>
  cases c with
  | own=>exact⟨o.resolve_left (fun z=>z e),n1,fun a b=>⟨E0.stb.dom a (n2 a b).1,E0.qC (n2 a b).1,fun j _=>(n2 a b).2 j⟩⟩
  | loc=>exact⟨n1,fun a b=>E0.stb.dom a (n2 a b).1⟩
  | bor=>trivial
  | mk _=>trivial
end
section
variable{X:Cx}{cl:List Cl}{e a b:Expr}{es:UG}{f:Fl}{pos pos':Pos}{ua ub:TU}{ma mb:TM}{x:Str}{i:Nat}{st:Stmt}{sts:UL}{s s2:i9}
def J0:i9:=fun T c=>T.nx c
def g9(s u:i9):i9:=fun T c=>s { nx:=u T,rt:=T.rt,bk:=T.bk,ct:=T.ct } c
theorem K6:jY X cl [] J0:=.of ⟨_,GC,fun G T c σ H d R g E h le=>le.nx σ H ⟨c,d,E,h⟩⟩
theorem x3(j:L7 X cl st s)(g:jY X cl sts s2):jY X cl (st::sts) (g9 s s2):=.of<|by
 obtain⟨C,u,j⟩:=j.run
 obtain⟨B,r,g⟩:=g.run
 refine⟨_,CP u r,fun G T p σ H v R o E h le=>?_⟩
 refine j G _ p σ H v _ o E h ⟨fun c y q=>?_,le.rt,le.bk,le.ct⟩
 obtain⟨d,l,z,q⟩:=q
 exact g G T d c y l R o z q le
theorem fm(c:L7 X cl st s):jY X cl [st] s:=.of<|let ⟨g,d,c⟩:=c.run;⟨_,Fz d,c⟩
def zf:i9:=fun _ _=>False
theorem Gp:L7 X cl st zf:=.of ⟨_,AG,fun G T c σ H g R d E h le=>h.elim⟩
def u4(i:Nat)(u:TU):i9:=fun T c=>u c fun d=>Nat.blt i c.length=true/\T.nx (c.set i (some d))
theorem eT(I:X.N.Nodup)(u:X.N[i]?=some x)(j:Loc X.env.scope x)(z:PU X cl e f ua)(C:xB cl[i]? f i=true)(o:swapsWith e (some (.Name x pos')) pos.line X.env=pure false:=by rfl)(y:X.fn x=true\/X.env.scope.names.lookup x=some .local:=by first | exact .inl rfl | exact .inr rfl | assumption) :
  L7 X cl (.Assign [.Name x pos'] e pos) (u4 i ua):=.of<|by
 obtain⟨t,p,h⟩:=z.run
 refine⟨_,Dk I u j p o y,fun G T g σ H M R c E l le=>?_⟩
 refine h G g σ H M _ _ c E l fun v O d B s r J q=>?_
 exact le.nx _ _ ⟨_,_,(E.same s).set (Ix q.1) r (fM.of E J (by rw[c];exact C)),q.2⟩
def L0(i:Nat)(u:TM):i9:=fun T g=>u g fun d c=>Nat.blt i c.length=true/\T.nx (c.set i (some d))
def fS(c:Option Cl)(i:Nat):Bool:=match c with
 | some .own=>decide (i≠0)
 | _=>true
theorem hV{c:Option Cl}{i:Nat}(h:fS c i=true):c≠some .own\/i≠0:=by
 unfold fS at h
 split at h
 ·exact .inr (QD h)
 ·rename_i q
  exact .inl fun e=>q e
theorem E8(O:X.N.Nodup)(C:X.N[i]?=some x)(u:Loc X.env.scope x)(J:PM X cl e ma)(M:fS cl[i]? i=true)(z:swapsWith e (some (.Name x pos')) pos.line X.env=pure false:=by rfl)(I:X.fn x=true\/X.env.scope.names.lookup x=some .local:=by first | exact .inl rfl | exact .inr rfl | assumption) :
  L7 X cl (.Assign [.Name x pos'] e pos) (L0 i ma):=.of<|by
 obtain⟨t,p,h⟩:=J.run
 refine⟨_,Dk O C u p z I,fun G T o σ H S R g E y le=>?_⟩
 refine h G o σ H S _ _ g E y fun v U d B l Q j c r n1 n2 q=>?_
 exact le.nx _ _ ⟨_,_,j.set (Ix q.1) r (fM.new j E n1 n2 (by rw[g];exact hV M)),q.2⟩
def ib(c:rE)(s u:i9):i9:=fun T g=>c g fun k d=>Br k (s T d) (u T d)
theorem T5{c:Expr}{A B:UL}{l:rE}(h:Lc X cl c l)(I:jY X cl A s)(C:jY X cl B s2):L7 X cl (.If c A B pos) (ib l s s2):=.of<|by
 obtain⟨t,p,h⟩:=h.run
 obtain⟨S,y,M⟩:=I.run
 obtain⟨Q,v,J⟩:=C.run
 refine⟨_,MY p y v,fun G T u σ H O R j E z le=>h G u σ H O _ _ j E z fun b o d g r c q=>?_⟩
 cases b with
 | true=>rw[wS rfl];exact M G T d σ o g R j r (q.t rfl) le
 | false=>rw[wP tL];exact J G T d σ o g R j r (q.f rfl) le
def y8(u:TU):i9:=fun T c=>u c fun d=>T.rt d c
theorem w8(y:PU X cl e f ua)(u:gQ f .locl=true):L7 X cl (.Return (some e) pos) (y8 ua):=.of<|by
 obtain⟨t,p,h⟩:=y.run
 refine⟨_,yY p,fun G T g σ H j R C E l le=>h G g σ H j _ _ C E l fun v J d B s r I q=>?_⟩
 have c:=I.weak E u
 exact le.rt v J ⟨d,g,σ,j,B,E.same s,r,c.2.2,c.2.1,fun i _ o a z=>c.1 i o a z,q⟩
theorem S7(i:Nat){c:Pos}(h:PE X (.Name x c) (fE i))(g:i≠0)(C:cl[i]?=some .own):L7 X cl (.Return (some (.Name x c)) pos) (y8 (d8 i)):=.of<|by
 refine⟨_,yY h,fun G T p σ H l R J E u le=>?_⟩
 obtain⟨d,e,q⟩:=w6 u
 obtain⟨v,M,r⟩:=E.rep i d e
 have o:G.own i:=by unfold Ent.own;rw[J];exact C
 refine⟨v,M,le.rt v H ⟨d,p,σ,l,l i,E,r,E.nd i (.inl o),E.new i (.inr ⟨o,fun z=>g (E.po.one i z o)⟩),fun j B y a I z=>?_,q⟩⟩
 exact E.dj i j (fun e=>g (e▸E.po.one j B y)) o a I z
def aU(u:TM):i9:=fun T d=>u d fun _ c=>T.nx c
theorem V0(y:PN X cl e ma)(u:swapsWith e none pos.line X.env=pure false:=by rfl):L7 X cl (.Expr e pos) (aU ma):=.of<|by
 obtain⟨t,p,h⟩:=y.run
 refine⟨_,Gz p u,fun G T l σ H C R z E o le=>h G l σ H C _ _ z E o fun v J d B g j I c r n q=>?_⟩
 exact le.nx _ _ ⟨g,j,I,q⟩
end
section
variable{K:UP}{G:Ent}{ρ:Ev}{σ:St}{H H1 H2:Hp}{fa fa1:UN}
theorem E3.put{i:Nat}{v:V}{d:D}{p:Addr}{A:UD}(E:E3 K G ρ σ H1 fa1)(o:G.own i)(M:i<ρ.length)(T:σ[i]?=some (some v))(x:p∈fa1 i)(k:∀a,a≠p->H2 a=H1 a)(I:H2 p≠none)
  (r:Rep K H2 v d A) (n1:A.Nodup) (n2:∀a∈A,a∈fa1 i\/(G.H₀ a=none/\¬G.Z a/\∀j,a∉fa1 j)):E3 K G (ρ.set i (some d)) σ H2 (fun j=>if j=i then A else fa1 j):=by
 have B:=E.ah i p x
 have stb:V4 H1 H2:=⟨fun b xs h=>by
   by_cases e:b=p
   ·subst e;rw[h] at B;exact B.elim
   ·rw[k b e];exact h,fun b u w h=>by
   by_cases e:b=p
   ·subst e;rw[h] at B;exact B.elim
   ·rw[k b e];exact h,fun b h=>by
   by_cases e:b=p
   ·subst e;exact absurd h I
   ·rw[k b e] at h;exact h⟩
 have S:∀j,j≠i->p∉fa1 j:=fun j n z=>E.dj i j (QO n) o p x z
 have X:i<σ.length:=by rw[<-E.len];exact M
 refine⟨fun j d' e=>?_,fun j e=>?_,by simp[E.len],fun j g=>?_,fun j l n g a c=>?_,E.par,fun j g Q a c=>?_,fun j g a c=>?_,fun a u h n=>?_,E.stb.trans stb,fun a z=>?_,E.zn,fun j g a c=>?_,E.po⟩
 ·by_cases q:j=i
  ·subst q
   rw[IN M] at e
   cases e
   exact⟨v,T,by rw[wS rfl];exact r⟩
  ·rw[No (QO q)] at e
   obtain⟨w,U,R⟩:=E.rep j d' e
   refine⟨w,U,?_⟩
   rw[wP q]
   exact R.mono stb fun a c=>k a fun e=>S j q (e▸c)
 ·by_cases q:j=i
  ·subst q
   exact absurd (IN M) (e d)
  ·rw[wP q]
   exact E.emp j fun d z=>e d (by rw[No (QO q)];exact z)
 ·by_cases q:j=i
  ·rw[wS q];exact n1
  ·rw[wP q];exact E.nd j g
 ·by_cases q:j=i
  ·subst q
   rw[wS rfl] at c
   rw[wP (QO n)]
   rcases n2 a c with y | y
   ·exact E.dj j l n o a y
   ·exact y.2.2 l
  ·rw[wP q] at c
   by_cases O:l=i
   ·subst O
    rw[wS rfl]
    intro z
    rcases n2 a z with y | y
    ·exact E.dj j l q g a c y
    ·exact y.2.2 j c
   ·rw[wP O]
    exact E.dj j l n g a c
 ·by_cases q:j=i
  ·subst q
   rw[wS rfl] at c
   rcases n2 a c with y | y
   ·exact E.old j g Q a y
   ·exact .inr y.1
  ·rw[wP q] at c;exact E.old j g Q a c
 ·by_cases q:j=i
  ·subst q
   rw[wS rfl] at c
   rcases n2 a c with y | y
   ·exact E.new j g a y
   ·exact y.1
  ·rw[wP q] at c;exact E.new j g a c
 ·have J:a≠p:=fun e=>by
   subst e
   by_cases C:i<G.vs.length
   ·rcases E.old i C o a x with y | y
    ·exact n i C o y
    ·rw[h] at y;cases y
   ·have y:=E.new i (.inr ⟨o,C⟩) a x
    rw[h] at y;cases y
  rw[k a J]
  exact E.frm a u h n
 ·rw[k a (fun e=>E.zo i o p x (e▸z))]
  exact E.zk a z
 ·by_cases q:j=i
  ·subst q
   rw[wS rfl] at c
   rcases n2 a c with y | y
   ·exact E.zo j g a y
   ·exact y.2.1
  ·rw[wP q] at c;exact E.zo j g a c
theorem Q2.put{i:Nat}{p:Addr}{A:UD}(c:Q2 K G H fa H1 fa1)(E:E3 K G ρ σ H1 fa1)(o:G.own i)(x:p∈fa1 i)(k:∀a,a≠p->H2 a=H1 a)(r:H2 p≠none)(n2:∀a∈A,a∈fa1 i\/H a=none):Q2 K G H fa H2 (fun j=>if j=i then A else fa1 j):=by
 have g:=E.ah i p x
 refine⟨fun a u h n=>?_,c.stb.trans ⟨fun b xs h=>?_,fun b u w h=>?_,fun b h=>?_⟩,fun j d a l=>?_,fun j d=>?_⟩
 ·have v:a≠p:=fun e=>by
   subst e
   rcases c.new i o a x with y | y
   ·exact n i o y
   ·rw[h] at y;cases y
  rw[k a v]
  exact c.frm a u h n
 ·by_cases e:b=p
  ·subst e;rw[h] at g;exact g.elim
  ·rw[k b e];exact h
 ·by_cases e:b=p
  ·subst e;rw[h] at g;exact g.elim
  ·rw[k b e];exact h
 ·by_cases e:b=p
  ·subst e;exact absurd h r
  ·rw[k b e] at h;exact h
 ·by_cases q:j=i
  ·subst q
   rw[wS rfl] at l
   rcases n2 a l with y | y
   ·exact c.new j d a y
   ·exact .inr y
  ·rw[wP q] at l;exact c.new j d a l
 ·exact(wP fun e:j=i=>d (by rw[e];exact o)).trans (c.bor j d)
theorem dc{H:Hp}{p:Addr}{o:HO}:∀a,a≠p->upd H p o a=H a:=fun a n=>i3 n
end
section
variable{X:Cx}{cl:List Cl}{e a b:Expr}{es:UG}{f:Fl}{pos pos':Pos}{ua ub:TU}{ma mb:TM}{x:Str}{i:Nat}{st:Stmt}{sts:UL}{s s2:i9}
def LL:D->Bool
 | .lst _=>true
 | _=>false
def Jn(i:Nat)(d:D)(c:Ev)(Q:Ev->Prop):D->Prop
 | .lst xs=>xs.length<sizeLine/\Q (c.set i (some (.lst (xs++[d]))))
 | _=>False
def jc(i:Nat)(ma:TM):TM:=fun g Q=>d8 i g fun l=>LL l=true/\ma g fun d c=>d8 i c (Jn i d c (Q .o8))
theorem D2{r:V->List V->Hp->VK->Prop}{j U:Pos}(i:Nat)(hv:PE X (.Name x U) (fE i))(hi:cl[i]?=some .own)(he:PM X cl e ma)(a1:isStar e=false)
  (mk:∀{t},PA X [e] t->PE X (.Call (.Attribute (.Name x U) "append" j) [e] [] pos) (Og X.K "list" J5 (fE i) t)):PM X cl (.Call (.Attribute (.Name x U) "append" j) [e] [] pos) (jc i ma):=.of<|by
 obtain⟨t,p,h⟩:=he.run
 refine⟨_,mk (dJ p P4 a1),fun G ρ σ H fa Q R hG E hu k=>?_⟩
 obtain⟨l0,e0,il,hu⟩:=w6 hu
 have own:G.own i:=by unfold Ent.own;rw[hG];exact hi
 obtain⟨v,J,r0⟩:=E.rep i l0 e0
 cases l0<;>first | cases il | skip
 obtain⟨p,vs,B,rfl,hp,_,_⟩:=J7 r0
 refine⟨_,J,.inl ⟨rfl,vs,L1.of hp⟩,h G ρ σ H fa _ _ hG E hu fun w H1 d O I M T c1 r1 n1 n2 q=>?_⟩
 obtain⟨l1,e1,q⟩:=w6 q
 obtain⟨v',o,r2⟩:=T.rep i l1 e1
 have ev:v'=.ref p:=by rw[J] at o;cases o;rfl
 subst ev
 cases l1<;>first | exact(show False from q).elim | skip
 rename_i xs
 obtain⟨p',l,B',ep,C,rs,S⟩:=J7 r2
 cases ep
 have q:xs.length<sizeLine/\Q .o8 (I.set i (some (.lst (xs++[d])))):=q
 have nd:=T.nd i (.inl own)
 have pin:p∈M i:=by rw[S];exact lP
 rw[S] at nd
 obtain⟨np,a0⟩:=List.nodup_cons.mp nd
 have g:p∉O:=fun z=>(n2 p z).2 i pin
 have st:V4 H1 (upd H1 p (.lst (l++[w]))):=⟨fun b ys h=>by
   by_cases e:b=p
   ·subst e;rw[C] at h;cases h
   ·rw[i3 e];exact h,fun b u w' h=>by
   by_cases e:b=p
   ·subst e;rw[C] at h;cases h
   ·rw[i3 e];exact h,fun b h=>by
   by_cases e:b=p
   ·subst e;rw[e9] at h;cases h
   ·rw[i3 e] at h;exact h⟩
 have rn:Rep X.K (upd H1 p (.lst (l++[w]))) (.ref p) (.lst (xs++[d])) (p::(B'++(O++[]))):=
  .lst e9 ((rs.mono st fun a c=>i3 fun e=>np (e▸c)).append (.cons (r1.mono st fun a c=>i3 fun e=>g (e▸c)) .nil))
 rw[Do] at rn
 have n3:∀a∈p::(B'++O),a∈M i\/a∈O:=fun a c=>by
  rcases List.mem_cons.mp c with z | z
  ·exact .inl (z▸pin)
  ·rcases List.mem_append.mp z with y | y
   ·exact .inl (by rw[S];exact hQ _ y)
   ·exact .inr y
 have Y:(p::(B'++O)).Nodup:=List.nodup_cons.mpr ⟨fun z=>(List.mem_append.mp z).elim np g,List.nodup_append.mpr ⟨a0,n1,fun a c b hb e=>(n2 b hb).2 i (by rw[S,<-e];exact hQ _ c)⟩⟩
 have li:i<I.length:=(List.getElem?_eq_some_iff.mp e1).1
 refine⟨p,l,w,rfl,rfl,C,by rw[rs.length];exact q.1,?_⟩
 refine k .o8 _ .o8 [] _ _ (T.put own li o pin dc (by rw[e9];exact fun z=>nomatch z) rn Y fun a c=>(n3 a c).imp id fun y=>⟨E.stb.dom a (n2 a y).1,E.qC (n2 a y).1,(n2 a y).2⟩) (c1.put T own pin dc (by rw[e9];exact fun z=>nomatch z) fun a c=>(n3 a c).imp id fun y=>(n2 a y).1) .o8 xL (fun a c=>(by cases c)) q.2
def MJ(i:Nat)(k:Int)(d:D)(c:Ev)(Q:Ev->Prop):D->Prop
 | .lst xs=>∃j,kN xs.length k=some j/\Q (c.set i (some (.lst (xs.set j d))))
 | _=>False
def yd(i:Nat)(j mk:TM):i9:=fun T h=>j h fun d g=>d8 i g fun _=>mk g fun k c=>match k with
 | .int k=>d8 i c (MJ i k d c T.nx)
 | _=>False
theorem oB{Y tp:Pos}{Q:Expr}{mk:TM}(i:Nat)(hv:PE X (.Name x Y) (fE i))(hi:cl[i]?=some .own)(he:PM X cl e ma)(hk:PN X cl Q mk)
  (a3:∀{te ti},PE X e te->PE X Q ti->PS X (.Assign [.Subscript (.Name x Y) Q tp] e pos) (si te (aa (fE i) ti Ha))):L7 X cl (.Assign [.Subscript (.Name x Y) Q tp] e pos) (yd i ma mk):=.of<|by
 obtain⟨t,p,h⟩:=he.run
 obtain⟨t2,p2,h2⟩:=hk.run
 refine⟨_,a3 p p2,fun G T ρ σ H fa R hG E hu le=>?_⟩
 have own:G.own i:=by unfold Ent.own;rw[hG];exact hi
 refine h G ρ σ H fa _ _ hG E hu fun w H1 d B1 U a4 E1 c1 r1 n1 n2 q=>?_
 obtain⟨l0,e0,q⟩:=w6 q
 obtain⟨v,J,r0⟩:=E1.rep i l0 e0
 refine⟨_,J,h2 G U σ H1 a4 _ _ hG E1 q fun wk H2 dk Bk I o E2 c2 rk nk q=>?_⟩
 cases dk<;>first | exact(show False from q).elim | skip
 rename_i kk
 cases x5 rk
 obtain⟨l1,e1,q⟩:=w6 q
 obtain⟨v',g,r2⟩:=E2.rep i l1 e1
 have ev:v'=v:=by rw[J] at g;cases g;rfl
 subst ev
 cases l1<;>first | exact(show False from q).elim | skip
 rename_i xs
 obtain⟨p,vs,B,rfl,hp,rs,S⟩:=J7 r2
 obtain⟨j,hj,q⟩:∃j,kN xs.length kk=some j/\T.nx (I.set i (some (.lst (xs.set j d)))):=q
 have a0:=c2.keep r1 fun i _ a c=>(n2 a c).2 i
 have r:∀a∈B1,∀l,a∉o l:=fun a c l z=>by
  by_cases ho:G.own l
  ·rcases c2.new l ho a z with y | y
   ·exact(n2 a c).2 l y
   ·exact r1.there c y
  ·rw[c2.bor l ho] at z;exact(n2 a c).2 l z
 have nd:=E2.nd i (.inl own)
 have pin:p∈o i:=by rw[S];exact lP
 rw[S] at nd
 obtain⟨np,a2⟩:=List.nodup_cons.mp nd
 have O:p∉B1:=fun z=>r p z i pin
 have st:∀ws,V4 H2 (upd H2 p (.lst ws)):=fun ws=>⟨fun b ys h=>by
   by_cases e:b=p
   ·subst e;rw[hp] at h;cases h
   ·rw[i3 e];exact h,fun b u w' h=>by
   by_cases e:b=p
   ·subst e;rw[hp] at h;cases h
   ·rw[i3 e];exact h,fun b h=>by
   by_cases e:b=p
   ·subst e;rw[e9] at h;cases h
   ·rw[i3 e] at h;exact h⟩
 obtain⟨C,rC,mC,nC⟩:=j7.set j rs a0
 have M:p∉C:=fun z=>(mC p z).elim np O
 have rn:Rep X.K (upd H2 p (.lst (vs.set j w))) (.ref p) (.lst (xs.set j d)) (p::C):=.lst e9 (rC.mono (st _) fun a c=>i3 fun e=>M (e▸c))
 have n3:∀a∈p::C,a∈o i\/a∈B1:=fun a c=>by
  rcases List.mem_cons.mp c with z | z
  ·exact .inl (z▸pin)
  ·exact(mC a z).imp (fun y=>by rw[S];exact hQ _ y) id
 have a1:(p::C).Nodup:=List.nodup_cons.mpr ⟨M,nC a2 n1 fun a c z=>r a c i (by rw[S];exact hQ _ z)⟩
 have li:i<I.length:=(List.getElem?_eq_some_iff.mp e1).1
 refine⟨p,vs,kk,j,rfl,rfl,hp,by rw[rs.length];exact hj,?_⟩
 exact le.nx _ _ ⟨_,_,E2.put own li g pin dc (by rw[e9];exact fun z=>nomatch z) rn a1 fun a c=>(n3 a c).imp id fun y=>⟨E.stb.dom a (n2 a y).1,E.qC (n2 a y).1,r a y⟩,q⟩
end
def bu(K:UP)(J:It)(xs:List D)(C:UD)(H:Hp):Prop:=∀b,Tf H b->(∀a∈C,b a=H a)->∀i,(xs.length=i->J.stop i b) /\
 ∀d,xs[i]?=some d->J.go i b/\∀x c,J.yld i b x c->g4 b c/\∃B,Rep K c x d B/\B.Sublist C
abbrev lG:=Ev->(List D->Prop)->Prop
abbrev Iq:=Ev->(List D->Ev->Prop)->Prop
structure bU(X:Cx)(cl:List Cl)(tg iter:Expr)(f:Fl)(u:lG):Prop where
 of ::
 run:∃wi,PI X tg iter wi/\∀(G:Ent) (ρ:Ev) (σ:St) (H:Hp) (fa:UN) (Q:List D->Prop) (R:It->Hp->Prop),G.cl=cl->E3 X.K G ρ σ H fa->u ρ Q ->
  (∀J H1 xs C,g4 H H1->bu X.K J xs C H1->(∀a∈C,H1 a≠none)->B0 G H fa C f->Q xs->R J H1)->wi σ H R
structure NH(X:Cx)(cl:List Cl)(tg iter:Expr)(u:Iq):Prop where
 of ::
 run:∃wi,PI X tg iter wi/\∀(G:Ent) (ρ:Ev) (σ:St) (H:Hp) (fa:UN) (Q:List D->Ev->Prop) (R:It->Hp->Prop),G.cl=cl->E3 X.K G ρ σ H fa->u ρ Q ->
  (∀J H1 xs C ρ1 fa1,E3 X.K G ρ1 σ H1 fa1->Q2 X.K G H fa H1 fa1->bu X.K J xs C H1->(∀a∈C,H1 a≠none)->(∀i,G.own i->∀a∈C,a∉fa1 i)->Q xs ρ1->R J H1)->wi σ H R
section
variable{X:Cx}{cl:List Cl}{tg e a b:Expr}{es:UG}{f:Fl}{pos pos':Pos}{ua ub:TU}{ma mb:TM}{x:Str}{i:Nat}
def iP(u:lG):Iq:=fun c Q=>u c fun xs=>Q xs c
theorem bU.m{u:lG}(h:bU X cl tg e f u)(j:gQ f .stab=true):NH X cl tg e (iP u):=.of<|by
 obtain⟨t,p,h⟩:=h.run
 exact⟨t,p,fun G c σ H d Q R l E g k=>h G c σ H d _ _ l E g fun J r xs C s it tr o q=>k J r xs C c d (E.same s) (Q2.same s) it tr (o.weak E j) q⟩
theorem aZ{K:UP}{H c:Hp}{vs:List V}{xs:List D}{C:UD}(r:j7 K H vs xs C)(tf:Tf H c)(k:∀a∈C,c a=H a){i:Nat}{d:D}(e:xs[i]?=some d):∃v B,vs[i]?=some v/\Rep K c v d B/\B.Sublist C:=(r.D8 tf k).get e
theorem Qe{K:UP}{H:Hp}{p:Addr}{vs:List V}{xs:List D}{C:UD}(h:H p=some (.lst vs))(r:j7 K H vs xs C):bu K (ND K p) xs (p::C) H:=fun o tf k i=>by
 have g:o p=some (.lst vs):=(k p lP).trans h
 have z:∀a∈C,o a=H a:=fun a G=>k a (hQ _ G)
 refine⟨fun E=>⟨vs,L1.of g,by rw[r.length];exact RO E⟩,fun d e=>?_⟩
 obtain⟨v,B,l,u,q⟩:=aZ r tf z e
 refine⟨⟨vs,v,L1.of g,l⟩,fun y J c=>?_⟩
 obtain⟨I,c⟩:=c
 subst I
 have j:=c vs (L1.of g)
 rw[l] at j
 cases j
 exact⟨g4.refl _,B,u,q.trans (RB _ _)⟩
theorem PZ{K:UP}{H:Hp}{p:Addr}{vs:List V}{xs:List D}{C:UD}(h:HN K H p vs)(r:j7 K H vs xs C):bu K (ND K p) xs C H:=fun E tf k i=>by
 have g:L1 K E p vs:=(tf.OR h).sq
 refine⟨fun u=>⟨vs,g,by rw[r.length];exact RO u⟩,fun d e=>?_⟩
 obtain⟨v,B,l,q,o⟩:=aZ r tf k e
 refine⟨⟨vs,v,g,l⟩,fun y G c=>?_⟩
 obtain⟨z,c⟩:=c
 subst z
 have j:=c vs g
 rw[l] at j
 cases j
 exact⟨g4.refl _,B,q,o⟩
theorem OX{K:UP}{H:Hp}{p:Addr}{vs:List V}{xs:List D}{C:UD}(h:H p=some (.tup vs))(r:j7 K H vs xs C):bu K (Nz K p) xs C H:=fun E tf k i=>by
 have g:Q0 K E p vs:=Q0.of (tf.P9 _ _ h)
 refine⟨fun u=>⟨vs,g,by rw[r.length];exact RO u⟩,fun d e=>?_⟩
 obtain⟨v,B,l,q,o⟩:=aZ r tf k e
 refine⟨⟨vs,v,g,l⟩,fun y G c=>?_⟩
 obtain⟨z,c⟩:=c
 subst z
 have j:=c vs g
 rw[l] at j
 cases j
 exact⟨g4.refl _,B,q,o⟩
theorem j7.there{K:UP}{H:Hp}{v:List V}{d:List D}{A:UD}(r:j7 K H v d A):∀x∈A,H x≠none:=fun x c z=>by
 have:=r.ah x c
 rw[z] at this
 exact this
def fP(lo:Int)(n:Nat):List D:=(List.range n).map fun(k:Nat)=>D.int (lo+(k:Int))
theorem itR{K:UP}{H:Hp}(lo:Int)(n:Nat):bu K (MC lo n) (fP lo n) [] H:=fun o tf k i=>by
 refine⟨fun c=>by unfold fP at c;rw[eH,BB] at c;exact RO c,fun d e=>?_⟩
 unfold fP at e
 rw[wE] at e
 by_cases g:i<n
 ·rw[Te g] at e
  cases e
  refine⟨g,fun y l h=>?_⟩
  obtain⟨j,rfl⟩:=h
  subst j
  exact⟨g4.refl _,[],.int,Tw _⟩
 ·rw[RG (by rw[BB];omega)] at e
  cases e
def Lv(u:TM):Iq:=fun g Q=>u g fun d c=>match d with
 | .int j=>(-(2^62)<=j/\j<2^62)/\Q (fP 0 j.toNat) c
 | _=>False
theorem xE {p:Pos} (S:Gl X "range") (O:X.mg "range"=none) (h:PN X cl e ma) (l:isStar e=false)
  (mk:∀{t},PA X [e] t->PI X tg (.Call (.Name "range" p) [e] [] pos) (zN t)):NH X cl tg (.Call (.Name "range" p) [e] [] pos) (Lv ma):=.of<|by
 obtain⟨t,pt,h⟩:=h.run
 refine⟨_,mk (dJ pt P4 l),fun G y σ H I Q R C E z k=>h G y σ H I _ _ C E z fun v J d B g u M c r n q=>?_⟩
 cases d<;>first | exact(show False from q).elim | skip
 rename_i j
 cases x5 r
 have q:(-(2^62)<=j/\j<2^62)/\Q (fP 0 j.toNat) g:=q
 exact⟨j,rfl,q.1.1,q.1.2,k _ J _ [] g u M c (itR 0 _) (fun a o=>(by cases o)) (fun _ _ a o=>(by cases o)) q.2⟩
def eY(u:TU):lG:=fun c Q=>u c fun d=>match d with
 | .int j=>(-(2^62)<=j/\j<2^62)/\Q (fP 0 j.toNat)
 | _=>False
theorem S4 {p:Pos} (I:Gl X "range") (C:X.mg "range"=none) (h:PU X cl e f ua) (c:isStar e=false)
  (mk:∀{t},PA X [e] t->PI X tg (.Call (.Name "range" p) [e] [] pos) (zN t)):bU X cl tg (.Call (.Name "range" p) [e] [] pos) .fresh (eY ua):=.of<|by
 obtain⟨t,pt,h⟩:=h.run
 refine⟨_,mk (dJ pt P4 c),fun G g σ H y Q R u E l k=>h G g σ H y _ _ u E l fun v z d B s r J q=>?_⟩
 cases d<;>first | exact(show False from q).elim | skip
 rename_i j
 cases x5 r
 have q:(-(2^62)<=j/\j<2^62)/\Q (fP 0 j.toNat):=q
 exact⟨j,rfl,q.1.1,q.1.2,k _ z _ [] s (itR 0 _) (fun a o=>(by cases o)) (B0.nil _) q.2⟩
def iw:Nat->List D->List D
 | _,[]=>[]
 | k,x::xs=>.tup [.int k,x]::iw (k+1) xs
theorem cX:∀{xs:List D} {k i:Nat} {d:D},(iw k xs)[i]?=some d->∃x,xs[i]?=some x/\d=.tup [.int ((k+i:Nat):Int),x]
 | [],_,_,_,e=>by simp[iw] at e
 | x::xs,k,0,d,e=>by simp[iw] at e;exact⟨x,rfl,e.symm⟩
 | x::xs,k,i+1,d,e=>by
  rw[iw,Pv] at e
  obtain⟨y,g,c⟩:=cX e
  exact⟨y,by simpa using g,by rw[c];congr 3;omega⟩
theorem cM:∀{xs:List D} {k:Nat},(iw k xs).length=xs.length
 | [],_=>rfl
 | x::xs,k=>by simp[iw,cM]
theorem Qa{K:UP}{H:Hp}{p:Addr}{vs:List V}{xs:List D}{C:UD}(h:H p=some (.lst vs))(r:j7 K H vs xs C):bu K (FK K p) (iw 0 xs) (p::C) H:=fun g tf k i=>by
 have c:g p=some (.lst vs):=(k p lP).trans h
 have I:∀a∈C,g a=H a:=fun a O=>k a (hQ _ O)
 refine⟨fun M=>⟨vs,L1.of c,by rw[r.length,<-cM (xs:=xs) (k:=0)];exact RO M⟩,fun d e=>?_⟩
 obtain⟨x,R,Q⟩:=cX e
 obtain⟨v,B,q,E,u⟩:=aZ r tf I R
 refine⟨⟨vs,v,L1.of c,q⟩,fun y S J=>?_⟩
 obtain⟨G,z,rfl,l,rfl,hz⟩:=J
 have o:=hz vs (L1.of c)
 rw[q] at o
 cases o
 refine⟨g4.i4 l,B,?_,u.trans (RB _ _)⟩
 rw[Q]
 have j:j7 K (upd g G (.tup [.int i,v])) [.int i,v] [.int ((0+i:Nat):Int),x] ([]++(B++[])):=.cons (by rw[Nat.zero_add];exact .int) (.cons (E.same (g4.i4 l)) .nil)
 rw[Do,Go] at j
 exact .tup e9 j
theorem OF{K:UP}{H:Hp}{p:Addr}{vs:List V}{xs:List D}{C:UD}(h:HN K H p vs)(r:j7 K H vs xs C):bu K (FK K p) (iw 0 xs) C H:=fun q tf k i=>by
 have c:L1 K q p vs:=(tf.OR h).sq
 refine⟨fun J=>⟨vs,c,by rw[r.length,<-cM (xs:=xs) (k:=0)];exact RO J⟩,fun d e=>?_⟩
 obtain⟨x,O,M⟩:=cX e
 obtain⟨v,B,o,E,u⟩:=aZ r tf k O
 refine⟨⟨vs,v,c,o⟩,fun y Q I=>?_⟩
 obtain⟨G,z,rfl,j,rfl,hz⟩:=I
 have l:=hz vs c
 rw[o] at l
 cases l
 refine⟨g4.i4 j,B,?_,u⟩
 rw[M]
 have g:j7 K (upd q G (.tup [.int i,v])) [.int i,v] [.int ((0+i:Nat):Int),x] ([]++(B++[])):=.cons (by rw[Nat.zero_add];exact .int) (.cons (E.same (g4.i4 j)) .nil)
 rw[Do,Go] at g
 exact .tup e9 g
def Nd(u:TU):lG:=fun c Q=>u c fun d=>match d with
 | .lst xs=>Q (iw 0 xs)
 | .fz xs=>Q (iw 0 xs)
 | _=>False
theorem Jr{p:Pos}(h:PU X cl e f ua)(j:isStar e=false)
  (mk:∀{t},PA X [e] t->PI X tg (.Call (.Name "enumerate" p) [e] [] pos) (Hw X.K t)):bU X cl tg (.Call (.Name "enumerate" p) [e] [] pos) f (Nd ua):=.of<|by
 obtain⟨t,pt,h⟩:=h.run
 refine⟨_,mk (dJ pt P4 j),fun G u σ H M Q R J E z k=>h G u σ H M _ _ J E z fun v o d B s r l q=>?_⟩
 cases d<;>first | exact(show False from q).elim | skip
 ·have y:=r
  obtain⟨p,vs,C,rfl,c,g,rfl⟩:=J7 r
  exact⟨p,rfl,⟨vs,L1.of c⟩,k _ o _ _ s (Qa c g) (fun a I=>y.there I) l q⟩
 ·obtain⟨p,vs,rfl,c,g⟩:=jd r
  exact⟨p,rfl,⟨vs,c.sq⟩,k _ o _ _ s (OF c g) g.there l q⟩
def kindB(b:Bool)(d:D):Option (List D):=match b,d with
 | false,.lst c=>some c
 | false,.fz c=>some c
 | true,.tup c=>some c
 | _,_=>none
end
end L3
namespace L2
open PySem PySem.Spec PyProof.Rows
theorem lz{X:Cx}{N:UE}{scope:Scope}{cap:UA}{a:UD}{pins:TZ}{σ:St}{H:Hp}{s:Shared}{Y l a2:Expr}{a6:UG}{al:Pos}{g:UB->UD->Shared->Hp->TG}{tc:UB->UD->Shared->Hp->TT}{te:UB->UD->Shared->Hp->TE}{J:It}{it:Addr}{tn:Nat->Heap->Prop}
  {E:UM} {RR:Value->Addr->Result->Shared->Prop} {Q:VK} (S:X.calm=true) (cf:L6 X N scope cap) (hk:scope.kind=.function)
  (hg:∀cl a s H,PG (A7 X N scope cl a s H) l (g cl a s H)) (hc:∀cl a s H,uY (A7 X N scope cl a s H) a6 (tc cl a s H)) (he:∀cl a s H,PE (A7 X N scope cl a s H) Y (te cl a s H))
  (I:Inv X pins σ H s) (T:Turn X.prog X.w X.K l J a it tn) (st:tn 0 s.heap) (hf:∀b∈a,M7 X pins H b) (q:∀cl a s z,NC J (g cl a s z) (tc cl a s z) (te cl a s z) (L5 cap σ) Q H)
  (b2:∀d C z s' m,Inv X pins σ z s'->s'.heap.Ns C m->M7 X pins z C->Q (.ref d) z->RR (.ref d) C (.ok .next) s') :
  wpAny (model X.prog X.w) X.A (newList []) (fun acc B=>wpAny (model X.prog X.w) X.A (newFunctionEnv scope X.env.globals (A9 X.env scope.names []) [] X.env.qual none .none (some X.env)) (fun a3 s4=>
   codeAny (model X.prog X.w) X.A (.compStart (.ListComp Y [⟨l,a2,a6,0⟩] scope al) 0 (.ref it) acc { a3 with scope:=relabel scope X.env }) (RR acc a3.locals) s4) E B) E s:=by
 refine IR (Tn cf.nocell (by intro y hy;simp at hy) (fun h1 a8 a7=>?_) hk)
 have I3:Inv X pins σ (upd H s.heap.objs.size (.lst [])) { s with heap:=s.heap.push { cls:=.type "list",data:=.seq ([]:UF).toArray } }:=I.Dg (its:=[]) (t':=s.toks) .nil (KM _)
 have b1:H s.heap.objs.size=none:=I.fresh
 obtain⟨W,⟨m0,w0⟩,a0⟩:=q (A9 X.env scope.names []) a { s with heap:=s.heap.push { cls:=.type "list",data:=.seq ([]:UF).toArray } } (upd H s.heap.objs.size (.lst [])) s.heap.objs.size b1
 have am:∀b∈a,b<s.heap.objs.size:=fun b j=>by
  obtain⟨o,e,_⟩:=T.obj 0 _ st b j
  exact AT e
 have a9:∀b∈a,M7 X pins (upd H s.heap.objs.size (.lst [])) b:=fun b j=>⟨by rw[i3 (Ew (am b j))];exact(hf b j).1,(hf b j).2⟩
 have R:∀b∈a,b<(s.heap.push { cls:=.type "list",data:=.seq ([]:UF).toArray }).objs.size:=fun b j=>by
  rw[QL]
  exact QX (am b j)
 dsimp only at a8 a7 ⊢
 generalize U:({ s with heap:=s.heap.push { cls:=.type "list",data:=.seq ([]:UF).toArray } }:Shared)=B at I3 a0
 have G:B.heap=s.heap.push { cls:=.type "list",data:=.seq ([]:UF).toArray }:=by rw[<-U]
 have b8:B.toks=s.toks:=by rw[<-U]
 rw[<-G] at a8 a7 R
 have O:∀b o,B.heap.get? b=some o->h1.get? b=some o:=fun b o e=>a7.extBut b o (Ew (AT e)) (hD _ e)
 have keep:∀b o,s.heap.get? b=some o->h1.get? b=some o:=fun b o e=>O b o (by rw[G];exact hD _ e)
 have Ic:=gH (tk:=s.toks) I3 cf hk a9 R a8 O
 have ad:tn 0 h1:=T.keep 0 _ _ st fun b _ o e=>keep b o e
 have b4:∀b∈a,(upd H s.heap.objs.size (.lst [])) b=none:=fun b j=>(a9 b j).1
 have M:∀{z:Hp},(∀b∈a,z b=none)->∀b∈a,M7 (A7 X N scope (A9 X.env scope.names []) a B (upd H s.heap.objs.size (.lst []))) [] z b:=fun hn b j=>
  ⟨hn b j,Ew (R b j),Ic.ok.exfs b j,.inl j,fun x c h=>(hf b j).2.2.2.2.1 x c (Z6 h),fun p hp=>absurd (show p∈([]:TZ) from hp) (by simp)⟩
 have bg:B.os=s.os:=by rw[<-U]
 have bi:B.gens=s.gens:=by rw[<-U]
 have a1:codeAny (model X.prog X.w) X.A (.compLoop (.ListComp Y [⟨l,a2,a6,0⟩] scope al) 0 (.ref it) (.ref s.heap.objs.size) (compEnvC scope (A9 X.env scope.names []) B.heap.objs.size X.env))
   (RR (.ref s.heap.objs.size) B.heap.objs.size) { B with heap:=h1,toks:=s.toks }:=by
  refine mW (fun n s'=>∃i z,Inv (A7 X N scope (A9 X.env scope.names []) a B (upd H s.heap.objs.size (.lst []))) [] (L5 cap σ) z s'/\tn i s'.heap/\(∀b∈a,z b=none)/\W i n z) ?_ m0 ⟨0,_,Ic,ad,b4,w0⟩
  rintro n s4 ⟨i,H4,I4,ac,ap,w4⟩
  rcases a0 i n H4 w4 with⟨stop,qn⟩ | ⟨go,step⟩
  ·refine y3 (T.done (A7 X N scope (A9 X.env scope.names []) a B (upd H s.heap.objs.size (.lst []))) rfl rfl rfl S i [] s4 _ H4 (fun _ _=>False) I4 (M ap) ac stop) fun r s5 ⟨hr,I5⟩=>?_
   subst hr
   obtain⟨m,b0,_⟩:=I5.loc
   refine b2 _ _ H4 s5 m ?_ b0 (I3.fH (sK _) I5.free) qn
   exact I3.zP I5.os I5.base I5.hok I5.bare fun b j=>⟨(hf b j).2.2.2.1,(hf b j).2.1,(hf b j).2.2.2.2.1,(hf b j).2.2.2.2.2⟩
  ·refine y3 (T.item (A7 X N scope (A9 X.env scope.names []) a B (upd H s.heap.objs.size (.lst []))) rfl rfl rfl S i [] s4 _ H4 (fun _ _=>False) I4 (M ap) ac go) fun r s5 ⟨u,hr,h5⟩=>?_
   subst hr
   refine y3 h5 fun _ s6 ⟨x,H6,I6,r6,y6,a5,b3⟩=>?_
   have b6:=I6.pinned (M b3) (T.obj _ _ a5)
   refine y3 (hg _ _ _ _ _ s6 _ H6 x u _ b6 r6 (step x H6 y6)) fun _ s7 ⟨a4,H7,I7,q7⟩=>?_
   refine y3 (hc _ _ _ _ _ s7 a4 H7 _ I7 q7) fun ok s8 ⟨H8,I8,q8⟩=>?_
   have again:∀{ab:St} {H9:Hp} {s9:Shared},Inv (A7 X N scope (A9 X.env scope.names []) a B (upd H s.heap.objs.size (.lst []))) ([]++aQ a s6.heap) ab H9 s9->(∃m',m'<n/\W (i+1) m' H9) ->
     ∃m,m<n/\∃i z,Inv (A7 X N scope (A9 X.env scope.names []) a B (upd H s.heap.objs.size (.lst []))) [] (L5 cap σ) z s9/\tn i s9.heap/\(∀b∈a,z b=none)/\W i m z:=fun {ab H9 s9} I9 ⟨m',hm,w9⟩=>by
    refine⟨m',hm,i+1,H9,eK I3 cf a9 I9.R3,T.keep _ _ _ a5 fun b j o e=>(I9.pin (b,o) (wT _ (wT _ (C3 j e)))).1,fun b j=>?_,w9⟩
    obtain⟨o,e,d⟩:=T.obj _ _ a5 b j
    exact(I9.pin (b,o) (wT _ (wT _ (C3 j e)))).2.1
   cases ok with
   | false=>exact again I8 q8
   | true=>
    show wpAny _ _ (eval Y _) _ _ s8
    refine y3 (he _ _ _ _ _ s8 a4 H8 _ I8 q8) fun y s9 ⟨v,H9,I9,r9,acc,ao,an,m',hm,w9⟩=>?_
    refine y3 (B7 _ s9 a4 H9 (.ref s.heap.objs.size) [v] (.ref s.heap.objs.size) [y] (fun _ z=>z=upd H9 s.heap.objs.size (.lst (acc++[v]))) I9 rfl (.cons r9 .nil) ⟨_,acc,v,rfl,rfl,ao,an,rfl⟩) fun _ b9 ⟨_,bm,b7,_,b5⟩=>?_
    subst b5
    exact again b7 ⟨m',hm,w9⟩
 have e4:({ s with heap:=h1,toks:=s.toks+([]:UC).length }:Shared)={ B with heap:=h1,toks:=s.toks }:=by rw[<-U];rfl
 rw[<-G,e4]
 exact codeAny_compStart_list a1 (T.self _ 0 _ _ _ ad a1)
def Mf(cap:UA)(c:TI)(g:UB->UD->Shared->Hp->TG)(tc:UB->UD->Shared->Hp->TT)(te:UB->UD->Shared->Hp->TE):TE:=fun σ H Q=>c σ H fun J d=>∀cl a s b,NC J (g cl a s b) (tc cl a s b) (te cl a s b) (L5 cap σ) Q d
theorem Je{X:Cx}{XN N:UE}{XS scope:Scope}{cap:UA}{l a b:Expr}{i:UG}{p:Pos}{u:TI}{g:UB->UD->Shared->Hp->TG}{tc:UB->UD->Shared->Hp->TT}{te:UB->UD->Shared->Hp->TE}
  (j:X0 XN N XS scope cap=true) (hN:X.N=XN) (Y:X.env.scope=XS) (y:scope.kind=.function) (e:X.calm=true) (O:PI X a b u)
  (R:∀cl c s H,PG (A7 X N scope cl c s H) a (g cl c s H)) (U:∀cl c s H,uY (A7 X N scope cl c s H) i (tc cl c s H)) (S:∀cl c s H,PE (A7 X N scope cl c s H) l (te cl c s H))
  (G:∀x,foldedSetIterable b X.env x=pure x:=by intro _;rfl):PE X (.ListComp l [⟨a,b,i,0⟩] scope p) (Mf cap u g tc te):=by
 refine .of ?_
 intro pins s σ H Q I h
 have r:=O6 hN Y j
 rw[eval_ListComp]
 refine Ry (use:=none) rfl G (R8 (I.R9 r)) y r.loc (y3 (O pins s σ H _ I h) fun v s1 h1=>y3 h1 fun E s2 h2=>?_)
 obtain⟨it,c,tn,J,H2,rfl,I2,T,o,f2,q⟩:=h2
 exact lz (RR:=fun acc C=>compPost (model X.prog X.w) X.A X.xe none (EP X pins σ Q) acc C) e r y R U S I2 T o f2 q fun d C H' s' m I' M hC B=>⟨m,M,fun h' z=>⟨.ref d,H',I'.qW hC z,rfl,B⟩⟩
theorem kb{X:Cx}{i:Nat}{y:Str}{XN N:UE}{XS scope:Scope}{cap:UA}{o b c:Expr}{j:UG}{r p E:Pos}{wi:TI}{g:UB->UD->Shared->Hp->TG}{tc:UB->UD->Shared->Hp->TT}{te:UB->UD->Shared->Hp->TE}
  (U:X.N.Nodup) (S:X.N[i]?=some y) (hy:X.env.scope.names.lookup y=some .local)
  (G:X0 XN N XS scope cap=true) (hN:X.N=XN) (hS:X.env.scope=XS) (hk:scope.kind=.function) (u:X.calm=true) (hi:PI X b c wi)
  (hg:∀cl l s H,PG (A7 X N scope cl l s H) b (g cl l s H)) (hc:∀cl l s H,uY (A7 X N scope cl l s H) j (tc cl l s H)) (he:∀cl l s H,PE (A7 X N scope cl l s H) o (te cl l s H))
  (R:swapsWith (.ListComp o [⟨b,c,j,0⟩] scope r) (some (.Name y E)) p.line X.env=pure true:=by rfl)
  (hs:∀x,foldedSetIterable c X.env x=pure x:=by intro _;rfl):PS X (.Assign [.Name y E] (.ListComp o [⟨b,c,j,0⟩] scope r) p) (si (Mf cap wi g tc te) (kA i)):=by
 refine .of ?_
 intro pins s σ H D I h
 have cf:=O6 hN hS G
 rw[Tk _ _ _ _ R]
 refine dL (Ra (dL ?_))
 show wpAny _ X.A (do let _ <-comprehension (.ListComp o [⟨b,c,j,0⟩] scope r) scope X.env _ (newList []) false (eval c X.env) (some (assign (.Name y E) X.env))) _ _ s
 refine dL (NE (Ry (use:=some (assign (.Name y E) X.env)) (Q:=fun _ B=>SP X pins D .next B) rfl hs (R8 (I.R9 cf)) hk cf.loc (y3 (hi pins s σ H _ I h) fun v s1 h1=>y3 h1 fun a0 s2 h2=>?_))
  (fun _ B hq=>hH (hH hq)) fun _ _ e=>e)
 obtain⟨it,l,tn,J,H2,rfl,I2,T,M,f2,q⟩:=h2
 refine lz (RR:=fun acc C=>compPost (model X.prog X.w) X.A X.xe (some (assign (.Name y E) X.env)) (fun _ B=>SP X pins D .next B) acc C) u cf hk hg hc he I2 T M f2 q fun d C H' B m I' hn Y q'=>?_
 show wpAny _ _ (assign (.Name y E) X.env (.ref d)) _ _ B
 refine SS (br (v:=.ref d) I' U S (.inl hy) rfl (fun s2 I2 ⟨a,sb,ha⟩=>⟨m,hn.sameBut sb ?_,fun h' O=>⟨_,H',I2.qW Y O,q'⟩⟩) (.inr hy))
 rcases ha with z | z
 ·rw[z];exact Y.2.1
 ·exact fun e=>Y.2.2.2.2.1 y a z e.symm
end L2
namespace L3
open PySem PySem.Spec L2
abbrev aH:=D->Ev->(Ev->Prop)->Prop
abbrev sJ:=List D->Ev->(Ev->Prop)->Prop
structure yj(X:Cx)(cl:List Cl)(tg:Expr)(g:aH):Prop where
 of ::
 run:∃t,PG X tg t/\∀(G:Ent) (ρ:Ev) (σ:St) (H:Hp) (fa:UN) (v:V) (d:D) (B:UD) (Q:Ev->Prop) (R:St->Hp->Prop),G.cl=cl->E3 X.K G ρ σ H fa->Rep X.K H v d B->(∀i,G.own i->∀a∈B,a∉fa i)->g d ρ Q ->
  (∀σ' ρ' fa',E3 X.K G ρ' σ' H fa'->(∀i,G.own i->fa' i=fa i/\σ'[i]?=σ[i]?)->(∀i,G.own i->ρ'[i]?=ρ[i]?)->Q ρ'->R σ' H)->t v σ H R
structure FD(X:Cx)(cl:List Cl)(tgs:UG)(g:sJ):Prop where
 of ::
 run:∃t,Dx X tgs t/\∀(G:Ent) (ρ:Ev) (σ:St) (H:Hp) (fa:UN) (vs:List V) (ds:List D) (B:UD) (Q:Ev->Prop) (R:St->Hp->Prop),G.cl=cl->E3 X.K G ρ σ H fa->j7 X.K H vs ds B->(∀i,G.own i->∀a∈B,a∉fa i)->g ds ρ Q ->
  (∀σ' ρ' fa',E3 X.K G ρ' σ' H fa'->(∀i,G.own i->fa' i=fa i/\σ'[i]?=σ[i]?)->(∀i,G.own i->ρ'[i]?=ρ[i]?)->Q ρ'->R σ' H)->t vs σ H R
section
variable{X:Cx}{cl:List Cl}{tg e a b:Expr}{es:UG}{f:Fl}{pos pos':Pos}{ua ub:TU}{ma mb:TM}{x:Str}{i:Nat}
def g1(i:Nat):aH:=fun d c Q=>Nat.blt i c.length=true/\Q (c.set i (some d))
theorem uo(h:PG X (.Name x pos) (kA i))(l:cl[i]?=some .bor):yj X cl (.Name x pos) (g1 i):=.of<|by
 refine⟨_,h,fun G u σ H y v d B Q R p E r n q k=>?_⟩
 have g:G.cl[i]?=some .bor:=by rw[p];exact l
 have no:¬G.own i:=fun z=>by unfold Ent.own at z;rw[g] at z;cases z
 refine k _ _ _ (E.set (Ix q.1) r ⟨fun j _ c a o=>n j c a o,by rw[g];trivial⟩) (fun j c=>?_) (fun j c=>?_) q.2
 ·exact⟨wP fun e:j=i=>no (by rw[<-e];exact c),No fun e=>no (by rw[e];exact c)⟩
 ·exact No fun e=>no (by rw[e];exact c)
def cK:sJ:=fun ds c Q=>match ds with
 | []=>Q c
 | _=>False
def E7(g:aH)(gs:sJ):sJ:=fun ds h Q=>match ds with
 | d::ds=>g d h fun c=>gs ds c Q
 | _=>False
theorem mJ:FD X cl [] cK:=.of<|by
 refine⟨_,EF,fun G c σ H d vs ds B Q R g E r n q k=>?_⟩
 cases ds with
 | cons _ _=>exact(show False from q).elim
 | nil=>
  cases r
  exact⟨rfl,k σ c d E (fun _ _=>⟨rfl,rfl⟩) (fun _ _=>rfl) q⟩
theorem U6{g:aH}{gs:sJ}(z:yj X cl e g)(y:FD X cl es gs)(hs:(assignEach (e::es) X.env).map (·.2)=assign e X.env::(assignEach es X.env).map (·.2):=by rfl):FD X cl (e::es) (E7 g gs):=.of<|by
 obtain⟨t1,p1,z⟩:=z.run
 obtain⟨t2,Y,y⟩:=y.run
 refine⟨_,Di p1 Y hs,fun G M σ H fa vs ds B Q R J E r n q k=>?_⟩
 cases ds with
 | nil=>exact(show False from q).elim
 | cons d ds=>
  cases r with
  | cons S O=>
   refine⟨_,_,rfl,z G M σ H fa _ d _ _ _ J E S (fun i c a v=>n i c a (FM _ v)) q fun j o I E' k1 u U=>?_⟩
   exact y G o j H I _ ds _ Q R J E' O (fun i c a v=>by rw[(k1 i c).1];exact n i c a (wT _ v)) U fun h l C E2 k2 p T=>k h l C E2 (fun i c=>⟨(k2 i c).1.trans (k1 i c).1,(k2 i c).2.trans (k1 i c).2⟩) (fun i c=>(p i c).trans (u i c)) T
def gT(gs:sJ):aH:=fun d c Q=>match d with
 | .tup ds=>gs ds c Q
 | _=>False
theorem Dx.len{X:Cx}{c:UG}{t:ES}(h:Dx X c t):True:=trivial
theorem vg{gs:sJ}{k n:Nat}(h:FD X cl es gs)(o:∀ds c Q,gs ds c Q->ds.length=n)(mk:∀{t},Dx X es t->PG X (.Tuple es k pos) (Mg X.K n t)):yj X cl (.Tuple es k pos) (gT gs):=.of<|by
 obtain⟨t,p,h⟩:=h.run
 refine⟨_,mk p,fun G c σ H z v d B Q R y E r j q l=>?_⟩
 cases d<;>first | exact(show False from q).elim | skip
 rename_i ds
 have q:gs ds c Q:=q
 obtain⟨a,vs,rfl,u,g⟩:=M4 r
 exact⟨a,vs,rfl,Q0.of u,by rw[g.length];exact o ds c Q q,h G c σ H z vs ds B Q R y E g j q l⟩
structure NT(g:aH)(body:i9)(xs:List D)(T:W7)(ρ:Ev):Prop where
 of ::
 ex:∃W:Nat->Ev->Prop,W 0 ρ/\(∀i d ρ,xs[i]?=some d->W i ρ->g d ρ fun ρ1=>body { nx:=W (i+1),rt:=T.rt,bk:=T.nx,ct:=W (i+1) } ρ1)/\∀ρ,W xs.length ρ->T.nx ρ
def Y0(h:Iq)(g:aH)(body:i9):i9:=fun T d=>h d fun xs c=>NT g body xs T c
def frozen(G:Ent)(H:Hp)(C:UD):Ent:={ G with Z:=fun a=>G.Z a\/a∈C\/(H a≠none/\¬fY (H a)),Hz:=H }
theorem E3.freeze{K:UP}{G:Ent}{g:Ev}{σ:St}{H:Hp}{d:UN}{C:UD}(E:E3 K G g σ H d)(l:∀a∈C,H a≠none)(j:∀i,G.own i->∀a∈C,a∉d i):E3 K (frozen G H C) g σ H d:=
 ⟨E.rep,E.emp,E.len,E.nd,E.dj,E.par,E.old,E.new,E.frm,E.stb,fun a _=>rfl,fun a z=>by
  rcases z with z | z | z
  ·show H a≠none
   rw[E.zk a z];exact E.zn a z
  ·exact l a z
  ·exact z.1,fun i h a c z=>by
  rcases z with z | z | z
  ·exact E.zo i h a c z
  ·exact j i h a z c
  ·exact z.2 (E.ah i a c),⟨E.po.one,E.po.lk⟩⟩
theorem E3.JF{K:UP}{G:Ent}{d h:Ev}{c σ:St}{l H:Hp}{g j:UN}{C:UD}(E0:E3 K G d c l g)(E:E3 K (frozen G l C) h σ H j):E3 K G h σ H j:=
 ⟨E.rep,E.emp,E.len,E.nd,E.dj,E.par,E.old,E.new,E.frm,E.stb,fun a z=>(E.zk a (.inl z)).trans (E0.zk a z),E0.zn,fun i o a p z=>E.zo i o a p (.inl z),⟨E.po.one,E.po.lk⟩⟩
theorem M1{l:Expr}{body:UL}{ui:Iq}{g:aH}{sb:i9}(hi:NH X cl tg l ui)(hg:yj X cl tg g)(hb:jY X cl body sb)
  (mk:∀{wi g tb},PI X tg l wi->PG X tg g->pN X body tb->PS X (.For tg l body [] pos) (Nn wi g tb)):L7 X cl (.For tg l body [] pos) (Y0 ui g sb):=.of<|by
 obtain⟨wi,pi,hi⟩:=hi.run
 obtain⟨ac,pg,hg⟩:=hg.run
 obtain⟨tb,pb,hb⟩:=hb.run
 refine⟨_,mk pi pg pb,fun G T ρ σ H fa R hG E hu le=>hi G ρ σ H fa _ _ hG E hu fun J O xs C a5 a8 E1 c1 it tr ap q=>?_⟩
 have F1:=E1.freeze tr ap
 obtain⟨W,w0,step,done⟩:=q.ex
 refine⟨fun i m r Q=>m=xs.length-i/\i<=xs.length/\∃c p,E3 X.K (frozen G O C) c r Q p/\W i c,⟨xs.length,by simp,KM _,a5,a8,F1,w0⟩,?_⟩
 rintro i m r Q ⟨rfl,ad,c,p,S,q'⟩
 have tf:Tf O Q:=⟨fun b ys h=>by
   rw[S.zk b (.inr (.inr ⟨(by rw[h];intro z;cases z),(by rw[h];exact fun z=>z)⟩))];exact h,fun b o u h=>by
   rw[S.zk b (.inr (.inr ⟨(by rw[h];intro z;cases z),(by rw[h];exact fun z=>z)⟩))];exact h⟩
 have kC:∀a∈C,Q a=O a:=fun a ha=>S.zk a (.inr (.inl ha))
 by_cases U:i<xs.length
 ·right
  have ex:xs[i]?=some xs[i]:=iU U
  obtain⟨go,yl⟩:=(it Q tf kC i).2 _ ex
  refine⟨go,Cy X.K (frozen G O C) (W (i+1)),fun ab Y hn=>?_,fun y Y hy=>?_⟩
  ·obtain⟨a4,a7,E2,q2⟩:=hn
   exact⟨xs.length-(i+1),by omega,rfl,U,a4,a7,E2,q2⟩
  ·obtain⟨s2,B,rB,sB⟩:=yl y Y hy
   refine hg (frozen G O C) c r Y p y _ B _ _ hG (S.same s2) rB (fun j hj a ha z=>S.zo j hj a z (.inr (.inl (sB.mem ha)))) (step i _ c ex q') fun a2 a3 a6 a9 _ _ q3=>?_
   refine hb (frozen G O C) _ a3 a2 Y a6 _ hG a9 q3 ⟨fun _ _ h=>h,fun v H3 h=>?_,fun a1 H4 h=>?_,fun _ _ h=>h⟩
   ·obtain⟨d,I,a0,M,B5,E5,r5,n5,m5,l5,q5⟩:=h
    exact le.rt v H3 ⟨d,I,a0,M,B5,E1.JF E5,r5,n5,m5,l5,q5⟩
   ·obtain⟨I,M,E5,q5⟩:=h
    exact le.nx a1 H4 ⟨I,M,E1.JF E5,q5⟩
 ·have ei:i=xs.length:=by omega
  subst ei
  left
  exact⟨(it Q tf kC _).1 rfl,le.nx _ _ ⟨c,p,E1.JF S,done c q'⟩⟩
def Aa(j:rE)(body:i9):i9:=fun T h=>∃W:Nat->Ev->Prop,(∃m,W m h)/\∀m h,W m h->j h fun b d=>Br b (body { nx:=fun c=>∃g,g<m/\W g c,rt:=T.rt,bk:=T.nx,ct:=fun c=>∃g,g<m/\W g c } d) (T.nx d)
theorem Fu{c:Expr}{body:UL}{M:rE}{J:i9}(hp:PassesOwn (model X.prog X.w) X.A X.env X.xe)(v:Lc X cl c M)(y:jY X cl body J):L7 X cl (.While c body [] pos) (Aa M J):=.of<|by
 obtain⟨tc,pc,v⟩:=v.run
 obtain⟨tb,pb,y⟩:=y.run
 refine⟨_,An hp pc pb,fun G T U σ H fa R O E hu le=>?_⟩
 obtain⟨W,⟨m0,w0⟩,step⟩:=hu
 refine⟨fun m r H'=>∃l C,E3 X.K G l r H' C/\W m l,⟨m0,U,fa,E,w0⟩,?_⟩
 rintro m g H1 ⟨j,B,E1,w1⟩
 refine v G j g H1 B _ _ O E1 (step m j w1) fun b H2 d o Q c2 q=>?_
 cases b with
 | true=>
  rw[wS rfl]
  refine⟨Cy X.K G (fun d=>∃p,p<m/\W p d),fun S H3 h=>?_,y G _ d g H2 o _ O Q (q.t rfl) ⟨fun _ _ h=>h,le.rt,le.nx,fun _ _ h=>h⟩⟩
  obtain⟨u,z,I,p,hm,Y⟩:=h
  exact⟨p,hm,u,z,I,Y⟩
 | false=>rw[wP tL];exact le.nx _ _ ⟨d,o,Q,q.f rfl⟩
def T7(cap:UA)(c:Ev):Ev:=cap.map fun o=>match o with
 | some j=>(c[j]?).join
 | none=>none
def C1(cap:UA):List Cl:=cap.map fun _=>.bor
theorem iF{cap:UA}{σ:St}{p j:Nat}{v:V}(h:cap[p]?=some (some j))(e:σ[j]?=some (some v)):(L5 cap σ)[p]?=some (some v):=by
 unfold L5
 rw[wE,h]
 show some ((σ[j]?).join)=_
 rw[e];rfl
theorem oC{cap:UA}{c:Ev}{p:Nat}{d:D}(h:(T7 cap c)[p]?=some (some d)):∃j,cap[p]?=some (some j)/\c[j]?=some (some d):=by
 unfold T7 at h
 rw[wE] at h
 cases e:cap[p]? with
 | none=>rw[e] at h;cases h
 | some o=>
  rw[e] at h
  cases o with
  | none=>cases h
  | some j=>
   have h:some ((c[j]?).join)=some (some d):=h
   cases g:c[j]? with
   | none=>rw[g] at h;cases h
   | some o=>rw[g] at h;cases h;exact⟨j,rfl,g⟩
def dw(cap:UA)(c:Ev)(d:UN)(p:Nat):UD:=match (T7 cap c)[p]? with
 | some (some _)=>match cap[p]? with
  | some (some j)=>d j
  | _=>[]
 | _=>[]
def X9(cap:UA):Ent:=⟨fun _=>none,fun _=>[],[],C1 cap,fun _=>False,fun _=>none⟩
theorem D7{cap:UA}{i:Nat}(h:(X9 cap).own i):False:=by
 have h:(C1 cap)[i]?=some .own:=h
 unfold C1 at h
 rw[wE] at h
 cases e:cap[i]? with
 | none=>rw[e] at h;cases h
 | some o=>rw[e] at h;cases h
theorem oq{cap:UA}{i:Nat}(h:(X9 cap).cl[i]?=some .loc):False:=by
 have h:(C1 cap)[i]?=some .loc:=h
 unfold C1 at h
 rw[wE] at h
 cases e:cap[i]? with
 | none=>rw[e] at h;cases h
 | some o=>rw[e] at h;cases h
theorem Fe{cap:UA}{i:Nat}{c:Hp}(h:(X9 cap).cl[i]?=some (.mk c)):False:=by
 have h:(C1 cap)[i]?=some (.mk c):=h
 unfold C1 at h
 rw[wE] at h
 cases e:cap[i]? with
 | none=>rw[e] at h;cases h
 | some o=>rw[e] at h;cases h
theorem E3.comp{K:UP}{G:Ent}{c:Ev}{σ:St}{H:Hp}{g:UN}(cap:UA)(E:E3 K G c σ H g):E3 K (X9 cap) (T7 cap c) (L5 cap σ) H (dw cap c g):=by
 refine⟨fun i d e=>?_,fun i e=>?_,by unfold T7 L5;simp,fun i h=>h.elim (fun z=>(D7 z).elim) fun z=>(oq z).elim,fun i j _ h=>(D7 h).elim,fun i _ h=>(D7 h).elim,fun i _ h=>(D7 h).elim,fun i h=>h.elim (fun z=>(oq z).elim) fun z=>(D7 z.1).elim,
  fun a o h=>(nomatch h),⟨fun b xs h=>(nomatch h),fun b o u h=>(nomatch h),fun _ _=>rfl⟩,fun a z=>z.elim,fun a z=>z.elim,fun i h=>(D7 h).elim,⟨fun i _ h=>(D7 h).elim,fun j y h=>(Fe h).elim⟩⟩
 ·obtain⟨j,l,q⟩:=oC e
  obtain⟨v,p,r⟩:=E.rep j d q
  refine⟨v,iF l p,?_⟩
  unfold dw
  rw[e,l]
  exact r
 ·unfold dw
  split
  ·rename_i d h
   exact absurd h (e d)
  ·rfl
def mV(g:aH)(tc:ar)(te:TU)(c:Ev):List D->List D->(List D->Prop)->Prop
 | [],acc,Q=>Q acc
 | x::xs,acc,Q=>g x c fun h=>tc h fun b=>Br b (te h fun d=>mV g tc te c xs (acc++[d]) Q) (mV g tc te c xs acc Q)
def kU(cap:UA)(d:lG)(g:aH)(tc:ar)(te:TU):TU:=fun c Q=>d c fun xs=>xs.length<sizeLine/\mV g tc te (T7 cap c) xs [] fun ds=>Q (.lst ds)
structure qU(X:Cx)(cl:List Cl)(es:UG)(u:ar):Prop where
 of ::
 run:∃t,uY X es t/\∀(G:Ent) (ρ:Ev) (σ:St) (H:Hp) (fa:UN) (Q:Bool->Prop) (R:Bool->Hp->Prop),G.cl=cl->E3 X.K G ρ σ H fa->u ρ Q ->
  (∀b H',g4 H H'->Q b->R b H')->t σ H R
def T6:ar:=fun _ Q=>Q true
theorem G1:qU X cl [] T6:=.of ⟨_,wx,fun G d σ H g Q R _ E c k=>k true H (g4.refl H) c⟩
theorem ay{tc:ar}(h:U3 X cl e tc):qU X cl [e] tc:=.of<|let ⟨t,p,h⟩:=h.run;⟨t,Eu p,h⟩
theorem Pf{K:UP}{cap:UA}{g3:aH}{a5:ar}{a4:TU}{J:It}{g:TG}{tc:TT}{te:TE}{xs:List D}{C:UD}{r:Ev}{σ:St}{G:Ent}{I:Hp}{M:UN}{Q:List D->Prop}{R:VK}
  (hg:∀(G:Ent) (r:Ev) (σ:St) (H:Hp) (M:UN) (v:V) (d:D) (B:UD) (Q:Ev->Prop) (R:St->Hp->Prop),G.cl=C1 cap->E3 K G r σ H M->Rep K H v d B->(∀i,G.own i->∀a∈B,a∉M i)->g3 d r Q ->
   (∀a2 a3 a9,E3 K G a3 a2 H a9->(∀i,G.own i->a9 i=M i/\a2[i]?=σ[i]?)->(∀i,G.own i->a3[i]?=r[i]?)->Q a3->R a2 H)->g v σ H R)
  (hc:∀(G:Ent) (r:Ev) (σ:St) (H:Hp) (M:UN) (Q:Bool->Prop) (R:Bool->Hp->Prop),G.cl=C1 cap->E3 K G r σ H M->a5 r Q->(∀b O,g4 H O->Q b->R b O)->tc σ H R)
  (he:∀(G:Ent) (r:Ev) (σ:St) (H:Hp) (M:UN) (Q:D->Prop) (R:VK),G.cl=C1 cap->E3 K G r σ H M->a4 r Q->(∀v O d B,g4 H O->Rep K O v d B->B0 G H M B .fresh->Q d->R v O)->te σ H R)
  (E:E3 K G r σ I M) (it:bu K J xs C I) (tr:∀a∈C,I a≠none) (hn:xs.length<sizeLine) (q:mV g3 a5 a4 (T7 cap r) xs [] Q)
  (k:∀d O ds B,g4 I O->Rep K O (.ref d) (.lst ds) B->B.Nodup->(∀a∈B,I a=none)->Q ds->R (.ref d) O):NC J g tc te (L5 cap σ) R I:=by
 intro d hd
 refine⟨fun i m H=>m=xs.length-i/\i<=xs.length/\g4 I H/\∃acc ds B,H d=some (.lst acc)/\acc.length<=i/\j7 K H acc ds B/\B.Nodup/\d∉B/\(∀a∈B,I a=none)/\mV g3 a5 a4 (T7 cap r) (xs.drop i) ds Q,
  ⟨xs.length,by simp,KM _,g4.i4 hd,[],[],[],e9,sK _,.nil,xL,(by simp),(fun a p=>by cases p),q⟩,?_⟩
 rintro i m H ⟨rfl,al,Y,acc,ds,B,a1,am,rs,nB,dB,hB,q⟩
 have tf:Tf I H:=⟨fun b ys h=>Y _ _ h,fun b o u h=>Y _ _ h⟩
 have kC:∀a∈C,H a=I a:=fun a p=>by
  obtain⟨o,eo⟩:=Option.ne_none_iff_exists'.mp (tr a p)
  rw[eo];exact Y a o eo
 by_cases S:i<xs.length
 ·right
  obtain⟨go,yl⟩:=(it H tf kC i).2 _ (iU S)
  rw[QK S] at q
  refine⟨go,fun y H2 hy=>?_⟩
  obtain⟨U,By,rB,sB⟩:=yl y H2 hy
  have E2:=(E.same (Y.trans U)).comp cap
  refine hg (X9 cap) _ _ H2 _ y _ By _ _ rfl E2 rB (fun j hj=>(D7 hj).elim) q fun a6 a7 a8 ab _ _ q3=>?_
  refine hc (X9 cap) a7 a6 H2 a8 _ _ rfl ab q3 fun b H3 T q4=>?_
  have c:H3 d=some (.lst acc):=T _ _ (U _ _ a1)
  cases b with
  | false=>
   rw[wP tL]
   exact⟨xs.length-(i+1),by omega,rfl,S,(Y.trans U).trans T,acc,ds,B,c,by omega,(rs.same U).same T,nB,dB,hB,q4.f rfl⟩
  | true=>
   rw[wS rfl]
   refine he (X9 cap) a7 a6 H3 a8 _ _ rfl (ab.same T) (q4.t rfl) fun v H4 dv Bv s4 rv fo q5=>?_
   have l:H4 d=some (.lst acc):=s4 _ _ c
   have ac:g4 I H4:=((Y.trans U).trans T).trans s4
   have a0:d∉Bv:=fun z=>by rw[fo.2 d z] at c;cases c
   have st:V4 H4 (upd H4 d (.lst (acc++[v]))):=⟨fun b ys h=>by
     by_cases e:b=d
     ·subst e;rw[l] at h;cases h
     ·rw[i3 e];exact h,fun b u w' h=>by
     by_cases e:b=d
     ·subst e;rw[l] at h;cases h
     ·rw[i3 e];exact h,fun b h=>by
     by_cases e:b=d
     ·subst e;rw[e9] at h;cases h
     ·rw[i3 e] at h;exact h⟩
   have ad:=((rs.same U).same T).same s4
   refine⟨acc,l,by omega,xs.length-(i+1),by omega,rfl,S,fun b o e=>?_,acc++[v],ds++[dv],B++(Bv++[]),e9,by rw[C2,QB];omega,?_,?_,?_,fun a p=>?_,q5⟩
   ·rw[i3 (p8 e hd)]
    exact ac _ _ e
   ·exact(ad.mono st fun a p=>i3 fun e=>dB (e▸p)).append (.cons (rv.mono st fun a p=>i3 fun e=>a0 (e▸p)) .nil)
   ·rw[Do]
    refine List.nodup_append.mpr ⟨nB,fo.1,fun a p b hb e=>?_⟩
    subst e
    exact((rs.same U).same T).there a p (fo.2 a hb)
   ·rw[Do]
    exact fun z=>(List.mem_append.mp z).elim dB a0
   ·rw[Do] at p
    rcases List.mem_append.mp p with z | z
    ·exact hB a z
    ·exact((Y.trans U).trans T).free (fo.2 a z)
 ·have ei:i=xs.length:=by omega
  subst ei
  left
  rw[RP] at q
  refine⟨(it H tf kC _).1 rfl,k d H ds (d::B) Y (.lst a1 rs) (List.nodup_cons.mpr ⟨dB,nB⟩) (fun a p=>?_) q⟩
  rcases List.mem_cons.mp p with z | z
  ·rw[z];exact hd
  ·exact hB a z
section
variable{XN N:UE}{XS scope:Scope}{cap:UA}{elt target iter:Expr}{ifs:UG}{ui:lG}{g3:aH}{tc3:ar}{te3:TU}
theorem V9(l:X0 XN N XS scope cap=true)(hN:X.N=XN)(hS:X.env.scope=XS)(Y:scope.kind=.function)(j:X.calm=true)(p:bU X cl target iter f ui)
  (u:∀c h s H,yj (A7 X N scope c h s H) (C1 cap) target g3) (y:∀c h s H,qU (A7 X N scope c h s H) (C1 cap) ifs tc3) (v:∀c h s H,PU (A7 X N scope c h s H) (C1 cap) elt .fresh te3)
  (U:∀x,foldedSetIterable iter X.env x=pure x:=by intro _;rfl):PU X cl (.ListComp elt [⟨target,iter,ifs,0⟩] scope pos) .fresh (kU cap ui g3 tc3 te3):=.of<|by
 obtain⟨wi,S,p⟩:=p.run
 refine⟨_,Je (g:=fun c h s H=>Classical.choose (u c h s H).run) (tc:=fun c h s H=>Classical.choose (y c h s H).run) (te:=fun c h s H=>Classical.choose (v c h s H).run) l hN hS Y j S
  (fun c h s H=>(oT (u c h s H).run).1) (fun c h s H=>(oT (y c h s H).run).1) (fun c h s H=>(oT (v c h s H).run).1) U,fun G I σ H fa Q R hG E T k=>?_⟩
 refine p G I σ H fa _ _ hG E T fun J H1 xs C s it tr fo q=>fun c h o z=>?_
 refine Pf (K:=X.K) (oT (u c h o z).run).2 (oT (y c h o z).run).2 (oT (v c h o z).run).2 (E.same s) it tr q.1 q.2 fun d H2 ds B M r n1 n2 O=>?_
 exact k _ H2 _ B (s.trans M) r ⟨n1,fun a ha=>s.free (n2 a ha)⟩ O
theorem cV{i:Nat}{y:Str}{j py:Pos}(S:X.N.Nodup)(v:X.N[i]?=some y)(hy:X.env.scope.names.lookup y=some .local)(O:xB cl[i]? .fresh i=true)
  (o:X0 XN N XS scope cap=true) (hN:X.N=XN) (hS:X.env.scope=XS) (hk:scope.kind=.function) (l:X.calm=true) (z:bU X cl target iter f ui)
  (I:∀c h s H,yj (A7 X N scope c h s H) (C1 cap) target g3) (Q:∀c h s H,qU (A7 X N scope c h s H) (C1 cap) ifs tc3) (M:∀c h s H,PU (A7 X N scope c h s H) (C1 cap) elt .fresh te3)
  (u:swapsWith (.ListComp elt [⟨target,iter,ifs,0⟩] scope pos) (some (.Name y py)) j.line X.env=pure true:=by rfl)
  (hs:∀x,foldedSetIterable iter X.env x=pure x:=by intro _;rfl):L7 X cl (.Assign [.Name y py] (.ListComp elt [⟨target,iter,ifs,0⟩] scope pos) j) (u4 i (kU cap ui g3 tc3 te3)):=.of<|by
 obtain⟨wi,pi,z⟩:=z.run
 refine⟨_,kb (g:=fun c h s H=>Classical.choose (I c h s H).run) (tc:=fun c h s H=>Classical.choose (Q c h s H).run) (te:=fun c h s H=>Classical.choose (M c h s H).run) S v hy o hN hS hk l pi
  (fun c h s H=>(oT (I c h s H).run).1) (fun c h s H=>(oT (Q c h s H).run).1) (fun c h s H=>(oT (M c h s H).run).1) u hs,fun G T ρ σ H fa R hG E hu le=>?_⟩
 refine z G ρ σ H fa _ _ hG E hu fun J H1 xs C s it tr fo q=>fun c h p U=>?_
 refine Pf (K:=X.K) (oT (I c h p U).run).2 (oT (Q c h p U).run).2 (oT (M c h p U).run).2 (E.same s) it tr q.1 q.2 fun d H2 ds B s2 r n1 n2 Y=>?_
 exact le.nx _ _ ⟨_,_,(E.same (s.trans s2)).set (Ix Y.1) r (fM.of (f:=.fresh) E ⟨n1,fun a ha=>s.free (n2 a ha)⟩ (by rw[hG];exact O)),Y.2⟩
end
end
end L3
namespace L2
open PySem PySem.Spec PyProof.Rows
section
variable{X:Cx}
theorem jb:∀{bs:UE} {a:UF},Vals (bs.map V.str) a->StrsAre a bs
 | [],_,r=>by cases r;exact .nil
 | b::bs,_,r=>by
  cases r with
  | cons h t=>obtain⟨u,rfl⟩:=h;exact .cons b u (jb t)
def rJoin(K:UP):V->List V->Hp->VK->Prop:=fun x vs H Q=>∃z p a,x=.str z/\vs=[.ref p]/\L1 K H p (a.map V.str)/\(a.map (·.length)).sum+a.length*z.length<=16777216/\Q (.str (Txt.join z a)) H
theorem Ey:PF X "str.join" (rJoin X.K):=by
 intro pins s σ H x xs v i Q I a b h
 obtain⟨z,p,g,rfl,rfl,d,e,q⟩:=h
 obtain⟨t,rfl⟩:=a
 obtain⟨u,rfl,c⟩:=vals1 b
 cases c
 obtain⟨its,rv,pl,hz⟩:=I.list d
 exact join_list pl.isList (by simpa using jb rv) e fun t' k=>⟨.str _,H,I.tok _,⟨_,rfl⟩,q⟩
theorem EY:O1 X (binaryOp .Mult) (fun x y H Q=>∃z n,x=.str z/\y=.int n/\MulOk z n/\Q (.str (Txt.mul z n)) H):=by
 intro pins s σ H x y v u Q I b a h
 obtain⟨z,n,rfl,rfl,c,q⟩:=h
 obtain⟨t,rfl⟩:=b
 obtain⟨t',rfl⟩:=a
 exact SB.mul c fun t' k=>⟨.str _,H,I.tok _,⟨_,rfl⟩,q⟩
end
end L2
namespace L3
open PySem PySem.Spec L2
section
variable{X:Cx}{cl:List Cl}{e a b:Expr}{es:UG}{f:Fl}{pos:Pos}{ua ub:TU}{ma mb:TM}{fa fb:Fl}
theorem j7.strs{K:UP}{H:Hp}:∀{bs:UE} {vs:List V} {A:UD},j7 K H vs (bs.map D.str) A->vs=bs.map V.str
 | [],_,_,r=>by cases r;rfl
 | b::bs,_,_,r=>by
  cases r with
  | cons h t=>rw[C8 h,t.strs];rfl
theorem Z4{K:UP}{H:Hp}{v:V}{d:D}{A:UD}{xs:List D}(r:Rep K H v d A)(e:kindB false d=some xs):∃p vs B,v=.ref p/\L1 K H p vs/\j7 K H vs xs B/\B.Sublist A:=by
 cases d<;>first | cases e | skip
 ·obtain⟨p,vs,C,rfl,g,c,rfl⟩:=J7 r
  exact⟨p,vs,C,rfl,L1.of g,c,RB _ _⟩
 ·obtain⟨p,vs,rfl,g,c⟩:=jd r
  exact⟨p,vs,A,rfl,g.sq,c,Sa _⟩
def tyName:D->Option String
 | .o8=>some "NoneType"
 | .bl _=>some "bool"
 | .int _=>some "int"
 | .str _=>some "str"
 | .lst _=>some "list"
 | .tup _=>some "tuple"
 | .dic _=>some "dict"
 | _=>none
def DS(a T:String):Bool:=a == T||(a =="bool" && T =="int")
def uj:List String:=["int","bool","str","list","tuple","dict"]
def JQ:List D->(D->Prop)->Prop:=fun ds Q=>∃d a T,ds=[d,.ty T]/\tyName d=some a/\uj.contains T=true/\Q (.bl (DS a T))
theorem Et (K:UP) {a T:String} (c:["NoneType","bool","int","str","list","tuple","dict"].contains a=true) (d:uj.contains T=true):PySem.W.kitOne K (.type a) (.type T)=some (DS a T):=by
 have h:a="NoneType" \/ a="bool" \/ a="int" \/ a="str" \/ a="list" \/ a="tuple" \/ a="dict":=by simpa using c
 have g:T="int" \/ T="bool" \/ T="str" \/ T="list" \/ T="tuple" \/ T="dict":=by simpa[uj] using d
 rcases h with rfl | rfl | rfl | rfl | rfl | rfl | rfl<;>rcases g with rfl | rfl | rfl | rfl | rfl | rfl<;>first | rfl | decide +kernel
theorem MF{K:UP}{H:Hp}{v:V}{d:D}{A:UD}{n:String}(r:Rep K H v d A)(e:tyName d=some n):cG K H v (.type n)/\["NoneType","bool","int","str","list","tuple","dict"].contains n=true:=by
 cases r<;>first | (cases e;done) | skip
 ·cases e;exact⟨.o8,rfl⟩
 ·cases e;exact⟨.bl _,rfl⟩
 ·cases e;exact⟨.int _,rfl⟩
 ·cases e;exact⟨.str _,rfl⟩
 ·cases e;rename_i h _;exact⟨.tup h,rfl⟩
 ·cases e;rename_i h _;exact⟨.lst h,rfl⟩
 ·cases e;rename_i h _;exact⟨.dK (.inr ⟨_,h⟩),rfl⟩
theorem Hn:Call3 X (fun xs H Q=>∃x c t cv b,xs=[x,c]/\Np c=some cv/\cG X.K H x t/\PySem.W.kitOne X.K t cv=some b/\Q (.bl b) H) JQ:=by
 intro H vs ds A Q R r q k
 obtain⟨d,n,T,rfl,e,o,q⟩:=q
 obtain⟨v,w,B,C,rfl,l,j,_⟩:=r.two
 cases j
 obtain⟨i,g⟩:=MF l e
 exact⟨_,_,_,_,_,rfl,rfl,i,Et X.K g o,k _ H _ _ (g4.refl H) .bl xL (fun _ h=>(by cases h)) q⟩
theorem HB{x:Str}{T:String}(h:PE X (.Name x pos) (tC (.ty T))):PU X cl (.Name x pos) .fresh (uC (.ty T)):=.of ⟨_,h,fun G d σ H fa Q R _ E c k=>k _ H _ _ (g4.refl H) .ty (B0.nil _) c⟩
def Ht:D->D->(D->Prop)->Prop:=fun d e Q=>∃(z:Str) (xs:List D) (c:UE),d=.str z/\kindB false e=some xs/\xs=c.map D.str/\(c.map (·.length)).sum+c.length*z.length<=16777216/\Q (.str (Txt.join z c))
theorem EV{H:Hp}{v w:V}{d e:D}{A B:UD}{Q:D->Prop}{R:VK}(i:Rep X.K H v d A)(h:Rep X.K H w e B)(q:Ht d e Q)(k:∀y,Q (.str y)->R (.str y) H):rJoin X.K v [w] H R:=by
 obtain⟨z,xs,c,rfl,o,rfl,l,q⟩:=q
 cases C8 i
 obtain⟨p,r,B,rfl,j,g,_⟩:=Z4 h o
 cases g.strs
 exact⟨z,p,c,rfl,rfl,j,l,k _ q⟩
def yZ(ua ub:TU):TU:=fun c Q=>ua c fun x=>isStrD x=true/\ub c fun y=>Ht x y Q
where isStrD:D->Bool
 | .str _=>true
 | _=>false
theorem xH{d:D}(h:yZ.isStrD d=true):∃z,d=.str z:=by
 cases d<;>first | exact⟨_,rfl⟩ | cases h
theorem GF {c:Pos} (j:PU X cl a fa ua) (i:PU X cl b fb ub) (h:isStar b=false) (mk:∀{o t},PE X a o->PA X [b] t->PE X (.Call (.Attribute a "join" c) [b] [] pos) (Og X.K "str" (rJoin X.K) o t)):PU X cl (.Call (.Attribute a "join" c) [b] [] pos) .fresh (yZ ua ub):=.of<|by
 obtain⟨ta,O,j⟩:=j.run
 obtain⟨Y,M,i⟩:=i.run
 refine⟨_,mk O (dJ M P4 h),fun G l σ H x Q R u E S k=>j G l σ H x _ _ u E S fun v U d A q r f1 g=>?_⟩
 obtain⟨hz,g⟩:=g
 obtain⟨z,rfl⟩:=xH hz
 cases C8 r
 refine⟨rfl,i G l σ U x _ _ u (E.same q) g fun w T e B p C f2 J=>?_⟩
 exact EV (r.same p) C J fun y I=>k _ T _ _ (q.trans p) .str (B0.nil _) I
def MA:D->D->(D->Prop)->Prop
 | .str z,.int n,Q=>MulOk z n/\Q (.str (Txt.mul z n))
 | _,_,_=>False
theorem HU:bH X (fun x y H Q=>∃z n,x=.str z/\y=.int n/\MulOk z n/\Q (.str (Txt.mul z n)) H) MA:=by
 intro H v w d e A B Q R g c q k
 cases d<;>cases e<;>first | exact q.elim | skip
 cases C8 g;cases x5 c
 exact⟨_,_,rfl,rfl,q.1,k _ H _ _ (g4.refl H) .str xL (fun _ h=>(by cases h)) q.2⟩
def OM:D->D->(D->Prop)->Prop
 | .lst xs,.lst c,Q=>y9 xs=true/\y9 c=true/\xs.length+c.length<=sizeLine/\Q (.lst (xs++c))
 | _,_,_=>False
theorem LA:bH X Jq OM:=by
 intro H v w d e A B Q R o j q k
 cases d<;>cases e<;>first | exact q.elim | skip
 obtain⟨r,vs,M,rfl,E,g,_⟩:=J7 o
 obtain⟨p,i,J,rfl,C,c,_⟩:=J7 j
 obtain⟨x,u,y,q⟩:=q
 have I:=g.D4 x
 have G:=c.D4 u
 subst I
 subst G
 refine⟨r,p,vs,i,rfl,rfl,E,C,by rw[g.length,c.length];exact y,fun l h=>k _ _ _ [l] (g4.i4 h) (.lst e9 ((g.same (g4.i4 h)).append (c.same (g4.i4 h)))) (by simp) (fun a z=>?_) q⟩
 have:a=l:=by simpa using z
 rw[this];exact h
def cutD(xs:List D)(lo c:Option Int):List D:=(xs.drop (HT.D5 xs.length 0 lo)).take (HT.D5 xs.length xs.length c-HT.D5 xs.length 0 lo)
abbrev Ms:=Ev->(Option Int->Prop)->Prop
structure NG(X:Cx)(cl:List Cl)(e:Option Expr)(u:Ms):Prop where
 of ::
 run:∃t,PO X e t/\∀(G:Ent) (ρ:Ev) (σ:St) (H:Hp) (fa:UN) (Q:Option Int->Prop) (R:Option Int->Hp->Prop),G.cl=cl->E3 X.K G ρ σ H fa->u ρ Q->(∀o H',g4 H H'->Q o->R o H')->t σ H R
def ql:Ms:=fun _ Q=>Q none
def pQ(u:TU):Ms:=fun c Q=>u c fun d=>match d with
 | .int i=>Q (some i)
 | _=>False
theorem fQ:NG X cl none ql:=.of ⟨_,DD,fun G d σ H fa Q R _ E c k=>k none H (g4.refl H) c⟩
theorem gr(h:PU X cl e f ua):NG X cl (some e) (pQ ua):=.of<|by
 obtain⟨t,p,h⟩:=h.run
 refine⟨_,EX p,fun G c σ H fa Q R i E g k=>h G c σ H fa _ _ i E g fun v j d B s r _ q=>?_⟩
 cases d<;>first | exact(show False from q).elim | skip
 cases x5 r
 exact⟨_,rfl,k _ j s q⟩
end
def O5:UA->Nat->List Cl
 | [],_=>[]
 | _::r,0=>.own::C1 r
 | _::r,p+1=>.bor::O5 r p
theorem mM{r:UA}{q:Nat}{c:Cl}(h:(C1 r)[q]?=some c):c=.bor:=by
 unfold C1 at h
 rw[wE] at h
 cases e:r[q]? with
 | none=>rw[e] at h;cases h
 | some o=>rw[e] at h;cases h;rfl
theorem aI:∀{cap:UA} {p q:Nat},(O5 cap p)[q]?=some .own->q=p
 | [],_,_,h=>by simp[O5] at h
 | _::r,0,0,_=>rfl
 | _::r,0,q+1,h=>by
  rw[O5,Pv] at h
  exact nomatch mM h
 | _::r,p+1,0,h=>by rw[O5] at h;cases h
 | _::r,p+1,q+1,h=>by
  rw[O5,Pv] at h
  rw[aI h]
theorem qk:∀{cap:UA} {p q:Nat},(O5 cap p)[q]?=some .loc->False
 | [],_,_,h=>by simp[O5] at h
 | _::r,0,0,h=>by rw[O5] at h;cases h
 | _::r,0,q+1,h=>by
  rw[O5,Pv] at h
  exact nomatch mM h
 | _::r,p+1,0,h=>by rw[O5] at h;cases h
 | _::r,p+1,q+1,h=>by
  rw[O5,Pv] at h
  exact qk h
theorem vQ:∀{cap:UA} {p q:Nat} {a:Hp},(O5 cap p)[q]?=some (.mk a)->False
 | [],_,_,_,h=>by simp[O5] at h
 | _::r,0,0,_,h=>by rw[O5] at h;cases h
 | _::r,0,q+1,_,h=>by
  rw[O5,Pv] at h
  exact nomatch mM h
 | _::r,p+1,0,_,h=>by rw[O5] at h;cases h
 | _::r,p+1,q+1,_,h=>by
  rw[O5,Pv] at h
  exact vQ h
def jN(cap:UA)(p:Nat):Ent:=⟨fun _=>none,fun _=>[],[],O5 cap p,fun _=>False,fun _=>none⟩
theorem E3.LU{K:UP}{G:Ent}{g:Ev}{σ:St}{H:Hp}{y:UN}{cap:UA}{p j:Nat}(E:E3 K G g σ H y)(own:G.own j)(I:cap[p]?=some (some j))(O:∀q,cap[q]?=some (some j)->q=p):E3 K (jN cap p) (T7 cap g) (L5 cap σ) H (dw cap g y):=by
 have Q:∀a∈dw cap g y p,a∈y j:=fun a c=>by
  unfold dw at c
  split at c
  ·rw[I] at c;exact c
  ·cases c
 refine⟨fun i d e=>?_,fun i e=>?_,by unfold T7 L5;simp,fun i h=>?_,fun i l n h a c=>?_,fun i h=>absurd h (RS _),fun i h=>absurd h (RS _),fun i h a _=>rfl,
  fun a o h=>(nomatch h),⟨fun b xs h=>(nomatch h),fun b o u h=>(nomatch h),fun _ _=>rfl⟩,fun a z=>z.elim,fun a z=>z.elim,fun i h a _ z=>z,⟨fun i h=>absurd h (RS _),fun j T h=>(vQ h).elim⟩⟩
 ·obtain⟨x,M,S⟩:=oC e
  obtain⟨v,R,r⟩:=E.rep x d S
  refine⟨v,iF M R,?_⟩
  unfold dw
  rw[e,M]
  exact r
 ·unfold dw
  split
  ·rename_i d h
   exact absurd h (e d)
  ·rfl
 ·rcases h with h | h
  ·have e:=aI h
   subst e
   unfold dw
   split
   ·rw[I];exact E.nd j (.inl own)
   ·exact xL
  ·exact(qk h).elim
 ·have e:=aI h
  subst e
  have C:=Q a c
  intro z
  unfold dw at z
  split at z
  ·split at z
   ·rename_i x B
    by_cases J:x=j
    ·subst J
     exact n (O l B).symm
    ·exact E.dj j x (QO J) own a C z
   ·cases z
  ·cases z
def jT(p j:Nat)(cap:UA)(g:aH)(tc:rE)(te:TM):List D->List D->Ev->(List D->Ev->Prop)->Prop
 | [],acc,c,Q=>Q acc c
 | x::xs,acc,c,Q=>g x (T7 cap c) fun h=>tc h fun b a=>Br b (te a fun d e=>d8 p e fun l=>jT p j cap g tc te xs (acc++[d]) (c.set j (some l)) Q) (d8 p a fun l=>jT p j cap g tc te xs acc (c.set j (some l)) Q)
structure Fv(p j:Nat)(cap:UA)(g:aH)(tc:rE)(te:TM)(xs:List D)(ρ:Ev)(Q:List D->Ev->Prop):Prop where
 of ::
 ex:∃W:Nat->List D->Ev->Prop,W 0 [] ρ/\(∀i x acc ρ,xs[i]?=some x->W i acc ρ->g x (T7 cap ρ) fun ρ1=>tc ρ1 fun b ρ2=>Br b (te ρ2 fun d ρ3=>d8 p ρ3 fun l=>W (i+1) (acc++[d]) (ρ.set j (some l))) (d8 p ρ2 fun l=>W (i+1) acc (ρ.set j (some l))))/\∀acc ρ,W xs.length acc ρ->Q acc ρ
theorem Fv.go{p j:Nat}{cap:UA}{g:aH}{tc:rE}{te:TM}{xs:List D}{a:Ev}{Q:List D->Ev->Prop}(h:jT p j cap g tc te xs [] a Q):Fv p j cap g tc te xs a Q:=.of ⟨fun i acc a=>jT p j cap g tc te (xs.drop i) acc a Q,h,fun i x acc a e w=>by
  obtain⟨b,rfl⟩:=List.getElem?_eq_some_iff.mp e
  have w:jT p j cap g tc te (xs.drop i) acc a Q:=w
  rw[QK b] at w
  exact w,fun acc a w=>by
  have w:jT p j cap g tc te (xs.drop xs.length) acc a Q:=w
  rw[RP] at w;exact w⟩
def Pc(p j:Nat)(cap:UA)(d:Iq)(g:aH)(tc:rE)(te:TM):TM:=fun c Q=>d c fun xs a=>xs.length<sizeLine/\d8 j a fun _=>Fv p j cap g tc te xs a fun ds b=>Q (.lst ds) b
theorem Bw{K:UP}{G:Ent}{J B:Ev}{σ x:St}{H M r:Hp}{g u:UN}{cap:UA}{p j:Nat}{l:D}(E:E3 K G J σ H g)(own:G.own j)(hp:cap[p]?=some (some j))(hj:∃d,J[j]?=some (some d))(s:g4 H M)
  (Ei:E3 K (jN cap p) B x r u) (cf:∀a o,M a=some o->a∉g j->r a=some o) (cs:V4 M r) (cn:∀a∈u p,a∈g j\/M a=none) (Q:(jN cap p).own p) (O:x[p]?=(L5 cap σ)[p]?) (el:B[p]?=some (some l)) :
  E3 K G (J.set j (some l)) σ r (fun q=>if q=j then u p else g q)/\Q2 K G H g r (fun q=>if q=j then u p else g q):=by
 obtain⟨d0,Y⟩:=hj
 obtain⟨v,T,_⟩:=E.rep j d0 Y
 have S:j<J.length:=(List.getElem?_eq_some_iff.mp Y).1
 have new:∀a∈u p,a∈g j\/H a=none:=fun a b=>(cn a b).imp id fun y=>s.free y
 have keep:∀a o,H a=some o->a∉g j->r a=some o:=fun a o h n=>cf a o (s a o h) n
 have stb:V4 H r:=(V4.of s).trans cs
 have ch:Q2 K G H g r (fun q=>if q=j then u p else g q):=by
  refine⟨fun a o h n=>keep a o h (n j own),stb,fun i c a b=>?_,fun i c=>wP fun e:i=j=>c (by rw[e];exact own)⟩
  by_cases q:i=j
  ·subst q;rw[wS rfl] at b;exact new a b
  ·rw[wP q] at b;exact .inl b
 refine⟨E.step ch (by simp) (fun i c=>No fun e=>c (by rw[<-e];exact own)) (fun i d' c e=>?_) (fun i c e=>?_) (fun i c=>?_) fun i I n c a0 a b z=>?_,ch⟩
 ·by_cases q:i=j
  ·subst q
   rw[IN S] at e
   cases e
   obtain⟨v',X,r1⟩:=Ei.rep p l el
   rw[O,iF hp T] at X
   cases X
   exact⟨v,T,by rw[wS rfl];exact r1⟩
  ·rw[No (QO q)] at e
   obtain⟨w,e2,R⟩:=E.rep i d' e
   refine⟨w,e2,?_⟩
   rw[wP q]
   refine R.mono stb fun a b=>?_
   obtain⟨o,U⟩:=fY.some (R.ah a b)
   rw[U]
   exact keep a o U fun z=>E.dj i j q c a b z
 ·by_cases q:i=j
  ·subst q
   exact absurd (IN S) (e l)
  ·rw[wP q]
   exact E.emp i fun d z=>e d (by rw[No (QO q)];exact z)
 ·by_cases q:i=j
  ·rw[wS q];exact Ei.nd p (.inl Q)
  ·rw[wP q];exact E.nd i (.inl c)
 ·by_cases q:i=j
  ·rw[wS q] at b
   have C:I≠j:=fun e=>n (q.trans e.symm)
   rw[wP C] at z
   rcases new a b with y | y
   ·exact E.dj j I (QO C) own a y z
   ·exact E.there I z y
  ·rw[wP q] at b
   by_cases C:I=j
   ·rw[wS C] at z
    rcases new a z with y | y
    ·exact E.dj i j q c a b y
    ·exact E.there i b y
   ·rw[wP C] at z
    exact E.dj i I n c a b z
theorem Qi{K:UP}{cap:UA}{p j:Nat}{g3:aH}{an:rE}{am:TM}{J:It}{g:TG}{tc:TT}{te:TE}{xs:List D}{C:UD}{S:Ev}{σ:St}{G:Ent}{U:Hp}{O:UN}{Q:List D->Ev->Prop}{R:VK}
  (own:G.own j) (hp:cap[p]?=some (some j)) (hq:∀q,cap[q]?=some (some j)->q=p) (a2:(jN cap p).own p) (b7:∃d,S[j]?=some (some d))
  (hg:∀(G:Ent) (S:Ev) (σ:St) (H:Hp) (O:UN) (v:V) (d:D) (B:UD) (Q:Ev->Prop) (R:St->Hp->Prop),G.cl=O5 cap p->E3 K G S σ H O->Rep K H v d B->(∀i,G.own i->∀a∈B,a∉O i)->g3 d S Q ->
   (∀ab r c,E3 K G r ab H c->(∀i,G.own i->c i=O i/\ab[i]?=σ[i]?)->(∀i,G.own i->r[i]?=S[i]?)->Q r->R ab H)->g v σ H R)
  (hc:∀(G:Ent) (S:Ev) (σ:St) (H:Hp) (O:UN) (Q:Bool->Ev->Prop) (R:Bool->Hp->Prop),G.cl=O5 cap p->E3 K G S σ H O->an S Q->(∀b X r c,E3 K G r σ X c->Q2 K G H O X c->Q b r->R b X)->tc σ H R)
  (he:∀(G:Ent) (S:Ev) (σ:St) (H:Hp) (O:UN) (Q:D->Ev->Prop) (R:VK),G.cl=O5 cap p->E3 K G S σ H O->am S Q->(∀v X d B r c,E3 K G r σ X c->Q2 K G H O X c->Rep K X v d B->B.Nodup->(∀a∈B,H a=none/\∀i,a∉c i)->Q d r->R v X)->te σ H R)
  (E:E3 K G S σ U O) (it:bu K J xs C U) (tr:∀a∈C,U a≠none) (ap:∀i,G.own i->∀a∈C,a∉O i) (hn:xs.length<sizeLine) (q:Fv p j cap g3 an am xs S Q)
  (k:∀d X ds B r c,E3 K G r σ X c->Q2 K G U O X c->Rep K X (.ref d) (.lst ds) B->B.Nodup->(∀a∈B,U a=none/\∀i,a∉c i)->Q ds r->R (.ref d) X):NC J g tc te (L5 cap σ) R U:=by
 intro d hd
 obtain⟨W,w0,step,done⟩:=q.ex
 have E1:E3 K G S σ (upd U d (.lst [])) O:=E.same (g4.i4 hd)
 refine⟨fun i m H=>m=xs.length-i/\i<=xs.length/\∃r c acc ds B,E3 K G r σ H c/\Q2 K G U O H c/\(∃d,r[j]?=some (some d))/\H d=some (.lst acc)/\(∀q,d∉c q)/\acc.length<=i/\j7 K H acc ds B/\B.Nodup/\d∉B/\(∀a∈B,U a=none/\∀q,a∉c q)/\W i ds r,
  ⟨xs.length,by simp,KM _,S,O,[],[],[],E1,Q2.same (g4.i4 hd),b7,e9,fun q z=>E.there q z hd,sK _,.nil,xL,(by simp),(fun a x=>by cases x),w0⟩,?_⟩
 rintro i m H ⟨rfl,c6,r,c,acc,ds,B,E',c',b8,M,a0,c7,rs,nB,dB,hB,q⟩
 have tf:Tf U H:=c'.stb.tf
 have kC:∀a∈C,H a=U a:=fun a x=>by
  obtain⟨o,eo⟩:=Option.ne_none_iff_exists'.mp (tr a x)
  rw[eo];exact c'.frm a o eo fun i hi=>ap i hi a x
 by_cases a3:i<xs.length
 ·right
  obtain⟨go,yl⟩:=(it H tf kC i).2 _ (iU a3)
  refine⟨go,fun y H2 hy=>?_⟩
  obtain⟨s2,By,rB,sB⟩:=yl y H2 hy
  have E2:=(E'.same s2).LU (cap:=cap) (p:=p) own hp hq
  have a7:∀a∈dw cap r c p,a∈c j:=fun a x=>by
   unfold dw at x
   split at x
   ·rw[hp] at x;exact x
   ·cases x
  refine hg (jN cap p) _ _ H2 _ y _ By _ _ rfl E2 rB (fun l hl a x z=>?_) (step i _ ds r (iU a3) q) fun a1 b4 ad bv k3 c3 q3=>?_
  ·have e:=aI hl
   subst e
   exact c'.apart tr ap j own a (sB.mem x) (a7 a z)
  refine hc (jN cap p) b4 a1 H2 ad _ _ rfl bv q3 fun b H3 b3 bg E4 c4 q4=>?_
  have b6:∀i,(jN cap p).own i->i=p:=fun i h=>aI h
  obtain⟨d0,e0⟩:=b8
  have b2:dw cap r c p=c j:=by
   have:(T7 cap r)[p]?=some (some d0):=by
    unfold T7
    rw[wE,hp]
    show some ((r[j]?).join)=_
    rw[e0];rfl
   unfold dw
   rw[this,hp]
  have f3:ad p=c j:=(k3 p a2).1.trans b2
  have al:a1[p]?=(L5 cap σ)[p]?:=(k3 p a2).2
  have a8:∀{T:Hp} {fi:UN} {ac:Ev} {l:D},E3 K (jN cap p) ac a1 T fi->Q2 K (jN cap p) H2 ad T fi->ac[p]?=some (some l) ->
    E3 K G (r.set j (some l)) σ T (fun q=>if q=j then fi p else c q)/\Q2 K G H c T (fun q=>if q=j then fi p else c q):=fun {T fi ac l} Ei ci el=>
   Bw E' own hp ⟨d0,e0⟩ s2 Ei (fun a o h n=>ci.frm a o h fun i hi=>by rw[b6 i hi,f3];exact n) ci.stb (fun a x=>by rw[<-f3];exact ci.new p a2 a x) a2 al el
  have lj:j<r.length:=(List.getElem?_eq_some_iff.mp e0).1
  have a6:∀{fi:UN} {T:Hp} {X':Addr},Q2 K G H c T (fun q=>if q=j then fi p else c q)->H X'≠none->(∀q,X'∉c q)->∀q,X'∉(if q=j then fi p else c q):=fun {fi T X'} cc ht ao q z=>by
   by_cases Y:q=j
   ·rcases cc.new j own X' (by rw[wS rfl];rw[wS Y] at z;exact z) with y | y
    ·exact ao j y
    ·exact ht y
   ·rw[wP Y] at z;exact ao q z
  cases b with
  | false=>
   rw[wP tL]
   obtain⟨l,el,q5⟩:=w6 (q4.f rfl)
   obtain⟨Eo,co⟩:=a8 E4 c4 el
   have I:H3 d=some (.lst acc):=co.frm d _ M fun i _=>a0 i
   refine⟨xs.length-(i+1),by omega,rfl,a3,_,_,acc,ds,B,Eo,c'.trans co,⟨l,IN lj⟩,I,a6 co (by rw[M];intro z;cases z) a0,by omega,?_,nB,dB,fun a x=>⟨(hB a x).1,a6 co (rs.there a x) (hB a x).2⟩,q5⟩
   exact rs.mono co.stb fun a x=>by
    obtain⟨o,eo⟩:=fY.some (rs.ah a x)
    rw[eo];exact co.frm a o eo fun i _=>(hB a x).2 i
  | true=>
   rw[wS rfl]
   refine he (jN cap p) b3 a1 H3 bg _ _ rfl E4 (q4.t rfl) fun v T dv Bv c0 a5 E5 c5 rv nv mv q5=>?_
   obtain⟨l,el,q5⟩:=w6 q5
   have bm:=c4.trans c5
   obtain⟨Eo,co⟩:=a8 E5 bm el
   have I:T d=some (.lst acc):=co.frm d _ M fun i _=>a0 i
   have b0:=a6 co (by rw[M];intro z;cases z) a0
   have b5:j7 K T acc ds B:=rs.mono co.stb fun a x=>by
    obtain⟨o,eo⟩:=fY.some (rs.ah a x)
    rw[eo];exact co.frm a o eo fun i _=>(hB a x).2 i
   have b9:∀a∈B,U a=none/\∀q,a∉(if q=j then a5 p else c q):=fun a x=>⟨(hB a x).1,a6 co (rs.there a x) (hB a x).2⟩
   have bn:∀a,H3 a=none->H a=none:=fun a h=>s2.free (c4.stb.dom a h)
   have a4:∀a∈Bv,H a=none:=fun a x=>bn a (mv a x).1
   have bi:∀a∈Bv,∀q,a∉(if q=j then a5 p else c q):=fun a x q z=>by
    by_cases Y:q=j
    ·rw[wS Y] at z;exact(mv a x).2 p z
    ·rw[wP Y] at z;exact E'.there q z (a4 a x)
   have a9:d∉Bv:=fun z=>by rw[a4 d z] at M;cases M
   have st:V4 T (upd T d (.lst (acc++[v]))):=⟨fun b ys h=>by
     by_cases e:b=d
     ·subst e;rw[I] at h;cases h
     ·rw[i3 e];exact h,fun b u w' h=>by
     by_cases e:b=d
     ·subst e;rw[I] at h;cases h
     ·rw[i3 e];exact h,fun b h=>by
     by_cases e:b=d
     ·subst e;rw[e9] at h;cases h
     ·rw[i3 e] at h;exact h⟩
   have Ef:E3 K G (r.set j (some l)) σ (upd T d (.lst (acc++[v]))) (fun q=>if q=j then a5 p else c q):=Eo.away (A:=[d]) st (fun a o h n=>by rw[i3 (by simpa using n)];exact h)
    (fun q a x=>by
     have:a=d:=by simpa using x
     rw[this];exact b0 q)
    (fun a x=>by
     have:a=d:=by simpa using x
     rw[this];exact E.stb.dom d hd)
    fun a x=>by
     have:a=d:=by simpa using x
     rw[this];exact E.qC hd
   have b1:Q2 K G U O (upd T d (.lst (acc++[v]))) (fun q=>if q=j then a5 p else c q):=by
    have ct:=c'.trans co
    exact⟨fun a o h n=>by rw[i3 (p8 h hd)];exact ct.frm a o h n,ct.stb.trans st,ct.new,ct.bor⟩
   refine⟨acc,I,by omega,xs.length-(i+1),by omega,rfl,a3,_,_,acc++[v],ds++[dv],B++(Bv++[]),Ef,b1,⟨l,IN lj⟩,e9,b0,by rw[C2,QB];omega,?_,?_,?_,fun a x=>?_,q5⟩
   ·exact(b5.mono st fun a x=>i3 fun e=>dB (e▸x)).append (.cons (rv.mono st fun a x=>i3 fun e=>a9 (e▸x)) .nil)
   ·rw[Do]
    refine List.nodup_append.mpr ⟨nB,nv,fun a x b hb e=>?_⟩
    subst e
    exact rs.there a x (a4 a hb)
   ·rw[Do]
    exact fun z=>(List.mem_append.mp z).elim dB a9
   ·rw[Do] at x
    rcases List.mem_append.mp x with z | z
    ·exact b9 a z
    ·exact⟨c'.stb.dom a (a4 a z),bi a z⟩
 ·have ei:i=xs.length:=by omega
  subst ei
  left
  refine⟨(it H tf kC _).1 rfl,k d H ds (d::B) r c E' c' (.lst M rs) (List.nodup_cons.mpr ⟨dB,nB⟩) (fun a x=>?_) (done ds r q)⟩
  rcases List.mem_cons.mp x with z | z
  ·rw[z];exact⟨hd,a0⟩
  ·exact hB a z
structure MR(X:Cx)(cl:List Cl)(es:UG)(u:rE):Prop where
 of ::
 run:∃t,uY X es t/\∀(G:Ent) (ρ:Ev) (σ:St) (H:Hp) (fa:UN) (Q:Bool->Ev->Prop) (R:Bool->Hp->Prop),G.cl=cl->E3 X.K G ρ σ H fa->u ρ Q ->
  (∀b H' ρ' fa',E3 X.K G ρ' σ H' fa'->Q2 X.K G H fa H' fa'->Q b ρ'->R b H')->t σ H R
section
variable{X:Cx}{cl:List Cl}{e:Expr}{pos:Pos}{XN N:UE}{XS scope:Scope}{cap:UA}{elt target iter:Expr}{ifs:UG}{ui:Iq}{g3:aH}{tc3:rE}{te3:TM}
def MM:rE:=fun a Q=>Q true a
theorem FQ:MR X cl [] MM:=.of ⟨_,wx,fun G a σ H c Q R _ E b k=>k true H a c E Q2.refl b⟩
def tO(cap:UA)(p j:Nat):Bool:=(cap[p]? == some (some j))&&(List.range cap.length).all fun q=>cap[q]? != some (some j)||q == p
theorem yg{cap:UA}{p j:Nat}(h:tO cap p j=true):cap[p]?=some (some j)/\∀q,cap[q]?=some (some j)->q=p:=by
 unfold tO at h
 rw[Fa] at h
 refine⟨by simpa using h.1,fun q e=>?_⟩
 have a:q<cap.length:=(List.getElem?_eq_some_iff.mp e).1
 have:=(List.all_eq_true.mp h.2) q (List.mem_range.mpr a)
 rw[e] at this
 simpa using this
theorem Cf{i:Nat}{y:Str}{h py:Pos}(p j:Nat)(U:X.N.Nodup)(z:X.N[i]?=some y)(hy:X.env.scope.names.lookup y=some .local)(Q:fS cl[i]? i=true)(hj:cl[j]?=some .own)(h1:tO cap p j=true)(h2:(O5 cap p)[p]?=some .own)
  (o:X0 XN N XS scope cap=true) (hN:X.N=XN) (hS:X.env.scope=XS) (hk:scope.kind=.function) (l:X.calm=true) (I:NH X cl target iter ui)
  (M:∀c b s H,yj (A7 X N scope c b s H) (O5 cap p) target g3) (S:∀c b s H,MR (A7 X N scope c b s H) (O5 cap p) ifs tc3) (O:∀c b s H,PM (A7 X N scope c b s H) (O5 cap p) elt te3)
  (v:swapsWith (.ListComp elt [⟨target,iter,ifs,0⟩] scope pos) (some (.Name y py)) h.line X.env=pure true:=by rfl)
  (hs:∀x,foldedSetIterable iter X.env x=pure x:=by intro _;rfl):L7 X cl (.Assign [.Name y py] (.ListComp elt [⟨target,iter,ifs,0⟩] scope pos) h) (L0 i (Pc p j cap ui g3 tc3 te3)):=.of<|by
 obtain⟨wi,pi,I⟩:=I.run
 obtain⟨hp,hq⟩:=yg h1
 refine⟨_,kb (g:=fun c b s H=>Classical.choose (M c b s H).run) (tc:=fun c b s H=>Classical.choose (S c b s H).run) (te:=fun c b s H=>Classical.choose (O c b s H).run) U z hy o hN hS hk l pi
  (fun c b s H=>(oT (M c b s H).run).1) (fun c b s H=>(oT (S c b s H).run).1) (fun c b s H=>(oT (O c b s H).run).1) v hs,fun G T ρ σ H fa R Y E hu le=>?_⟩
 have own:G.own j:=by unfold Ent.own;rw[Y];exact hj
 refine I G ρ σ H fa _ _ Y E hu fun J H1 xs C a1 a3 E1 c1 it tr ap q=>fun c b u H'=>?_
 obtain⟨d0,e0,q2⟩:=w6 q.2
 refine Qi (K:=X.K) own hp hq h2 ⟨d0,e0⟩ (oT (M c b u H').run).2 (oT (S c b u H').run).2 (oT (O c b u H').run).2 E1 it tr ap q.1 q2
  fun d H2 ds B a0 a2 E2 c2 r n1 n2 q3=>?_
 exact le.nx _ _ ⟨_,_,E2.set (Ix q3.1) r (fM.new E2 E n1 (fun a ha=>⟨c1.stb.dom a (n2 a ha).1,(n2 a ha).2⟩) (by rw[Y];exact hV Q)),q3.2⟩
end
end L3
namespace L2
open PySem PySem.Spec PyProof.Rows
section
variable{κ:Type}[DecidableEq κ]
def bS(kvs:List (κ×V))(k:κ):Option V:=(kvs.find? fun a=>decide (a.1=k)).map (·.2)
def putK(kvs:List (κ×V))(k:κ)(v:V):List (κ×V):=
 if (kvs.any fun a=>decide (a.1=k))=true then kvs.map (fun a=>if a.1=k then(a.1,v) else a) else kvs++[(k,v)]
def GY(kvs:List (κ×V))(k:κ):List (κ×V):=kvs.filter fun a=>decide (a.1≠k)
theorem dh{p:κ×V}{r:List (κ×V)}{k:κ}(e:p.1=k):bS (p::r) k=some p.2:=by simp[bS,QF,e]
theorem aN{p:κ×V}{r:List (κ×V)}{k:κ}(e:¬p.1=k):bS (p::r) k=bS r k:=by simp[bS,QF,e]
theorem pE(k:κ):∀kvs:List (κ×V),(kvs.any fun a=>decide (a.1=k))=(bS kvs k).isSome
 | []=>rfl
 | p::r=>by
  rw[Ro]
  by_cases e:p.1=k
  ·simp only[dh e,Da e,Bool.true_or,Option.isSome_some]
  ·rw[aN e,Fk e,Bool.false_or];exact pE k r
theorem K9(kvs:List (κ×V))(k:κ)(v:V):(putK kvs k v).length<=kvs.length+1:=by
 unfold putK
 split
 ·rw[eH];omega
 ·rw[C2,FS,List.length_nil];omega
theorem dg.X4{o:Option V}{u:UQ}(r:dg o u):o.isSome=u.isSome:=by
 cases o with
 | none=>cases u with
  | none=>rfl
  | some _=>exact(show False from r).elim
 | some _=>cases u with
  | none=>exact(show False from r).elim
  | some _=>rfl
theorem dg.getD{o:Option V}{u:UQ}{d:V}{d':Value}(r:dg o u)(a:RelV d d'):RelV (o.getD d) (u.getD d'):=by
 cases o with
 | none=>cases u with
  | none=>exact a
  | some _=>exact(show False from r).elim
 | some _=>cases u with
  | none=>exact(show False from r).elim
  | some _=>exact r
theorem KV.val{kvs:List (κ×V)}{vs:List (κ×Value)}(r:KV kvs vs)(k:κ):dg (bS kvs k) (valueAt vs k):=by
 unfold KV at r
 induction r with
 | nil=>exact True.intro
 | @cons p q ps a h t g=>
  obtain⟨d,i⟩:=h
  by_cases e:p.1=k
  ·have c:q.1=k:=d.symm.trans e
   have b:valueAt (q::a) k=some q.2:=by simp[valueAt,QF,c]
   rw[dh e,b];exact i
  ·have c:¬q.1=k:=fun z=>e (d.trans z)
   have b:valueAt (q::a) k=valueAt a k:=by simp[valueAt,QF,c]
   rw[aN e,b];exact g
theorem KV.any{kvs:List (κ×V)}{vs:List (κ×Value)}(r:KV kvs vs)(k:κ):(kvs.any fun a=>decide (a.1=k))=vs.any fun a=>decide (a.1=k):=by
 unfold KV at r
 induction r with
 | nil=>rfl
 | cons h t b=>rw[Ro,Ro,b,h.1]
theorem KV.yy{kvs:List (κ×V)}{vs:List (κ×Value)}(r:KV kvs vs)(k:κ){y:V}{u:Value}(c:RelV y u) :
  KV (kvs.map fun a=>if a.1=k then(a.1,y) else a) (vs.map fun a=>if a.1=k then(a.1,u) else a):=by
 unfold KV at r ⊢
 induction r with
 | nil=>exact .nil
 | @cons p q ps i h t d=>
  rw[Bi,Bi]
  refine .cons ?_ d
  obtain⟨b,g⟩:=h
  by_cases e:p.1=k
  ·rw[wS e,wS (b.symm.trans e)];exact⟨b,c⟩
  ·rw[wP e,wP (fun z=>e (b.trans z))];exact⟨b,g⟩
theorem KV.put{kvs:List (κ×V)}{vs:List (κ×Value)}(r:KV kvs vs)(k:κ){y:V}{u:Value}(a:RelV y u):KV (putK kvs k y) (stored vs k u):=by
 unfold putK stored
 rw[r.any k]
 by_cases e:(vs.any fun b=>decide (b.1=k))=true
 ·rw[wS e,wS e];exact r.yy k a
 ·rw[wP e,wP e];exact Paired.snoc r ⟨rfl,a⟩
theorem KV.drop{kvs:List (κ×V)}{vs:List (κ×Value)}(r:KV kvs vs)(k:κ):KV (GY kvs k) (without vs k):=by
 unfold KV at r ⊢
 unfold GY without
 induction r with
 | nil=>exact .nil
 | @cons p q ps j h t d=>
  obtain⟨c,g⟩:=h
  rw[Rc,Rc]
  by_cases e:p.1=k
  ·have a:¬decide (p.1≠k)=true:=by simp[e]
   have b:¬decide (q.1≠k)=true:=by simp[c.symm.trans e]
   rw[wP a,wP b];exact d
  ·have i:¬q.1=k:=fun z=>e (c.trans z)
   have a:decide (p.1≠k)=true:=by simp[e]
   have b:decide (q.1≠k)=true:=by simp[i]
   rw[wS a,wS b];exact .cons ⟨c,g⟩ d
theorem KV.length{kvs:List (κ×V)}{vs:List (κ×Value)}(r:KV kvs vs):kvs.length=vs.length:=TC r
end
theorem bE{P:Program}{w:World}{k:Key}{u:Value}(r:RelV (kV k) u):(j9 P w).is k u=true:=by
 cases k with
 | inl i=>obtain⟨t,e⟩:=(show ∃t,u=Value.int i t from r);subst e;exact qP P w i t
 | inr x=>obtain⟨t,e⟩:=(show ∃t,u=Value.str x t from r);subst e;exact qw P w x t
theorem kB{P:Program}{w:World}:∀{a:List Key} {b:UF},Vals (a.map kV) b->ItemsAre (j9 P w) a b
 | [],_,r=>by rw[SO] at r;cases r;exact .nil
 | k::a,_,r=>by
  rw[Bi] at r
  cases r with
  | cons h t=>exact .cons (bE h) (kB t)
abbrev KT(H:Hp):List (List Key×V)->List (List Key×Addr×Value)->Prop:=Paired fun p q=>p.1=q.1/\H q.2.1=some (.tup (p.1.map kV))/\RelV p.2 q.2.2
theorem KT.val{H:Hp}{kvs:List (List Key×V)}{xs:List (List Key×Addr×Value)}(r:KT H kvs xs)(k:List Key):dg (bS kvs k) ((atKey xs k).map (·.2)):=by
 induction r with
 | nil=>exact True.intro
 | @cons p q ps a h t g=>
  obtain⟨d,_,i⟩:=h
  by_cases e:p.1=k
  ·have c:q.1=k:=d.symm.trans e
   have b:atKey (q::a) k=some q.2:=by simp[atKey,QF,c]
   rw[dh e,b];exact i
  ·have c:¬q.1=k:=fun z=>e (d.trans z)
   have b:atKey (q::a) k=atKey a k:=by simp[atKey,QF,c]
   rw[aN e,b];exact g
theorem KT.yy{H:Hp}{kvs:List (List Key×V)}{xs:List (List Key×Addr×Value)}(r:KT H kvs xs)(k:List Key){y:V}{u:Value}(d:RelV y u) :
  KT H (kvs.map fun b=>if b.1=k then(b.1,y) else b) (xs.map (putAt k u)):=by
 induction r with
 | nil=>exact .nil
 | @cons p q ps j h t g=>
  rw[Bi,Bi]
  refine .cons ?_ g
  obtain⟨a,c,i⟩:=h
  unfold putAt
  by_cases e:p.1=k
  ·rw[wS e,wS (a.symm.trans e)];exact⟨a,c,d⟩
  ·rw[wP e,wP (fun z=>e (a.trans z))];exact⟨a,c,i⟩
theorem KT.put{H:Hp}{kvs:List (List Key×V)}{xs:List (List Key×Addr×Value)}(r:KT H kvs xs)(k:List Key){b:Addr}{y:V}{u:Value}(d:H b=some (.tup (k.map kV)))(a:RelV y u) :
  KT H (putK kvs k y) (storedH xs k b u):=by
 have e:(kvs.any fun c=>decide (c.1=k))=(atKey xs k).isSome:=by
  rw[pE,(r.val k).X4,Sy]
 unfold putK storedH
 rw[e]
 by_cases q:(atKey xs k).isSome=true
 ·rw[wS q,wS q];exact r.yy k a
 ·rw[wP q,wP q];exact Paired.snoc r ⟨rfl,d,a⟩
theorem KT.keeps{H c:Hp}{kvs:List (List Key×V)}{xs:List (List Key×Addr×Value)}(r:KT H kvs xs)(d:∀b a,H b=some (.tup a)->c b=some (.tup a)):KT c kvs xs:=
 Paired.HY r fun _ _ z=>⟨z.1,d _ _ z.2.1,z.2.2⟩
section
variable{P:Program}{w:World}{H:Hp}{h:Heap}{a:Addr}
theorem MS{u:HO}(ok:V1 P w H h)(e:Rd H a u):x6 P w H h a u:=e.ok ok
def Kq(H:Hp)(a:Addr)(kvs:List (Key×V)):Prop:=Rd H a (.dK kvs)\/∃ep,H a=some (.dE kvs ep)
theorem Kq.of{H:Hp}{a:Addr}{kvs:List (Key×V)}(r:Dd H a kvs):Kq H a kvs:=r.elim (fun h=>.inl (.inl h)) .inr
theorem Kq.ok{P:Program}{w:World}{H:Hp}{h:Heap}{a:Addr}{kvs:List (Key×V)}(r:Kq H a kvs)(x:V1 P w H h):x6 P w H h a (.dK kvs):=r.elim (fun h=>h.ok x) fun h=>(show Dd H a kvs from .inr h).ok x
theorem bw{kvs:List (Key×V)}(ok:V1 P w H h)(e:Kq H a kvs):kvs.length<=sizeLine/\(a == sysModules)=false/\∃vs,KV kvs vs/\h.DictOf (j9 P w) a vs:=
 show x6 P w H h a (.dK kvs) from e.ok ok
theorem CO{kvs:List (Key×V)}(ok:V1 P w H h)(e:H a=some (.dK kvs)):kvs.length<=sizeLine/\(a == sysModules)=false/\∃vs,KV kvs vs/\h.DictOf (j9 P w) a vs:=bw ok (.inl (.inl e))
theorem dZ{b:List Key}(ok:V1 P w H h)(e:H a=some (.tup (b.map kV))):(tupleKind (j9 P w)).is h b a:=by
 obtain⟨_,its,r,o,g,d,n,c⟩:=(show x6 P w H h a (.tup (b.map kV)) from ok a _ e)
 exact⟨o,its.toArray,n,g,d,c,by simpa using kB r⟩
theorem iJ{kvs:List (List Key×V)}(ok:V1 P w H h)(e:Rd H a (.dT kvs)):kvs.length<=sizeLine/\(a == sysModules)=false /\
  ∃xs,KT H kvs xs/\h.DictOfH (tupleKind (j9 P w)) a xs:=by
 obtain⟨z,y,xs,r,o,B,ep,v,u,j,i,g⟩:=(show x6 P w H h a (.dT kvs) from MS ok e)
 refine⟨z,y,xs,r,o,B,ep,v,u,j,i,fun x b=>?_,g⟩
 have all:∀{l:List (List Key×V)} {m:List (List Key×Addr×Value)},KT H l m->∀x∈m,(tupleKind (j9 P w)).is h x.1 x.2.1:=by
  intro l m q
  induction q with
  | nil=>intro x b;exact nomatch b
  | @cons p q ps C c t d=>
   intro x b
   rcases List.mem_cons.mp b with e | b
   ·subst e
    exact dZ ok (by rw[<-c.1];exact c.2.1)
   ·exact d x b
 exact all r x b
theorem LH{kvs:List (List Key×V)}(ok:V1 P w H h)(e:H a=some (.dT kvs)):kvs.length<=sizeLine/\(a == sysModules)=false /\
  ∃xs,KT H kvs xs/\h.DictOfH (tupleKind (j9 P w)) a xs:=iJ ok (.inl e)
end
def Y3(H:Hp)(a:Addr)(y:V)(r:Option V):Prop:=
 (∃kvs k,Kq H a kvs/\y=kV k/\r=bS kvs k)\/∃kvs k b,Rd H a (.dT kvs)/\y=.ref b/\H b=some (.tup (k.map kV))/\r=bS kvs k
def mS(H:Hp)(a:Addr)(y v:V)(c:Hp):Prop:=
 (∃kvs k,Dd H a kvs/\y=kV k/\kvs.length<sizeLine/\c=upd H a (.dK (putK kvs k v))) \/
 ∃kvs k b,H a=some (.dT kvs)/\y=.ref b/\H b=some (.tup (k.map kV))/\kvs.length<sizeLine/\c=upd H a (.dT (putK kvs k v))
theorem Y3.k{H:Hp}{a:Addr}{kvs:List (Key×V)}{k:Key}(e:Dd H a kvs):Y3 H a (kV k) (bS kvs k):=.inl ⟨kvs,k,.of e,rfl,rfl⟩
theorem Y3.t{H:Hp}{a b:Addr}{kvs:List (List Key×V)}{k:List Key}(e:H a=some (.dT kvs))(c:H b=some (.tup (k.map kV))):Y3 H a (.ref b) (bS kvs k):=.inr ⟨kvs,k,b,.inl e,rfl,c,rfl⟩
theorem mS.k{H:Hp}{a:Addr}{kvs:List (Key×V)}{k:Key}{v:V}(e:Dd H a kvs)(b:kvs.length<sizeLine):mS H a (kV k) v (upd H a (.dK (putK kvs k v))):=.inl ⟨kvs,k,e,rfl,b,rfl⟩
theorem mS.t{H:Hp}{a b:Addr}{kvs:List (List Key×V)}{k:List Key}{v:V}(e:H a=some (.dT kvs))(d:H b=some (.tup (k.map kV)))(c:kvs.length<sizeLine) :
  mS H a (.ref b) v (upd H a (.dT (putK kvs k v))):=.inr ⟨kvs,k,b,e,rfl,d,c,rfl⟩
section
variable{X:Cx}{pins:TZ}{σ:St}{H:Hp}{s:Shared}{a:Addr}{y v:V}{u r:Value}{o:Option V}{A:Around}{E:UM}
theorem Inv.big(I:Inv X pins σ H s):sysModules<s.heap.objs.size:=by
 have h:mainGlobals<s.heap.objs.size:=(I.mod.glob.keeps I.bk).lt
 exact Nat.lt_trans (by decide) h
theorem kW{Q:UM}(C:A.units+1<cLine)(I:Inv X pins σ H s)(g:Y3 H a y (some v))(B:RelV y u)(h:∀i x,Inv X pins σ H x->RelV v i->Q i x) :
  wpAny (model X.prog X.w) A (getItem (.ref a) u) Q E s:=by
 rcases g with⟨kvs,k,e,q,l⟩ | ⟨kvs,k,b,e,q,J,l⟩
 ·subst q
  obtain⟨z,hd,vs,d,dd⟩:=bw I.hok e
  obtain⟨i,hw,c⟩:=dg.some_of (v:=v) (o:=valueAt vs k) (by rw[l];exact d.val k)
  exact wpAny_getItem_of (bE B) dd.mapOf hw (h i _ (I.tok _) c)
 ·subst q
  cases(show u=Value.ref b from B)
  obtain⟨z,hd,xs,d,dd⟩:=iJ I.hok e
  obtain⟨i,hw,c⟩:=dg.some_of (v:=v) (o:=(atKey xs k).map (·.2)) (by rw[l];exact d.val k)
  obtain⟨p,G,j⟩:=Option.map_eq_some_iff.mp hw
  refine wpAny_getItem_heap (Se C) (dZ I.hok J) dd G ?_
  rw[j]
  exact h i _ (I.tok _) c
theorem Pa{Q:UM}(p:A.units+1<cLine)(I:Inv X pins σ H s)(g:Y3 H a y o)(j:RelV y u)(h:∀i,Inv X pins σ H i->Q (.bool o.isSome) i) :
  wpAny (model X.prog X.w) A (compareOp .In u (.ref a)) Q E s:=by
 rcases g with⟨kvs,k,e,d,l⟩ | ⟨kvs,k,b,e,d,x,l⟩
 ·subst d
  obtain⟨z,hd,vs,c,dd⟩:=bw I.hok e
  refine wpAny_in_of (bE j) hd dd.mapOf ?_
  rw[<-(c.val k).X4,<-l]
  exact h _ (I.tok _)
 ·subst d
  cases(show u=Value.ref b from j)
  obtain⟨z,hd,xs,c,dd⟩:=iJ I.hok e
  refine wpAny_in_heap (Se p) (dZ I.hok x) hd dd ?_
  have q:=(c.val k).X4
  rw[Sy] at q
  rw[<-q,<-l]
  exact h _ (I.tok _)
theorem DC{Q:UM}(p:A.units+1<cLine)(I:Inv X pins σ H s)(g:Y3 H a y o)(j:RelV y u)(h:∀i,Inv X pins σ H i->Q (.bool (!o.isSome)) i) :
  wpAny (model X.prog X.w) A (compareOp .NotIn u (.ref a)) Q E s:=by
 rcases g with⟨kvs,k,e,d,l⟩ | ⟨kvs,k,b,e,d,x,l⟩
 ·subst d
  obtain⟨z,hd,vs,c,dd⟩:=bw I.hok e
  refine wpAny_notIn_of (bE j) hd dd.mapOf ?_
  rw[<-(c.val k).X4,<-l]
  exact h _ (I.tok _)
 ·subst d
  cases(show u=Value.ref b from j)
  obtain⟨z,hd,xs,c,dd⟩:=iJ I.hok e
  refine wpAny_notIn_heap (Se p) (dZ I.hok x) hd dd ?_
  have q:=(c.val k).X4
  rw[Sy] at q
  rw[<-q,<-l]
  exact h _ (I.tok _)
theorem fV{h':Heap}{t':Nat}{ob:HO}(I:Inv X pins σ H s)(c:fY (H a))(d:Heap.SameBut a s.heap h')(g:∃q,h'.get? a=some q)(new:x6 X.prog X.w (upd H a ob) h' a ob) :
  Inv X pins σ (upd H a ob) { s with heap:=h',toks:=t' }:=
 I.write (x:=a) (e:=a) c (.inl rfl) (fun b q h z=>(d.2 b h).trans z) g new
theorem mm{P:Program}{w:World}{c:Hp}{h':Heap}{kvs:List (Key×V)}{vs:List (Key×Value)}(z:kvs.length<=sizeLine)(hd:(a == sysModules)=false)(b:KV kvs vs)(dd:h'.DictOf (j9 P w) a vs) :
  x6 P w c h' a (.dK kvs):=⟨z,hd,vs,b,dd⟩
theorem Inv.CC{kvs:List (Key×V)}(I:Inv X pins σ H s)(e:H a=some (.dK kvs)):∃ep,Inv X pins σ (upd H a (.dE kvs ep)) s:=by
 obtain⟨z,hd,vs,c,dd⟩:=CO I.hok e
 obtain⟨ep,g⟩:=dd.dictAt
 exact⟨ep,I.write (x:=a) (e:=a) (h':=s.heap) (t':=s.toks) (o:=.dE kvs ep) (by rw[e];exact True.intro) (.inl rfl) (fun b q h z=>z) (let ⟨q,_,_,d,_⟩:=dd;⟨q,d⟩) ⟨z,hd,vs,c,g⟩⟩
theorem lu{R:Hp}{Q:Unit->Shared->Prop}(S:A.units+1<cLine)(I:Inv X pins σ H s)(g:mS H a y v R)(J:RelV y u)(rv:RelV v r)(h:∀G,Inv X pins σ R G->Q () G) :
  wpAny (model X.prog X.w) A (setItem (.ref a) u r) Q E s:=by
 rcases g with⟨kvs,k,e,B,l,C⟩ | ⟨kvs,k,b,e,B,O,l,C⟩
 ·subst B C
  obtain⟨z,hd,vs,d,dd⟩:=bw I.hok (.of e)
  have hz:vs.length<=sizeLine:=by rw[<-d.length];exact z
  have x:(putK kvs k v).length<=sizeLine:=by have:=K9 kvs k v;omega
  refine wpAny_setItem_pairs (hsz:=hz) (bE J) dd fun h' i p=>h _ ?_
  have T:∃q,h'.get? a=some q:=let ⟨q,_,_,j,_⟩:=i;⟨q,j⟩
  exact fV I e.mut p T (mm x hd (d.put k rv) i)
 ·subst B C
  cases(show u=Value.ref b from J)
  obtain⟨z,hd,xs,d,dd⟩:=LH I.hok e
  have hz:xs.length<=sizeLine:=by rw[<-TC d];exact z
  have x:(putK kvs k v).length<=sizeLine:=by have:=K9 kvs k v;omega
  refine wpAny_setItem_heap (hsz:=hz) (Se S) (dZ I.hok O) dd fun h' i p=>h _ ?_
  obtain⟨q,es,ep,j,h2,h3,Y,_,U⟩:=i
  refine fV I (by rw[e];exact True.intro) p ⟨q,j⟩ ⟨x,hd,_,(d.put k O rv).keeps fun c ys M=>?_,q,es,ep,j,h2,h3,Y,U⟩
  rw[i3 (nU M e (fun z=>nomatch z))]
  exact M
end
section
variable{X:Cx}{pins:TZ}{σ:St}{H:Hp}{s:Shared}{a:Addr}{kvs:List (Key×V)}{k:Key}{u:Value}{A:Around}{E:UM}
end
theorem qG{X:Cx}{pins:TZ}{σ:St}{H:Hp}{s:Shared}{a:Addr}{y:V}{o:Option V}(I:Inv X pins σ H s)(g:Y3 H a y o):s.TypeIs (.ref a) "dict":=by
 rcases g with⟨kvs,k,e,_,_⟩ | ⟨kvs,k,b,e,_,_,_⟩
 ·obtain⟨_,_,vs,_,dd⟩:=bw I.hok e
  exact dd.typeIs
 ·obtain⟨_,_,xs,_,dd⟩:=iJ I.hok e
  exact dd.typeIs
def LO(d ty c:TE):TS:=fun D σ H=>c σ H fun v h=>d σ h fun x g=>ty σ g fun y e=>∃a b,x=.ref a/\mS e a y v b/\D.nx σ b
def Nk(g ty e:TE)(h:V->V->Hp->VK->Prop):TS:=fun D σ H=>g σ H fun x l=>ty σ l fun y c=>∃a v,x=.ref a/\Y3 c a y (some v) /\
 e σ c fun d j=>h v d j fun z i=>∃b,mS i a y z b/\D.nx σ b
section
variable{X:Cx}{o i e value:Expr}{pos pos' tpos:Pos}{td ty tv:TE}
theorem GL(B:X.A.units+1<cLine)(E:PE X o td)(G:PE X i ty)(z:PE X value tv)(C:swapsWith value (some (.Subscript o i pos')) pos.line X.env=pure false) :
  PS X (.Assign [.Subscript o i pos'] value pos) (LO td ty tv):=by
 refine .of ?_
 intro pins s σ H D I h
 refine wpAny_Assign_Subscript (y3 (z pins s σ H _ I h) fun r c ⟨v,T,Q,rv,q⟩=>y3 (E pins c σ T _ Q q) fun u b ⟨x,S,O,j,p⟩=>y3 (G pins b σ S _ O p) fun iv Y ⟨y,H3,M,d,a,R,ex,g,l⟩=>?_) C
 subst ex
 obtain rfl:u=Value.ref a:=j
 exact lu B M g d rv fun U J=>⟨σ,R,J,l⟩
theorem GG{op:Operator}{q:V->V->Hp->VK->Prop}(r:X.A.units+1<cLine)(ho:PE X o td)(hi:PE X i ty)(Y:PE X value tv)(l:NU X op q)
  (ha:∀c b new,augStore i c b new=(do holding [new,c,b] (setItem c b new);release [new,c,b] [];pure .next)):PS X (.AugAssign (.Subscript o i tpos) op value pos) (Nk td ty tv q):=by
 refine .of ?_
 intro pins s σ H D I h
 refine wpAny_AugAssign_SubscriptAny (y3 (ho pins s σ H _ I h) fun u M ⟨x,H1,I1,Q,U⟩=>y3 (hi pins M σ H1 _ I1 U) fun b s2 ⟨y,H2,I2,p,a,v,ex,g,T⟩=>?_) ha
 subst ex
 obtain rfl:u=Value.ref a:=Q
 refine kW r I2 g p fun E J I3 j=>y3 (Y pins J σ H2 _ I3 T) fun C G ⟨B,H3,I4,d,S⟩=>y3 (l pins G σ H3 v B E C _ I4 j d S) fun w3 s5 ⟨z,H4,I5,O,H5,g5,R⟩=>?_
 exact lu r I5 g5 p O fun s6 I6=>⟨σ,H5,I6,R⟩
end
theorem cU{P:Program}{w:World}{H:Hp}(h:Heap)(a:sysModules<h.objs.size):x6 P w H (h.push { cls:=.type "dict",data:=.dict #[] }) h.objs.size (.dK []):=
 ⟨KM _,beq_eq_false_iff_ne.mpr (QO (Ew a)),[],.nil,Heap.DictOf.new h⟩
def Jt:TE:=fun _ H Q=>∀p,H p=none->Q (.ref p) (upd H p (.dK []))
section
variable{X:Cx}{pos:Pos}
theorem Cr:PE X (.Dict [] [] pos) Jt:=.of <| fun pins s σ H Q I h=>
 wpAny_Dict_empty ⟨.ref s.heap.objs.size,_,I.laid (a:=s.heap.objs.size) (o:=.dK []) (t':=s.toks) (fun _ _ q=>hD _ q) (sK _) (cU s.heap I.big),rfl,h _ (I.hok.fresh (sK _))⟩
end
def E9(kvs more:List (Key×V)):List (Key×V):=more.foldl (fun acc a=>putK acc a.1 a.2) kvs
theorem bG:∀(more kvs:List (Key×V)),(E9 kvs more).length<=kvs.length+more.length
 | [],kvs=>by show kvs.length<=kvs.length+0;omega
 | p::r,kvs=>by
  have b:=bG r (putK kvs p.1 p.2)
  have a:=K9 kvs p.1 p.2
  show(E9 (putK kvs p.1 p.2) r).length<=_
  rw[FS];omega
structure M2(X:Cx)(o:Expr)(m:Str)(apos:Pos)(e f:Expr)(cpos:Pos):Prop where
 base:attributeBase o m X.env (eval o X.env)=eval o X.env
 few:((backTo cpos (starEach [e,f] X.env)).all (fun x=>!x.1)&&(backToKw cpos (keywordEach [] X.env)).all (fun x=>x.1.isSome)
  && decide (([e,f]:UG).length+([]:List Keyword).length+(if ([]:List Keyword).isEmpty then 0 else 1)<30))=true
 line:(apos.endLine == cpos.line)=true
 trees:backTo cpos (starEach [e,f] X.env)=[(false,eval e X.env),(false,eval f X.env)]
def Pq(H:Hp)(a:Addr):Prop:=(∃kvs,Kq H a kvs)\/∃kvs,Rd H a (.dT kvs)
theorem JL{X:Cx}{pins:TZ}{σ:St}{H:Hp}{s:Shared}{a:Addr}(I:Inv X pins σ H s)(d:Pq H a) :
  s.TypeIs (.ref a) "dict" /\ (∀b,Value.ref a=.ref b->∃ob,s.heap.get? b=some ob/\ob.dict=none)/\(a == sysModules)=false:=by
 rcases d with⟨kvs,e⟩ | ⟨kvs,e⟩
 ·obtain⟨_,hd,vs,_,dd⟩:=bw I.hok e
  refine⟨dd.typeIs,fun b q=>?_,hd⟩
  cases q
  obtain⟨ob,_,_,g,c,_⟩:=dd
  exact⟨ob,g,c.2.1⟩
 ·obtain⟨_,hd,xs,_,dd⟩:=iJ I.hok e
  refine⟨dd.typeIs,fun b q=>?_,hd⟩
  cases q
  obtain⟨ob,_,_,g,c,_⟩:=dd
  exact⟨ob,g,c.2.1⟩
section
variable{X:Cx}{pins:TZ}{σ:St}{H:Hp}{s:Shared}{a:Addr}{y d:V}{u r:Value}{o:Option V}{A:Around}{E:UM}
theorem Kc{Q:UM}(x:A.units+1<cLine)(I:Inv X pins σ H s)(g:Y3 H a y o)(q:RelV y u)(v:RelV d r)(h:∀j p,Inv X pins σ H p->RelV (o.getD d) j->Q j p) :
  wpAny (model X.prog X.w) A (call (.builtin "dict.get") [.ref a,u,r]) Q E s:=by
 rcases g with⟨kvs,k,e,i,l⟩ | ⟨kvs,k,b,e,i,B,l⟩
 ·subst i
  obtain⟨z,hd,vs,c,dd⟩:=bw I.hok e
  refine call_meetsIn Sg dd.typeIs SN (SJ _ _ _) (meets_dict_get_default (j9 X.prog X.w) a (bE q) hd r) ⟨_,dd.mapOf,h _ _ (I.tok _) ?_⟩
  rw[l]
  exact(c.val k).getD v
 ·subst i
  cases(show u=Value.ref b from q)
  obtain⟨z,hd,xs,c,dd⟩:=iJ I.hok e
  refine call_meetsIn Sg dd.typeIs SN (SJ _ _ _) (meetsH_dict_get_default (tupleKind (j9 X.prog X.w)) a b hd r) ⟨Se x,k,xs,dZ I.hok B,dd,h _ _ (I.tok _) ?_⟩
  rw[l]
  exact(c.val k).getD v
end
section
variable{X:Cx}{o e f:Expr}{apos cpos:Pos}{td ty tx:TE}
end
section
variable{X:Cx}{pins:TZ}{σ:St}{H:Hp}{s:Shared}{a:Addr}{kvs:List (Key×V)}{A:Around}{E:UM}
end
section
variable{X:Cx}{pins:TZ}{σ:St}{H:Hp}{s:Shared}{a:Addr}{y:V}{u:Value}{A:Around}{E:UM}
end
section
variable{X:Cx}
end
section
variable{κ:Type}[DecidableEq κ]
end
theorem KL{P:Program}{w:World}{h:Heap}{a:Addr}{f:Key->UQ}(m:h.MapOf (j9 P w) a f):h.MapOf (gJ P w) a (fun k=>k.bind f):=by
 obtain⟨o,d,ep,r,p,l,g,j⟩:=m
 refine⟨o,d,ep,r,p,l,fun e c=>?_,fun k=>?_⟩
 ·obtain⟨k,b,u⟩:=g e c
  exact⟨some k,b,u⟩
 ·cases k with
  | some k=>exact j k
  | none=>
   show findBy ja d none=none
   have no:∀e∈d,ja none e.key=false:=fun e c=>by
    cases q:ja none e.key with
    | false=>rfl
    | true=>
     obtain⟨k,b,_⟩:=g e c
     rw[B8 q] at b
     rcases p4 (show bA k Value.none=true from b) with⟨i,t,_,e⟩ | ⟨x,t,_,e⟩<;>cases e
   unfold findBy
   simp
   exact no
def Bj(H:Hp)(a:Addr)(y:V)(r:Option V):Prop:=Y3 H a y r\/(y=.o8/\(∃kvs,Dd H a kvs)/\r=none)
def Fd(e ty d:TE):TE:=fun σ H Q=>e σ H fun x c=>∃a,x=.ref a/\Pq c a/\ty σ c fun y g=>d σ g fun z b=>∃o,Bj b a y o/\Q (o.getD z) b
theorem xJ {X:Cx} {o e f:Expr} {c b:Pos} {p ty l:TE} (U:X.A.units+1<cLine) (Y:PE X o p) (he:PE X e ty) (hf:PE X f l) (m:M2 X o "get" c e f b):PE X (.Call (.Attribute o "get" c) [e,f] [] b) (Fd p ty l):=by
 refine .of ?_
 intro pins s σ H Q I h
 refine wpAny_Call_method m.base m.few m.line PySem.F.plainAttrs_dict Sg PySem.F.type_dict_get (y3 (Y pins s σ H _ I h) fun u M ⟨x,H1,B,O,a,ex,d,T⟩=>?_)
 subst ex
 obtain rfl:u=Value.ref a:=O
 obtain⟨G,E,_⟩:=JL B d
 refine⟨G,E,?_⟩
 rw[m.trees]
 refine Calls.callWith_builtin rfl (Ts (TL (y3 (he pins M σ H1 _ B T) fun iv J ⟨y,H2,I2,r,S⟩=>
  TL (y3 (hf pins J σ H2 _ I2 S) fun fv s3 ⟨z,C,j,q,ov,g,v⟩=>Calls.spliced_nil ?_))))
 rcases g with g | ⟨rfl,⟨kvs,hk⟩,rfl⟩
 ·exact Kc U j g r q fun w' s4 I4 i=>⟨_,C,I4,i,v⟩
 ·cases r
  obtain⟨zz,hd,vs,R,dd⟩:=bw j.hok (.of hk)
  refine call_meetsIn Sg dd.typeIs SN (SJ _ _ _) (meets_dict_get_default (gJ X.prog X.w) (k:=none) a (by rfl) hd fv) ⟨_,KL dd.mapOf,⟨_,C,j.tok _,q,v⟩⟩
def KW(Q:VK):VK:=fun v a=>∃p kvs,v=.ref p/\a p=some (.dK kvs)/\∀ep,Q v (upd a p (.dE kvs ep))
def Ends.KW(D:Ends):Ends:={ D with nx:=fun a b=>∃p kvs,b p=some (.dK kvs)/\∀ep,D.nx a (upd b p (.dE kvs ep)) }
section
variable{X:Cx}
theorem zl{e:Expr}{t:TE}(h:PE X e t):PE X e (fun σ H Q=>t σ H (KW Q)):=by
 refine .of ?_
 intro pins s σ H Q I q
 exact y3 (h pins s σ H _ I q) fun v i ⟨x,l,g,a,p,kvs,j,c,b⟩=>let ⟨ep,d⟩:=g.CC c;⟨x,_,d,a,b ep⟩
theorem zH{f:Value}{r:List V->Hp->VK->Prop}(h:I0 X f r):I0 X f (fun xs H Q=>r xs H (KW Q)):=by
 intro pins s σ H xs a Q I rv q
 exact y3 (h pins s σ H xs a _ I rv q) fun v i ⟨x,l,g,b,p,kvs,j,d,c⟩=>let ⟨ep,e⟩:=g.CC d;⟨x,_,e,b,c ep⟩
theorem uZ{st:Stmt}{t:TS}(h:PS X st t):PS X st (fun D σ H=>t D.KW σ H):=by
 refine .of ?_
 intro pins s σ H D I q
 refine y3 (h pins s σ H _ I q) fun f i a=>?_
 cases f with
 | next=>
  obtain⟨b,j,g,p,kvs,e,c⟩:=a
  obtain⟨ep,d⟩:=g.CC e
  exact⟨_,_,d,c ep⟩
 | brk=>exact a
 | cont=>exact a
 | ret v=>exact a
end
end L2
namespace L3
open PySem PySem.Spec L2
def ak:D->Option Key
 | .int i=>some (.inl i)
 | .str x=>some (.inr x)
 | _=>none
def x9(kvs:List (Key×D))(k:Key):Option D:=(kvs.find? fun a=>decide (a.1=k)).map (·.2)
def putD(kvs:List (Key×D))(k:Key)(v:D):List (Key×D):=
 if (kvs.any fun a=>decide (a.1=k))=true then kvs.map (fun a=>if a.1=k then(a.1,v) else a) else kvs++[(k,v)]
section
variable{K:UP}{H:Hp}
theorem A3.val:∀{kvs:List (Key×V)} {a:List (Key×D)} {A:UD} (k:Key),A3 K H kvs a A->(∀d,x9 a k=some d->∃v B,bS kvs k=some v/\Rep K H v d B/\B.Sublist A)/\(x9 a k=none->bS kvs k=none)
 | _,_,_,k,.nil=>⟨fun d e=>by simp[x9] at e,fun _=>rfl⟩
 | _,_,_,k,.cons (k:=k0) (A:=A) (B:=B) h r=>by
  obtain⟨g,c⟩:=r.val k
  by_cases e:k0=k
  ·subst e
   refine⟨fun d e=>?_,fun e=>?_⟩
   ·simp[x9,QF] at e
    subst e
    exact⟨_,_,dh rfl,h,SF _ _⟩
   ·simp[x9,QF] at e
  ·have i:∀(x:D) (ds:List (Key×D)),x9 ((k0,x)::ds) k=x9 ds k:=fun x ds=>by simp[x9,QF,e]
   refine⟨fun d b=>?_,fun b=>?_⟩
   ·rw[i] at b
    obtain⟨v,B,a1,a2,a3⟩:=g d b
    exact⟨v,B,by rw[aN (p:=(k0,_)) e];exact a1,a2,a3.trans (Sx _ _)⟩
   ·rw[i] at b
    rw[aN (p:=(k0,_)) e];exact c b
theorem A3.any:∀{kvs:List (Key×V)} {a:List (Key×D)} {A:UD} (k:Key),A3 K H kvs a A->(kvs.any fun b=>decide (b.1=k))=a.any fun b=>decide (b.1=k)
 | _,_,_,k,.nil=>rfl
 | _,_,_,k,.cons h r=>by rw[Ro,Ro,r.any k]
theorem A3.length:∀{kvs:List (Key×V)} {a:List (Key×D)} {A:UD},A3 K H kvs a A->kvs.length=a.length
 | _,_,_,.nil=>rfl
 | _,_,_,.cons h r=>by simp[r.length]
theorem A3.D4:∀{kvs:List (Key×V)} {a:List (Key×D)} {A:UD},A3 K H kvs a A->(a.all fun b=>y1 b.2)=true->A=[]
 | _,_,_,.nil,_=>rfl
 | _,_,_,.cons h r,e=>by
  rw[RE,Fa] at e
  rw[h.D4 e.1,r.D4 e.2];rfl
theorem A3.yy{v:V}{d:D}(k:Key)(rv:Rep K H v d []):∀{kvs:List (Key×V)} {b:List (Key×D)} {A:UD},A3 K H kvs b A->∃C,A3 K H (kvs.map fun a=>if a.1=k then(a.1,v) else a) (b.map fun a=>if a.1=k then(a.1,d) else a) C/\C.Sublist A
 | _,_,_,.nil=>⟨[],.nil,Sa _⟩
 | _,_,_,.cons (k:=k0) (A:=A) (B:=B) h r=>by
  obtain⟨C,g,c⟩:=A3.yy k rv r
  rw[Bi,Bi]
  by_cases e:k0=k
  ·rw[wS e,wS e]
   exact⟨[]++C,.cons rv g,c.trans (Sx _ _)⟩
  ·rw[wP e,wP e]
   exact⟨A++C,.cons h g,c.append_left A⟩
theorem A3.snoc:∀{kvs:List (Key×V)} {a:List (Key×D)} {A B:UD} {k:Key} {v:V} {d:D},A3 K H kvs a A->Rep K H v d B->A3 K H (kvs++[(k,v)]) (a++[(k,d)]) (A++B)
 | _,_,_,B,k,_,_,.nil,rv=>by
  have q:=A3.cons (k:=k) rv A3.nil
  rw[Do] at q
  exact q
 | _,_,_,_,_,_,_,.cons h r,rv=>by rw[PP];exact .cons h (r.snoc rv)
theorem A3.put{kvs:List (Key×V)}{a:List (Key×D)}{A:UD}{v:V}{d:D}(k:Key)(r:A3 K H kvs a A)(rv:Rep K H v d []):∃C,A3 K H (putK kvs k v) (putD a k d) C/\C.Sublist A:=by
 unfold putK putD
 rw[r.any k]
 by_cases e:(a.any fun b=>decide (b.1=k))=true
 ·rw[wS e,wS e]
  exact r.yy k rv
 ·rw[wP e,wP e]
  have q:=r.snoc (k:=k) rv
  rw[Do] at q
  exact⟨A,q,Sa _⟩
theorem bc{v:V}{a:List (Key×D)}{A:UD}(h:Rep K H v (.dic a) A):∃p kvs B,v=.ref p/\Dd H p kvs/\A3 K H kvs a B/\A=p::B:=by
 cases h with
 | dic h r=>exact⟨_,_,_,rfl,.inr ⟨_,h⟩,r,rfl⟩
theorem Bg{v:V}{a:List (Key×D)}{A:UD}(h:Rep K H v (.dic a) A):∃p kvs ep B,v=.ref p/\H p=some (.dE kvs ep)/\A3 K H kvs a B/\A=p::B:=by
 cases h with
 | dic h r=>exact⟨_,_,_,_,rfl,h,r,rfl⟩
theorem V4.IH{p:Addr}{o:HO}(m:fY (H p)):V4 H (upd H p o):=⟨fun b a h=>by
  by_cases e:b=p
  ·subst e;rw[h] at m;exact m.elim
  ·rw[i3 e];exact h,fun b u c h=>by
  by_cases e:b=p
  ·subst e;rw[h] at m;exact m.elim
  ·rw[i3 e];exact h,fun b h=>by
  by_cases e:b=p
  ·subst e;rw[e9] at h;cases h
  ·rw[i3 e] at h;exact h⟩
theorem vN{c:Hp}{d ep:Nat}{acc:List (Key×V)}{ds:List (Key×D)}(g:g4 c H)(hd:c d=none)(i:H d=some (.dK acc))(r:A3 K H acc ds []):g4 c (upd H d (.dE acc ep))/\Rep K (upd H d (.dE acc ep)) (.ref d) (.dic ds) [d]:=by
 refine⟨fun b o e=>?_,.dic e9 (r.mono (V4.IH (by rw[i];exact True.intro)) fun a h=>by cases h)⟩
 rw[i3 (p8 e hd)]
 exact g _ _ e
theorem U7{v:V}{d:D}{A:UD}{k:Key}(h:Rep K H v d A)(e:ak d=some k):v=kV k:=by
 cases h<;>first | cases e | skip
 ·rfl
 ·rfl
end
section
variable{X:Cx}{cl:List Cl}{e a b c:Expr}{f:Fl}{pos:Pos}{ua ub uc:TU}{ma mb mc:TM}{fa fb fc:Fl}{x:Str}{i:Nat}
theorem vt:PU X cl (.Dict [] [] pos) .fresh (uC (.dic [])):=.of<|by
 refine⟨_,zl Cr,fun G j σ H l Q R _ E g k=>fun p d=>⟨p,[],rfl,e9,fun ep=>?_⟩⟩
 rw[bj]
 refine k _ _ _ [p] (g4.i4 d) (.dic e9 .nil) ⟨by simp,fun a h=>?_⟩ g
 have:a=p:=by simpa using h
 rw[this];exact d
def Ho:D->D->(D->Prop)->Prop:=fun d y Q=>match d with
 | .dic kvs=>∃k v,ak y=some k/\x9 kvs k=some v/\Q v
 | _=>False
theorem FW{H:Hp}{v w:V}{d e:D}{A B:UD}{Q:D->Prop}(r:Rep X.K H v d A)(o:Rep X.K H w e B)(q:Ho d e Q):∃a u z C,v=.ref a/\Y3 H a w (some u)/\Rep X.K H u z C/\C.Sublist A/\Q z:=by
 cases d<;>first | exact(show False from q).elim | skip
 rename_i g
 obtain⟨k,z,E,hz,q⟩:∃k v,ak e=some k/\x9 g k=some v/\Q v:=q
 obtain⟨p,kvs,I,rfl,y,j,rfl⟩:=bc r
 cases U7 o E
 obtain⟨u,C,G,l,h⟩:=(j.val k).1 z hz
 refine⟨p,u,z,C,rfl,?_,l,h.trans (RB _ _),q⟩
 rw[<-G]
 exact Y3.k y
def AO:D->D->D->(D->Prop)->Prop:=fun d y z Q=>match d with
 | .dic kvs=>match y with
  | .o8=>y1 z=true/\Q z
  | y=>∃k,ak y=some k/\y1 ((x9 kvs k).getD z)=true/\Q ((x9 kvs k).getD z)
 | _=>False
def Ml:D->Bool
 | .dic _=>true
 | _=>false
def hW(ua ub uc:TU):TU:=fun d Q=>ua d fun x=>Ml x=true/\ub d fun y=>uc d fun z=>AO x y z Q
theorem Ci{H:Hp}{v w u:V}{d e z:D}{A B C:UD}{Q:D->Prop}(O:Rep X.K H v d A)(J:Rep X.K H w e B)(r:Rep X.K H u z C)(q:AO d e z Q):∃a o y,v=.ref a/\Bj H a w o/\Rep X.K H (o.getD u) y []/\Q y:=by
 cases d<;>first | exact(show False from q).elim | skip
 rename_i h
 obtain⟨p,kvs,U,rfl,M,G,rfl⟩:=bc O
 have go:∀k,ak e=some k->y1 ((x9 h k).getD z)=true->Q ((x9 h k).getD z)->∃a o y,V.ref p=.ref a/\Bj H a w o/\Rep X.K H (o.getD u) y []/\Q y:=fun k j g q=>by
  cases U7 J j
  refine⟨p,bS kvs k,_,rfl,.inl (Y3.k M),?_,q⟩
  cases E:x9 h k with
  | none=>
   rw[(G.val k).2 E]
   rw[E] at g
   have l:=r.D4 g
   subst l
   exact r
  | some y=>
   obtain⟨S,T,R,I,_⟩:=(G.val k).1 y E
   rw[R]
   rw[E] at g
   have l:=I.D4 g
   subst l
   exact I
 cases e with
 | o8=>
  have q:y1 z=true/\Q z:=q
  cases fX J
  have l:=r.D4 q.1
  subst l
  exact⟨p,none,z,rfl,.inr ⟨rfl,⟨kvs,M⟩,rfl⟩,r,q.2⟩
 | int i=>obtain⟨k,j,g,q⟩:=q;exact go k j g q
 | str i=>obtain⟨k,j,g,q⟩:=q;exact go k j g q
 | _=>obtain⟨k,j,g,q⟩:=q;cases j
theorem dq {h:Pos} (hu:X.A.units+1<cLine) (T:PU X cl a fa ua) (S:PU X cl b fb ub) (O:PU X cl c fc uc) (m:M2 X a "get" h b c pos):PU X cl (.Call (.Attribute a "get" h) [b,c] [] pos) .fresh (hW ua ub uc):=.of<|by
 obtain⟨ta,pa,T⟩:=T.run
 obtain⟨tb,pb,S⟩:=S.run
 obtain⟨tc,pc,O⟩:=O.run
 refine⟨_,xJ hu pa pb pc m,fun G j σ H Y Q R U E M k=>T G j σ H Y _ _ U E M fun v H1 d A r r1 f1 J=>?_⟩
 obtain⟨hd,J⟩:=J
 cases d<;>first | cases hd | skip
 have I:=r1
 obtain⟨p,kvs,B',rfl,hp,rs,rfl⟩:=bc r1
 refine⟨p,rfl,.inl ⟨kvs,.of hp⟩,S G j σ H1 Y _ _ U (E.same r) J fun w H2 e B q r2 f2 q2=>O G j σ H2 Y _ _ U (E.same (r.trans q)) q2 fun u H3 z C l r3 f3 q3=>?_⟩
 obtain⟨p',o,y,ep,g,r4,q4⟩:=Ci ((I.same q).same l) (r2.same l) r3 q3
 cases ep
 exact⟨o,g,k _ H3 y [] ((r.trans q).trans l) r4 (B0.nil _) q4⟩
def IJ(i:Nat)(y d:D)(g:Ev)(Q:Ev->Prop):D->Prop
 | .dic kvs=>∃k,ak y=some k/\kvs.length<sizeLine/\Q (g.set i (some (.dic (putD kvs k d))))
 | _=>False
def dG(i:Nat)(l mk:TM):i9:=fun T j=>l j fun d h=>y1 d=true/\d8 i h fun _=>mk h fun y g=>d8 i g (IJ i y d g T.nx)
theorem gF{J tp:Pos}{S:Expr}{mk:TM}(hu:X.A.units+1<cLine)(i:Nat)(hv:PE X (.Name x J) (fE i))(hi:cl[i]?=some .own)(he:PN X cl e ma)(Y:PN X cl S mk)(hs:swapsWith e (some (.Subscript (.Name x J) S tp)) pos.line X.env=pure false:=by rfl) :
  L7 X cl (.Assign [.Subscript (.Name x J) S tp] e pos) (dG i ma mk):=.of<|by
 obtain⟨t,p,h⟩:=he.run
 obtain⟨t2,p2,h2⟩:=Y.run
 refine⟨_,uZ (GL hu hv p2 p hs),fun G T ρ σ H fa R hG E U le=>?_⟩
 have own:G.own i:=by unfold Ent.own;rw[hG];exact hi
 refine h G ρ σ H fa _ _ hG E U fun w H1 d B1 I a0 E1 c1 r1 n1 q=>?_
 obtain⟨im,q⟩:=q
 have eB:=r1.D4 im
 subst eB
 obtain⟨l0,e0,q⟩:=w6 q
 obtain⟨v,r,r0⟩:=E1.rep i l0 e0
 refine⟨_,r,h2 G I σ H1 a0 _ _ hG E1 q fun wk H2 dk Bk o y E2 c2 rk nk q=>?_⟩
 obtain⟨l1,e1,q⟩:=w6 q
 obtain⟨v',j,r2⟩:=E2.rep i l1 e1
 have ev:v'=v:=by rw[r] at j;cases j;rfl
 subst ev
 cases l1<;>first | exact(show False from q).elim | skip
 rename_i g
 obtain⟨k,Y,hn,q⟩:∃k,ak dk=some k/\g.length<sizeLine/\T.nx (o.set i (some (.dic (putD g k d)))):=q
 obtain⟨p,kvs,B,rfl,hp,rs,eA⟩:=bc r2
 cases U7 rk Y
 have O:Rep X.K H2 w d []:=c2.keep r1 fun i _ a l=>(by cases l)
 have nd:=E2.nd i (.inl own)
 have pin:p∈y i:=by rw[eA];exact lP
 rw[eA] at nd
 obtain⟨np,Q⟩:=List.nodup_cons.mp nd
 obtain⟨C,rC,M⟩:=rs.put k O
 have u:p∉C:=fun z=>np (M.mem z)
 have rn:∀ep,Rep X.K (upd H2 p (.dE (putK kvs k w) ep)) (.ref p) (.dic (putD g k d)) (p::C):=fun ep=>.dic e9 (rC.mono (V4.IH hp.mut) fun a l=>i3 fun e=>u (e▸l))
 have n3:∀a∈p::C,a∈y i:=fun a l=>by
  rcases List.mem_cons.mp l with z | z
  ·exact z▸pin
  ·rw[eA];exact hQ _ (M.mem z)
 have li:i<o.length:=(List.getElem?_eq_some_iff.mp e1).1
 refine⟨p,_,rfl,mS.k hp (by rw[rs.length];exact hn),p,_,e9,fun ep=>?_⟩
 rw[bj]
 exact le.nx _ _ ⟨_,_,E2.put own li j pin dc (by rw[e9];exact fun z=>nomatch z) (rn ep) (List.nodup_cons.mpr ⟨u,Q.sublist M⟩) fun a l=>.inl (n3 a l),q⟩
end
section
variable{X:Cx}{cl:List Cl}
theorem Y2{b:UL}{c:Stmt}{a:i9}(e:b=[c])(d:L7 X cl c a):jY X cl b a:=by
 rw[e]
 exact(fm d)
theorem xg{b:UL}{g d:Stmt}{c a:i9}(e:b=[g,d])(i:L7 X cl g c)(h:L7 X cl d a):jY X cl b (g9 c a):=by
 rw[e]
 exact(x3 i (fm h))
theorem yP{b:UL}{i h g:Stmt}{d c a:i9}(e:b=[i,h,g])(o:L7 X cl i d)(l:L7 X cl h c)(j:L7 X cl g a):jY X cl b (g9 d (g9 c a)):=by
 rw[e]
 exact(x3 o (x3 l (fm j)))
theorem DB{b:UL}{l j i h:Stmt}{g d c a:i9}(e:b=[l,j,i,h])(r:L7 X cl l g)(q:L7 X cl j d)(p:L7 X cl i c)(o:L7 X cl h a):jY X cl b (g9 g (g9 d (g9 c a))):=by
 rw[e]
 exact(x3 r (x3 q (x3 p (fm o))))
theorem Lf{b:UL}{p o l j i:Stmt}{h g d c a:i9}(e:b=[p,o,l,j,i])(x:L7 X cl p h)(v:L7 X cl o g)(u:L7 X cl l d)(r:L7 X cl j c)(q:L7 X cl i a):jY X cl b (g9 h (g9 g (g9 d (g9 c a)))):=by
 rw[e]
 exact(x3 x (x3 v (x3 u (x3 r (fm q)))))
theorem Pe{b:UL}{r q p o l j:Stmt}{i h g d c a:i9}(e:b=[r,q,p,o,l,j])(B:L7 X cl r i)(z:L7 X cl q h)(y:L7 X cl p g)(x:L7 X cl o d)(v:L7 X cl l c)(u:L7 X cl j a):jY X cl b (g9 i (g9 h (g9 g (g9 d (g9 c a))))):=by
 rw[e]
 exact(x3 B (x3 z (x3 y (x3 x (x3 v (fm u))))))
theorem PL{b:UL}{v u r q p o l:Stmt}{j i h g d c a:i9}(e:b=[v,u,r,q,p,o,l])(G:L7 X cl v j)(E:L7 X cl u i)(C:L7 X cl r h)(B:L7 X cl q g)(z:L7 X cl p d)(y:L7 X cl o c)(x:L7 X cl l a):jY X cl b (g9 j (g9 i (g9 h (g9 g (g9 d (g9 c a)))))):=by
 rw[e]
 exact(x3 G (x3 E (x3 C (x3 B (x3 z (x3 y (fm x)))))))
theorem PR{b:UL}{y x v u r q p o:Stmt}{l j i h g d c a:i9}(e:b=[y,x,v,u,r,q,p,o])(J:L7 X cl y l)(I:L7 X cl x j)(H:L7 X cl v i)(G:L7 X cl u h)(E:L7 X cl r g)(C:L7 X cl q d)(B:L7 X cl p c)(z:L7 X cl o a):jY X cl b (g9 l (g9 j (g9 i (g9 h (g9 g (g9 d (g9 c a))))))):=by
 rw[e]
 exact(x3 J (x3 I (x3 H (x3 G (x3 E (x3 C (x3 B (fm z))))))))
end
section
variable{X:Cx}{cl:List Cl}{a:Expr}{f:Fl}{pos:Pos}{ua:TU}
def Ed:D->(D->Prop)->Prop
 | .int i,Q=>Q (.int (-i))
 | _,_=>False
def Ny(g:D->(D->Prop)->Prop)(ua:TU):TU:=fun b Q=>ua b fun d=>g d Q
theorem ve(e:PU X cl a f ua):PU X cl (.UnaryOp .USub a pos) .fresh (Ny Ed ua):=.of<|by
 obtain⟨t,p,h⟩:=e.run
 refine⟨_,MH Jb p,fun G b σ H i Q R g E c k=>h G b σ H i _ _ g E c fun v j d B s r _ q=>?_⟩
 cases d<;>first | exact(show False from q).elim | skip
 cases x5 r
 exact⟨_,rfl,k _ j _ [] s .int (B0.nil _) q⟩
end
abbrev aa:=vI fun i j=>D.int (i-j)
abbrev FR:=gI R4 fun i j=>D.int (i/j)
abbrev je:=gI (fun _ j=>0<j) fun i j=>D.int (i%j)
abbrev NP:=gI bN fun i j=>D.int (i^j.toNat)
abbrev PK:=vI fun i j=>D.bl (decide (i<j))
abbrev Kr:=vI fun i j=>D.bl (decide (j<i))
abbrev OO:=vI fun i j=>D.bl (decide (j<=i))
theorem zZ{i j:Nat}{ds:List D}{a:Ev}{Q:Ev->Prop}(h:E7 (g1 i) (E7 (g1 j) cK) ds a Q):ds.length=2:=by
 match ds,h with
 | [_,_],_=>rfl
 | [_],h=>exact h.2.elim
 | _::_::_::_,h=>exact h.2.2.elim
section
variable{X:Cx}{cl:List Cl}{e a b tg:Expr}{es:UG}{f:Fl}{pos pos':Pos}{ua ub:TU}{ma mb:TM}{fa fb:Fl}{x:Str}{i:Nat}
def MG(g:aH)(u:TU):i9:=fun T c=>u c fun d=>g d c T.nx
theorem Mb{g:aH}(M:PU X cl e f ua)(J:gQ f .stab=true)(I:yj X cl tg g)(mk:∀{te g},PE X e te->PG X tg g->PS X (.Assign [tg] e pos) (si te g)):L7 X cl (.Assign [tg] e pos) (MG g ua):=.of<|by
 obtain⟨t,p,h⟩:=M.run
 obtain⟨Y,z,O⟩:=I.run
 refine⟨_,mk p z,fun G T l σ H fa R o E C le=>h G l σ H fa _ _ o E C fun v S d B s r Q q=>?_⟩
 exact O G l σ S fa v d B _ _ o (E.same s) r (Q.weak E J) q fun u c j U _ _ y=>le.nx _ _ ⟨c,j,U,y⟩
def HI(i:Nat)(g:Int->Int->Int)(u:TU):i9:=fun T c=>d8 i c fun x=>u c fun y=>match x,y with
 | .int a,.int b=>Nat.blt i c.length=true/\T.nx (c.set i (some (.int (g a b))))
 | _,_=>False
theorem JP{g:Int->Int->Int}{op:Operator}(z:PU X cl e f ua)(C:cl[i]?=some .bor)(mk:∀{te},PE X e te->PS X (.AugAssign (.Name x pos') op e pos) (Ly i te (Px g))):L7 X cl (.AugAssign (.Name x pos') op e pos) (HI i g ua):=.of<|by
 obtain⟨t,p,h⟩:=z.run
 refine⟨_,mk p,fun G T c σ H fa R o E l le=>?_⟩
 obtain⟨d,M,l⟩:=w6 l
 obtain⟨v,u,rv⟩:=E.rep i d M
 refine⟨v,u,h G c σ H fa _ _ o E l fun w S y B s r Q q=>?_⟩
 cases d<;>cases y<;>first | exact(show False from q).elim | skip
 cases x5 rv
 cases x5 r
 rename_i m n
 have q:Nat.blt i c.length=true/\T.nx (c.set i (some (.int (g m n)))):=q
 have I:G.cl[i]?=some .bor:=by rw[o];exact C
 refine⟨m,n,rfl,rfl,le.nx _ _ ⟨_,_,(E.same s).set (B:=[]) (Ix q.1) .int ⟨fun j _ O a J=>(by cases J),by rw[I];trivial⟩,q.2⟩⟩
def LM:D->D->(D->Prop)->Prop
 | .tup xs,.tup c,Q=>y9 xs=true/\y9 c=true/\xs.length+c.length<=sizeLine/\Q (.tup (xs++c))
 | _,_,_=>False
theorem Jg:bH X Aq LM:=by
 intro H v w d e A B Q R l j q k
 cases d<;>cases e<;>first | exact q.elim | skip
 obtain⟨p,vs,rfl,I,g⟩:=M4 l
 obtain⟨o,h,rfl,G,c⟩:=M4 j
 obtain⟨y,u,C,q⟩:=q
 have M:=g.D4 y
 have J:=c.D4 u
 subst M
 subst J
 exact⟨p,o,vs,h,rfl,rfl,I,G,by rw[g.length,c.length];exact C,fun r O s z=>k _ _ _ [] s (.tup z ((g.same s).append (c.same s))) xL (fun a E=>(by cases E)) q⟩
theorem j7.nums{K:UP}{H:Hp}:∀{bs:UH} {vs:List V} {A:UD},j7 K H vs (bs.map D.int) A->vs=bs.map V.int
 | [],_,_,r=>by cases r;rfl
 | b::bs,_,_,r=>by
  cases r with
  | cons h t=>rw[x5 h,t.nums];rfl
end
end L3
namespace L2
open PySem PySem.Spec PyProof.Rows
theorem jA{prog:Program}{w:World}{A:Around}{R:Result->Shared->Prop}{s:Shared}{p i a b:Expr}{d:UG}{scope:Scope}{g:Pos}{it:Value}{D:Addr}{env:Env}(I:Nat->Shared->Prop)
  (e:∀n s,I n s->wpAny (model prog w) A (pyNext it) (fun r o=>match r with
   | none=>R (.ok .next) o
   | some v=>wpAny (model prog w) A (letOwnedTupleGo a it v) (fun _ B=>wpAny (model prog w) A (assign a env v) (fun _ z=>
     wpAny (model prog w) A (forIn d true fun c r=>if r=true then do let ok <-isTrue c env (eval c env);pure (ForInStep.yield ok) else pure (ForInStep.yield r)) (fun ok l=>
      if ok=true then wpAny (model prog w) A (eval p env) (fun C y=>wpAny (model prog w) A (eval i env) (fun q j=>
       wpAny (model prog w) A (dictSet D C q) (fun _ u=>∃m,m<n/\I m u) (fun _ _=>False) j) (fun _ _=>False) y) (fun _ _=>False) l
      else ∃m,m<n/\I m l) (fun _ _=>False) z) (fun _ _=>False) B) (fun _ _=>False) o) (fun _ _=>False) s)
  (n:Nat) (h:I n s) :
  codeAny (model prog w) A (.compLoop (.DictComp p i [⟨a,b,d,0⟩] scope g) 0 it (.ref D) env) R s:=by
 refine TV rfl I (fun n s H=>?_) n h
 show wpAny _ A ((compTurn (.DictComp p i [⟨a,b,d,0⟩] scope g) 0 it (.ref D) env).onRaise (fun x=>do noteFrame x env;theTreesLotGoes x)) _ _ s
 refine wpAny_noted ?_
 rw[compTurn_dict]
 refine dL (Ra (dL (NE (e n s H) (fun r o G=>?_) fun _ _ h'=>h'.elim)))
 cases r with
 | none=>exact hH G
 | some v=>
  refine dL (NE G (fun _ B S=>?_) fun _ _ h'=>h'.elim)
  refine dL (NE S (fun _ z Q=>dL (NE Q (fun ok l E=>?_) fun _ _ h'=>h'.elim)) fun _ _ h'=>h'.elim)
  cases ok with
  | false=>exact hH ⟨rfl,E⟩
  | true=>
   exact dL (dL (NE E (fun C y O=>dL (Qq (NE O (fun q u M=>dL (Ra (Qq (NE M (fun _ T J=>hH ⟨rfl,J⟩) fun _ _ h'=>h'.elim)))) fun _ _ h'=>h'.elim))) fun _ _ h'=>h'.elim))
theorem yN{X:Cx}{pins:TZ}{σ:St}{H:Hp}{s:Shared}{a:Addr}{v:V}{u r:Value}{A:Around}{E:UM}{kvs:List (Key×V)}{k:Key}{Q:Unit->Shared->Prop}(I:Inv X pins σ H s)(e:H a=some (.dK kvs))(l:kvs.length<sizeLine)(g:RelV (kV k) u)(rv:RelV v r)
  (h:∀d,Inv X pins σ (upd H a (.dK (putK kvs k v))) d->Q () d):wpAny (model X.prog X.w) A (dictSet a u r) Q E s:=by
 obtain⟨z,hd,vs,b,dd⟩:=CO I.hok e
 have hz:vs.length<=sizeLine:=by rw[<-b.length];exact z
 have o:(putK kvs k v).length<=sizeLine:=by have:=K9 kvs k v;omega
 refine wpAny_dictSet_pairs (hsz:=hz) (bE g) dd fun h' c i=>h _ ?_
 have p:∃q,h'.get? a=some q:=let ⟨q,_,_,j,_⟩:=c;⟨q,j⟩
 exact fV I (by rw[e];exact True.intro) i p (mm o hd (b.put k rv) c)
def NZ(J:It)(g:TG)(tc:TT)(tk te:TE)(e:St)(Q:VK)(l:Hp):Prop:=∀d,l d=none ->
 ∃W:Nat->Nat->Hp->Prop,(∃m,W 0 m (upd l d (.dK [])))/\∀i m H,W i m H ->
  (J.stop i H/\Q (.ref d) H) \/
  (J.go i H/\∀x o,J.yld i H x o->g x e o fun a r=>tc a r fun b j=>
   if b=true then tk a j fun p q=>te a q fun v h=>∃acc k,p=kV k/\h d=some (.dK acc)/\acc.length<sizeLine/\∃c,c<m/\W (i+1) c (upd h d (.dK (putK acc k v)))
   else ∃c,c<m/\W (i+1) c j)
theorem kg{X:Cx}{N:UE}{scope:Scope}{cap:UA}{j:UD}{pins:TZ}{σ:St}{H:Hp}{s:Shared}{kx vx z a2:Expr}{a6:UG}{al:Pos}{g:UB->UD->Shared->Hp->TG}{tc:UB->UD->Shared->Hp->TT}{tk te:UB->UD->Shared->Hp->TE}{J:It}{it:Addr}{tn:Nat->Heap->Prop}
  {E:UM} {RR:Value->Addr->Result->Shared->Prop} {Q:VK} (U:X.calm=true) (cf:L6 X N scope cap) (hk:scope.kind=.function)
  (hg:∀cl j s H,PG (A7 X N scope cl j s H) z (g cl j s H)) (hc:∀cl j s H,uY (A7 X N scope cl j s H) a6 (tc cl j s H)) (hx:∀cl j s H,PE (A7 X N scope cl j s H) kx (tk cl j s H)) (he:∀cl j s H,PE (A7 X N scope cl j s H) vx (te cl j s H))
  (I:Inv X pins σ H s) (T:Turn X.prog X.w X.K z J j it tn) (st:tn 0 s.heap) (hf:∀b∈j,M7 X pins H b) (q:∀cl j s B,NZ J (g cl j s B) (tc cl j s B) (tk cl j s B) (te cl j s B) (L5 cap σ) Q H)
  (b5:∀d C B s' m,Inv X pins σ B s'->s'.heap.Ns C m->M7 X pins B C->Q (.ref d) B->RR (.ref d) C (.ok .next) s') :
  wpAny (model X.prog X.w) X.A newDict (fun acc G=>wpAny (model X.prog X.w) X.A (newFunctionEnv scope X.env.globals (A9 X.env scope.names []) [] X.env.qual none .none (some X.env)) (fun a3 s4=>
   codeAny (model X.prog X.w) X.A (.compStart (.DictComp kx vx [⟨z,a2,a6,0⟩] scope al) 0 (.ref it) acc { a3 with scope:=relabel scope X.env }) (RR acc a3.locals) s4) E G) E s:=by
 refine IR (Tn cf.nocell (by intro y hy;simp at hy) (fun h1 a8 a7=>?_) hk)
 have I3:Inv X pins σ (upd H s.heap.objs.size (.dK [])) { s with heap:=s.heap.push { cls:=.type "dict",data:=.dict #[] } }:=I.laid (a:=s.heap.objs.size) (o:=.dK []) (t':=s.toks) (fun _ _ q=>hD _ q) (sK _) (cU s.heap I.big)
 have b4:H s.heap.objs.size=none:=I.fresh
 obtain⟨W,⟨m0,w0⟩,a0⟩:=q (A9 X.env scope.names []) j { s with heap:=s.heap.push { cls:=.type "dict",data:=.dict #[] } } (upd H s.heap.objs.size (.dK [])) s.heap.objs.size b4
 have am:∀b∈j,b<s.heap.objs.size:=fun b l=>by
  obtain⟨o,e,_⟩:=T.obj 0 _ st b l
  exact AT e
 have a9:∀b∈j,M7 X pins (upd H s.heap.objs.size (.dK [])) b:=fun b l=>⟨by rw[i3 (Ew (am b l))];exact(hf b l).1,(hf b l).2⟩
 have S:∀b∈j,b<(s.heap.push { cls:=.type "dict",data:=.dict #[] }).objs.size:=fun b l=>by
  rw[QL]
  exact QX (am b l)
 dsimp only at a8 a7 ⊢
 generalize Y:({ s with heap:=s.heap.push { cls:=.type "dict",data:=.dict #[] } }:Shared)=G at I3 a0
 have M:G.heap=s.heap.push { cls:=.type "dict",data:=.dict #[] }:=by rw[<-Y]
 have bm:G.toks=s.toks:=by rw[<-Y]
 rw[<-M] at a8 a7 S
 have R:∀b o,G.heap.get? b=some o->h1.get? b=some o:=fun b o e=>a7.extBut b o (Ew (AT e)) (hD _ e)
 have keep:∀b o,s.heap.get? b=some o->h1.get? b=some o:=fun b o e=>R b o (by rw[M];exact hD _ e)
 have Ic:=gH (tk:=s.toks) I3 cf hk a9 S a8 R
 have ad:tn 0 h1:=T.keep 0 _ _ st fun b _ o e=>keep b o e
 have b7:∀b∈j,(upd H s.heap.objs.size (.dK [])) b=none:=fun b l=>(a9 b l).1
 have O:∀{B:Hp},(∀b∈j,B b=none)->∀b∈j,M7 (A7 X N scope (A9 X.env scope.names []) j G (upd H s.heap.objs.size (.dK []))) [] B b:=fun hn b l=>
  ⟨hn b l,Ew (S b l),Ic.ok.exfs b l,.inl l,fun x c h=>(hf b l).2.2.2.2.1 x c (Z6 h),fun p hp=>absurd (show p∈([]:TZ) from hp) (by simp)⟩
 have bv:G.os=s.os:=by rw[<-Y]
 have c0:G.gens=s.gens:=by rw[<-Y]
 have a1:codeAny (model X.prog X.w) X.A (.compLoop (.DictComp kx vx [⟨z,a2,a6,0⟩] scope al) 0 (.ref it) (.ref s.heap.objs.size) (compEnvC scope (A9 X.env scope.names []) G.heap.objs.size X.env))
   (RR (.ref s.heap.objs.size) G.heap.objs.size) { G with heap:=h1,toks:=s.toks }:=by
  refine jA (fun n s'=>∃i B,Inv (A7 X N scope (A9 X.env scope.names []) j G (upd H s.heap.objs.size (.dK []))) [] (L5 cap σ) B s'/\tn i s'.heap/\(∀b∈j,B b=none)/\W i n B) ?_ m0 ⟨0,_,Ic,ad,b7,w0⟩
  rintro n s4 ⟨i,H4,I4,ac,ap,w4⟩
  rcases a0 i n H4 w4 with⟨stop,qn⟩ | ⟨go,step⟩
  ·refine y3 (T.done (A7 X N scope (A9 X.env scope.names []) j G (upd H s.heap.objs.size (.dK []))) rfl rfl rfl U i [] s4 _ H4 (fun _ _=>False) I4 (O ap) ac stop) fun r s5 ⟨hr,I5⟩=>?_
   subst hr
   obtain⟨m,b3,_⟩:=I5.loc
   refine b5 _ _ H4 s5 m ?_ b3 (I3.fH (sK _) I5.free) qn
   exact I3.zP I5.os I5.base I5.hok I5.bare fun b l=>⟨(hf b l).2.2.2.1,(hf b l).2.1,(hf b l).2.2.2.2.1,(hf b l).2.2.2.2.2⟩
  ·refine y3 (T.item (A7 X N scope (A9 X.env scope.names []) j G (upd H s.heap.objs.size (.dK []))) rfl rfl rfl U i [] s4 _ H4 (fun _ _=>False) I4 (O ap) ac go) fun r s5 ⟨u,hr,h5⟩=>?_
   subst hr
   refine y3 h5 fun _ s6 ⟨x,H6,I6,r6,y6,a5,b6⟩=>?_
   have b9:=I6.pinned (O b6) (T.obj _ _ a5)
   refine y3 (hg _ _ _ _ _ s6 _ H6 x u _ b9 r6 (step x H6 y6)) fun _ s7 ⟨a4,H7,I7,q7⟩=>?_
   refine y3 (hc _ _ _ _ _ s7 a4 H7 _ I7 q7) fun ok s8 ⟨H8,I8,q8⟩=>?_
   have again:∀{ab:St} {H9:Hp} {s9:Shared},Inv (A7 X N scope (A9 X.env scope.names []) j G (upd H s.heap.objs.size (.dK []))) ([]++aQ j s6.heap) ab H9 s9->(∃m',m'<n/\W (i+1) m' H9) ->
     ∃m,m<n/\∃i B,Inv (A7 X N scope (A9 X.env scope.names []) j G (upd H s.heap.objs.size (.dK []))) [] (L5 cap σ) B s9/\tn i s9.heap/\(∀b∈j,B b=none)/\W i m B:=fun {ab H9 s9} I9 ⟨m',hm,w9⟩=>by
    refine⟨m',hm,i+1,H9,eK I3 cf a9 I9.R3,T.keep _ _ _ a5 fun b l o e=>(I9.pin (b,o) (wT _ (wT _ (C3 l e)))).1,fun b l=>?_,w9⟩
    obtain⟨o,e,d⟩:=T.obj _ _ a5 b l
    exact(I9.pin (b,o) (wT _ (wT _ (C3 l e)))).2.1
   cases ok with
   | false=>exact again I8 q8
   | true=>
    show wpAny _ _ (eval kx _) _ _ s8
    refine y3 (hx _ _ _ _ _ s8 a4 H8 _ I8 q8) fun y0 b0 ⟨v0,bi,b8,b1,b2⟩=>?_
    refine y3 (he _ _ _ _ _ b0 a4 bi _ b8 b2) fun y s9 ⟨v,H9,I9,r9,acc,k,ek,ao,an,m',hm,w9⟩=>?_
    subst ek
    exact yN (X:=A7 X N scope (A9 X.env scope.names []) j G (upd H s.heap.objs.size (.dK []))) I9 ao an b1 r9 fun bn bg=>again bg ⟨m',hm,w9⟩
 have e4:({ s with heap:=h1,toks:=s.toks+([]:UC).length }:Shared)={ G with heap:=h1,toks:=s.toks }:=by rw[<-Y];rfl
 rw[<-M,e4]
 exact codeAny_compStart_dict a1 (T.self _ 0 _ _ _ ad a1)
def MT(cap:UA)(c:TI)(g:UB->UD->Shared->Hp->TG)(tc:UB->UD->Shared->Hp->TT)(tk te:UB->UD->Shared->Hp->TE):TE:=fun σ H Q=>c σ H fun J d=>∀cl a s b,NZ J (g cl a s b) (tc cl a s b) (tk cl a s b) (te cl a s b) (L5 cap σ) Q d
theorem HQ{X:Cx}{XN N:UE}{XS scope:Scope}{cap:UA}{y u a c:Expr}{i:UG}{o:Pos}{r:TI}{g:UB->UD->Shared->Hp->TG}{tc:UB->UD->Shared->Hp->TT}{tk te:UB->UD->Shared->Hp->TE}
  (j:X0 XN N XS scope cap=true) (hN:X.N=XN) (hS:X.env.scope=XS) (z:scope.kind=.function) (e:X.calm=true) (S:PI X a c r)
  (U:∀cl b s H,PG (A7 X N scope cl b s H) a (g cl b s H)) (hc:∀cl b s H,uY (A7 X N scope cl b s H) i (tc cl b s H)) (M:∀cl b s H,PE (A7 X N scope cl b s H) y (tk cl b s H)) (Y:∀cl b s H,PE (A7 X N scope cl b s H) u (te cl b s H))
  (O:∀x,foldedSetIterable c X.env x=pure x:=by intro _;rfl):PE X (.DictComp y u [⟨a,c,i,0⟩] scope o) (MT cap r g tc tk te):=by
 refine .of ?_
 intro pins s σ H Q I h
 have p:=O6 hN hS j
 rw[arm_eval_DictComp]
 refine Ry (use:=none) rfl O (R8 (I.R9 p)) z p.loc (y3 (S pins s σ H _ I h) fun v s1 h1=>y3 h1 fun G s2 h2=>?_)
 obtain⟨it,b,tn,J,H2,rfl,I2,T,l,f2,q⟩:=h2
 exact kg (RR:=fun acc C=>compPost (model X.prog X.w) X.A X.xe none (EP X pins σ Q) acc C) e p z U hc M Y I2 T l f2 q fun d C H' s' m I' R hC E=>⟨m,R,fun h' B=>⟨.ref d,H',I'.qW hC B,rfl,E⟩⟩
theorem xI{X:Cx}{i:Nat}{y:Str}{XN N:UE}{XS scope:Scope}{cap:UA}{M G b c:Expr}{l:UG}{p o B:Pos}{wi:TI}{g:UB->UD->Shared->Hp->TG}{tc:UB->UD->Shared->Hp->TT}{tk te:UB->UD->Shared->Hp->TE}
  (Y:X.N.Nodup) (U:X.N[i]?=some y) (hy:X.env.scope.names.lookup y=some .local)
  (E:X0 XN N XS scope cap=true) (hN:X.N=XN) (hS:X.env.scope=XS) (hk:scope.kind=.function) (r:X.calm=true) (hi:PI X b c wi)
  (hg:∀cl j s H,PG (A7 X N scope cl j s H) b (g cl j s H)) (hc:∀cl j s H,uY (A7 X N scope cl j s H) l (tc cl j s H)) (hx:∀cl j s H,PE (A7 X N scope cl j s H) M (tk cl j s H)) (he:∀cl j s H,PE (A7 X N scope cl j s H) G (te cl j s H))
  (S:swapsWith (.DictComp M G [⟨b,c,l,0⟩] scope p) (some (.Name y B)) o.line X.env=pure true:=by rfl)
  (hs:∀x,foldedSetIterable c X.env x=pure x:=by intro _;rfl):PS X (.Assign [.Name y B] (.DictComp M G [⟨b,c,l,0⟩] scope p) o) (si (MT cap wi g tc tk te) (kA i)):=by
 refine .of ?_
 intro pins s σ H D I h
 have cf:=O6 hN hS E
 rw[Tk _ _ _ _ S]
 refine dL (Ra (dL ?_))
 show wpAny _ X.A (do let _ <-comprehension (.DictComp M G [⟨b,c,l,0⟩] scope p) scope X.env _ newDict false (eval c X.env) (some (assign (.Name y B) X.env))) _ _ s
 refine dL (NE (Ry (use:=some (assign (.Name y B) X.env)) (Q:=fun _ u=>SP X pins D .next u) rfl hs (R8 (I.R9 cf)) hk cf.loc (y3 (hi pins s σ H _ I h) fun v s1 h1=>y3 h1 fun a0 s2 h2=>?_))
  (fun _ u hq=>hH (hH hq)) fun _ _ e=>e)
 obtain⟨it,j,tn,J,H2,rfl,I2,T,O,f2,q⟩:=h2
 refine kg (RR:=fun acc C=>compPost (model X.prog X.w) X.A X.xe (some (assign (.Name y B) X.env)) (fun _ u=>SP X pins D .next u) acc C) r cf hk hg hc hx he I2 T O f2 q fun d C H' u m I' hn hC q'=>?_
 show wpAny _ _ (assign (.Name y B) X.env (.ref d)) _ _ u
 refine SS (br (v:=.ref d) I' Y U (.inl hy) rfl (fun s2 I2 ⟨a,sb,ha⟩=>⟨m,hn.sameBut sb ?_,fun h' R=>⟨_,H',I2.qW hC R,q'⟩⟩) (.inr hy))
 rcases ha with z | z
 ·rw[z];exact hC.2.1
 ·exact fun e=>hC.2.2.2.2.1 y a z e.symm
end L2
namespace L3
open PySem PySem.Spec L2
theorem A3.same{K:UP}{H b:Hp}(s:g4 H b){v:List (Key×V)}{d:List (Key×D)}{A:UD}(r:A3 K H v d A):A3 K b v d A:=
 r.mono (V4.of s) fun a c=>by
  obtain⟨o,e⟩:=fY.some (r.ah a c)
  rw[e];exact s a o e
def lI(g:aH)(tc:ar)(tk te:TU)(c:Ev):List D->List (Key×D)->(List (Key×D)->Prop)->Prop
 | [],acc,Q=>Q acc
 | x::xs,acc,Q=>g x c fun a=>tc a fun b=>Br b (tk a fun y=>te a fun d=>∃k,ak y=some k/\y1 d=true/\lI g tc tk te c xs (putD acc k d) Q) (lI g tc tk te c xs acc Q)
def Iw(cap:UA)(b:lG)(g:aH)(tc:ar)(tk te:TU):TU:=fun a Q=>b a fun xs=>xs.length<sizeLine/\lI g tc tk te (T7 cap a) xs [] fun ds=>Q (.dic ds)
theorem Nu{K:UP}{cap:UA}{g3:aH}{a0:ar}{X Y:TU}{fk fv:Fl}{J:It}{g:TG}{tc:TT}{tk te:TE}{xs:List D}{C:UD}{c:Ev}{σ:St}{G:Ent}{z:Hp}{r:UN}{Q:List (Key×D)->Prop}{R:VK}
  (hg:∀(G:Ent) (c:Ev) (σ:St) (H:Hp) (r:UN) (v:V) (d:D) (B:UD) (Q:Ev->Prop) (R:St->Hp->Prop),G.cl=C1 cap->E3 K G c σ H r->Rep K H v d B->(∀i,G.own i->∀a∈B,a∉r i)->g3 d c Q ->
   (∀S U a3,E3 K G U S H a3->(∀i,G.own i->a3 i=r i/\S[i]?=σ[i]?)->(∀i,G.own i->U[i]?=c[i]?)->Q U->R S H)->g v σ H R)
  (hc:∀(G:Ent) (c:Ev) (σ:St) (H:Hp) (r:UN) (Q:Bool->Prop) (R:Bool->Hp->Prop),G.cl=C1 cap->E3 K G c σ H r->a0 c Q->(∀b p,g4 H p->Q b->R b p)->tc σ H R)
  (hk:∀(G:Ent) (c:Ev) (σ:St) (H:Hp) (r:UN) (Q:D->Prop) (R:VK),G.cl=C1 cap->E3 K G c σ H r->X c Q->(∀v p d B,g4 H p->Rep K p v d B->B0 G H r B fk->Q d->R v p)->tk σ H R)
  (he:∀(G:Ent) (c:Ev) (σ:St) (H:Hp) (r:UN) (Q:D->Prop) (R:VK),G.cl=C1 cap->E3 K G c σ H r->Y c Q->(∀v p d B,g4 H p->Rep K p v d B->B0 G H r B fv->Q d->R v p)->te σ H R)
  (E:E3 K G c σ z r) (it:bu K J xs C z) (tr:∀a∈C,z a≠none) (hn:xs.length<sizeLine) (q:lI g3 a0 X Y (T7 cap c) xs [] Q)
  (k:∀d p acc ds,g4 z p->z d=none->p d=some (.dK acc)->A3 K p acc ds []->Q ds->R (.ref d) p):NZ J g tc tk te (L5 cap σ) R z:=by
 intro d hd
 refine⟨fun i m H=>m=xs.length-i/\i<=xs.length/\g4 z H/\∃acc ds,H d=some (.dK acc)/\acc.length<=i/\A3 K H acc ds []/\lI g3 a0 X Y (T7 cap c) (xs.drop i) ds Q,
  ⟨xs.length,by simp,KM _,g4.i4 hd,[],[],e9,sK _,.nil,q⟩,?_⟩
 rintro i m H ⟨rfl,a6,s1,acc,ds,M,a7,rs,q⟩
 have tf:Tf z H:=⟨fun b ys h=>s1 _ _ h,fun b o u h=>s1 _ _ h⟩
 have kC:∀a∈C,H a=z a:=fun a ha=>by
  obtain⟨o,eo⟩:=Option.ne_none_iff_exists'.mp (tr a ha)
  rw[eo];exact s1 a o eo
 by_cases I:i<xs.length
 ·right
  obtain⟨go,yl⟩:=(it H tf kC i).2 _ (iU I)
  rw[QK I] at q
  refine⟨go,fun y H2 hy=>?_⟩
  obtain⟨s2,By,rB,sB⟩:=yl y H2 hy
  have E2:=(E.same (s1.trans s2)).comp cap
  refine hg (X9 cap) _ _ H2 _ y _ By _ _ rfl E2 rB (fun j hj=>(D7 hj).elim) q fun O T a1 a2 _ _ q3=>?_
  refine hc (X9 cap) T O H2 a1 _ _ rfl a2 q3 fun b H3 s3 q4=>?_
  have x:H3 d=some (.dK acc):=s3 _ _ (s2 _ _ M)
  cases b with
  | false=>
   rw[wP tL]
   exact⟨xs.length-(i+1),by omega,rfl,I,(s1.trans s2).trans s3,acc,ds,x,by omega,(rs.same s2).same s3,q4.f rfl⟩
  | true=>
   rw[wS rfl]
   refine hk (X9 cap) T O H3 a1 _ _ rfl (a2.same s3) (q4.t rfl) fun vk H4 dk Bk s4 rk a8 q5=>?_
   refine he (X9 cap) T O H4 a1 _ _ rfl ((a2.same s3).same s4) q5 fun v H5 dv Bv s5 rv fo q6=>?_
   obtain⟨kk,ek,im,q6⟩:=q6
   have l:H5 d=some (.dK acc):=s5 _ _ (s4 _ _ x)
   have a4:g4 z H5:=(((s1.trans s2).trans s3).trans s4).trans s5
   have st:V4 H5 (upd H5 d (.dK (putK acc kk v))):=⟨fun b ys h=>by
     by_cases e:b=d
     ·subst e;rw[l] at h;cases h
     ·rw[i3 e];exact h,fun b u w' h=>by
     by_cases e:b=d
     ·subst e;rw[l] at h;cases h
     ·rw[i3 e];exact h,fun b h=>by
     by_cases e:b=d
     ·subst e;rw[e9] at h;cases h
     ·rw[i3 e] at h;exact h⟩
   have a5:=(((rs.same s2).same s3).same s4).same s5
   have eB:=rv.D4 im
   subst eB
   obtain⟨C',rp,sC⟩:=a5.put kk rv
   have eC:C'=[]:=List.sublist_nil.mp sC
   subst eC
   refine⟨acc,kk,U7 rk ek,l,by omega,xs.length-(i+1),by omega,rfl,I,fun b o e=>?_,putK acc kk v,putD ds kk dv,e9,by have:=K9 acc kk v;omega,?_,q6⟩
   ·rw[i3 (p8 e hd)]
    exact a4 _ _ e
   ·exact rp.mono st fun a ha=>by cases ha
 ·have ei:i=xs.length:=by omega
  subst ei
  left
  rw[RP] at q
  refine⟨(it H tf kC _).1 rfl,k d H acc ds s1 hd M rs q⟩
section
variable{X:Cx}{cl:List Cl}{pos:Pos}{f fk fv:Fl}{XN N:UE}{XS scope:Scope}{cap:UA}{kx vx target iter:Expr}{ifs:UG}{ui:lG}{g3:aH}{tc3:ar}{tk3 te3:TU}
theorem Hh(i:X0 XN N XS scope cap=true)(hN:X.N=XN)(hS:X.env.scope=XS)(Y:scope.kind=.function)(h:X.calm=true)(p:bU X cl target iter f ui)
  (u:∀c b s H,yj (A7 X N scope c b s H) (C1 cap) target g3) (y:∀c b s H,qU (A7 X N scope c b s H) (C1 cap) ifs tc3) (o:∀c b s H,PU (A7 X N scope c b s H) (C1 cap) kx fk tk3) (v:∀c b s H,PU (A7 X N scope c b s H) (C1 cap) vx fv te3)
  (U:∀x,foldedSetIterable iter X.env x=pure x:=by intro _;rfl):PU X cl (.DictComp kx vx [⟨target,iter,ifs,0⟩] scope pos) .fresh (Iw cap ui g3 tc3 tk3 te3):=.of<|by
 obtain⟨wi,S,p⟩:=p.run
 refine⟨_,zl<|HQ (g:=fun c b s H=>Classical.choose (u c b s H).run) (tc:=fun c b s H=>Classical.choose (y c b s H).run) (tk:=fun c b s H=>Classical.choose (o c b s H).run) (te:=fun c b s H=>Classical.choose (v c b s H).run) i hN hS Y h S
  (fun c b s H=>(oT (u c b s H).run).1) (fun c b s H=>(oT (y c b s H).run).1) (fun c b s H=>(oT (o c b s H).run).1) (fun c b s H=>(oT (v c b s H).run).1) U,fun G z σ H fa Q R hG E T k=>?_⟩
 refine p G z σ H fa _ _ hG E T fun J H1 xs C s it tr fo q=>fun c b j l=>?_
 refine Nu (K:=X.K) (oT (u c b j l).run).2 (oT (y c b j l).run).2 (oT (o c b j l).run).2 (oT (v c b j l).run).2 (E.same s) it tr q.1 q.2 fun d H2 acc ds I hd e M O=>⟨d,acc,rfl,e,fun ep=>?_⟩
 obtain⟨B,r⟩:=vN (ep:=ep) I hd e M
 exact k _ _ _ [d] (s.trans B) r ⟨by simp,fun a ha=>by cases List.mem_singleton.mp ha;exact s.free hd⟩ O
theorem mY{i:Nat}{y:Str}{e Y:Pos}(S:X.N.Nodup)(z:X.N[i]?=some y)(hy:X.env.scope.names.lookup y=some .local)(O:xB cl[i]? .fresh i=true)
  (l:X0 XN N XS scope cap=true) (hN:X.N=XN) (hS:X.env.scope=XS) (hk:scope.kind=.function) (j:X.calm=true) (B:bU X cl target iter f ui)
  (I:∀c b s H,yj (A7 X N scope c b s H) (C1 cap) target g3) (Q:∀c b s H,qU (A7 X N scope c b s H) (C1 cap) ifs tc3) (u:∀c b s H,PU (A7 X N scope c b s H) (C1 cap) kx fk tk3) (M:∀c b s H,PU (A7 X N scope c b s H) (C1 cap) vx fv te3)
  (v:swapsWith (.DictComp kx vx [⟨target,iter,ifs,0⟩] scope pos) (some (.Name y Y)) e.line X.env=pure true:=by rfl)
  (hs:∀x,foldedSetIterable iter X.env x=pure x:=by intro _;rfl):L7 X cl (.Assign [.Name y Y] (.DictComp kx vx [⟨target,iter,ifs,0⟩] scope pos) e) (u4 i (Iw cap ui g3 tc3 tk3 te3)):=.of<|by
 obtain⟨wi,pi,B⟩:=B.run
 refine⟨_,uZ<|xI (g:=fun c b s H=>Classical.choose (I c b s H).run) (tc:=fun c b s H=>Classical.choose (Q c b s H).run) (tk:=fun c b s H=>Classical.choose (u c b s H).run) (te:=fun c b s H=>Classical.choose (M c b s H).run) S z hy l hN hS hk j pi
  (fun c b s H=>(oT (I c b s H).run).1) (fun c b s H=>(oT (Q c b s H).run).1) (fun c b s H=>(oT (u c b s H).run).1) (fun c b s H=>(oT (M c b s H).run).1) v hs,fun G T ρ σ H fa R hG E hu le=>?_⟩
 refine B G ρ σ H fa _ _ hG E hu fun J H1 xs C s it tr fo q=>fun c b o p=>?_
 refine Nu (K:=X.K) (oT (I c b o p).run).2 (oT (Q c b o p).run).2 (oT (u c b o p).run).2 (oT (M c b o p).run).2 (E.same s) it tr q.1 q.2 fun d H2 acc ds s2 hd h rs U=>⟨d,acc,h,fun ep=>?_⟩
 obtain⟨s3,r⟩:=vN (ep:=ep) s2 hd h rs
 exact le.nx _ _ ⟨_,_,(E.same (s.trans s3)).set (Ix U.1) r (fM.of (f:=.fresh) E ⟨by simp,fun a ha=>by cases List.mem_singleton.mp ha;exact s.free hd⟩ (by rw[hG];exact O)),U.2⟩
end
mutual
def pyd:D->PyData
 | .bl b=>.bool b
 | .int i=>.int i
 | .str x=>.str x
 | .tup xs=>.tuple (P8 xs)
 | .lst xs=>.list (P8 xs)
 | .fz xs=>.list (P8 xs)
 | _=>.none
def P8:List D->List PyData
 | []=>[]
 | x::xs=>pyd x::P8 xs
end
mutual
def pO:D->Bool
 | .o8=>true
 | .bl _=>true
 | .int _=>true
 | .str _=>true
 | .tup xs=>jC xs
 | .lst xs=>jC xs
 | .fz xs=>jC xs
 | _=>false
def jC:List D->Bool
 | []=>true
 | x::xs=>pO x&&jC xs
end
section
variable{X:Cx}{pins:TZ}{σ:St}{H:Hp}{s:Shared}
mutual
theorem aT(I:Inv X pins σ H s):∀{v:V} {d:D} {A:UD} {u:Value},Rep X.K H v d A->pO d=true->RelV v u->∃as,Reads s.heap u (pyd d) as
 | _,_,_,_,.o8,_,r=>by cases r;exact⟨_,.none⟩
 | _,_,_,_,.bl,_,r=>by cases r;exact⟨_,.bool _⟩
 | _,_,_,_,.int,_,r=>by obtain⟨t,rfl⟩:=r;exact⟨_,.int _ t⟩
 | _,_,_,_,.str,_,r=>by obtain⟨t,rfl⟩:=r;exact⟨_,.str _ t⟩
 | _,_,_,_,.tup h rs,p,r=>by
  cases r
  obtain⟨its,rv,⟨o,ho,hc,n,hd⟩,_⟩:=I.tuple (Q0.of h)
  obtain⟨as,q⟩:=aV I rs (by simpa[pO] using p) rv
  exact⟨_,.tuple ho hc hd (by simpa using q)⟩
 | _,_,_,_,.lst h rs,p,r=>by
  cases r
  obtain⟨its,rv,pl,_⟩:=I.list (L1.of h)
  obtain⟨o,ho,hc,n,hd⟩:=pl.isList
  obtain⟨as,q⟩:=aV I rs (by simpa[pO] using p) rv
  exact⟨_,.list ho hc hd (by simpa using q)⟩
 | _,_,_,_,.frz h rs,p,r=>by
  cases r
  obtain⟨its,rv,pl,_⟩:=I.list h.sq
  obtain⟨o,ho,hc,n,hd⟩:=pl.isList
  obtain⟨as,q⟩:=aV I rs (by simpa[pO] using p) rv
  exact⟨_,.list ho hc hd (by simpa using q)⟩
 | _,_,_,_,.dic _ _,p,_=>by simp[pO] at p
 | _,_,_,_,.obj _ _,p,_=>by simp[pO] at p
 | _,_,_,_,.st _ _,p,_=>by simp[pO] at p
 | _,_,_,_,.dn _,p,_=>by simp[pO] at p
 | _,_,_,_,.xc _,p,_=>by simp[pO] at p
 | _,_,_,_,.ty,p,_=>by simp[pO] at p
 | _,_,_,_,.adr,p,_=>by simp[pO] at p
theorem aV(I:Inv X pins σ H s):∀{v:List V} {d:List D} {A:UD} {u:UF},j7 X.K H v d A->jC d=true->Vals v u->∃as,ReadsAll s.heap u (P8 d) as
 | _,_,_,_,.nil,_,r=>by cases r;exact⟨_,.nil⟩
 | _,_,_,_,.cons h rs,p,r=>by
  cases r with
  | cons a b=>
   simp only[jC,Fa] at p
   obtain⟨as,q⟩:=aT I h p.1 a
   obtain⟨bs,q2⟩:=aV I rs p.2 b
   exact⟨_,.cons q q2⟩
end
end
mutual
def Y7:D->Bool
 | .o8=>true
 | .bl _=>true
 | .int i=>decide (i.natAbs<10^150)
 | .str x=>x.cps.toList.all fun c=>decide (c<16^8)
 | .tup xs=>jv xs
 | .lst xs=>jv xs
 | .fz xs=>jv xs
 | _=>false
def jv:List D->Bool
 | []=>true
 | x::xs=>Y7 x&&jv xs
end
mutual
theorem Gm:∀d:D,Y7 d=true->pO d=true
 | .o8,_=>rfl
 | .bl _,_=>rfl
 | .int _,_=>rfl
 | .str _,_=>rfl
 | .tup xs,h=>by rw[pO];exact du xs (by simpa[Y7] using h)
 | .lst xs,h=>by rw[pO];exact du xs (by simpa[Y7] using h)
 | .fz xs,h=>by rw[pO];exact du xs (by simpa[Y7] using h)
 | .dic _,h=>by simp[Y7] at h
 | .obj _ _,h=>by simp[Y7] at h
 | .st _,h=>by simp[Y7] at h
 | .dn _,h=>by simp[Y7] at h
 | .xc _ _ _,h=>by simp[Y7] at h
 | .ty _,h=>by simp[Y7] at h
 | .adr _,h=>by simp[Y7] at h
theorem du:∀d:List D,jv d=true->jC d=true
 | [],_=>rfl
 | x::xs,h=>by
  simp only[jv,Fa] at h
  simp only[jC,Fa]
  exact⟨Gm x h.1,du xs h.2⟩
end
theorem KQ{i:Int}(h:i.natAbs<10^150):i.natAbs.log2<1920:=by
 by_cases e:i.natAbs=0
 ·rw[e];decide
 ·exact(Nat.log2_lt e).mpr (Gc h (by decide +kernel))
mutual
theorem qS:∀d:D,Y7 d=true->(pyd d).showable=true/\(pyd d).leavesShort 151=true/\(pyd d).hasDict=false
 | .o8,_=>⟨by simp[pyd,PyData.showable],by simp[pyd,PyData.leavesShort],by simp[pyd,PyData.hasDict]⟩
 | .bl _,_=>⟨by simp[pyd,PyData.showable],by simp[pyd,PyData.leavesShort],by simp[pyd,PyData.hasDict]⟩
 | .int i,h=>by
  have h:i.natAbs<10^150:=by simpa[Y7] using h
  refine⟨?_,?_,by simp[pyd,PyData.hasDict]⟩
  ·simp only[pyd,PyData.showable];exact Da (KQ h)
  ·simp only[pyd,PyData.leavesShort,PyData.shown]
   refine Da ?_
   rw[ofString_length]
   exact int_text_length_le10 (by decide) h
 | .str x,h=>⟨by simp[pyd,PyData.showable],by simpa[pyd,PyData.leavesShort,Y7] using h,by simp[pyd,PyData.hasDict]⟩
 | .tup xs,h=>by
  have:=bo xs (by simpa[Y7] using h)
  exact⟨by simpa[pyd,PyData.showable] using this.1,by simpa[pyd,PyData.leavesShort] using this.2.1,by simpa[pyd,PyData.hasDict] using this.2.2⟩
 | .lst xs,h=>by
  have:=bo xs (by simpa[Y7] using h)
  exact⟨by simpa[pyd,PyData.showable] using this.1,by simpa[pyd,PyData.leavesShort] using this.2.1,by simpa[pyd,PyData.hasDict] using this.2.2⟩
 | .fz xs,h=>by
  have:=bo xs (by simpa[Y7] using h)
  exact⟨by simpa[pyd,PyData.showable] using this.1,by simpa[pyd,PyData.leavesShort] using this.2.1,by simpa[pyd,PyData.hasDict] using this.2.2⟩
 | .dic _,h=>by simp[Y7] at h
 | .obj _ _,h=>by simp[Y7] at h
 | .st _,h=>by simp[Y7] at h
 | .dn _,h=>by simp[Y7] at h
 | .xc _ _ _,h=>by simp[Y7] at h
 | .ty _,h=>by simp[Y7] at h
 | .adr _,h=>by simp[Y7] at h
theorem bo:∀d:List D,jv d=true->PyData.showableAll (P8 d)=true/\PyData.leavesShortAll 151 (P8 d)=true/\PyData.hasDictAll (P8 d)=false
 | [],_=>⟨by simp[P8,PyData.showableAll],by simp[P8,PyData.leavesShortAll],by simp[P8,PyData.hasDictAll]⟩
 | x::xs,h=>by
  simp only[jv,Fa] at h
  have a:=qS x h.1
  have b:=bo xs h.2
  exact⟨by simp[P8,PyData.showableAll,a.1,b.1],by simp[P8,PyData.leavesShortAll,a.2.1,b.2.1],by simp[P8,PyData.hasDictAll,a.2.2,b.2.2]⟩
end
def FH(d:D):Prop:=Y7 d=true/\(pyd d).weight<=100000/\(pyd d).depth<=50
theorem FH.fits{d:D}(h:FH d):(pyd d).shown.length<=sizeLine:=by
 have:=PyData.shown_le 151 (by decide) (pyd d) (qS d h.1).2.1
 rw[QU]
 have:=h.2.1
 omega
section
variable{X:Cx}{cl:List Cl}{e a b:Expr}{es:UG}{f:Fl}{pos:Pos}{ua ub:TU}{ma mb:TM}{fa fb:Fl}
def BO(d:D):Prop:=pO d=true/\(pyd d).canLay0=true/\(pyd d).depth<=64
def EE(X:Cx)(c:Bool):R2:=fun x y H Q=>∃d e A B,Rep X.K H x d A/\Rep X.K H y e B/\BO d/\BO e/\Q (.bl (ng c (PyData.eqv (pyd d) (pyd e)))) H
theorem sE{k:Nat}(C:J3 k X.A):O1 X (compareOp .Eq) (EE X false):=by
 intro pins s σ H x y v u Q I j i h
 obtain⟨d,e,A,B,r,p,g,c,q⟩:=h
 obtain⟨as,o⟩:=aT I r g.1 j
 obtain⟨bs,l⟩:=aT I p c.1 i
 have z:=C.units
 exact PySem.SeqAt.compareEq_shaped o l (by unfold PySem.SeqAt.shaped;rw[g.2.1,Da g.2.2];rfl) (by unfold PySem.SeqAt.shaped;rw[c.2.1,Da c.2.2];rfl) z ⟨.bl _,H,I,rfl,q⟩
theorem Ii{k:Nat}(C:J3 k X.A):O1 X (compareOp .NotEq) (EE X true):=by
 intro pins s σ H x y v u Q I j i h
 obtain⟨d,e,A,B,r,p,g,c,q⟩:=h
 obtain⟨as,o⟩:=aT I r g.1 j
 obtain⟨bs,l⟩:=aT I p c.1 i
 have z:=C.units
 exact PySem.SeqAt.compareNe_shaped o l (by unfold PySem.SeqAt.shaped;rw[g.2.1,Da g.2.2];rfl) (by unfold PySem.SeqAt.shaped;rw[c.2.1,Da c.2.2];rfl) z ⟨.bl _,H,I,rfl,q⟩
def LG(c:Bool):D->D->(D->Prop)->Prop:=fun d e Q=>BO d/\BO e/\Q (.bl (ng c (PyData.eqv (pyd d) (pyd e))))
theorem Lp{c:Bool}:bH X (EE X c) (LG c):=by
 intro H v w d e A B Q R i g q k
 exact⟨d,e,A,B,i,g,q.1,q.2.1,k _ H _ _ (g4.refl H) .bl xL (fun _ h=>(by cases h)) q.2.2⟩
end
end L3
namespace L2
open PySem PySem.Spec PySem.Builtin PySem.Builtin.Str PyProof.Rows
section
variable{X:Cx}
variable{e:Expr}{es:UG}{te:TE}{pos:Pos}
end
end L2
namespace L3
open PySem PySem.Spec L2
section
variable{X:Cx}{cl:List Cl}{e a b:Expr}{es:UG}{f:Fl}{pos:Pos}{ua ub:TU}{ma mb:TM}{fa fb:Fl}
end
end L3
namespace L2
open PySem PySem.Spec PyProof.Rows
section
variable{X:Cx}
def Lm:R2:=fun x y H Q=>∃a v,x=.ref a/\Y3 H a y (some v)/\Q v H
theorem wb(j:X.A.units+1<cLine):Dz X Lm:=by
 intro b c pins s σ H x y v u Q I i e h l
 obtain⟨a,z,rfl,g,q⟩:=h
 cases i
 exact tail_any (qG I g) PySem.F.slot_dict_getitem.lookup (kW j I g e fun p r o d=>⟨z,H,o,d,q⟩) l
def Fw(b:Bool):R2:=fun y x H Q=>∃a o,x=.ref a/\Y3 H a y o/\Q (.bl (match b with | true=>!o.isSome | false=>o.isSome)) H
theorem BA(d:X.A.units+1<cLine):O1 X (compareOp .In) (Fw false):=by
 intro pins s σ H x y v u Q I c b h
 obtain⟨a,o,rfl,g,q⟩:=h
 cases b
 exact Pa d I g c fun i e=>⟨.bl o.isSome,H,e,rfl,q⟩
theorem xF(d:X.A.units+1<cLine):O1 X (compareOp .NotIn) (Fw true):=by
 intro pins s σ H x y v u Q I c b h
 obtain⟨a,o,rfl,g,q⟩:=h
 cases b
 exact DC d I g c fun i e=>⟨.bl (!o.isSome),H,e,rfl,q⟩
end
end L2
namespace L3
open PySem PySem.Spec L2
section
variable{X:Cx}{cl:List Cl}{e a b tg:Expr}{es:UG}{f:Fl}{pos:Pos}{ua ub:TU}{ma mb:TM}{fa fb:Fl}
def t9:D->D->(D->Prop)->Prop:=fun d e Q=>match d,e with
 | .int i,.int j=>Q (.int (i+j))
 | .str i,.str j=>i.length+j.length<=sizeLine/\Q (.str (i++j))
 | .lst xs,.lst c=>y9 xs=true/\y9 c=true/\xs.length+c.length<=sizeLine/\Q (.lst (xs++c))
 | .tup xs,.tup c=>y9 xs=true/\y9 c=true/\xs.length+c.length<=sizeLine/\Q (.tup (xs++c))
 | _,_=>False
abbrev LY:R2:=fun x y H Q=>∃i j,x=.str i/\y=.str j/\i.length+j.length<=sizeLine/\Q (.str (i++j)) H
def GV:R2:=fun x y H Q=>(yO fun i j=>.int (i+j)) x y H Q\/LY x y H Q\/Jq x y H Q\/Aq x y H Q
theorem wm:O1 X (binaryOp .Add) GV:=JG.or (uA.or (IY.or EZ))
theorem yR:bH X GV t9:=by
 intro H v w d e A B Q R g c q k
 cases d<;>cases e<;>first | exact(show False from q).elim | skip
 ·exact .inl (ur H v w _ _ A B Q R g c q k)
 ·exact .inr (.inl (MW H v w _ _ A B Q R g c q k))
 ·exact .inr (.inr (.inr (Jg H v w _ _ A B Q R g c q k)))
 ·exact .inr (.inr (.inl (LA H v w _ _ A B Q R g c q k)))
theorem p3(d:PU X cl a fa ua)(c:PU X cl b fb ub):PU X cl (.BinOp a .Add b pos) .fresh (p9 t9 ua ub):=iB wm yR d c
theorem M0(d:PN X cl a ma)(c:PN X cl b mb):PM X cl (.BinOp a .Add b pos) (bq t9 ma mb):=wc wm yR d c
def G9:D->D->(D->Prop)->Prop:=fun d e Q=>match d,e with
 | .int i,.int j=>M3 i j/\Q (.int (i*j))
 | .str z,.int n=>MulOk z n/\Q (.str (Txt.mul z n))
 | .lst xs,.int n=>y9 xs=true/\-(2^63)<=n/\n<2^63/\xs.length*n.toNat<=sizeLine/\Q (.lst (List.replicate n.toNat xs).flatten)
 | _,_=>False
abbrev LD:R2:=fun x y H Q=>∃z n,x=.str z/\y=.int n/\MulOk z n/\Q (.str (Txt.mul z n)) H
def Hq:R2:=fun x y H Q=>(rI M3 fun i j=>.int (i*j)) x y H Q\/LD x y H Q\/Lw x y H Q
theorem vz:O1 X (binaryOp .Mult) Hq:=KO.or (EY.or Jh)
theorem kG{K:UP}{H:Hp}{vs:List V}{xs:List D}(r:j7 K H vs xs []):∀n:Nat,j7 K H (List.replicate n vs).flatten (List.replicate n xs).flatten []
 | 0=>.nil
 | n+1=>by
  rw[QY,QY,RK,RK]
  exact r.append (kG r n)
theorem Dc:bH X Hq G9:=by
 intro H v w d e A B Q R h g q k
 cases d<;>cases e<;>first | exact(show False from q).elim | skip
 ·exact .inl (qp H v w _ _ A B Q R h g q k)
 ·exact .inr (.inl (HU H v w _ _ A B Q R h g q k))
 ·obtain⟨j,y,x,u,q⟩:=q
  obtain⟨p,vs,C,rfl,o,c,_⟩:=J7 h
  cases x5 g
  have z:=c.D4 j
  subst z
  refine .inr (.inr ⟨p,_,vs,rfl,rfl,o,y,x,by rw[c.length];exact u,fun l i=>k _ _ (.lst _) [l] (g4.i4 i) (.lst e9 ((kG c _).same (g4.i4 i))) (by simp) (fun a r=>?_) q⟩)
  have:a=l:=by simpa using r
  rw[this];exact i
theorem J6(d:PU X cl a fa ua)(c:PU X cl b fb ub):PU X cl (.BinOp a .Mult b pos) .fresh (p9 G9 ua ub):=iB vz Dc d c
theorem aX(d:PN X cl a ma)(c:PN X cl b mb):PM X cl (.BinOp a .Mult b pos) (bq G9 ma mb):=wc vz Dc d c
def dF(c:Bool):D->D->(D->Prop)->Prop:=fun d e Q=>match aC d&&aC e with
 | true=>La c d e Q
 | false=>LG c d e Q
theorem vJ{c:Bool}{r:R2}(o:bH X r (La c)):bH X (fun x y H Q=>r x y H Q\/EE X c x y H Q) (dF c):=by
 intro H v w d e A B Q R h g q k
 unfold dF at q
 split at q
 ·exact .inl (o H v w d e A B Q R h g q k)
 ·exact .inr (Lp H v w d e A B Q R h g q k)
section
variable{kr:Nat}(hr:J3 kr X.A)
include hr
theorem Ks(g:PU X cl a fa ua)(d:PU X cl b fb ub)(c:behindInMarks .Eq b=false):PU X cl (.Compare a [.Eq] [b] pos) .fresh (p9 (dF false) ua ub):=ir (Ds.or (sE hr)) (vJ KC) g d c
theorem lV(g:PU X cl a fa ua)(d:PU X cl b fb ub)(c:behindInMarks .Eq b=false):U3 X cl (.Compare a [.Eq] [b] pos) (uT (p9 (dF false) ua ub)):=V3 (Ds.or (sE hr)) (vJ KC) g d c
theorem JJ(g:PU X cl a fa ua)(d:PU X cl b fb ub)(c:behindInMarks .NotEq b=false):U3 X cl (.Compare a [.NotEq] [b] pos) (uT (p9 (dF true) ua ub)):=V3 (Me.or (Ii hr)) (vJ OD) g d c
theorem Im(g:PN X cl a ma)(d:PN X cl b mb)(c:behindInMarks .Eq b=false):Lc X cl (.Compare a [.Eq] [b] pos) (mT (bq (dF false) ma mb)):=Co (Ds.or (sE hr)) (vJ KC) g d c
def MP(c:Bool):D->D->(D->Prop)->Prop:=fun d e Q=>match e with
 | .dic kvs=>∃k,ak d=some k/\Q (.bl (ng c (x9 kvs k).isSome))
 | _=>Pb c d e Q
end
theorem Mq{c:Bool}:bH X (fun x y H Q=>LR X.K c x y H Q\/Fw c x y H Q) (MP c):=by
 intro H v w d e A B Q R l i q k
 cases e with
 | dic kvs=>
  obtain⟨j,G,q⟩:∃k,ak d=some k/\Q (.bl (ng c (x9 kvs k).isSome)):=q
  obtain⟨p,vs,O,rfl,r,E,rfl⟩:=bc i
  cases U7 l G
  have o:=E.val j
  refine .inr ?_
  cases g:x9 kvs j with
  | none=>
   rw[g] at q
   exact⟨p,none,rfl,(by have:=Y3.k (k:=j) r;rwa [o.2 g] at this),k _ H _ _ (g4.refl H) .bl xL (fun _ h=>(by cases h)) (by cases c<;>exact q)⟩
  | some z=>
   rw[g] at q
   obtain⟨u,C,I,M,J⟩:=o.1 z g
   exact⟨p,some u,rfl,(by have:=Y3.k (k:=j) r;rwa [I] at this),k _ H _ _ (g4.refl H) .bl xL (fun _ h=>(by cases h)) (by cases c<;>exact q)⟩
 | _=>exact .inl (OB H v w _ _ A B Q R l i q k)
def Ka:D->D->(D->Prop)->Prop:=fun d y Q=>match d with
 | .dic kvs=>∃k v,ak y=some k/\x9 kvs k=some v/\Q v
 | _=>Pl d y Q
theorem vn{v w:V}{H:Hp}{d e:D}{A B:UD}{Q:D->Prop}{R:VK}(h:Rep X.K H v d A)(c:Rep X.K H w e B)(q:Ka d e Q)(k:∀x z C,Rep X.K H x z C->C.Sublist A->Q z->R x H):Nv X.K v w H R\/Lm v w H R:=by
 cases d with
 | dic kvs=>
  obtain⟨a,u,z,C,o,g,j,i,l⟩:=FW h c (show Ho (.dic kvs) e Q from q)
  exact .inr ⟨a,u,o,g,k u z C j i l⟩
 | _=>exact .inl (JY h c q k)
def g7(ua ub:TU):TU:=fun c Q=>ua c fun x=>ub c fun y=>Ka x y Q
theorem ID(u:X.A.units+1<cLine)(M:PU X cl a fa ua)(J:PU X cl b fb ub)(y:gz b):PU X cl (.Subscript a b pos) fa (g7 ua ub):=.of<|by
 obtain⟨ta,Y,p,o,h⟩:=u2 M J
 refine⟨_,Hv (Bo.or (wb u)) p o y,fun G c σ H S Q R O E I k=>?_⟩
 refine h G c σ H S _ _ O E I fun v w U d e A B s j i T f2 q=>?_
 exact vn j i q fun x z C r g l=>k x U z C s r (T.sub g) l
def uH(ma mb:TM):TM:=fun h Q=>ma h fun x g=>mb g fun y c=>Ka x y fun d=>Q d c
theorem eL(M:X.A.units+1<cLine)(j:PN X cl a ma)(U:PN X cl b mb)(O:gz b):PN X cl (.Subscript a b pos) (uH ma mb):=.of<|by
 obtain⟨ta,tb,J,I,h⟩:=m2 j U
 refine⟨_,Hv (Bo.or (wb M)) J I O,fun G o σ H fo Q R Y E S k=>?_⟩
 refine h G o σ H fo _ _ Y E S fun v w H' d e A B g l E' c u p n1 _ q=>?_
 exact vn u p q fun x z C r s y=>k x H' z C g l E' c r (fun i T a j=>n1 i T a (s.mem j)) y
end
section
variable{X:Cx}{cl:List Cl}{e a b tg:Expr}{es:UG}{f:Fl}{pos:Pos}{ua ub:TU}{ma mb:TM}{fa fb:Fl}
def BH(ua:TU)(lo g:Ms):TU:=fun c Q=>ua c fun d=>lo c fun l=>g c fun h=>match d with
 | .tup xs=>y9 xs=true/\Q (.tup (cutD xs l h))
 | .lst xs=>y9 xs=true/\Q (.lst (cutD xs l h))
 | .fz xs=>y9 xs=true/\Q (.lst (cutD xs l h))
 | _=>False
theorem mj{lo hi:Option Expr}{ul uh:Ms}{p2:Pos}(y:PU X cl a fa ua)(u:NG X cl lo ul)(hh:NG X cl hi uh):PU X cl (.Subscript a (.Slice lo hi none p2) pos) .fresh (BH ua ul uh):=.of<|by
 obtain⟨ta,pa,y⟩:=y.run
 obtain⟨tl,pl,u⟩:=u.run
 obtain⟨th,ph,hh⟩:=hh.run
 refine⟨_,BS (Gu.or Jf) pa pl ph,fun G C σ H fo Q R hG E hu k=>y G C σ H fo _ _ hG E hu fun v H1 d A M r1 f1 q1=>u G C σ H1 fo _ _ hG (E.same M) q1 fun g H2 z q2=>hh G C σ H2 fo _ _ hG (E.same (M.trans z)) q2 fun o H3 J h=>?_⟩
 have i:=(M.trans z).trans J
 have c:∀{xs:List D},kindB false d=some xs->y9 xs=true->Q (.lst (cutD xs g o))->Nf X.K v g o H3 R:=fun {xs} e1 U q=>by
  obtain⟨p,vs,B,rfl,Y,j,_⟩:=Z4 ((r1.same z).same J) e1
  have x:=j.D4 U
  subst x
  refine⟨p,vs,rfl,Y,fun l u=>?_⟩
  obtain⟨B,I,T⟩:=j.cut (HT.D5 xs.length 0 g) (HT.D5 xs.length xs.length o-HT.D5 xs.length 0 g)
  have x:B=[]:=List.sublist_nil.mp I
  subst x
  refine k _ _ _ [l] (i.trans (g4.i4 u)) (.lst e9 ?_) ⟨by simp,fun a y=>?_⟩ q
  ·have O:j7 X.K H3 (gE vs g o) (cutD xs g o) []:=by
    unfold gE cutD
    rw[j.length]
    exact T
   exact O.same (g4.i4 u)
  ·have:a=l:=by simpa using y
   rw[this];exact i.free u
 cases d<;>first | exact(show False from h).elim | skip
 ·rename_i xs
  obtain⟨U,h⟩:=h
  obtain⟨p,vs,rfl,Y,j⟩:=M4 ((r1.same z).same J)
  have x:=j.D4 U
  subst x
  refine .inr ⟨p,vs,rfl,Y,fun r H4 s4 hr=>?_⟩
  obtain⟨B,I,T⟩:=j.cut (HT.D5 xs.length 0 g) (HT.D5 xs.length xs.length o-HT.D5 xs.length 0 g)
  have x:B=[]:=List.sublist_nil.mp I
  subst x
  refine k _ _ (.tup (cutD xs g o)) [] (i.trans s4) (.tup hr ?_) (B0.nil _) h
  have S:=T.same s4
  unfold gE cutD
  rw[j.length]
  exact S
 ·exact .inl (c rfl h.1 h.2)
 ·exact .inl (c rfl h.1 h.2)
end
end L3
namespace L2
open PySem PySem.Spec PySem.Builtin PySem.Builtin.Str PyProof.Rows
section
variable{X:Cx}
def Lk:R2:=fun x y H Q=>∃i j,x=.str i/\y=.str j/\Q (.bl (!decide (j.cps.toList<i.cps.toList))) H
theorem xQ:O1 X (compareOp .LtE) Lk:=by
 intro pins s σ H x y v u Q I b a h
 obtain⟨i,j,rfl,rfl,q⟩:=h
 obtain⟨t,rfl⟩:=b
 obtain⟨t',rfl⟩:=a
 exact PySem.P.le_str ⟨.bl _,H,I,rfl,q⟩
def Fj(a:Bool):R2:=fun x y H Q=>∃b,y=.bl b/\Q (.bl (match a with | true=>!decide (x=.bl b) | false=>decide (x=.bl b))) H
def OI(x:Str):It:=⟨fun i _=>i<x.cps.size,fun i H v a=>a=H/\∃c,x.cps[i]?=some c/\v=.str ⟨#[c]⟩,fun i _=>i=x.cps.size⟩
theorem qu{P:Program}{w:World}{K:UP}{S:Expr}{x:Str}{ty:String}{t:Tok}(it:Addr)
  (W:∀A:Around,A.handled=none->Walks P w A it [it] [it] x.cps.size (SignAt x) (fun i h=>h.IsStrIter it ty x t i)) (q:["enumerate","zip","dict_itemiterator","dict_reverseitemiterator","odict_iterator","itertools.zip_longest","itertools.pairwise"].contains ty=false)
  (Y:∀(A:Around) (i:Nat) (s:Shared) (Q:UM) (E:UM),s.heap.IsStrIter it ty x t i->Q (.ref it) s->wpAny (model P w) A (pyIter (.ref it)) Q E s):Turn P w K S (OI x) [it] it (fun i h=>h.IsStrIter it ty x t i) where
 mem:=by simp
 obj:=fun i h st b a=>by
  have e:b=it:=by simpa using a
  subst e
  obtain⟨o,e,c,d⟩:=st
  exact⟨o,e,fun v z=>by rw[d] at z;cases z⟩
 keep:=fun i h h' st k=>let ⟨o,ho,r⟩:=st;⟨o,k it (by simp) o ho,r⟩
 item:=by
  intro X B hw C y i pins s σ H E I l st j
  subst B hw C
  obtain⟨R,O,f2,M,J,G⟩:=l it (by simp)
  refine(W X.A (I.ok.hd y)).item i s _ _ j st fun v h' tk U g p=>?_
  obtain⟨c,u,T,rfl⟩:=U
  have I1:Inv X pins σ H { s with heap:=h',toks:=tk }:=I.turned (fun b o a e=>p b o (by simpa using a) e) R O M J G
  obtain⟨o,e,cc,d⟩:=id g
  exact⟨_,rfl,ou (s:={ s with heap:=h',toks:=tk }) e cc d q ⟨.str ⟨#[c]⟩,H,I1,⟨u,rfl⟩,⟨rfl,c,T,rfl⟩,g,fun b a=>(l b a).1⟩⟩
 done:=by
  intro X B hw C y i pins s σ H E I l st j
  subst B hw C
  obtain⟨R,O,f2,M,J,G⟩:=l it (by simp)
  have j:i=x.cps.size:=j
  subst j
  exact(W X.A (I.ok.hd y)).done s _ _ st fun h' tk p=>⟨rfl,I.turned (fun b o a e=>p b o (by simpa using a) e) R O M J G⟩
 self:=Y
def OG(K:UP)(c:TE):TI:=fun σ H R=>c σ H fun x b=>(∃z,x=.str z/\R (OI z) b)\/∃a,x=.ref a/\((∃xs,L1 K b a xs/\R (ND K a) b)\/∃xs,Q0 K b a xs/\R (Nz K a) b)
theorem Jj{M l:Expr}{B:TE}(O:PE X l B):PI X M l (OG X.K B):=.of fun pins s σ H R I q=>by
 refine y3 (O pins s σ H _ I q) fun v c ⟨x,j,d,C,r⟩=>?_
 rcases r with⟨z,rfl,q⟩ | ⟨a,rfl,r⟩
 ·obtain⟨t,rfl⟩:=C
  have J:∀b∈[c.heap.objs.size],M7 X pins j b:=fun b g=>by
   have e:b=c.heap.objs.size:=by simpa using g
   subst e
   exact d.fH (sK _) (d.hok.fresh (sK _))
  cases G:z.cps.all (·<128)
  ·exact wpAny_pyIter_wide G ⟨c.heap.objs.size,[c.heap.objs.size],_,_,j,rfl,d.kept (t':=c.toks) fun b o e=>hD _ e,qu (t:=t) _ (fun A y=>Walks.strWide y _ z t) (by decide) (fun A i s Q E st h=>wpAny_pyIter_striter_wide st h),⟨_,At _ rfl,rfl,rfl⟩,J,q⟩
  ·exact wpAny_pyIter_ascii G ⟨c.heap.objs.size,[c.heap.objs.size],_,_,j,rfl,d.kept (t':=c.toks) fun b o e=>hD _ e,qu (t:=t) _ (fun A y=>Walks.strAscii y _ z t) (by decide) (fun A i s Q E st h=>wpAny_pyIter_striter_ascii st h),⟨_,At _ rfl,rfl,rfl⟩,J,q⟩
 ·cases C
  rcases r with⟨xs,u,q⟩ | ⟨xs,u,q⟩
  ·obtain⟨its,rv,p,hz⟩:=d.list u
   refine Sj p.isList ?_
   refine⟨c.heap.objs.size,[c.heap.objs.size],_,_,j,rfl,d.kept (t':=c.toks) fun b o e=>hD _ e,xS a _,⟨_,At _ rfl,rfl,rfl⟩,fun b g=>?_,q⟩
   have e:b=c.heap.objs.size:=by simpa using g
   subst e
   exact d.fH (sK _) (d.hok.fresh (sK _))
  ·obtain⟨its,rv,p,hz⟩:=d.tuple u
   refine TF (show c.heap.IsTuple a its.toArray from p) ?_
   refine⟨c.heap.objs.size,[c.heap.objs.size],_,_,j,rfl,d.kept (t':=c.toks) fun b o e=>hD _ e,iQ a _,⟨_,At _ rfl,rfl,rfl⟩,fun b g=>?_,q⟩
   have e:b=c.heap.objs.size:=by simpa using g
   subst e
   exact d.fH (sK _) (d.hok.fresh (sK _))
def Hu:List V->Hp->VK->Prop:=fun xs H Q=>((∃i,xs=[.int i]/\Q (.int i) H)\/∃k,xs=[.bl k]/\Q (.int (if k then 1 else 0)) H)\/∃x n,xs=[.str x]/\PySem.intText? x=some n/\x.length<=640/\Q (.int n) H
theorem eJ:I0 X (.type "int") Hu:=by
 intro pins s σ H xs a Q I r h
 rcases h with h | ⟨x,n,rfl,b,c,q⟩
 ·exact yM pins s σ H xs a Q I r h
 ·obtain⟨u,rfl,t,rfl⟩:=vals1 r
  exact PySem.W.KIN.call_text b c ⟨.int n,H,I.tok _,⟨_,rfl⟩,q⟩
end
end L2
namespace L2
open PySem PySem.Spec PyProof.Rows
section
variable{X:Cx}
theorem qm{x:V}{v:Value}(r:RelV x v)(b:Bool):(v == .bool b)=decide (x=.bl b):=by
 cases x<;>first
  | (cases r;first | rfl | (rename_i c;cases b<;>cases c<;>rfl))
  | (obtain⟨t,rfl⟩:=r;rfl)
theorem AJ:O1 X (compareOp .Is) (Fj false):=by
 intro pins s σ H x y v u Q I a c h
 obtain⟨b,rfl,q⟩:=h
 cases c
 have f:EP X pins σ Q (.bool (v == .bool b)) s:=⟨.bl _,H,I,by rw[qm a];rfl,q⟩
 cases x<;>first
  | (cases a;exact hH f)
  | (obtain⟨t,rfl⟩:=a;exact hH f)
theorem yW:O1 X (compareOp .IsNot) (Fj true):=by
 intro pins s σ H x y v u Q I a c h
 obtain⟨b,rfl,q⟩:=h
 cases c
 have f:EP X pins σ Q (.bool (!(v == .bool b))) s:=⟨.bl _,H,I,by rw[qm a];rfl,q⟩
 cases x<;>first
  | (cases a;exact hH f)
  | (obtain⟨t,rfl⟩:=a;exact hH f)
end
end L2
namespace L3
open PySem PySem.Spec L2
section
variable{X:Cx}{cl:List Cl}{e a b tg:Expr}{es:UG}{f:Fl}{pos:Pos}{ua ub uc:TU}{ma mb:TM}{fa fb fc:Fl}
def Aj:D->D->(D->Prop)->Prop:=fun d e Q=>match d,e with
 | .int i,.int j=>Q (.bl (decide (i<=j)))
 | .str x,.str y=>Q (.bl (!decide (y.cps.toList<x.cps.toList)))
 | _,_=>False
abbrev Lh:R2:=fun x y H Q=>(yO fun i j=>.bl (decide (i<=j))) x y H Q\/Lk x y H Q
theorem Jl:O1 X (compareOp .LtE) Lh:=Mi.or xQ
theorem Mp:bH X Lh Aj:=by
 intro H v w d e A B Q R g c q k
 cases d<;>cases e<;>first | exact(show False from q).elim | skip
 ·exact .inl (hX H v w _ _ A B Q R g c q k)
 ·cases C8 g;cases C8 c
  exact .inr ⟨_,_,rfl,rfl,k _ H _ _ (g4.refl H) .bl xL (fun _ h=>(by cases h)) q⟩
theorem tW(g:PU X cl a fa ua)(d:PU X cl b fb ub)(c:behindInMarks .LtE b=false):U3 X cl (.Compare a [.LtE] [b] pos) (uT (p9 Aj ua ub)):=V3 Jl Mp g d c
def Ir(d:D)(b:Bool):Bool:=match d with
 | .bl c=>c == b
 | _=>false
def Y1(c:Bool):D->D->(D->Prop)->Prop:=fun d e Q=>match e with
 | .o8=>Q (.bl (ng c (vO d)))
 | .bl b=>Q (.bl (ng c (Ir d b)))
 | _=>False
theorem wF{K:UP}{H:Hp}{v:V}{d:D}{A:UD}(h:Rep K H v d A)(b:Bool):decide (v=.bl b)=Ir d b:=by
 cases h<;>first | (simp[Ir];done) | skip
 rename_i c
 cases b<;>cases c<;>rfl
abbrev Ox:R2:=fun x y H Q=>y=.o8/\Q (.bl (decide (x=.o8))) H
abbrev Kl:R2:=fun x y H Q=>y=.o8/\Q (.bl (!decide (x=.o8))) H
theorem Hr:bH X (fun x y H Q=>Ox x y H Q\/Fj false x y H Q) (Y1 false):=by
 intro H v w d e A B Q R g c q k
 cases e<;>first | exact(show False from q).elim | skip
 ·exact .inl (Od H v w d .o8 A B Q R g c q k)
 ·cases Z0 c
  refine .inr ⟨_,rfl,?_⟩
  show R (.bl (decide (v=.bl _))) H
  rw[wF g]
  exact k _ H _ _ (g4.refl H) .bl xL (fun _ h=>(by cases h)) q
theorem EH:bH X (fun x y H Q=>Kl x y H Q\/Fj true x y H Q) (Y1 true):=by
 intro H v w d e A B Q R g c q k
 cases e<;>first | exact(show False from q).elim | skip
 ·exact .inl (Kg H v w d .o8 A B Q R g c q k)
 ·cases Z0 c
  refine .inr ⟨_,rfl,?_⟩
  show R (.bl (!decide (v=.bl _))) H
  rw[wF g]
  exact k _ H _ _ (g4.refl H) .bl xL (fun _ h=>(by cases h)) q
theorem Jp(g:PU X cl a fa ua)(d:PU X cl b fb ub)(c:behindInMarks .Is b=false):PU X cl (.Compare a [.Is] [b] pos) .fresh (p9 (Y1 false) ua ub):=ir (CT.or AJ) Hr g d c
theorem uf(g:PU X cl a fa ua)(d:PU X cl b fb ub)(c:behindInMarks .Is b=false):U3 X cl (.Compare a [.Is] [b] pos) (uT (p9 (Y1 false) ua ub)):=V3 (CT.or AJ) Hr g d c
theorem G2(g:PU X cl a fa ua)(d:PU X cl b fb ub)(c:behindInMarks .IsNot b=false):U3 X cl (.Compare a [.IsNot] [b] pos) (uT (p9 (Y1 true) ua ub)):=V3 (EN.or yW) EH g d c
def PJ(x y:Str):Bool:=!(Builtin.Str.occurrences x y 0 x.length 1).isEmpty
def oo(c:Bool):D->D->(D->Prop)->Prop:=fun d e Q=>match e with
 | .str z=>(match d with | .str y=>Q (.bl (ng c (PJ z y))) | _=>False)
 | _=>MP c d e Q
abbrev Kd(c:Bool):R2:=fun x y H Q=>∃i j,x=.str i/\y=.str j/\Q (.bl (ng c (PJ j i))) H
theorem Bm:O1 X (compareOp .In) (Kd false):=wY
theorem xv:O1 X (compareOp .NotIn) (Kd true):=lH
theorem Dt{c:Bool}:bH X (fun x y H Q=>(LR X.K c x y H Q\/Fw c x y H Q)\/Kd c x y H Q) (oo c):=by
 intro H v w d e A B Q R i g q k
 cases e with
 | str z=>
  cases d<;>first | exact(show False from q).elim | skip
  cases C8 i;cases C8 g
  exact .inr ⟨_,_,rfl,rfl,k _ H _ _ (g4.refl H) .bl xL (fun _ h=>(by cases h)) q⟩
 | _=>exact .inl (Mq H v w _ _ A B Q R i g q k)
theorem As(c:X.A.units+1<cLine)(h:PU X cl a fa ua)(g:PU X cl b fb ub)(d:behindInMarks .In b=false):PU X cl (.Compare a [.In] [b] pos) .fresh (p9 (oo false) ua ub):=ir ((lh.or (BA c)).or Bm) Dt h g d
theorem Jz(c:X.A.units+1<cLine)(h:PU X cl a fa ua)(g:PU X cl b fb ub)(d:behindInMarks .In b=false):U3 X cl (.Compare a [.In] [b] pos) (uT (p9 (oo false) ua ub)):=V3 ((lh.or (BA c)).or Bm) Dt h g d
theorem wN(c:X.A.units+1<cLine)(h:PU X cl a fa ua)(g:PU X cl b fb ub)(d:behindInMarks .NotIn b=false):U3 X cl (.Compare a [.NotIn] [b] pos) (uT (p9 (oo true) ua ub)):=V3 ((lX.or (xF c)).or xv) Dt h g d
def Gq(z:Str):List D:=z.cps.toList.map fun c=>.str ⟨#[c]⟩
def J4(u:TU):lG:=fun c Q=>u c fun d=>match d with
 | .lst xs=>Q xs
 | .fz xs=>Q xs
 | .tup xs=>Q xs
 | .str z=>Q (Gq z)
 | _=>False
theorem PV{K:UP}{H:Hp}(z:Str):bu K (OI z) (Gq z) [] H:=fun u tf k i=>by
 refine⟨fun o=>?_,fun d e=>?_⟩
 ·show i=z.cps.size
  rw[<-o];simp[Gq]
 ·unfold Gq at e
  rw[wE] at e
  cases g:z.cps.toList[i]? with
  | none=>rw[g] at e;cases e
  | some c=>
   rw[g] at e
   cases e
   have p:i<z.cps.size:=by
    have:=(List.getElem?_eq_some_iff.mp g).1
    simpa using this
   have h:z.cps[i]?=some c:=by simpa using g
   refine⟨p,fun x r l=>?_⟩
   obtain⟨rfl,q,j,rfl⟩:=l
   rw[h] at j
   cases j
   exact⟨g4.refl _,[],.str,Tw _⟩
theorem u5(h:PU X cl e f ua):bU X cl tg e f (J4 ua):=.of<|by
 obtain⟨t,p,h⟩:=h.run
 refine⟨_,Jj p,fun G o σ H fa Q R y E x k=>h G o σ H fa _ _ y E x fun v i d B s r l q=>?_⟩
 cases d<;>first | exact(show False from q).elim | skip
 ·cases C8 r
  exact .inl ⟨_,rfl,k _ i _ [] s (PV _) (fun a j=>by cases j) (B0.nil _) q⟩
 ·obtain⟨p,vs,rfl,c,g⟩:=M4 r
  exact .inr ⟨p,rfl,.inr ⟨vs,Q0.of c,k _ i _ _ s (OX c g) g.there l q⟩⟩
 ·have u:=r
  obtain⟨p,vs,C,rfl,c,g,rfl⟩:=J7 r
  exact .inr ⟨p,rfl,.inl ⟨vs,L1.of c,k _ i _ _ s (Qe c g) (fun a j=>u.there j) l q⟩⟩
 ·obtain⟨p,vs,rfl,c,g⟩:=jd r
  exact .inr ⟨p,rfl,.inl ⟨vs,c.sq,k _ i _ _ s (PZ c g) g.there l q⟩⟩
def oN:List D->(D->Prop)->Prop
 | [.int i],Q=>Q (.int i)
 | [.bl k],Q=>Q (.int (if k then 1 else 0))
 | [.str x],Q=>x.length<=640/\∃n,PySem.intText? x=some n/\Q (.int n)
 | _,_=>False
theorem rL:Call3 X Hu oN:=by
 intro H vs ds A Q R r q k
 unfold oN at q
 split at q
 ·exact .inl (Hy H vs _ A Q R r q k)
 ·exact .inl (Hy H vs _ A Q R r q k)
 ·obtain⟨g,n,d,q⟩:=q
  obtain⟨v,rfl,c⟩:=r.one
  cases C8 c
  exact .inr ⟨_,n,rfl,d,g,k _ H _ _ (g4.refl H) .int xL (fun _ h=>(by cases h)) q⟩
 ·exact q.elim
end
end L3
namespace L2
open PySem PySem.Spec PyProof.Rows
end L2
namespace L3
open PySem PySem.Spec L2
section
variable{X:Cx}{cl:List Cl}{e a b tg:Expr}{es:UG}{f:Fl}{pos:Pos}{ua ub uc:TU}{ma mb:TM}{fa fb fc:Fl}
end
end L3
namespace L2
open PySem PySem.Spec PyProof.Rows
theorem Ky(h:Heap)(a:Addr):∃h0:Heap,h0.get? a=none/\∀b,b≠a->h0.get? b=h.get? b:=by
 refine⟨h.update a fun o=>⟨o.cls,o.dict,.freed,o.slots⟩,?_,fun b c=>Heap.get?_update_ne h b a _ c⟩
 obtain⟨objs,l⟩:=h
 unfold Heap.update Heap.get?
 dsimp only
 rw[Array.getElem?_modify,wS rfl]
 cases objs[a]?<;>rfl
theorem GW(h:Heap):∀l:UD,∃h0:Heap,(∀b∈l,h0.get? b=none)/\∀b,b∉l->h0.get? b=h.get? b
 | []=>⟨h,fun b c=>(by cases c),fun b _=>rfl⟩
 | a::l=>by
  obtain⟨o,j,i⟩:=GW h l
  obtain⟨h0,g,d⟩:=Ky o a
  refine⟨h0,fun b c=>?_,fun b c=>?_⟩
  ·by_cases e:b=a
   ·rw[e];exact g
   ·rw[d b e]
    exact j b ((List.mem_cons.mp c).resolve_left e)
  ·rw[d b fun z=>c (z▸lP)]
   exact i b fun z=>c (hQ _ z)
theorem rebase{h base a:Heap}:∀{l:List Env},(∀b∈aK l,a.get? b=none)->h.FunFrames base l->h.FunFrames a l
 | [],_,_=>trivial
 | env::l,e,⟨p,⟨L,o,d,q,j,i⟩,g⟩=>by
  refine⟨p,⟨L,o,d,e L ?_,j,i⟩,rebase (fun b c=>e b ?_) g⟩
  ·unfold aK;rw[QZ,d];exact lP
  ·unfold aK at c ⊢;rw[QZ,d];exact hQ _ c
def Pm(h:Heap)(e:Addr)(b a0:Value)(T:Addr):Prop:=
 ∃a vs c ts,h.get? e=some a/\a.cls=b/\vs[0]?=some a0/\a.data=.fields vs/\vs[1]?=some (.ref T)/\T≠e/\h.get? T=some c/\c.data=.fields ts/\ts[3]?=some .none
structure IK(l:List Env)(old:UD)(h h':Heap)(e:Addr)(cls a0:Value)(T:Addr):Prop where
 keep:∀b o,h.get? b=some o->b≠e->b∉old->b∉aK l->h'.get? b=some o
 slot:∀b o,h.get? b=some o->b∈aK l->∃sl,h'.get? b=some { o with slots:=sl }
 fly:Pm h' e cls a0 T
 new:T∈old\/h.get? T=none
section
variable{M:Model}{A:Around}{E:UM}{s:Shared}{base:Heap}{env:Env}{outer:List Env}{L e:Addr}{Q:Unit->Shared->Prop}
theorem Gh{a:Heap}{l:List Env}{old:UD}{h h':Heap}{p a0:Value}(S:h.FunFrames a l)(y:∀b,b∉e::(aK l++old)->a.get? b=h.get? b)(x:Heap.LeftW a l e p a0 h h'):∃T,IK l old h h' e p a0 T:=by
 obtain⟨H,G,⟨I,vs,T,J,ts,U,⟨X,h0⟩,hd,v,q,j,B,g,u⟩,C⟩:=x
 refine⟨T,fun b o d v Y u=>H b o ?_,fun b o d R=>?_,⟨I,vs,J,ts,U,X,h0,hd,v,j,B,g,u⟩,?_⟩
 ·rw[y b fun z=>?_]
  ·exact d
  ·rcases List.mem_cons.mp z with z | z
   ·exact v z
   ·exact(List.mem_append.mp z).elim u Y
 ·obtain⟨_,O,c,r⟩:=S.mem R
  rw[d] at c
  cases c
  exact C b o d r
 ·by_cases i:T∈old
  ·exact .inl i
  ·right
   rw[<-y T fun z=>?_]
   ·exact q
   ·rcases List.mem_cons.mp z with z | z
    ·exact j z
    ·rcases List.mem_append.mp z with z | z
     ·obtain⟨_,O,c,r⟩:=G.mem z
      rw[B] at c
      cases c
      exact r ts g
     ·exact i z
theorem pY{i:Obj}{vs:UJ}{a0:Value}(j:A.frames=some (env::outer))(q:s.heap.FunFrames base (env::outer))(r:env.frame=some L)(u:s.heap.get? e=some i)(hd:i.data=.fields vs)(x:vs[1]?=some .none)(h0:vs[0]?=some a0)
  (h:∀h' T,IK (env::outer) [] s.heap h' e i.cls a0 T->Q () { s with heap:=h' }):wpAny M A (leaving env (.ref e)) Q E s:=by
 obtain⟨y,d,l⟩:=GW s.heap (e::(aK (env::outer)++[]))
 have a:s.heap.FunFrames y (env::outer):=rebase (fun b c=>d b (hQ _ (FM _ c))) q
 refine wpAny_leaving_firstW j a r u (fun b o c=>?_) (d e lP) hd x h0 fun h' v=>?_
 ·by_cases p:b∈e::(aK (env::outer)++[])
  ·rw[d b p] at c;cases c
  ·rw[<-l b p];exact c
 ·obtain⟨T,g⟩:=Gh a l v
  exact h h' T g
end
theorem x6.is{P:Program}{w:World}{H:Hp}{h:Heap}{a:Addr}{o:HO}(x:x6 P w H h a o):∃u,h.get? a=some u:=by
 cases o with
 | lst xs=>obtain⟨_,_,_,_,e⟩:=x;exact⟨_,e⟩
 | tup xs=>obtain⟨_,_,_,⟨o,e,_⟩⟩:=x;exact⟨_,e⟩
 | dK kvs=>obtain⟨_,_,_,_,o,_,_,e,_⟩:=x;exact⟨_,e⟩
 | dE kvs ep=>obtain⟨_,_,_,_,o,_,e,_⟩:=x;exact⟨_,e⟩
 | dN kvs=>obtain⟨_,_,_,_,o,_,_,e,_⟩:=x;exact⟨_,e⟩
 | dT kvs=>obtain⟨_,_,_,_,o,_,_,e,_⟩:=x;exact⟨_,e⟩
 | set S n=>obtain⟨o,_,_,_,e,_⟩:=x;exact⟨_,e⟩
 | ins C d fs=>obtain⟨_,_,_,e,_⟩:=x;exact⟨_,e⟩
 | own y=>exact x
 | xd fs=>obtain⟨_,⟨_,_,_,e,_⟩,_⟩:=x;exact⟨_,e⟩
 | rng lo c=>obtain⟨_,_,_,e⟩:=x;exact⟨_,e⟩
 | frz ob u=>obtain⟨e,_⟩:=x;exact⟨_,e⟩
 | tbl ps=>exact⟨_,(show h.get? a=some _ from x)⟩
 | met f y=>exact⟨_,(show h.get? a=some _ from x)⟩
 | ext b=>exact x.2.1
theorem V1.none_of{P:Program}{w:World}{H:Hp}{h:Heap}{a:Addr}(x:V1 P w H h)(e:h.get? a=none):H a=none:=by
 cases q:H a with
 | none=>rfl
 | some o=>
  obtain⟨u,b⟩:=(x a o q).is
  rw[e] at b;cases b
theorem V1.Mk{P:Program}{w:World}{H:Hp}{h h':Heap}(x:V1 P w H h)(k:∀b u,H b≠none->h.get? b=some u->h'.get? b=some u):V1 P w H h':=fun a o e=>
 (x a o e).dm (fun b u c q=>k b u (c.elim (fun c=>by rw[c,e];intro z;cases z) fun c=>by rw[c];intro z;cases z) q) (fun _ q=>q) fun _ _ q=>q
def Hf(P:Program)(w:World):uN:=fun outer H s E x a=>∃(e:Addr) (b a0:Value) (T:Addr) (c:Hp),x=.ref e/\Pm a.heap e b a0 T/\s.heap.get? e=none/\s.heap.get? T=none/\c e=none/\c T=none /\
 a.os=s.os/\AllBare a.gens/\Un (aK outer) [] H c s.heap a.heap/\V1 P w c a.heap/\E b none c
theorem Gi{P:Program}{w:World}{env:Env}{outer:List Env}{L e T:Addr}{old:UD}{H c:Hp}{h v r:Heap}{I a0:Value}(O:env.frame=some L)(U:Un (aK outer) [] H c h v)(ok:V1 P w c v)
  (Y:h.get? L=none) (X:h.get? e=none) (M:∀b∈old,h.get? b=none) (Q:c L=none) (te:c e=none) (J:∀b∈old,c b=none) (tf:∀b∈aK outer,c b=none)
  (g:IK (env::outer) old v r e I a0 T):Un (aK outer) [] H c h r/\V1 P w c r/\c T=none/\h.get? T=none:=by
 have y:∀b,b∈aK (env::outer)->b=L\/b∈aK outer:=fun b a=>by
  unfold aK at a
  rw[QZ,O] at a
  exact List.mem_cons.mp a
 have l:∀b,b∈aK outer->b∈aK (env::outer):=fun b a=>by
  unfold aK at a ⊢
  rw[QZ,O]
  exact hQ _ a
 have G:∀b o,v.get? b=some o->b≠L->b≠e->b∉old->b∉aK outer->r.get? b=some o:=fun b o a n1 n2 p R=>g.keep b o a n2 p fun z=>(y b z).elim n1 R
 have st:∀b o,h.get? b=some o->b≠L/\b≠e/\b∉old:=fun b o a=>⟨fun z=>(by rw[z,Y] at a;cases a),fun z=>(by rw[z,X] at a;cases a),fun z=>(by rw[M b z] at a;cases a)⟩
 refine⟨⟨fun b o a C d _=>?_,fun b o a C d B=>?_,U.free,fun b o a B=>?_,U.P9,U.frzs,U.tbls⟩,ok.Mk fun b u a S=>?_,?_,?_⟩
 ·obtain⟨n1,n2,p⟩:=st b o a
  exact G b o (U.keep b o a C d (by simp)) n1 n2 p d
 ·obtain⟨sl,i⟩:=U.slot b o a C d B
  obtain⟨j,E⟩:=g.slot b _ i (l b d)
  exact⟨j,E⟩
 ·obtain⟨n1,n2,p⟩:=st b o a
  obtain⟨x,i⟩:=U.there b o a B
  by_cases d:b∈aK outer
  ·obtain⟨j,E⟩:=g.slot b _ i (l b d)
   exact⟨_,E⟩
  ·exact⟨x,G b x i n1 n2 p d⟩
 ·exact G b u S (fun z=>a (z▸Q)) (fun z=>a (z▸te)) (fun z=>a (J b z)) fun z=>a (tf b z)
 ·rcases g.new with z | z
  ·exact J T z
  ·exact ok.none_of z
 ·rcases g.new with z | z
  ·exact M T z
  ·cases q:h.get? T with
   | none=>rfl
   | some o=>
    obtain⟨x,i⟩:=U.there T o q (by simp)
    rw[z] at i;cases i
section
variable{P:Program}{w:World}{K:UP}{mg:UK}{base:Heap}{N:UE}{qual:Str}{scope:Scope}{f:Addr}{cd:Value}{A:Around}{outer:List Env}{s:Shared}{H:Hp}{E:XK}
 {pins:TZ} {σ:St} {H1:Hp} {s1:Shared}
theorem yv:s.heap.get? s.heap.objs.size=none:=by
 cases e:s.heap.get? s.heap.objs.size with
 | none=>rfl
 | some o=>exact absurd (AT e) (RD _)
theorem IP{e:Addr}{i:Value}{vs:UF}{h':Heap}(I:Inv (dW (Hf P w) P w K mg base N qual scope f cd A outer s H E) pins σ H1 s1)(mk:Heap.MadeExcOf s1.heap h' e i vs)(y:E i none H1) :
  (dW (Hf P w) P w K mg base N qual scope f cd A outer s H E).xe (.ref e) { s1 with heap:=h' }:=by
 obtain⟨t,x,_,_⟩:=mk.there
 have p:s1.heap.FunFrames base (envOfC qual scope s.heap.objs.size f cd::outer):=I.stack
 have j:h'.FunFrames base (envOfC qual scope s.heap.objs.size f cd::outer):=p.of_keeps fun b o h _=>⟨o,mk.keeps b o h,rfl⟩
 have l:V1 P w H1 h':=V1.kept I.hok mk.keeps
 have v:Un (aK outer) [] H H1 s.heap s1.heap:=I.base
 have z:Un (aK outer) [] H H1 s.heap h':=v.trans (Un.kept mk.keeps)
 have u:s.heap.get? e=none:=by
  cases q:s.heap.get? e with
  | none=>rfl
  | some o=>
   obtain⟨B,r⟩:=v.there e o q (by simp)
   rw[mk.new] at r;cases r
 have te:H1 e=none:=V1.none_of I.hok mk.new
 refine pY (L:=s.heap.objs.size) (I.ok.frames) j rfl x rfl (a0:=.ref t) rfl rfl fun C T g=>?_
 obtain⟨a,b,c,d⟩:=Gi (L:=s.heap.objs.size) rfl z l yv u (fun b h=>by cases h) I.free te (fun b h=>by cases h) (fun b h=>I.mX b (by
  show b∈aK (envOfC qual scope s.heap.objs.size f cd::outer)
  exact hQ _ h)) g
 exact⟨e,i,.ref t,T,H1,rfl,g.fly,u,d,te,c,I.os,I.bare,a,b,y⟩
end
def Makes(X:Cx)(E:XK):Prop:=∀(pins:TZ) (σ:St) (c:Hp) (b:Shared) (e:Addr) (a:Value) (vs:UF) (h':Heap),Inv X pins σ c b->Heap.MadeExcOf b.heap h' e a vs->E a none c->X.xe (.ref e) { b with heap:=h' }
theorem yF{P:Program}{w:World}{K:UP}{mg:UK}{base:Heap}{N:UE}{a:Str}{scope:Scope}{f:Addr}{d:Value}{A:Around}{outer:List Env}{s:Shared}{H:Hp}{E:XK} :
  Makes (dW (Hf P w) P w K mg base N a scope f d A outer s H E) E:=fun pins σ h g e c vs h' I mk b=>IP I mk b
def IF(C:Addr)(E:XK)(t:TA):TS:=fun _ σ H=>t σ H fun vs a=>vs.length<=sizeLine/\E (.ref C) none a
theorem zt{X:Cx}{x:Str}{C:Addr}{B M c l d o:String}{bm z:UF}{S b j:Pos}{a:Expr}{rest:UG}{E:XK}{t:TA}(O:OwnCls x C bm c X.mg X.base)(Fn:ExcBaseFacts M c o z)(y:bm.contains (.type M)=true)
  (J:ExcBaseFacts B l d bm) (hc:X.calm=true) (mk:Makes X E) (Y:Gl X x) (ha:PA X (a::rest) t) (v:(x == ("__debug__" : Str))=false:=by decide)
  (G:starEach (a::rest) X.env=(false,eval a X.env)::starEach rest X.env:=by rfl) (p:(backTo b (starEach rest X.env)).any (·.1)=false:=by rfl) :
  PS X (.Raise (some (.Call (.Name x S) (a::rest) [] b)) none j) (IF C E t):=by
 refine .of ?_
 intro pins s σ H D I h
 obtain⟨Q,N,nm,q,bs,hdct,sn,sub,ab,col,dd,k0,k1,k2,k3,k5,mN,hC,hN,u,T⟩:=O.obj
 refine wpAny_Raise_call_subU (C:=C) (nm:=nm) (q:=q) (N:=N) (bs:=bs) (bm:=Q) (hdct:=hdct) (sn:=sn) (sub:=sub) (ab:=ab) (col:=col) (dd:=dd) (k0:=k0) (k1:=k1) (k2:=k2) (k3:=k3) (k5:=k5)
  Fn y J (mN:=mN) (T.hasType J.hasBase) (I.ok.hd hc) (by rw[G];show(false||(backTo b (starEach rest X.env)).any (·.1))=false;rw[p];rfl) u (wg I Y O.bound ⟨rfl,?_⟩ v)
 have g:=ha b pins s σ H _ I h
 rw[G] at g ⊢
 refine Ts (y3 g fun us R ⟨vs,H1,i,r,U,hE⟩=>⟨rfl,by rw[<-r.length];exact U,i.bk _ _ hC,hN.keeps i.bk,T.keeps i.bk,fun h' e m=>mk pins σ H1 R e _ _ h' i m hE⟩)
section
variable{M:Model}{A:Around}{E:UM}{s:Shared}{base:Heap}{env:Env}{outer:List Env}{L e:Addr}{Q:Unit->Shared->Prop}
end
section
variable{M:Model}{A:Around}{E:UM}{h:Heap}{g:Array GenState}{d:Drawn}{t:Nat}{os:OsState}{e C C':Addr}{oe:Obj}{Q:Bool->Shared->Prop}
 {nm q:Str} {N:Addr} {bs bm:UF} {hdct:Bool} {sn:UE} {sub:UF} {ab:Bool} {col:Option Bool} {dd:Option Addr} {k0 k1 k2 k3 k5:UQ} {newId:String}
 {nm' q':Str} {N':Addr} {bs' bm':UF} {hdct':Bool} {sn':UE} {sub':UF} {ab':Bool} {col':Option Bool} {dd':Option Addr} {k0' k1' k2' k3' k5':UQ} {newId':String}
end
section
variable{X:Cx}{pins:TZ}{σ:St}{H:Hp}{s:Shared}{e:Addr}{oe:Obj}{F:UM}
end
section
variable{X:Cx}{pins:TZ}{σ:St}{H:Hp}{s:Shared}{e T:Addr}{cls a0:Value}{E:XK}{x:Value}{Q:Unit->Shared->Prop}{M:Model}{A:Around}{E2:UM}
end
section
variable{X:Cx}{pins:TZ}{σ:St}{H:Hp}{s:Shared}{i:Nat}{n:Str}{M:Model}{A:Around}{E:UM}{Q:Unit->Shared->Prop}
end
end L2
namespace L3
open PySem PySem.Spec PySem.Calls PyProof.Rows L2
abbrev MK:=List D->(D->Prop)->(Str->Prop)->Prop
def lK(mg:UK)(W:Str->Prop)(H:Hp)(E:XK):Prop:=∀(y:Str) (C:Addr) (a:Hp),W y->mg y=some (.ref C)->g4 H a->E (.ref C) none a
def MX(K:UP)(mg:UK)(c:MK):Sp:=fun vs H Q E=>∃ds A d W,j7 K H vs ds A/\c ds d W/\(∀r v b B,d r->g4 H b->Rep K b v r B->B.Nodup->(∀a∈B,H a=none)->Q v b)/\lK mg W H E
structure IE(P:Program)(w:World)(K:UP)(mg:UK)(base:Heap)(x:Str)(k:Nat)(ps:UE)(sp:Sp)(f:Addr)(fd:FuncData):Prop where
 ok:u6 P w K mg base (Hf P w) k f fd ps sp
 mgf:mg x=some (.ref f)
 kp:PySem.W.keepIn K (.ref f)=true
 bd:Binds K fd ps []
def calm(c:MK):Cp:=fun ds Q=>c ds Q fun _=>False
theorem Mt{X:Cx}{P:Program}{w:World}:Passes (Hf P w) X E0:=fun _ _ _ _ _ _ _ h=>by
 obtain⟨_,_,_,_,_,_,_,_,_,_,_,_,_,_,_,h⟩:=h
 exact(show False from h).elim
section
variable{X:Cx}{cl:List Cl}{e:Expr}{es:UG}{pos p:Pos}{us:cg}{k:Nat}{fn:Addr}{fd:FuncData}{ps:UE}{x:Str}
theorem AV {c:MK} (C:IE X.prog X.w X.K X.mg X.base x k ps (MX X.K X.mg c) fn fd) (J:J3 k X.A) (M:Gl X x) (i:xf X cl (e::es) us) (b:isStar e=false) (g:(x == ("__debug__" : Str))=false:=by decide)
  (d:(backTo pos (starEach es X.env)).any (·.1)=false:=by rfl):PU X cl (.Call (.Name x p) (e::es) [] pos) .fresh (o7 (calm c) us):=.of<|by
 obtain⟨t,pt,h⟩:=i.run
 refine⟨_,gh C.ok J M C.mgf C.kp C.bd .nil Mt pt g (Q6 b) d,fun G j σ H S Q R O E I y=>?_⟩
 refine h G j σ H S _ _ O E I fun vs Y ds A s r U q=>?_
 rw[Do]
 exact⟨ds,A,Q,_,r,q,fun r v T B u l o n1 n2=>y v T r B (s.trans l) o ⟨n1,fun a i=>s.free (n2 a i)⟩ u,fun _ _ _ z=>z.elim⟩
end
theorem Qf{CX:uN}{Wt:Type}{Wi:Wt->Hp->XK->Prop}{P:Program}{w:World}{K:UP}{mg:UK}{base:Heap}{x p:Str}{st:Stmt}{f:Addr}{fd:FuncData}{N ps:UE}{k:Nat}{c:List D->(D->Prop)->Wt->Prop}{s:Wt->i9}{cl:List Cl}(F:P7 K x p st f fd)(S:i8 N ps (e5 st))(T:noOwn cl ps.length=true)
  (hl:∀ds Q W,c ds Q W->ds.length=ps.length)
  (hb:∀(W:Wt) (u:Value) (A:Around) (outer:List Env) (X:Shared) (H:Hp) (E:XK),J3 k (A.deeper (envOfC p (e5 st) X.heap.objs.size f u))->Wi W H E->jY (dW CX P w K mg base N p (e5 st) f u A outer X H E) (cl++[.mk H]) (i6 st) (s W))
  (hc:∀ds Q W,c ds Q W->s W { nx:=fun _=>Q .o8,rt:=fun d _=>Q d } (i7 N.length ds)):u6 P w K mg base CX (k+1) f fd ps (fun vs H Q E=>∃ds A M W,j7 K H vs ds A/\c ds M W/\(∀r v l B,M r->g4 H l->Rep K l v r B->B.Nodup->(∀a∈B,H a=none)->Q v l)/\Wi W H E):=by
 obtain⟨oc,od,kV,a7,pm,an,u,ct,a6,rfl,lk,a3⟩:=F.ex
 refine HP lk a3 S (fun vs H Q E h=>?_) fun A outer X H vs Q E hr h=>?_
 ·obtain⟨ds,A,M,W,r,q,_⟩:=h
  rw[r.length];exact hl ds M W q
 ·obtain⟨ds,B,M,W,r,q,kk,wi⟩:=h
  have R:=hl ds M W q
  obtain⟨t,pt,h⟩:=(hb W u A outer X H E hr wi).run
  obtain⟨fa,h1,Y⟩:=r.each
  let G:Ent:=⟨H,fun _=>[],vs,cl++[.mk H],fun _=>False,H⟩
  have vl:vs.length=ps.length:=r.length.trans R
  have bor:∀i,i<vs.length->(cl++[Cl.mk H])[i]?=some .bor:=fun i b=>by
   have q:=bp T (show i<ps.length by omega)
   rw[EQ (List.getElem?_eq_some_iff.mp q).1];exact q
  have g:∀i,i<vs.length->¬G.own i:=fun i b z=>by
   have y:(cl++[Cl.mk H])[i]?=some .own:=z
   rw[bor i b] at y;cases y
  have U:∀i,G.own i->fa i=[]:=fun i b=>Y i (by
   have q1:¬i<vs.length:=fun q=>g i q b
   have q2:=r.length
   omega)
  have a2:∀(j:Nat) (l:Hp),(cl++[Cl.mk H])[j]?=some (.mk l)->l=H:=fun j l e=>by
   by_cases hj:j<cl.length
   ·rw[EQ hj] at e
    exact(cO T e).elim
   ·rw[Qr (by omega)] at e
    cases hk:j-cl.length with
    | zero=>rw[hk] at e;cases e;rfl
    | succ m=>rw[hk] at e;cases e
  have E0:E3 K G (i7 N.length ds) (L2.start N vs) H fa:=by
   refine⟨fun i d e=>?_,fun i e=>Y i ?_,cx r.length.symm,fun i b=>?_,fun i j _ b a J=>?_,fun i b I=>absurd I (g i b),fun i b I=>absurd I (g i b),fun i b a J=>?_,fun a o h _=>h,V4.refl H,fun a z=>z.elim,fun a z=>z.elim,fun i _ a _ z=>z,⟨fun i b I=>absurd I (g i b),fun j l e a o a4=>?_⟩⟩
   ·obtain⟨v,e1,r1⟩:=h1 i d (cp e)
    exact⟨v,V8 e1,r1⟩
   ·by_cases b:i<ds.length
    ·exact absurd (bh (iU b)) (e _)
    ·omega
   ·rw[Y i (by
     by_cases q:i<ds.length
     ·rcases b with b | b
      ·exact absurd b (g i (by have:=r.length;omega))
      ·have y:(cl++[Cl.mk H])[i]?=some .loc:=b
       rw[bor i (by have:=r.length;omega)] at y;cases y
     ·omega)];exact xL
   ·rw[U i b] at J;cases J
   ·rcases b with b | b
    ·have:¬i<vs.length:=fun q=>by
      have y:(cl++[Cl.mk H])[i]?=some .loc:=b
      rw[bor i q] at y;cases y
     rw[Y i (by have:=r.length;omega)] at J;cases J
    ·rw[U i b.1] at J;cases J
   ·have e:l=H:=a2 j l e
    subst e
    exact⟨a4,fun i b I=>absurd I (g i b)⟩
  refine⟨t,pt,h G _ _ _ H fa _ rfl E0 (hc ds M W q) ⟨fun a0 l C=>?_,fun v l C=>?_,fun _ _ z=>?_,fun _ _ z=>?_⟩⟩
  ·obtain⟨a1,a5,E',C⟩:=C
   exact kk .o8 .o8 l [] C (E'.kept (j:=cl.length) (show(cl++[Cl.mk H])[cl.length]?=some (.mk H) from by rw[Qr (sK _),RY];rfl)) .o8 xL (fun _ h=>(by cases h))
  ·obtain⟨d,a1,a0,a5,B',E',r',n',O,_,C⟩:=C
   exact kk d v l B' C (E'.kept (j:=cl.length) (show(cl++[Cl.mk H])[cl.length]?=some (.mk H) from by rw[Qr (sK _),RY];rfl)) r' n' O
  ·obtain⟨_,_,_,z⟩:=z;exact z
  ·obtain⟨_,_,_,z⟩:=z;exact z
theorem fnX{P:Program}{w:World}{K:UP}{mg:UK}{base:Heap}{x a:Str}{st:Stmt}{f:Addr}{h:FuncData}{N ps:UE}{k:Nat}{c:MK}{s:(Str->Prop)->i9}{cl:List Cl}(F:P7 K x a st f h)(S:i8 N ps (e5 st))(e:noOwn cl ps.length=true)
  (i:∀ds Q W,c ds Q W->ds.length=ps.length)
  (l:∀(W:Str->Prop) (b:Value) (A:Around) (outer:List Env) (g:Shared) (H:Hp) (E:XK),J3 k (A.deeper (envOfC a (e5 st) g.heap.objs.size f b))->lK mg W H E->jY (dW (Hf P w) P w K mg base N a (e5 st) f b A outer g H E) (cl++[.mk H]) (i6 st) (s W))
  (j:∀ds Q W,c ds Q W->s W { nx:=fun _=>Q .o8,rt:=fun d _=>Q d } (i7 N.length ds)):u6 P w K mg base (Hf P w) (k+1) f h ps (MX K mg c):=Qf (Wi:=fun W H E=>lK mg W H E) F S e i l j
section
variable{X:Cx}{cl:List Cl}{e:Expr}{es:UG}{pos cpos hpos np p:Pos}{us:cg}{k:Nat}{fn:Addr}{fd:FuncData}{ps:UE}{x y bn n:Str}{i:Nat}
def Ca(W:Str->Prop)(y:Str)(us:cg):i9:=fun _ a=>us a fun ds=>Nat.ble ds.length 9=true/\W y
theorem GH{C:Addr}{B M a c b d:String}{bm v:UF}{W:Str->Prop}{I:Hp}{J:XK}{j:Nat}(O:OwnCls y C bm a X.mg X.base)(Fn:ExcBaseFacts M a d v)(u:bm.contains (.type M)=true)(FB:ExcBaseFacts B c b bm)(hc:X.calm=true)
  (mk:Makes X J) (S:lK X.mg W I J) (Y:cl[j]?=some (.mk I)) (hg:Gl X y) (ha:xf X cl (e::es) us) (g:isStar e=false) (o:(y == ("__debug__" : Str))=false:=by decide) (l:(backTo cpos (starEach es X.env)).any (·.1)=false:=by rfl) :
  L7 X cl (.Raise (some (.Call (.Name y np) (e::es) [] cpos)) none pos) (Ca W y us):=.of<|by
 obtain⟨t,pt,h⟩:=ha.run
 refine⟨_,zt O Fn u FB hc mk hg pt o (Q6 g) l,fun G T Q σ H fa R z E U le=>?_⟩
 refine h G Q σ H fa _ _ z E U fun vs H1 ds A s r n3 q=>⟨?_,S y C H1 q.2 O.bound ((E.same s).kept (j:=j) (by rw[z];exact Y))⟩
 have:=Ix q.1
 rw[r.length,QU];omega
end
end L3
namespace PySem.W
open PySem PySem.Calls PyProof.Rows Builtin Builtin.ObjectAttr Builtin.Getset_descriptor
section
variable{K:Frag}{prog:Program}{w:World}{A:Around}{E:UM}{s:Shared}{e D:Addr}{oe:Obj}
end
end PySem.W
namespace PySem.W
open PySem PySem.Calls PyProof.Rows Builtin Builtin.ObjectAttr Builtin.Getset_descriptor
section
variable{K:Frag}{prog:Program}{w:World}{A:Around}{E:UM}{s:Shared}{e D:Addr}{oe:Obj}
end
end PySem.W
namespace PySem.W
open PySem PySem.Calls PyProof.Rows
structure HA(K:Frag)(D:Addr):Prop where
 ga:findIn K (.ref D) "__getattribute__"=some (some (.builtin "BaseException.__getattribute__"))
 gn:findIn K (.ref D) "__getattr__"=some none
 cl:findIn K (.ref D) "__class__"=some (some (.builtin "object.__class__"))
 sp:specialIn K (.builtin "object.__class__") "__get__"=some (some (.builtin "getset_descriptor.__get__"))
 tk:takesIn K (.builtin "object.__class__")=some true
 ob:mroIn K D (.type "object")=some true
 be:mroIn K D (.type "BaseException")=some true
section
variable{K:Frag}{D e:Addr}
theorem HA.at(B:HA K D):∃c d b a,K.lookup D=some ⟨c,d,.cls b,a⟩:=by
 have h:=B.ob
 unfold mroIn clsIn at h
 split at h
 ·rename_i c d b a g
  exact⟨_,_,_,_,g⟩
 ·cases h
theorem DI{h:Heap}{C:Addr}{d:UF}{a:String}(X:K.In h)(q:excIn K C d a=true) :
  ∃bm N nm g bs hd sn sub ab col dd k0 k1 k2 k3 k5 mN,h.get? C=some (excClassObj nm g C N bs bm hd sn sub ab col dd k0 k1 k2 k3 k5 a)/\h.Ns N mN/\mN "__init__"=none/\OwnTail h d bm/\∀v r,mroIn K C v=some r->(Value.ref C::bm).contains v=r:=by
 unfold excIn at q
 split at q
 case h_2=>cases q
 rename_i dd G o p
 split at q
 case h_2=>cases q
 rename_i u bm k0 k1 k2 k3 n k5 j B
 simp only[Fa,beq_iff_eq,Bool.not_eq_true'] at q
 obtain⟨⟨⟨⟨⟨rfl,rfl⟩,b⟩,z⟩,hok⟩,c⟩:=q
 have y:∀v r,mroIn K u v=some r->(Value.ref u::bm).contains v=r:=fun v r e=>by
  unfold mroIn clsIn at e
  rw[p] at e
  simp only[Option.bind_some,j,List.isEmpty_cons] at e
  exact Qn e
 obtain⟨nm,bs,x,ns,g,hd,sn,sub,ab,col,E⟩:=G
 dsimp only at j b hok c
 subst j b
 have i:o=#[k0,k1,k2,k3,some (.builtin n),k5]:=by
  obtain⟨l⟩:=o
  exact QV Array.mk B
 subst i
 exact⟨bm,ns,nm,g,bs,hd,sn,sub,ab,col,dd,k0,k1,k2,k3,k5,_,X _ _ p,.of_isNs (isNs_of_in X hok),nsMap_none_of_in X hok c,tail_of_in X z,y⟩
theorem Na{h:Heap}{C:Addr}{i:UF}{g:String}{mg:UK}{x:Str}(X:K.In h)(G:h.Ns mainGlobals mg)(e:nsIn K mainGlobals x=some (some (.ref C)))(q:excIn K C i g=true):OwnCls x C i g mg h:=by
 obtain⟨bm,N,nm,j,bs,hd,sn,sub,ab,col,dd,k0,k1,k2,k3,k5,mN,a,b,c,d,_⟩:=DI X q
 exact⟨mg_of X G e,bm,N,nm,j,bs,hd,sn,sub,ab,col,dd,k0,k1,k2,k3,k5,mN,a,b,c,d⟩
end
end PySem.W
namespace L3
open PySem PySem.Spec PySem.Calls PyProof.Rows PySem.W L2
section
variable{X:Cx}{cl:List Cl}{e C:Addr}{oe:Obj}{pos p p1 p2:Pos}{n y:Str}{i:Nat}{b:Bool}
end
end L3
namespace L2
open PySem PySem.Spec PyProof.Rows
end L2
namespace L3
open PySem PySem.Spec PyProof.Rows L2
section
variable{X:Cx}{cl:List Cl}{tg e a kx:Expr}{f fb:Fl}{ua ub:TU}{pos p:Pos}
end
end L3
namespace PySem.SeqAt
open PySem MeetsSeq MeetsSeq2 MeetsSeq3 SeqRoads2
end PySem.SeqAt
namespace PySem.SeqAt
open PySem MeetsSeq MeetsSeq2 MeetsSeq3 SeqRoads2
section
variable{A:Around}{s:Shared}
end
end PySem.SeqAt
namespace L2
open PySem PySem.Spec PyProof.Rows
section
variable{X:Cx}
end
end L2
namespace L3
open PySem PySem.Spec PyProof.Rows L2
section
variable{X:Cx}{cl:List Cl}{a b:Expr}{fa fb:Fl}{ua ub:TU}{pos:Pos}
end
end L3
namespace L2
open PySem PySem.Spec PyProof.Rows
section
variable{X:Cx}
end
end L2
namespace L3
open PySem PySem.Spec L2
section
variable{X:Cx}{cl:List Cl}{a:Expr}{fa:Fl}{ua:TU}{pos:Pos}
end
end L3
namespace PySem
theorem lN:typeLookup (.type "list") "keys"=pure none:=by rw[Rq,QR];kernel_rfl
theorem FL{prog:Program}{w:World}{A:Around}{E:UM}{s:Shared}{a:Addr}{o:Obj}{xs:UJ}{k:Nat}{Q:UQ->Shared->Prop}
  (l:s.heap.get? a=some o) (p:o.cls=.type "list") (b:o.data=.seq xs k) (hd:o.dict=none) (v:A.handled=none)
  (h:∀h' tk e,Heap.NewExcOf s.heap h' e "AttributeError"->Q none { s with heap:=h',toks:=tk }):wpAny (model prog w) A (getAttr? (.ref a) "keys") Q E s:=by
 obtain⟨c,x,y,r⟩:=o
 simp only at p b hd
 subst p b hd
 obtain⟨u,g,d,tk,os⟩:=s
 have q:∀i,(⟨u,g,d,i,os⟩:Shared).TypeIs (.ref a) "list":=fun _=>⟨_,l,rfl⟩
 have I:=sub_AttributeError
 have H:=F.slot_list_getattribute.lookup
 have G:=F.slot_list_getattribute.bind (.ref a)
 have C:=am_list_getattr_none
 unfold getAttr? getAttrBy? getAttrBy
 repeat (any_goals (first | assumption | exact q _ | ((with_reducible show wpAny _ _ (call (Value.builtin "list.__getattribute__") _ _) _ _ _);refine call_meets F.slot_list_getattribute (q _) am_entry_list_getattribute (F.args_list_getattribute_2 _ _) (meets_getattribute_miss_list a xs k r "keys" _ lN (by decide +kernel) (by size_fits)) ⟨l,v,fun h' i e j=>?_⟩) | wp_step))
 obtain⟨t',z,B⟩:=j.there
 show wpAny _ _ (getattributeRaised _ _ _ _ _ _ _) _ _ _
 unfold getattributeRaised
 repeat (any_goals (first | assumption | wp_step))
 exact h _ _ _ j.of
end PySem
namespace L2
open PySem PySem.Spec PyProof.Rows
theorem oa:entryFor table "dict.update.loop"=some Builtin.«dict.update.loop»:=entryFor_of_tree (by kernel_rfl)
theorem cY:plainId "dict.update.loop"=true:=by decide +kernel
def wj(H:Hp)(t:V)(b:Key×V):Prop:=∃a,t=.ref a/\H a=some (.tup [kV b.1,b.2])
theorem kH{d c:Type}{F:d->c->Prop}:∀{l:List d} {m:List c},Paired F l m->∀(i:Nat) (a:d) (b:c),l[i]?=some a->m[i]?=some b->F a b
 | _,_,.nil,i,a,b,h,_=>by simp at h
 | _,_,.cons r t,0,a,b,h,g=>by simp at h g;subst h g;exact r
 | _,_,.cons r t,i+1,a,b,h,g=>kH t i a b (by simpa using h) (by simpa using g)
section
variable{X:Cx}{pins:TZ}{σ:St}
theorem sU{H:Hp}{s:Shared}{a:Addr}{v:V}{u r:Value}{A:Around}{E:UM}{kvs:List (Key×V)}{k:Key}{Q:Unit->Shared->Prop}(I:Inv X pins σ H s)(e:H a=some (.dK kvs))(l:kvs.length<sizeLine)(i:RelV (kV k) u)(rv:RelV v r)
  (h:∀d,Inv X pins σ (upd H a (.dK (putK kvs k v))) d->Heap.SameBut a s.heap d.heap->Q () d):wpAny (model X.prog X.w) A (dictSet a u r) Q E s:=by
 obtain⟨z,hd,vs,b,dd⟩:=CO I.hok e
 have hz:vs.length<=sizeLine:=by rw[<-b.length];exact z
 have o:(putK kvs k v).length<=sizeLine:=by have:=K9 kvs k v;omega
 refine wpAny_dictSet_pairs (hsz:=hz) (bE i) dd fun h' c g=>h _ ?_ g
 exact fV I (by rw[e];exact True.intro) g (let ⟨q,_,_,j,_⟩:=c;⟨q,j⟩) (mm o hd (b.put k rv) c)
theorem DU{A:Around}{R:Result->Shared->Prop}{H:Hp}{d p it:Addr}{ts:List V}{kvs:List (Key×V)}(hh:A.handled=none)(Y:L1 X.K H p ts)(hd:H d=none)(z:Paired (wj H) ts kvs)(hl:kvs.length<sizeLine)(B:it≠d)(h:∀o,M7 X pins (upd H d o) it)(y:∀j,Inv X pins σ (upd H d (.dK (E9 [] kvs))) j->R (.ok (.ret .none)) j) :
  ∀(n i:Nat) (s:Shared),kvs.length-i=n->i<=kvs.length->Inv X pins σ (upd H d (.dK (E9 [] (kvs.take i)))) s->s.heap.IsListIter it p i ->
   codeAny (model X.prog X.w) A (.builtin "dict.update.loop" ⟨[.ref d,.ref it,rawInt i,.none],[]⟩) R s:=by
 intro n
 induction n with
 | zero=>
  intro i s hn c I st
  have e:i=kvs.length:=by omega
  subst e
  rw[QH] at I
  have hq:L1 X.K (upd H d (.dK (E9 [] kvs))) p ts:=g4.seq (g4.i4 hd) Y
  obtain⟨its,rv,pl,hz⟩:=I.list hq
  obtain⟨O,M,f2,J,G,E⟩:=h (.dK (E9 [] kvs))
  have e1:=z.length
  have e2:=rv.length
  refine QM oa ?_
  rw[QA cY _]
  show wpAny _ A.in1 (pyNext (.ref it) >>= _) _ _ s
  refine dL (wpAny_pyNext_list_end hh st pl.isList (by simp;omega) fun h' eb=>?_)
  have l:=I.turned (t':=s.toks) (h':=h') (fun b o C e=>eb b o C e) O M J G E
  exact dL (hH (hH (y _ l)))
 | succ n ih=>
  intro i s hn c I st
  have c:i<kvs.length:=by omega
  have sm:g4 H (upd H d (.dK (E9 [] (kvs.take i)))):=g4.i4 hd
  obtain⟨its,rv,pl,hz⟩:=I.list (g4.seq sm Y)
  obtain⟨O,M,f2,J,G,E⟩:=h (.dK (E9 [] (kvs.take i)))
  have e1:=z.length
  have U:ts[i]?=some (ts[i]'(by omega)):=iU (by omega)
  have hk:kvs[i]?=some (kvs[i]'c):=iU c
  obtain⟨a,ea,ha⟩:=kH z i _ _ U hk
  obtain⟨u,hu,S⟩:=rv.get U
  rw[ea] at S
  cases(show u=Value.ref a from S)
  refine QM oa ?_
  rw[QA cY _]
  show wpAny _ A.in1 (pyNext (.ref it) >>= _) _ _ s
  refine dL (wpAny_pyNext_list_item st pl.isList (x:=.ref a) (by simpa using hu) fun h' q sb=>?_)
  have l:=I.turned (t':=s.toks) (h':=h') (fun b o C e=>(sb.2 b C).trans e) O M J G E
  obtain⟨_,T,r,o2,g1,g2,n2,g3⟩:=(show x6 X.prog X.w _ h' a (.tup _) from l.hok a _ (sm _ _ ha))
  obtain⟨k1,Q,rfl,rk,v⟩:=vals2 r
  have g:(E9 [] (kvs.take i)).length<sizeLine:=by
   have h1:=bG (kvs.take i) []
   rw[Op] at h1
   simp at h1
   omega
  have em:E9 [] (kvs.take (i+1))=putK (E9 [] (kvs.take i)) (kvs[i]'c).1 (kvs[i]'c).2:=by
   rw[Qp,hk]
   unfold E9
   rw[Tq];rfl
  refine dL (Qq (dL (wpAny_tryCatch ?_)))
  unfold Builtin.Dict.pairItems
  refine dL (SC ⟨o2,g1,g2⟩ ?_)
  rw[wS (by decide)]
  refine dL (wpAny_seqItems g1 g3 (hH ?_))
  show wpAny _ _ (holding [k1,Q] (dictSet d k1 Q)) _ _ _
  refine Qq (sU l e9 g rk v fun j I2 hs=>?_)
  rw[bj,<-em] at I2
  exact hH ⟨QS cY _,ih (i+1) j (by omega) c I2 (q.at fun o e=>(hs.2 it B).trans e)⟩
theorem sY(E:X.calm=true):I0 X (.type "dict") (fun xs H Q=>∃p ts kvs,xs=[.ref p]/\L1 X.K H p ts/\Paired (wj H) ts kvs/\kvs.length<sizeLine/\∀d,H d=none->Q (.ref d) (upd H d (.dK (E9 [] kvs)))):=by
 intro pins s σ H xs U Q I r h
 obtain⟨p,ts,kvs,rfl,C,R,S,q⟩:=h
 obtain⟨u,rfl,M⟩:=vals1 r
 cases(show u=Value.ref p from M)
 refine callType_codes (Q₁:=fun obj B=>obj=.ref s.heap.objs.size/\B={ s with heap:=s.heap.push { cls:=.type "dict",data:=.dict #[] } }) F.kt_called_dict (F.kt_typeCall_dict_1 _) F.entry_dict_init (kt_code_dict_new _ ⟨rfl,rfl⟩) ?_
 rintro obj B ⟨rfl,rfl⟩
 have v:=I.hok.fresh (sK s.heap.objs.size)
 have J:=I.laid (a:=s.heap.objs.size) (o:=.dK []) (h':=s.heap.push { cls:=.type "dict",data:=.dict #[] }) (t':=s.toks) (fun _ _ q=>hD _ q) (sK _) (cU s.heap I.big)
 obtain⟨its,rv,pl,hz⟩:=J.list (g4.seq (g4.i4 v) C)
 have G:Shared.TypeIs { s with heap:=s.heap.push { cls:=.type "dict",data:=.dict #[] } } (.ref s.heap.objs.size) "dict":=⟨_,At _ rfl,rfl⟩
 refine⟨G,F.args_dict_init_2 _ _,?_⟩
 unfold Builtin.«dict.__init__»
 refine dL ?_
 unfold Builtin.Dict.selfAndRest
 refine dL (wpAny_notOrdered_dict G ?_)
 show wpAny _ _ (pure (s.heap.objs.size,[Value.ref p])) _ _ _
 refine hH ?_
 show wpAny _ _ (Builtin.Dict.updateFrom "dict.__init__" s.heap.objs.size (.ref p) [] .none) _ _ _
 unfold Builtin.Dict.updateFrom
 refine dL (SC pl.isList.typeIs ?_)
 rw[wS (by decide)]
 obtain⟨ob,O,l,j,x,i⟩:=pl
 refine dL (FL l j i x (I.ok.hd E) fun y c e2 nx=>?_)
 have z:=J.kept (t':=c) (h':=y) nx.keeps
 rw[wS (show(none:UQ).isNone=true from rfl)]
 refine dL (Sd ?_)
 refine dL (Sj (items:=its.toArray) ⟨ob,nx.keeps _ _ l,j,O,i⟩ ?_)
 refine hH ⟨QS cY _,?_⟩
 have g:s.heap.objs.size<y.objs.size:=by
  have:=AT (nx.keeps _ _ (At s.heap (o:={ cls:=.type "dict",data:=.dict #[] }) rfl))
  exact this
 refine DU (X:=X) (pins:=pins) (σ:=σ) (A:=X.A.in1) (H:=H) (d:=s.heap.objs.size) (p:=p) (it:=y.objs.size) (ts:=ts) (kvs:=kvs) (I.ok.hd E) C v R S (RN g) (fun o=>?_) (fun Y T=>?_) kvs.length 0 _ rfl (KM _) ?_ ?_
 ·exact z.fH (sK _) (by rw[i3 (RN g)];exact(g4.i4 v).free (z.hok.fresh (sK _)))
 ·exact⟨rfl,.ref s.heap.objs.size,_,T,rfl,q _ v⟩
 ·exact z.kept (t':=c) fun b o e=>hD _ e
 ·exact⟨_,At _ rfl,rfl,rfl⟩
end
end L2
namespace L3
open PySem PySem.Spec PyProof.Rows L2
def pairD:D->Option (Key×D)
 | .tup [k,v]=>(ak k).map fun j=>(j,v)
 | _=>none
def bT:List D->Option (List (Key×D))
 | []=>some []
 | x::xs=>match pairD x,bT xs with
  | some p,some ps=>some (p::ps)
  | _,_=>none
def jg(more:List (Key×D)):List (Key×D):=more.foldl (fun acc a=>putD acc a.1 a.2) []
section
variable{X:Cx}
theorem qb{K:UP}{H:Hp}:∀{ts:List V} {xs:List D} {A:UD} {ps:List (Key×D)},j7 K H ts xs A->bT xs=some ps->y9 xs=true ->
  ∃kvs:List (Key×V),Paired (wj H) ts kvs/\A3 K H kvs ps []/\kvs.length=ps.length
 | _,_,_,_,.nil,e,_=>by cases e;exact⟨[],.nil,.nil,rfl⟩
 | _,_,_,ps,.cons (d:=d) (ds:=ds) h t,e,G=>by
  have g:(y1 d&&y9 ds)=true:=G
  rw[Fa] at g
  unfold bT at e
  cases i:pairD d with
  | none=>rw[i] at e;cases e
  | some p=>
   cases l:bT ds with
   | none=>rw[i,l] at e;cases e
   | some O=>
    rw[i,l] at e
    cases e
    obtain⟨kvs,a,b,c⟩:=qb t l g.2
    unfold pairD at i
    split at i
    ·rename_i k v
     obtain⟨j,J,rfl⟩:=Option.map_eq_some_iff.mp i
     obtain⟨q,vs,rfl,I,r⟩:=M4 h
     obtain⟨x,y,B,C,rfl,u,o,_⟩:=r.two
     cases U7 u J
     have E:y1 v=true:=by
      have z:(y1 k&&(y1 v&&true))=true:=g.1
      simp only[Fa] at z
      exact z.2.1
     have M:=o.D4 E
     subst M
     exact⟨(j,y)::kvs,.cons ⟨q,rfl,I⟩ a,A3.cons (A:=[]) (B:=[]) o b,by rw[FS,FS,c]⟩
    ·cases i
theorem jR{K:UP}{H:Hp}:∀{kvs:List (Key×V)} {ps:List (Key×D)} {A:UD} {acc:List (Key×V)} {ad:List (Key×D)},A3 K H kvs ps A->A=[]->A3 K H acc ad []->A3 K H (E9 acc kvs) (ps.foldl (fun a c=>putD a c.1 c.2) ad) []
 | _,_,_,_,_,.nil,_,q=>q
 | _,_,_,acc,ad,.cons (k:=k) h t,e,q=>by
  obtain⟨i,g⟩:=List.append_eq_nil_iff.mp e
  subst i
  obtain⟨C,b,d⟩:=q.put k h
  rw[List.sublist_nil.mp d] at b
  show A3 K H (E9 (putK acc k _) _) (List.foldl _ (putD ad k _) _) []
  exact jR t g b
def uz:List D->(D->Prop)->Prop:=fun ds Q=>(∃(d:D) (xs:List D) (ps:List (Key×D)),ds=[d]/\kindB false d=some xs/\y9 xs=true/\bT xs=some ps/\ps.length<sizeLine/\Q (.dic (jg ps))) \/
 ∃a:List (Key×D),ds=[.dic a]/\(a.all fun b=>y1 b.2)=true/\Q (.dic a)
def uq(K:UP)(xs:List V)(H:Hp)(Q:VK):Prop:=(∃p ts kvs,xs=[.ref p]/\L1 K H p ts/\Paired (wj H) ts kvs/\kvs.length<sizeLine/\∀d,H d=none->Q (.ref d) (upd H d (.dK (E9 [] kvs)))) \/
  ∃p kvs,xs=[.ref p]/\Dd H p kvs/\∀d,H d=none->Q (.ref d) (upd H d (.dK kvs))
theorem ow(v:X.calm=true):I0 X (.type "dict") (uq X.K):=by
 intro pins s σ H xs d Q I r h
 rcases h with h | ⟨p,kvs,rfl,j,q⟩
 ·exact sY v pins s σ H xs d Q I r h
 ·obtain⟨u,rfl,g⟩:=vals1 r
  cases(show u=Value.ref p from g)
  obtain⟨z,hd,vs,a,dd⟩:=bw I.hok (.of j)
  refine kt_call_dict hd dd (by rw[<-a.length];exact z) fun h' c i=>?_
  have l:=I.hok.fresh (sK s.heap.objs.size)
  have kp:∀b o,s.heap.get? b=some o->h'.get? b=some o:=fun b o e=>by
   have x:b≠s.heap.objs.size:=Ew (AT e)
   exact(i.2 b x).trans (hD _ e)
  have y:(s.heap.objs.size == sysModules)=false:=(cU (P:=X.prog) (w:=X.w) (H:=H) s.heap I.big).2.1
  exact⟨.ref s.heap.objs.size,_,I.laid (t':=s.toks) kp (sK _) (mm z y a c),rfl,q _ l⟩
theorem iE(a:X.calm=true):I0 X (.type "dict") (fun xs H Q=>uq X.K xs H (KW Q)):=zH (ow a)
theorem vR:Call3 X (fun xs H Q=>uq X.K xs H (KW Q)) uz:=by
 intro H vs ds A Q R r q k
 rcases q with⟨d,xs,ps,rfl,I,i,G,C,q⟩ | ⟨u,rfl,i,q⟩
 ·obtain⟨v,rfl,h⟩:=r.one
  obtain⟨p,ts,B,rfl,x,l,_⟩:=Z4 h I
  obtain⟨kvs,o,g,el⟩:=qb l G i
  refine .inl ⟨p,ts,kvs,rfl,x,o,by rw[el];exact C,fun a e=>?_⟩
  have j:A3 X.K H (E9 [] kvs) (jg ps) []:=jR g rfl .nil
  refine⟨a,_,rfl,e9,fun ep=>?_⟩
  rw[bj]
  refine k _ _ _ [a] (g4.i4 e) (.dic e9 (j.mono (V4.of (g4.i4 e)) fun b c=>by cases c)) (List.nodup_cons.mpr ⟨(fun z=>nomatch z),xL⟩) (fun b c=>by cases List.mem_singleton.mp c;exact e) q
 ·obtain⟨v,rfl,h⟩:=r.one
  obtain⟨p,kvs,B,rfl,y,g,_⟩:=bc h
  have E:=g.D4 i
  subst E
  refine .inr ⟨p,kvs,rfl,y,fun a e=>?_⟩
  refine⟨a,_,rfl,e9,fun ep=>?_⟩
  rw[bj]
  exact k _ _ _ [a] (g4.i4 e) (.dic e9 (g.mono (V4.of (g4.i4 e)) fun b c=>by cases c)) (List.nodup_cons.mpr ⟨(fun z=>nomatch z),xL⟩) (fun b c=>by cases List.mem_singleton.mp c;exact e) q
end
end L3
namespace L2
open PySem PySem.Spec PyProof.Rows
section
variable{X:Cx}{e c:Expr}{te:TE}{pos p2:Pos}
end
end L2
namespace L3
open PySem PySem.Spec L2
section
variable{X:Cx}{cl:List Cl}{a c:Expr}{fa:Fl}{ua uc:TU}{pos p2:Pos}
end
end L3
namespace L2
open PySem PySem.Spec PySem.Calls PyProof.Rows
section
variable{X:Cx}{pins:TZ}{σ:St}{H:Hp}{s:Shared}
end
end L2
namespace L3
open PySem PySem.Spec PySem.Calls PyProof.Rows L2
section
variable{X:Cx}{cl:List Cl}{e:Expr}{es:UG}{pos cpos hpos np p:Pos}{us:cg}{k m:Nat}{x y bn n:Str}{i j:Nat}{AP:Addr->Prop}
end
section
variable{X:Cx}{cl:List Cl}{e:Expr}{es:UG}{pos p:Pos}{us:cg}{k:Nat}{fn:Addr}{fd:FuncData}{ps:UE}{x:Str}{ua:TU}{f:Fl}{ma:TM}
structure Nx(X:Cx)(cl:List Cl)(es:UG)(u:cg):Prop where
 of ::
 run:∃t,PA X es t/\∀(G:Ent) (ρ:Ev) (σ:L2.St) (H:Hp) (fa:UN) (Q:List D->Prop) (R:List V->Hp->Prop),G.cl=cl->E3 X.K G ρ σ H fa->u ρ Q ->
  (∀vs H' ds A,g4 H H'->j7 X.K H' vs ds A->ds.length=es.length->(∀i,G.own i->∀a∈A,a∉fa i)->Q ds->R vs H')->t σ H R
theorem Js:Nx X cl [] j4:=.of ⟨_,P4,fun G b σ H c Q R _ E a k=>k [] H [] [] (g4.refl H) .nil rfl (fun _ _ _ h=>(by cases h)) a⟩
theorem vj(b:PU X cl e f ua)(T:Nx X cl es us)(S:isStar e=false)(U:gQ f .stab=true):Nx X cl (e::es) (e7 ua us):=.of<|by
 obtain⟨t1,I,h1⟩:=b.run
 obtain⟨t2,C,Y⟩:=T.run
 refine⟨_,dJ I C S,fun G c σ H o Q R l E O k=>?_⟩
 refine h1 G c σ H o _ _ l E O fun v H1 d A h r f1 y=>?_
 refine Y G c σ H1 o _ _ l (E.same h) y fun vs H2 ds B g q M J u=>?_
 refine k (v::vs) H2 (d::ds) (A++B) (h.trans g) (.cons (r.same g) q) (by simp[M]) (fun i j a b=>?_) u
 rcases List.mem_append.mp b with z | z
 ·exact f1.weak E U i j a z
 ·exact J i j a z
theorem GI{c}(h:Nx X cl es us)(j:Nat.ble es.length 1000=true):PU X cl (.Tuple es c pos) .stab (bL us):=.of<|by
 obtain⟨t,p,h⟩:=h.run
 refine⟨_,tX p,fun G b σ H o Q R l E i k=>?_⟩
 refine h G b σ H o _ _ l E i fun vs u ds A s r g d q=>⟨by rw[r.length,g];exact aG (Ix j),fun x a=>?_⟩
 exact k _ _ (.tup ds) A (s.trans (g4.i4 a)) (.tup e9 (r.same (g4.i4 a))) d q
end
end L3
namespace L2
open PySem PySem.Spec PyProof.Rows
theorem pF{prog:Program}{w:World}{A:Around}{E:UM}{s:Shared}{T d b:String}{v:Builtin}{a:UF}{Q Q1:UM}(g:TypeCalled T d b)(ct:checkTypeCall T ⟨a,[]⟩=pure ())(B:entryFor table b=some v)
  (l:codeAny (model prog w) A.in1 (.call (.builtin d) ⟨.type T::a,[]⟩) (wants Q1 E) s)
  (next:∀x j,Q1 x j->j.TypeIs x T/\(∀{H:Around} {u:Unit->Shared->Prop} {G:UM},u () j->wpAny (model prog w) H (checkBuiltinCall b ⟨x::a,[]⟩) u G j) /\
   wpAny (model prog w) A.in1.in1 (v ⟨x::a,[]⟩)
    (fun f o=>match f with | .done r=>wants (fun r i=>r=.none/\Q x i) E (.ok r) o | .again c=>c.quiet=true/\codeAny (model prog w) A.in1 c (wants (fun r i=>r=.none/\Q x i) E) o)
    (fun e o=>wants (fun r i=>r=.none/\Q x i) E (.error e) o) j) :
  wpAny (model prog w) A (call (.type T) a) Q E s:=by
 have⟨c,I,f1⟩:=g.mro;have Y:=g.made;have X:=g.sub;have U:=g.notType;have S:=g.canCreate
 refine wpAny_call (Tj (show wpAny _ _ (callAny (.type T) _) _ _ _ from hH ⟨Code.quiet_builtin _ (by decide +kernel),QM F.entry_type_call ?_⟩))
 rw[Around.under_plain (weight_type_call_type T a []) rfl];repeat (any_goals (first | assumption | wp_step))
 refine SD l fun r j p=>?_
 cases r with
 | error e=>exact p
 | ok z=>
  cases z with
  | ret x=>
   have⟨R,C,run⟩:=next _ _ p;have O:=g.init.lookup;have M:=g.init.bind x;repeat (any_goals (first | assumption | wp_step))
   refine SD (codeAny_call_builtin g.init.plain B (C run)) fun y i h=>?_
   cases y with
   | error e=>exact h
   | ok q=>
    cases q with
    | ret r=>obtain⟨rfl,J⟩:=h;repeat (any_goals (first | assumption | wp_step))
    | _=>exact h.elim
  | _=>exact p.elim
theorem pV{prog:Program}{w:World}{A:Around}{R:Result->Shared->Prop}{I:Addr}{Q q:UD}{n:Nat}{P:Nat->Value->Prop}{St:Nat->Heap->Prop}(W:Walks prog w A.in1 I Q q n P St)(S:Addr)(O:S∉Q)(c:Nat->Key)(hv:∀i v,P i v->bA (c i) v=true)(d:n+1<scanBound) :
  ∀(k i:Nat) (s:Shared),n-i=k->i<=n->St i s.heap->(∃m,m<=i/\s.heap.SetOf (j9 prog w) S (fun x=>((List.range i).map c).any fun z=>decide (z=x)) m) ->
   (∀h' tk m,(∀b o,b∉S::q->s.heap.get? b=some o->h'.get? b=some o)->h'.SetOf (j9 prog w) S (fun x=>((List.range n).map c).any fun z=>decide (z=x)) m->R (.ok (.ret .none)) { s with heap:=h',toks:=tk }) ->
   codeAny (model prog w) A (.builtin "set.update.loop" ⟨[.ref S,.ref I],[]⟩) R s:=by
 have X:S∉q:=fun h=>O (W.sub _ h)
 have dm:∀{h h':Heap} {T:Key->Bool} {m:Nat},(∀b o,b∉q->h.get? b=some o->h'.get? b=some o)->h.SetOf (j9 prog w) S T m->h'.SetOf (j9 prog w) S T m:=fun k ⟨o,es,ep,t,ho,r⟩=>⟨o,es,ep,t,k S _ X ho,r⟩
 have same:∀{h:Heap} {T U:Key->Bool} {m:Nat},h.SetOf (j9 prog w) S T m->T=U->h.SetOf (j9 prog w) S U m:=fun a e=>e▸a
 intro k
 induction k with
 | zero=>
  intro i s hk hi st ⟨m,_,J⟩ g
  have e:i=n:=by omega
  subst e
  refine QM Rj ?_
  rw[QA QC _]
  show wpAny _ A.in1 (pyNext (.ref I) >>= _) _ _ s
  refine dL (W.done s _ _ st fun h' tk kp=>?_)
  exact hH (g h' tk m (fun b o d e=>kp b o (fun z=>d (hQ _ z)) e) (dm kp J))
 | succ k ih=>
  intro i s hk hi st ⟨m,a0,J⟩ g
  have p:i<n:=by omega
  refine QM Rj ?_
  rw[QA QC _]
  show wpAny _ A.in1 (pyNext (.ref I) >>= _) _ _ s
  refine dL (W.item i s _ _ p st fun v h' tk hP y kp=>?_)
  have l:=hv i v hP
  have C:v.scannable=true:=by rcases p4 l with⟨j,t,_,rfl⟩ | ⟨x,t,_,rfl⟩<;>rfl
  have H:=dm kp J
  show wpAny _ A.in1 (holding [v] (setAdd S v) >>= _) _ _ _
  refine dL (Qq ?_)
  unfold setAdd
  refine Qq (dL ((j9 prog w).pyHash (k:=c i) l ?_))
  refine wpAny_setAddHashed_of (knd:=j9 prog w) (n:=m) (s:={ s with heap:=h',toks:=tk+1 }) l C H (by omega) fun h2 M G=>?_
  refine hH ⟨QS QC _,ih (i+1) _ (by omega) p (W.frame (i+1) h' h2 y fun b d o e=>(M.2 b fun z=>O (z▸d)).trans e) ⟨_,?_,same G (funext fun x=>?_)⟩ fun h3 u Y B E=>?_⟩
  ·split<;>omega
  ·rw[SV,GM]
   rw[List.any_append]
   show((_:Bool)||decide (x=c i))=(_||(decide (c i=x)||false))
   rw[Bool.or_false,show decide (x=c i)=decide (c i=x) from decide_eq_decide.mpr eq_comm]
  ·refine g h3 u Y (fun b o d e=>B b o d ?_) E
   exact(M.2 b fun z=>d (by rw[z];exact lP)).trans (kp b o (fun z=>d (hQ _ z)) e)
theorem kd(P:Program)(w:World){ts:List V}{its:UF}{a:List Key}(r:Vals ts its)(e:ts=a.map kV)(i:Nat)(v:Value)(h:its.toArray[i]?=some v):bA (a.getD i (.inl 0)) v=true:=by
 subst e
 have d:its[i]?=some v:=by simpa using h
 have j:=r.length
 rw[eH] at j
 have l:=(List.getElem?_eq_some_iff.mp d).1
 have c:a[i]?=some (a[i]'(by omega)):=iU (by omega)
 obtain⟨u,b,g⟩:=r.get (show(a.map kV)[i]?=some (kV (a[i]'(by omega))) by rw[wE,c];rfl)
 rw[d] at b
 cases b
 rw[B2,c]
 exact bE (P:=P) (w:=w) g
theorem range_getD(a:List Key):(List.range a.length).map (fun i=>a.getD i (.inl 0))=a:=by
 refine Tr fun i=>?_
 rw[wE]
 by_cases h:i<a.length
 ·rw[Te h,iU h]
  show some (a.getD i (.inl 0))=_
  rw[B2,iU h];rfl
 ·rw[RG (by simpa using h),RG (by simpa using h)];rfl
section
variable{X:Cx}
theorem sub_tuple_set:isSubtype (.type "tuple") (.type "set")=pure false:=by rw[Ri];kernel_rfl
theorem iR:isSubtype (.type "tuple") (.type "frozenset")=pure false:=by rw[Ri];kernel_rfl
theorem ye(hc:X.calm=true):I0 X (.type "set") (fun xs H Q=>∃(p:Addr) (ts:List V) (j:List Key),xs=[.ref p]/\(L1 X.K H p ts\/Q0 X.K H p ts)/\ts=j.map kV/\j.length+1<scanBound/\∀d n,H d=none->Q (.ref d) (upd H d (.set (fun k=>j.any fun z=>decide (z=k)) n))):=by
 intro pins s σ H xs us Q I r h
 obtain⟨p,ts,j,rfl,C,ht,hl,q⟩:=h
 obtain⟨u,rfl,ru⟩:=vals1 r
 cases(show u=Value.ref p from ru)
 refine pF (Q1:=fun x s1=>∃led:Bool,x=.ref s.heap.objs.size/\s1={ s with heap:=s.heap.push { cls:=.type "set",dict:=none,data:=.set #[] 0 (.fresh 0 0 led) } }) F.called_set (F.typeCall_set_1 _) F.entry_set_init (code_set_new_1 _ fun led=>⟨led,rfl,rfl⟩) ?_
 rintro x s1 ⟨led,rfl,rfl⟩
 have hn:=I.hok.fresh (sK s.heap.objs.size)
 have hS:(s.heap.push { cls:=.type "set",dict:=none,data:=.set #[] 0 (.fresh 0 0 led) }).get? s.heap.objs.size=some { cls:=.type "set",dict:=none,data:=.set #[] 0 (.fresh 0 0 led) }:=At _ rfl
 have hT:Shared.TypeIs { s with heap:=s.heap.push { cls:=.type "set",dict:=none,data:=.set #[] 0 (.fresh 0 0 led) } } (.ref s.heap.objs.size) "set":=⟨_,hS,rfl⟩
 refine⟨hT,fun hq=>check_set_init_1 hT hq,?_⟩
 have Y:∀(h':Heap) (tk m:Nat),(∀b o,b<s.heap.objs.size->s.heap.get? b=some o->h'.get? b=some o)->h'.SetOf (j9 X.prog X.w) s.heap.objs.size (fun x=>j.any fun z=>decide (z=x)) m ->
   EP X pins σ Q (.ref s.heap.objs.size) { s with heap:=h',toks:=tk }:=fun h' tk m kp J=>
  ⟨.ref s.heap.objs.size,_,I.laid (a:=s.heap.objs.size) (o:=.set (fun k=>j.any fun z=>decide (z=k)) m) (h':=h') (t':=tk) (fun b o e=>kp b o (AT e) e) (sK _) J,rfl,q _ m hn⟩
 have hh:=I.ok.hd hc
 have e0:((List.range 0).map fun i=>j.getD i (.inl 0))=[]:=rfl
 have start:∀{U:Heap},U.get? s.heap.objs.size=some { cls:=.type "set",dict:=none,data:=.set #[] 0 (.fresh 0 0 led) }->U.SetOf (j9 X.prog X.w) s.heap.objs.size (fun x=>((List.range 0).map fun i=>j.getD i (.inl 0)).any fun z=>decide (z=x)) 0:=fun g=>
  ⟨_,#[],0,_,g,⟨rfl,rfl,rfl⟩,rfl,fun e he=>by simp at he,fun k=>by simp,by decide,by rfl,rfl⟩
 have R:p<s.heap.objs.size:=by
  rcases C with C | C
  ·obtain⟨_,_,pl,_⟩:=I.list C
   obtain⟨o,_,e,_⟩:=pl
   exact AT e
  ·obtain⟨_,_,pl,_⟩:=I.tuple C
   exact pl.lt
 have np:s.heap.objs.size∉[(s.heap.push { cls:=.type "set",dict:=none,data:=.set #[] 0 (.fresh 0 0 led) }).objs.size,p]:=by
  rw[QL]
  intro z
  rcases List.mem_cons.mp z with z | z
  ·exact absurd z (Ew (Rv _))
  ·exact absurd (List.mem_singleton.mp z) (RN R)
 have nI:p≠(s.heap.push { cls:=.type "set",dict:=none,data:=.set #[] 0 (.fresh 0 0 led) }).objs.size:=by
  rw[QL];exact Ew (QX R)
 have S:∀{U h':Heap},(∀b o,s.heap.get? b=some o->U.get? b=some o)->(∀b o,b∉[s.heap.objs.size,(s.heap.push { cls:=.type "set",dict:=none,data:=.set #[] 0 (.fresh 0 0 led) }).objs.size]->U.get? b=some o->h'.get? b=some o)->∀b o,b<s.heap.objs.size->s.heap.get? b=some o->h'.get? b=some o:=fun k1 k2 b o hb e=>k2 b o (fun z=>by
  rw[QL] at z
  rcases List.mem_cons.mp z with z | z
  ·exact absurd z (Ew hb)
  ·exact absurd (List.mem_singleton.mp z) (Ew (QX hb))) (k1 b o e)
 rcases C with C | C
 ·obtain⟨its,rv,pl,hz⟩:=I.list C
  have c:its.length=j.length:=by rw[<-rv.length,ht,eH]
  obtain⟨ob,G,M,B,T,y⟩:=pl
  obtain⟨oc,od,a0,E⟩:=ob
  simp only at B T y
  subst B T y
  have l:(s.heap.push { cls:=.type "set",dict:=none,data:=.set #[] 0 (.fresh 0 0 led) }).get? p=some { cls:=.type "list",dict:=none,data:=.seq its.toArray G,slots:=E }:=hD _ M
  have f1:=F.sub_list_set;have f2:=F.sub_list_frozenset;have f3:(Value.type "list" == Value.type "dict")=false:=by decide
  unfold Builtin.«set.__init__» noKeywords Builtin.Frozenset.updateFrom
  generalize O:pyIter=PI
  wp_walk
  subst O
  refine Sj (items:=its.toArray) ⟨_,l,rfl,G,rfl⟩ (dL (Tl ?_))
  refine pV (Walks.list (by simp[hh]) _ p nI its.toArray) s.heap.objs.size np (fun i=>j.getD i (.inl 0)) (fun i v hv=>kd X.prog X.w rv ht i v hv) (by rw[A1,c];exact hl) its.toArray.size 0 _ (by omega) (KM _) ⟨⟨_,At _ rfl,rfl,rfl⟩,⟨_,hD _ l,rfl,G,rfl⟩⟩ ⟨0,sK _,start (hD _ hS)⟩ fun h' tk m kp J=>?_
  rw[show its.toArray.size=j.length by rw[A1];exact c,range_getD] at J
  exact hH (hH ⟨rfl,Y h' tk m (S (fun b o e=>hD _ (hD _ e)) kp) J⟩)
 ·obtain⟨its,rv,pl,hz⟩:=I.tuple C
  have c:its.length=j.length:=by rw[<-rv.length,ht,eH]
  obtain⟨ob,M,B,G,y⟩:=pl
  obtain⟨oc,od,a0,E⟩:=ob
  simp only at B y
  subst B y
  have l:(s.heap.push { cls:=.type "set",dict:=none,data:=.set #[] 0 (.fresh 0 0 led) }).get? p=some { cls:=.type "tuple",dict:=od,data:=.seq its.toArray G,slots:=E }:=hD _ M
  have f1:=sub_tuple_set;have f2:=iR;have f3:(Value.type "tuple" == Value.type "dict")=false:=by decide
  unfold Builtin.«set.__init__» noKeywords Builtin.Frozenset.updateFrom
  generalize O:pyIter=PI
  wp_walk
  subst O
  refine TF (items:=its.toArray) ⟨_,l,rfl,G,rfl⟩ (dL (Tl ?_))
  refine pV (Walks.tuple (by simp[hh]) _ p nI its.toArray) s.heap.objs.size np (fun i=>j.getD i (.inl 0)) (fun i v hv=>kd X.prog X.w rv ht i v hv) (by rw[A1,c];exact hl) its.toArray.size 0 _ (by omega) (KM _) ⟨⟨_,At _ rfl,rfl,rfl⟩,⟨_,hD _ l,rfl,G,rfl⟩⟩ ⟨0,sK _,start (hD _ hS)⟩ fun h' tk m kp J=>?_
  rw[show its.toArray.size=j.length by rw[A1];exact c,range_getD] at J
  exact hH (hH ⟨rfl,Y h' tk m (S (fun b o e=>hD _ (hD _ e)) kp) J⟩)
end
section
variable{X:Cx}
theorem CN{k:Key}{u:Value}(r:RelV (kV k) u):u.scannable=true:=by
 cases k with
 | inl i=>obtain⟨t,rfl⟩:=r;rfl
 | inr x=>obtain⟨t,rfl⟩:=r;rfl
def LV(a:Bool):R2:=fun x y H Q=>∃k p S n,x=kV k/\y=.ref p/\H p=some (.set S n)/\Q (.bl (match a with | true=>!S k | false=>S k)) H
theorem yE:O1 X (compareOp .NotIn) (LV true):=by
 intro pins s σ H x y v u Q I a b h
 obtain⟨k,p,S,n,rfl,rfl,g,q⟩:=h
 cases b
 exact wpAny_notInSet_of (bE a) (CN a) (show s.heap.SetOf (j9 X.prog X.w) p S n from I.hok p _ g) ⟨.bl (!S k),H,I.tok _,rfl,q⟩
end
end L2
namespace L3
open PySem PySem.Spec L2
def zh(a:List Key)(k:Key):Bool:=a.any fun z=>decide (z=k)
def kD:Key->D
 | .inl i=>.int i
 | .inr x=>.str x
section
variable{X:Cx}{cl:List Cl}{e a b tg:Expr}{es:UG}{f:Fl}{pos:Pos}{ua ub:TU}{fa fb:Fl}{us:cg}{x y:Str}
theorem JK{K:UP}{H:Hp}{v:V}{k:Key}{A:UD}(r:Rep K H v (kD k) A):v=kV k:=by
 cases k with
 | inl i=>cases r;rfl
 | inr x=>cases r;rfl
theorem wd{K:UP}{H:Hp}:∀{vs:List V} {c:List Key} {A:UD},j7 K H vs (c.map kD) A->vs=c.map kV
 | _,[],_,.nil=>rfl
 | _,k::c,_,.cons h r=>by rw[Bi,JK h,wd r]
def JO(c:Bool):D->D->(D->Prop)->Prop:=fun d e Q=>match e with
 | .st g=>∃k,ak d=some k/\Q (.bl (ng c (zh g k)))
 | _=>False
theorem Lq{c:Bool}:bH X (LV c) (JO c):=by
 intro H v w d e A B Q R l i q k
 cases e<;>first | exact(show False from q).elim | skip
 rename_i o
 obtain⟨j,r,q⟩:=q
 cases i with
 | st g u=>
  rename_i p S n
  refine⟨j,_,_,_,U7 l r,rfl,g,?_⟩
  have z:S j=zh o j:=u j
  rw[z]
  cases c<;>exact k _ H _ _ (g4.refl H) .bl xL (fun _ h=>(by cases h)) q
theorem wQ(g:PU X cl a fa ua)(d:PU X cl b fb ub)(c:behindInMarks .NotIn b=false):PU X cl (.Compare a [.NotIn] [b] pos) .fresh (p9 (JO true) ua ub):=ir yE Lq g d c
def Ls:List D->(D->Prop)->Prop:=fun ds Q=>∃d c,ds=[d]/\qY d=some (c.map kD)/\c.length<4000/\Q (.st c)
theorem IQ:Call3 X (fun xs H Q=>∃(p:Addr) (ts:List V) (c:List Key),xs=[.ref p]/\(L1 X.K H p ts\/Q0 X.K H p ts)/\ts=c.map kV/\c.length+1<scanBound/\∀d n,H d=none->Q (.ref d) (upd H d (.set (fun k=>c.any fun z=>decide (z=k)) n))) Ls:=by
 intro H vs ds A Q R r q k
 obtain⟨d,c,rfl,e,g,q⟩:=q
 obtain⟨v,rfl,i⟩:=r.one
 obtain⟨p,h,B,rfl,o,j,_⟩:=cL i e
 refine⟨p,h,c,rfl,o,wd j,by unfold scanBound;omega,fun l n g=>k _ _ (.st c) [l] (g4.i4 g) (.st e9 fun _=>rfl) (by simp) (fun a u=>?_) q⟩
 rw[List.mem_singleton.mp u];exact g
def JE(i j:Nat)(us:cg):i9:=fun T c=>us c fun ds=>∃d e,ds=[d,e]/\y1 d=true/\y1 e=true/\Nat.blt i c.length=true/\Nat.blt j c.length=true/\T.nx ((c.set i (some d)).set j (some e))
theorem HH{i j:Nat}{l g pt:Pos}{o k2 c}(hc:X.calm=true)(hN:X.N.Nodup)(Y:X.N[i]?=some x)(U:X.N[j]?=some y)(p:i≠j)(M:X.env.scope.names.lookup x=some .local)(J:X.env.scope.names.lookup y=some .local)(ha:xf X cl [a,b] us)(ci:cl[i]?=some .bor)(cj:cl[j]?=some .bor)
  (hw:swappedStores [.Tuple [.Name x l,.Name y g] o pt] (.Tuple [a,b] k2 c) X.env=pure (some [x,y])) (Q:swapsWithSole [.Tuple [.Name x l,.Name y g] o pt] (.Tuple [a,b] k2 c) pos.line X.env=pure false:=by rfl) :
  L7 X cl (.Assign [.Tuple [.Name x l,.Name y g] o pt] (.Tuple [a,b] k2 c) pos) (JE i j us):=.of<|by
 obtain⟨t,pt,h⟩:=ha.run
 refine⟨_,JR hc hN Y U p M J pt hw Q,fun G T B σ H fa R z E O le=>?_⟩
 refine h G B σ H fa _ _ z E O fun vs H1 ds A s r n3 q=>?_
 obtain⟨d,e,rfl,I,C,l1,l2,q⟩:=q
 cases r with
 | cons v r=>
  cases r with
  | cons u r=>
   cases r
   have e1:=v.D4 I
   have e2:=u.D4 C
   subst e1 e2
   have ok:∀(fa:UN) (n:Nat),cl[n]?=some .bor->fM G fa [] n:=fun fa n S=>⟨fun _ _ _ _ h=>(by cases h),by rw[z,S];trivial⟩
   have E1:=(E.same s).set (Ix l1) v (ok _ i ci)
   have E2:=E1.set (by rw[Rh];exact Ix l2) u (ok _ j cj)
   exact⟨_,_,rfl,le.nx _ _ ⟨_,_,E2,q⟩⟩
def tZ(i:Nat)(g h:TU):i9:=fun T d=>d8 i d fun l=>g d fun y=>match l with
 | .dic c=>∃k a,ak y=some k/\x9 c k=some (.int a)/\c.length<sizeLine/\h d fun z=>∃b,z=.int b/\T.nx (d.set i (some (.dic (putD c k (.int (a+b))))))
 | _=>False
theorem zV{vp tp:Pos}{ik:Expr}(hu:X.A.units+1<cLine)(i:Nat)(hv:PE X (.Name x vp) (fE i))(hi:cl[i]?=some .own)(hk:PU X cl ik fb ub)(he:PU X cl e fa ua)
  (j:∀J M new,augStore ik J M new=(do holding [new,J,M] (setItem J M new);release [new,J,M] [];pure .next):=by intros;rfl) :
  L7 X cl (.AugAssign (.Subscript (.Name x vp) ik tp) .Add e pos) (tZ i ub ua):=.of<|by
 obtain⟨t,p,h⟩:=he.run
 obtain⟨t2,p2,h2⟩:=hk.run
 refine⟨_,uZ<|GG hu hv p2 p (Cn (X:=X)) j,fun G T S σ H O R hG E a4 le=>?_⟩
 have own:G.own i:=by unfold Ent.own;rw[hG];exact hi
 obtain⟨l0,e0,q⟩:=w6 a4
 obtain⟨v,l,r0⟩:=E.rep i l0 e0
 refine⟨v,l,h2 G S σ H O _ _ hG E q fun wk H1 dk Bk Y rk fk q=>?_⟩
 obtain⟨c,rfl⟩:∃c,l0=.dic c:=by cases l0<;>first | exact⟨_,rfl⟩ | exact(show False from q).elim
 obtain⟨k,a0,hk,o,hn,q⟩:=q
 obtain⟨p,kvs,a5,B,rfl,hp,rs,eA⟩:=Bg r0
 cases U7 rk hk
 obtain⟨u,C0,e1,r1,_⟩:=(rs.val k).1 _ o
 cases r1
 refine⟨p,_,rfl,e1▸Y3.k (.inr ⟨_,Y _ _ hp⟩),h G S σ H1 O _ _ hG (E.same Y) q fun w H2 z Bz s2 rz fz q=>?_⟩
 obtain⟨Q,rfl,q⟩:=q
 cases rz
 refine⟨a0,Q,rfl,rfl,?_⟩
 have d:=Y.trans s2
 have E2:=E.same d
 have g:=d _ _ hp
 have a1:A3 X.K H2 kvs c B:=by
  have:=(Rep.dic hp rs:Rep X.K H (.ref p) (.dic c) (p::B)).same d
  cases this with
  | dic I a2=>
   rw[g] at I
   cases I
   exact a2
 have nd:=E2.nd i (.inl own)
 have pin:p∈O i:=by rw[eA];exact lP
 rw[eA] at nd
 obtain⟨np,a3⟩:=List.nodup_cons.mp nd
 obtain⟨C,rC,U⟩:=a1.put k (.int (i:=a0+Q))
 have r:p∉C:=fun z=>np (U.mem z)
 have rn:∀ep,Rep X.K (upd H2 p (.dE (putK kvs k (.int (a0+Q))) ep)) (.ref p) (.dic (putD c k (.int (a0+Q)))) (p::C):=fun ep=>.dic e9 (rC.mono (V4.IH (by rw[g];exact True.intro)) fun a j=>i3 fun e=>r (e▸j))
 have n3:∀a∈p::C,a∈O i:=fun a j=>by
  rcases List.mem_cons.mp j with z | z
  ·exact z▸pin
  ·rw[eA];exact hQ _ (U.mem z)
 have li:i<S.length:=(List.getElem?_eq_some_iff.mp e0).1
 refine⟨_,mS.k (.inr ⟨_,g⟩) (by rw[rs.length];exact hn),p,_,e9,fun ep=>?_⟩
 rw[bj]
 exact le.nx _ _ ⟨_,_,E2.put own li l pin dc (by rw[e9];exact fun z=>nomatch z) (rn ep) (List.nodup_cons.mpr ⟨r,a3.sublist U⟩) fun a j=>.inl (n3 a j),q⟩
end
end L3
namespace L2
open PySem PySem.Spec PyProof.Rows
namespace RT
theorem qa:Manifest.owners.lookup (String.ofList ['d','e','s','r','e','v','e','r'].reverse)=some Manifest.sig_reversed:=by kernel_rfl
theorem D3:Slot "reversed" "__next__" "reversed.__next__":=.of (owner:="reversed") (n:="__next__") (by rw[Rq,QR];kernel_rfl) (by decide +kernel) (by decide +kernel) (by decide +kernel) (by first | exact .inl (by decide +kernel) | exact .inr (by decide +kernel)) (by rw[Ri];kernel_rfl)
theorem bI:entryFor table "reversed.__next__"=some Builtin.«reversed.__next__»:=entryFor_of_tree (by kernel_rfl)
theorem cB(a:Value):argsOk "reversed.__next__" ⟨[a],[]⟩:=by unfold argsOk;rw[TB (id:="reversed.__next__") (n:=['_','_','t','x','e','n','_','_']) (o:=['d','e','s','r','e','v','e','r']) (by kernel_rfl) qa];kernel_rfl
theorem jf:Slot "reversed" "__iter__" "reversed.__iter__":=.of (owner:="reversed") (n:="__iter__") (by rw[Rq,QR];kernel_rfl) (by decide +kernel) (by decide +kernel) (by decide +kernel) (by first | exact .inl (by decide +kernel) | exact .inr (by decide +kernel)) (by rw[Ri];kernel_rfl)
theorem sF(a:Value):argsOk "reversed.__iter__" ⟨[a],[]⟩:=by unfold argsOk;rw[TB (id:="reversed.__iter__") (n:=['_','_','r','e','t','i','_','_']) (o:=['d','e','s','r','e','v','e','r']) (by kernel_rfl) qa];kernel_rfl
theorem Ij:Slot "reversed" "__init__" "object.__init__":=.of (owner:="object") (n:="__init__") (by rw[Rq,QR];kernel_rfl) (by decide +kernel) (by decide +kernel) (by decide +kernel) (by first | exact .inl (by decide +kernel) | exact .inr (by decide +kernel)) (by rw[Ri];kernel_rfl)
theorem called:TypeCalled "reversed" "reversed.__new__" "object.__init__":=⟨by decide +kernel,by decide +kernel,⟨_,_,F.mro_reversed⟩,F.made_reversed,by decide +kernel,F.sub_reversed_self,Ij⟩
theorem JH:typeLookup (.type "tuple") "__reversed__"=pure none:=by rw[Rq,QR];kernel_rfl
theorem Fs:isSubtype (.type "tuple") (.type "dict")=pure false:=by rw[Ri];kernel_rfl
theorem tM:entryFor table "reversed.__iter__"=some Builtin.«dict_keyiterator.__iter__»:=entryFor_alias (id':="dict_keyiterator.__iter__") (by kernel_rfl) (by first | rfl | decide +kernel | (unfold String.splitOn;simp +decide [Tp])) (by decide +kernel) (by kernel_rfl)
end RT
def GK(t:Addr)(i:Int):Obj:={ cls:=.type "reversed",data:=.fields #[.ref t,rawInt i] }
def jw(h:Heap)(a t:Addr)(i:Int):Prop:=∃o,h.get? a=some o/\o.cls=.type "reversed" /\ o.data=.fields #[.ref t,rawInt i]
section
variable{prog:Program}{w:World}{A:Around}{E:UM}{s:Shared}
theorem jw.ty{a t:Addr}{i:Int}(x:jw s.heap a t i):s.TypeIs (.ref a) "reversed":=let ⟨o,b,c,_⟩:=x;⟨o,b,c⟩
theorem jw.at{h h':Heap}{a t:Addr}{i:Int}(x:jw h a t i)(e:∀o,h.get? a=some o->h'.get? a=some o):jw h' a t i:=let ⟨o,b,r⟩:=x;⟨o,e _ b,r⟩
theorem JU{t:Addr}{items:UJ}{Q1:UM}(b:IsTup s.heap t items)(c:(items.size:Int)<2^63)(h:Q1 (.ref s.heap.objs.size) { s with heap:=s.heap.push (GK t ((items.size:Int)-1)),toks:=s.toks+1+1 }) :
  codeAny (model prog w) A (.call (.builtin "reversed.__new__") ⟨[.type "reversed",.ref t],[]⟩) (wants Q1 E) s:=by
 refine Tj (show wpAny _ A.in1 (do checkBuiltinCall "reversed.__new__" ⟨[.type "reversed",.ref t],[]⟩;again (.builtin "reversed.__new__" ⟨[.type "reversed",.ref t],[]⟩)) _ _ s from dL (Rt (F.newCall_reversed_1 _) (hH ⟨QS F.plain_reversed_new _,QM F.entry_reversed_new ?_⟩)))
 rw[QA F.plain_reversed_new _];unfold Builtin.«reversed.__new__»
 refine dL (Rt (newClass_reversed _) ?_);try dsimp only
 refine dL (Rt (a:=()) (by first | rfl | kernel_rfl) (dL (Rt (a:=()) (by first | rfl | kernel_rfl) ?_)))
 try dsimp only
 refine dL (Sc b.typeIs RT.JH ?_);try dsimp only
 refine dL ?_
 show wpAny _ _ (isInstance (.ref t) (.type "dict") >>= _) _ _ _
 refine dL (Sq b.typeIs RT.Fs ?_)
 show wpAny _ _ (specialOf (.ref t) "__getitem__" >>= _) _ _ _
 refine dL (Sc b.typeIs slot_tuple_getitem.lookup (hH ?_))
 show wpAny _ _ (call (.builtin "len") [.ref t] >>= _) _ _ _
 refine dL (len_tuple b c ?_)
 refine dL (Rt (a:=some (items.size:Int)) rfl ?_)
 show wpAny _ _ (Builtin.SmallTypes.newRecord (.type "reversed") [.ref t,rawInt ((items.size:Int)-1)] >>= _) _ _ _
 unfold Builtin.SmallTypes.newRecord
 refine dL (IR (hH h) (by size_fits))
theorem AS{t:Addr}{items:UJ}{Q:UM}(c:IsTup s.heap t items)(d:(items.size:Int)<2^63)(h:Q (.ref s.heap.objs.size) { s with heap:=s.heap.push (GK t ((items.size:Int)-1)),toks:=s.toks+1+1 }) :
  wpAny (model prog w) A (call (.type "reversed") [.ref t]) Q E s:=by
 refine callType_codes (Q₁:=fun x a=>x=.ref s.heap.objs.size/\a={ s with heap:=s.heap.push (GK t ((items.size:Int)-1)),toks:=s.toks+1+1 }) RT.called (F.typeCall_reversed_1 _) F.entry_object_init (JU c d ⟨rfl,rfl⟩) ?_
 rintro x a ⟨rfl,rfl⟩
 have b:Shared.TypeIs { s with heap:=s.heap.push (GK t ((items.size:Int)-1)),toks:=s.toks+1+1 } (.ref s.heap.objs.size) "reversed":=⟨_,At _ rfl,rfl⟩
 exact⟨b,F.args_object_init_2 _ _,object_init_meets RT.called.init.lookup RT.called.made (by decide) prog w A.in1 _ _ ⟨b,rfl,h⟩⟩
theorem Gv{it t:Addr}{i:Nat}{items:UJ}{x:Value}{Q:UQ->Shared->Prop}(b:jw s.heap it t (i:Int))(e:IsTup s.heap t items)(p:t≠it)(d:items[i]?=some x)(r:(items.size:Int)<2^63)
  (l:∀h',jw h' it t ((i:Int)-1)->Heap.SameBut it s.heap h'->Q (some x) { s with heap:=h',toks:=s.toks+1 }):wpAny (model prog w) A (pyNext (.ref it)) Q E s:=by
 obtain⟨o,c,h,hd⟩:=id b
 unfold pyNext
 refine dL (RX (QJ (name:=Str.ofString "__next__") b.ty RT.D3 (Qz RT.D3 b.ty RT.bI ?_ (RT.cB _))))
 unfold Builtin.«reversed.__next__»
 refine dL (Rt (a:=(Value.ref it,[])) rfl ?_);try dsimp only
 refine dL (Sf c hd (x:=.ref t) rfl (dL (Sf c hd (x:=rawInt (i:Int)) rfl ?_)))
 show wpAny _ _ (if (i:Int)<0 then _ else _) _ _ s
 rw[wP (by omega)]
 show wpAny _ _ (specialOf (.ref t) "__getitem__" >>= _) _ _ s
 refine dL (Sc e.typeIs slot_tuple_getitem.lookup ?_)
 show wpAny _ _ (mkInt (i:Int) >>= _) _ _ s
 refine dL (wpAny_mkInt ?_)
 have q:=(Array.getElem?_eq_some_iff.mp d).1
 have g:seqIndex? (i:Int) items.size=some i:=by
  unfold seqIndex?
  simp
  omega
 refine dL (RX (getItem_tuple (j:=i) (x:=x) (s:={ s with toks:=s.toks+1 }) e (by omega) (by omega) g d ?_))
 show wpAny _ _ (field (.ref it) 1 >>= _) _ _ _
 refine dL (Sf c hd (x:=rawInt (i:Int)) rfl ?_)
 show wpAny _ _ (setField (.ref it) 1 (rawInt ((i:Int)-1)) >>= _) _ _ _
 refine dL (Rm c hd (by simp) ?_)
 exact hH ⟨x,rfl,hH (l _ ⟨_,OV _ c (Rg (Ps hd _)),(SU ..).trans h,by rw[Ps hd];simp⟩ (QE ..))⟩
theorem Ku{it t:Addr}{Q:UQ->Shared->Prop}(e:A.handled=none)(c:jw s.heap it t (-1))
  (h:∀h',Heap.ExtBut it s.heap h'->Q none { s with heap:=h' }):wpAny (model prog w) A (pyNext (.ref it)) Q E s:=by
 obtain⟨o,d,i,hd⟩:=id c
 unfold pyNext
 refine dL (RX (QJ (name:=Str.ofString "__next__") c.ty RT.D3 (Qz RT.D3 c.ty RT.bI ?_ (RT.cB _))))
 unfold Builtin.«reversed.__next__»
 refine dL (Rt (a:=(Value.ref it,[])) rfl ?_);try dsimp only
 refine dL (Sf d hd (x:=.ref t) rfl (dL (Sf d hd (x:=rawInt (-1)) rfl ?_)))
 show wpAny _ _ (if (-1:Int)<0 then _ else _) _ _ s
 rw[wS (by decide)]
 refine dL (Sd (dL ?_))
 show wpAny _ _ (setField (.ref it) 1 (rawInt (-1)) >>= _) _ _ s
 refine dL (Rm d hd (by simp) ?_)
 have g:=OV (fun o=>o.mapFields fun xs=>xs.setIfInBounds 1 (rawInt (-1))) d (Rg (Ps hd _))
 refine Rm g (Ps hd _) (by simp) ?_
 have ex:Heap.ExtBut it s.heap ((s.heap.update it (Obj.mapFields fun x=>x.setIfInBounds 1 (rawInt (-1)))).update it (Obj.mapFields fun x=>x.setIfInBounds 0 Value.none)):=(QE ..).extBut.trans (QE ..).extBut
 show wpAny _ _ _ _ _ { s with heap:=(s.heap.update it (Obj.mapFields fun x=>x.setIfInBounds 1 (rawInt (-1)))).update it (Obj.mapFields fun x=>x.setIfInBounds 0 Value.none) }
 generalize (s.heap.update it (Obj.mapFields fun x=>x.setIfInBounds 1 (rawInt (-1)))).update it (Obj.mapFields fun x=>x.setIfInBounds 0 Value.none)=j at ex
 refine dL (show wpAny _ _ (newExc (.type "StopIteration") [] >>= _) _ _ _ from dL ?_)
 simp only[newExc,newTuple];refine dL (IR (dL (m:=firstArgMember _ _) (Rt (a:=Value.none) (by first | rfl | (simp only[firstArgMember];rfl)) (IR ?_ (by size_fits)))) (by size_fits))
 simp only[raiseNew];refine dL (wpAny_handled ?_)
 first | rw[show A.in1.handled=none from e] | rw[e]
 refine dL (hH (wpAny_throw ?_))
 refine dL (Sq (T:="StopIteration") (b:=true) ⟨_,At _ rfl,rfl⟩ isSubtype_stop (hH (h _ ((ex.push _).push _))))
theorem vh{it t:Addr}{i:Int}{Q:UM}(a:jw s.heap it t i)(h:Q (.ref it) s):wpAny (model prog w) A (pyIter (.ref it)) Q E s:=by
 refine TQ a.ty RT.jf (Qz RT.jf a.ty RT.tM (show wpAny _ _ (ret (.ref it)) _ _ s from hH ⟨_,rfl,"reversed",_,a.ty,RT.D3.lookup,h⟩) (RT.sF _))
end
def Oj(K:UP)(a:Addr)(n:Nat):It:=
 ⟨fun i H=>i<n/\n<=sizeLine/\∃xs,Q0 K H a xs/\xs.length=n,fun i H x b=>b=H/\∀xs,Q0 K H a xs->xs[n-1-i]?=some x,fun i H=>i=n⟩
theorem zr{P:Program}{w:World}{K:UP}{T:Expr}(a it:Addr)(n:Nat)(ne:a≠it):Turn P w K T (Oj K a n) [it] it (fun i h=>i<=n/\jw h it a ((n:Int)-1-(i:Int))) where
 mem:=List.mem_singleton.mpr rfl
 obj:=fun i h st b l=>by
  cases List.mem_singleton.mp l
  obtain⟨_,o,e,c,d⟩:=st
  exact⟨o,e,fun v z=>by rw[d] at z;cases z⟩
 keep:=fun i h h' st k=>⟨st.1,st.2.at fun o e=>k it (List.mem_singleton.mpr rfl) o e⟩
 item:=by
  intro X y hw B S i pins s σ H E I q st r
  subst y hw B
  obtain⟨hi,hz,xs,R,hn⟩:=r
  obtain⟨its,rv,p,_⟩:=I.tuple R
  have Q:xs[n-1-i]?=some (xs[n-1-i]'(by omega)):=iU (by omega)
  obtain⟨u,hu,Y⟩:=rv.get Q
  obtain⟨O,M,f2,J,G,C⟩:=q it (List.mem_singleton.mpr rfl)
  have g:=st.2
  have hl:its.length=n:=by rw[<-rv.length];exact hn
  rw[show(n:Int)-1-(i:Int)=((n-1-i:Nat):Int) by omega] at g
  refine Gv g p ne (x:=u) (by simpa using hu) (by rw[A1,hl];rw[QU] at hz;omega) fun h' j U=>?_
  rw[show((n-1-i:Nat):Int)-1=(n:Int)-1-((i+1:Nat):Int) by omega] at j
  have I1:Inv X pins σ H { s with heap:=h',toks:=s.toks+1 }:=I.turned (t':=s.toks+1) (fun b o l e=>(U.2 b l).trans e) O M J G C
  obtain⟨o,e,c,d⟩:=id j
  exact⟨u,rfl,ou (s:={ s with heap:=h',toks:=s.toks+1 }) e c d (by decide) ⟨_,H,I1,Y,⟨rfl,fun ys hy=>by rw[I.kj hy R];exact Q⟩,⟨hi,j⟩,fun b l=>(q b l).1⟩⟩
 done:=by
  intro X y hw B S i pins s σ H E I q st r
  subst y hw B
  obtain rfl:i=n:=r
  obtain⟨O,M,f2,J,G,C⟩:=q it (List.mem_singleton.mpr rfl)
  have g:=st.2
  rw[show(i:Int)-1-(i:Int)=-1 by omega] at g
  exact Ku (I.ok.hd S) g fun h' eb=>⟨rfl,I.turned (t':=s.toks) (fun b o l e=>eb b o l e) O M J G C⟩
 self:=fun _ _ _ _ _ st h=>vh st.2 h
def BK(K:UP)(c:TA):TI:=fun σ H R=>c σ H fun vs b=>∃a xs,vs=[.ref a]/\Q0 K b a xs/\R (Oj K a xs.length) b
theorem zO {X:Cx} {v a:Expr} {r:TA} {p d:Pos} (G:Gl X "reversed") (E:X.mg "reversed"=none) (M:PA X [a] r) (B:starEach [a] X.env=[(false,eval a X.env)]:=by rfl):PI X v (.Call (.Name "reversed" p) [a] [] d) (BK X.K r):=by
 refine .of ?_
 intro pins s σ H R I h
 refine SG (bW I G E PyProof.Rows.boot_reversed ?_ (by decide) (by decide))
 refine callWith_type1 (y3 (M d pins s σ H _ I h) fun Q j ⟨vs,O,g,y,z⟩=>?_) B rfl
 obtain⟨l,xs,rfl,C,q⟩:=z
 obtain⟨u,rfl,x⟩:=vals1 y
 cases(show u=Value.ref l from x)
 obtain⟨its,rv,pl,hz⟩:=g.tuple C
 have c:its.toArray.size=xs.length:=by rw[A1];exact rv.length.symm
 refine AS pl (by rw[c];rw[QU] at hz;omega) ?_
 rw[c]
 refine vh (t:=l) (i:=(xs.length:Int)-1) ⟨_,At _ rfl,rfl,rfl⟩ ?_
 refine⟨j.heap.objs.size,[j.heap.objs.size],_,_,O,rfl,g.kept (t':=j.toks+1+1) fun b o e=>hD _ e,zr l _ xs.length (Ew pl.lt),⟨KM _,?_⟩,fun b J=>?_,q⟩
 ·rw[show(xs.length:Int)-1-((0:Nat):Int)=(xs.length:Int)-1 by omega]
  exact⟨_,At _ rfl,rfl,rfl⟩
 ·cases List.mem_singleton.mp J
  exact g.fH (sK _) (g.hok.fresh (sK _))
end L2
namespace L3
open PySem PySem.Spec PyProof.Rows L2
section
variable{X:Cx}{cl:List Cl}{tg e:Expr}{f:Fl}{ua:TU}{pos p:Pos}
def HF(u:TU):lG:=fun a Q=>u a fun d=>match d with
 | .tup xs=>xs.length<sizeLine/\Q xs.reverse
 | _=>False
theorem zb{K:UP}{H:Hp}{q:Addr}{vs:List V}{xs:List D}{C:UD}(hz:vs.length<=sizeLine)(h:∀a,Tf H a->Q0 K a q vs)(r:j7 K H vs xs C):bu K (Oj K q vs.length) xs.reverse C H:=fun a tf k i=>by
 have c:=h a tf
 have o:=r.length
 refine⟨fun e=>?_,fun d e=>?_⟩
 ·show i=vs.length
  rw[Sn] at e
  omega
 ·have u:i<xs.length:=by
   have:=(List.getElem?_eq_some_iff.mp e).1
   rwa [Sn] at this
  rw[List.getElem?_reverse u] at e
  obtain⟨v,B,z,l,j⟩:=aZ r tf k e
  refine⟨⟨by omega,hz,vs,c,rfl⟩,fun y E b=>?_⟩
  obtain⟨x,b⟩:=b
  subst x
  have g:=b vs c
  rw[o,z] at g
  cases g
  exact⟨g4.refl _,B,l,j⟩
theorem DA (h:PU X cl e f ua) (i:isStar e=false) (mk:∀{t},PA X [e] t->PI X tg (.Call (.Name "reversed" p) [e] [] pos) (BK X.K t)):bU X cl tg (.Call (.Name "reversed" p) [e] [] pos) f (HF ua):=.of<|by
 obtain⟨t,q,h⟩:=h.run
 refine⟨_,mk (dJ q P4 i),fun G c σ H o Q R j E g k=>h G c σ H o _ _ j E g fun v u d B s r l q=>?_⟩
 cases d<;>first | exact(show False from q).elim | skip
 obtain⟨p,vs,rfl,b,a⟩:=M4 r
 exact⟨p,vs,rfl,.inl (.inl b),k _ u _ _ s (zb (by rw[a.length];exact Re q.1) (fun x tf=>.inl (.inl (tf.P9 _ _ b))) a) a.there l q.2⟩
end
end L3
namespace L2
open PySem PySem.Spec PyProof.Rows
section
variable{X:Cx}
end
end L2
namespace L3
open PySem PySem.Spec PySem.Calls PyProof.Rows L2
section
variable{X:Cx}{cl:List Cl}{e a b:Expr}{es:UG}{pos cpos hpos np p:Pos}{us:cg}{ua ub:TU}{fa fb:Fl}{ma:TM}{k:Nat}{fn:Addr}{fd:FuncData}{ps:UE}{x y bn:Str}{i:Nat}
end
end L3
namespace L2
open PySem PySem.Spec PyProof.Rows
end L2
namespace L3
open PySem PySem.Spec PySem.Calls PyProof.Rows L2
section
variable{X:Cx}{cl:List Cl}{tg e a b:Expr}{es:UG}{pos p2 vp:Pos}{ua ub:TU}{f fa fb:Fl}{ma mb:TM}{x:Str}{i:Nat}
theorem N1{K:UP}{H:Hp}:∀{vs:List V} {ns:UH} {A:UD},j7 K H vs (ns.map D.int) A->vs=ns.map V.int
 | _,[],_,.nil=>rfl
 | _,n::ns,_,.cons h r=>by cases h;rw[N1 r];rfl
end
section
variable{X:Cx}{cl:List Cl}{tg e a b:Expr}{es:UG}{pos p2 vp:Pos}{ua ub:TU}{f fa fb:Fl}{ma mb:TM}{x y:Str}{i j:Nat}
end
end L3
namespace L2
open PySem PySem.Spec PyProof.Rows PySem.SeqAt
end L2
namespace L3
open PySem PySem.Spec PySem.Calls PyProof.Rows L2
section
variable{X:Cx}{cl:List Cl}{e a b:Expr}{pos:Pos}{ua ub:TU}{fa fb:Fl}
end
end L3
namespace L2
open PySem PySem.Spec PyProof.Rows
section
variable{M:Model}{A:Around}{E:UM}{s:Shared}{base:Heap}{env:Env}{outer:List Env}{L e:Addr}{Q:Unit->Shared->Prop}
end
section
variable{prog:Program}{w:World}{A:Around}{E:UM}{h:Heap}{g:Array GenState}{d:Drawn}{t:Nat}{os:OsState}
variable{nm q:Str}{C N fI:Addr}{oI:Obj}{bs bm bmB bmN:UF}{hdct:Bool}{sn:UE}{sub:UF}{ab:Bool}{col:Option Bool}{dd:Option Addr}{k0 k1 k2 k3 k5:UQ}{B Bn newId nid initId inN:String}{mN:UK}{rest:UF}
end
section
variable{M:Model}{A:Around}{E:UM}{env:Env}
variable{nm q:Str}{C N:Addr}{bs bm:UF}{hdct:Bool}{sn:UE}{sub:UF}{ab:Bool}{col:Option Bool}{dd:Option Addr}{k0 k1 k2 k3 k5:UQ}{newId:String}
end
section
variable{prog:Program}{w:World}{A:Around}{E:UM}{s:Shared}{K:UP}{x C:Addr}{ox:Obj}{name:Str}{v:Value}
end
end L2
namespace PySem.W
open PySem PySem.Calls PyProof.Rows Builtin Builtin.ObjectAttr Builtin.Getset_descriptor
section
variable{K:Frag}{prog:Program}{w:World}{A:Around}{E:UM}{s:Shared}{e D dx:Addr}{oe:Obj}{name:Str}{m:UK}{v:Value}{cd:ClassData}
end
end PySem.W
namespace L2
open PySem PySem.Spec PyProof.Rows
section
variable{P:Program}{w:World}{K:UP}{mg:UK}{base:Heap}{N:UE}{qual:Str}{scope:Scope}{f:Addr}{cd:Value}{A:Around}{outer:List Env}{s:Shared}{H:Hp}{E:XK}
 {pins:TZ} {σ:St} {H1:Hp} {s1:Shared}
end
section
variable{X:Cx}{pins:TZ}{σ:St}{H:Hp}{s:Shared}
end
section
variable{X:Cx}{pins:TZ}{σ:St}{H:Hp}{s:Shared}{e T:Addr}{cls a0:Value}{od:Option Addr}{E:XK}{x:Value}{Q:Unit->Shared->Prop}{M:Model}{A:Around}{E2:UM}
end
section
variable{X:Cx}{o:Expr}{f:Str}{pos:Pos}{ta:TE}{e dx C:Addr}{oe:Obj}{vs:UJ}
end
section
variable{X:Cx}{o e value:Expr}{f:Str}{pos pos':Pos}{ta tv:TE}
end
section
variable{K:UP}{C:Addr}{f1 f2 f3:Str}{vs:List V}{H:Hp}{Q:VK}{E:XK}{N:UE}
end
end L2
namespace L3
open PySem PySem.Spec PySem.Calls PyProof.Rows L2
def Lr:D->Bool
 | .int _=>true
 | .str _=>true
 | _=>false
def leafOf:D->V
 | .int i=>.int i
 | .str x=>.str x
 | _=>.o8
theorem kE{K:UP}{H:Hp}:∀{vs:List V} {ds:List D} {A:UD},j7 K H vs ds A->ds.all Lr=true->vs=ds.map leafOf
 | _,_,_,.nil,_=>rfl
 | _,_,_,.cons (d:=d) h r,e=>by
  rw[RE,Fa] at e
  rw[Bi,<-kE r e.2]
  congr 1
  cases h<;>first | rfl | (have:=e.1;cases this)
section
variable{X:Cx}{cl:List Cl}{e:Expr}{es:UG}{pos cpos hpos np p p1:Pos}{us:cg}{k kI:Nat}{fn:Addr}{fd:FuncData}{ps:UE}{x y bn n f:Str}{i:Nat}{Fo:Str->UE}
end
end L3
namespace PySem.W
open PySem PySem.Calls PyProof.Rows
section
variable{K:Frag}
end
end PySem.W
namespace L3
open PySem PySem.Spec PySem.Calls PyProof.Rows PySem.W L2
section
variable{X:Cx}{cl:List Cl}{e:Expr}{es:UG}{pos p:Pos}{us:cg}{k:Nat}{fn:Addr}{fd:FuncData}{ps:UE}{x:Str}{Fo:Str->UE}
end
section
variable{X:Cx}{cl:List Cl}{e dx C:Addr}{oe:Obj}{pos p p1 p2:Pos}{n y:Str}{i:Nat}{b:Bool}
end
end L3
namespace PySem
open Sem (wp)
open AutoSeq1 (wpAny_loadPart')
end PySem
namespace L2
open PySem PySem.Spec PyProof.Rows
end L2
namespace L3
open PySem PySem.Spec PySem.Calls PyProof.Rows PySem.W L2
section
variable{X:Cx}{cl:List Cl}{tg e:Expr}{pos p:Pos}{f:Fl}{ua:TU}
end
section
variable{X:Cx}{cl:List Cl}{tg a b:Expr}{pos p:Pos}{us:cg}
def vm(us:cg):lG:=fun c Q=>us c fun ds=>∃i j:Int,ds=[.int i,.int j]/\(-(2^62)<=i/\i<2^62/\-(2^62)<=j/\j<2^62)/\Q (fP i (j-i).toNat)
theorem iD (h:xf X cl [a,b] us) (mk:∀{t},PA X [a,b] t->PI X tg (.Call (.Name "range" p) [a,b] [] pos) (He t)):bU X cl tg (.Call (.Name "range" p) [a,b] [] pos) .fresh (vm us):=.of<|by
 obtain⟨t,pt,h⟩:=h.run
 refine⟨_,mk pt,fun G c σ H o Q R l E d k=>h G c σ H o _ _ l E d fun vs v ds A s r x q=>?_⟩
 obtain⟨i,j,rfl,e,q⟩:=q
 have u:=kE r rfl
 subst u
 exact⟨i,j,rfl,e,k _ v _ [] s (itR i _) (fun a g=>(by cases g)) (B0.nil _) q⟩
end
section
variable{X:Cx}{cl:List Cl}{a b:Expr}{pos:Pos}{fa fb:Fl}{ua ub:TU}
end
end L3
namespace PySem
open Sem (wp)
open Builtin
open AutoSeq1 (wpAny_loadPart')
end PySem
namespace L2
open PySem PySem.Spec PyProof.Rows
section
variable{X:Cx}
end
end L2
namespace L3
open PySem PySem.Spec PySem.Calls PyProof.Rows PySem.W L2
section
variable{X:Cx}{cl:List Cl}{a b:Expr}{pos:Pos}{fa fb:Fl}{ua ub:TU}
end
end L3
namespace PySem
open AutoSeq1 (wpAny_loadPart')
open AutoSeq1
theorem yL(l:Addr)(items:UJ)(n:Nat)(e:Array (UQ))(b:Addr)(a:UJ)(n2:Nat)(c:Array (UQ))(j:items.size+a.size<=sizeLine) :
  Meets (Builtin.«list.__add__» ⟨[.ref l,.ref b],[]⟩) (fun _ R s=>s.heap.get? l=some { cls:=.type "list",dict:=none,data:=.seq items n,slots:=e }/\s.heap.get? b=some { cls:=.type "list",dict:=none,data:=.seq a n2,slots:=c }/\R (.ok (.ret (Value.ref s.heap.objs.size))) { s with heap:=s.heap.push { cls:=Value.type "list",data:=Data.seq (items++a) },toks:=s.toks }):=
 .of_wp fun prog w A R s h=>by obtain⟨p,g,d,tk,os⟩:=s;obtain⟨i,o,h⟩:=h;have x:=idx_int;have v:=sub_tuple_tuple;have u:=sub_list_list;have r:=sub_tuple_list;have q:=sub_list_tuple;wp_walk using wpAny_loadPart' i,wpAny_loadPart' o;exact⟨_,rfl,h⟩
end PySem
namespace L2
open PySem PySem.Spec PyProof.Rows
section
variable{X:Cx}
def HG(K:UP):R2:=fun x y H Q=>∃l b xs a,x=.ref l/\y=.ref b/\L1 K H l xs/\L1 K H b a/\xs.length+a.length<=sizeLine/\∀p,H p=none->Q (.ref p) (upd H p (.lst (xs++a)))
theorem DY:O1 X (binaryOp .Add) (HG X.K):=by
 intro pins s σ H x y v u Q I J G h
 obtain⟨l,b,xs,Y,rfl,rfl,O,R,hz,q⟩:=h
 cases J
 cases G
 obtain⟨its,r,⟨⟨c1,U,C,E⟩,n,e,o,hd,j⟩,hl⟩:=I.list O
 obtain⟨a,p,⟨⟨c2,T,B,i⟩,n2,z,g,d,c⟩,M⟩:=I.list R
 replace o:c1=.type "list":=o
 replace hd:U=none:=hd
 replace j:C=.seq its.toArray n:=j
 replace g:c2=.type "list":=g
 replace d:T=none:=d
 replace c:B=.seq a.toArray n2:=c
 subst o hd j g d c
 have l1:=r.length
 have l2:=p.length
 refine TR ⟨_,e,rfl⟩ ⟨_,z,rfl⟩ noFill_list_add seq_list_add F.slot_list_add F.entry_list_add (F.args_list_add_2 _ _) (yL l its.toArray n E b a.toArray n2 i (by rw[A1,A1];omega)) ⟨e,z,?_⟩
 have S:its.toArray++a.toArray=(its++a).toArray:=by simp
 rw[S]
 exact⟨.ref _,_,I.Dg (t':=s.toks) (r.append p) (by rw[C2];omega),rfl,q _ I.fresh⟩
end
section
variable{X:Cx}{pins:TZ}{σ:St}{H:Hp}{s:Shared}{a:Addr}
theorem Inv.freeze{xs:List V}(I:Inv X pins σ H s)(e:H a=some (.lst xs)):∃ob,Inv X pins σ (upd H a (.frz ob (.lst xs))) s:=by
 obtain⟨z,its,n,r,c⟩:=(show x6 X.prog X.w H s.heap a (.lst xs) from I.hok a _ e)
 exact⟨_,I.write (x:=a) (e:=a) (h':=s.heap) (t':=s.toks) (o:=.frz { cls:=.type "list",data:=.seq its.toArray n } (.lst xs)) (by rw[e];exact True.intro) (.inl rfl) (fun b q d z=>z) ⟨_,c⟩ ⟨c,z,its,n,r,c⟩⟩
def Om(Q:VK):VK:=fun v b=>∃p xs,v=.ref p/\b p=some (.lst xs)/\∀ob,Q v (upd b p (.frz ob (.lst xs)))
theorem Il{e:Expr}{t:TE}(h:PE X e t):PE X e (fun σ H Q=>t σ H (Om Q)):=by
 refine .of ?_
 intro pins s σ H Q I q
 exact y3 (h pins s σ H _ I q) fun v j ⟨x,o,i,b,p,xs,l,d,c⟩=>let ⟨ob,g⟩:=i.freeze d;⟨x,_,g,b,c ob⟩
theorem oA:∀{ns:UH} {its:UF},IntsAre its ns->Vals (ns.map V.int) its
 | _,_,.nil=>.nil
 | _,_,.cons n t r=>.cons ⟨t,rfl⟩ (oA r)
end
end L2
namespace L3
open PySem PySem.Spec PySem.Calls PyProof.Rows PySem.W L2
section
variable{X:Cx}{cl:List Cl}{e a b:Expr}{ua ub:TU}{fa fb:Fl}{pos:Pos}
def zC:D->D->(D->Prop)->Prop:=fun d e Q=>∃xs c,kindB false d=some xs/\kindB false e=some c/\y9 xs=true/\y9 c=true/\xs.length+c.length<=sizeLine/\Q (.lst (xs++c))
theorem Ko:bH X (HG X.K) zC:=by
 intro H v w d e A B Q R r p q k
 obtain⟨xs,J,j,i,z,y,C,q⟩:=q
 obtain⟨x,vs,O,rfl,I,g,_⟩:=Z4 r j
 obtain⟨u,o,M,rfl,G,c,_⟩:=Z4 p i
 have j:=g.D4 z
 have i:=c.D4 y
 subst j
 subst i
 refine⟨x,u,vs,o,rfl,rfl,I,G,by rw[g.length,c.length];exact C,fun l h=>k _ _ _ [l] (g4.i4 h) (.lst e9 ((g.same (g4.i4 h)).append (c.same (g4.i4 h)))) (by simp) (fun a E=>?_) q⟩
 have:a=l:=by simpa using E
 rw[this];exact h
theorem DH(d:PU X cl a fa ua)(c:PU X cl b fb ub):PU X cl (.BinOp a .Add b pos) .fresh (p9 zC ua ub):=iB DY Ko d c
def JS(u:TU):TU:=fun c Q=>u c fun d=>∃xs,d=.lst xs/\y9 xs=true/\Q (.fz xs)
theorem zL(h:PU X cl e .fresh ua):PU X cl e .fresh (JS ua):=.of<|by
 obtain⟨t,C,h⟩:=h.run
 refine⟨_,Il C,fun G j σ H O Q R M E y k=>h G j σ H O _ _ M E y fun v Y d A s r S q=>?_⟩
 obtain⟨xs,rfl,x,q⟩:=q
 obtain⟨p,vs,B,rfl,g,i,U⟩:=J7 r
 have T:=i.D4 x
 subst T
 refine⟨p,vs,rfl,g,fun ob=>?_⟩
 have I:H p=none:=S.2 p (by rw[U];exact lP)
 have l:g4 H (upd Y p (.frz ob (.lst vs))):=fun b o c=>by
  rw[i3 (fun z=>by rw[z,I] at c;cases c)]
  exact s b o c
 refine k _ _ (.fz xs) [] l (.frz (.inl ⟨ob,e9⟩) ?_) (B0.nil _) q
 exact i.D8 ⟨fun b ys c=>by rw[i3 (nU c g (fun z=>nomatch z))];exact c,fun b o u c=>by rw[i3 (nU c g (fun z=>nomatch z))];exact c⟩ fun a J=>by cases J
theorem iH{K:UP}{H:Hp}:∀ns:UH,j7 K H (ns.map V.int) (ns.map D.int) []
 | []=>.nil
 | n::ns=>j7.cons (A:=[]) (B:=[]) .int (iH ns)
end
end L3
namespace L2
open PySem PySem.Spec PyProof.Rows
section
variable{X:Cx}{o e f i value:Expr}{pos pos' apos cpos:Pos}{td ty tx tv:TE}
end
end L2
namespace L3
open PySem PySem.Spec PySem.Calls PyProof.Rows PySem.W L2
section
variable{X:Cx}{cl:List Cl}{e a b c:Expr}{ua ub uc:TU}{fa fb fc:Fl}{pos:Pos}{ma:TM}{x:Str}
end
end L3
namespace HT
open PySem PySem.Spec PyProof.Rows
section
variable{prog:Program}{w:World}{A:Around}{E:UM}{s:Shared}
end
end HT
namespace L2
open PySem PySem.Spec PyProof.Rows
section
variable{X:Cx}{e c:Expr}{te:TE}{pos p2:Pos}
end
end L2
namespace L3
open PySem PySem.Spec L2
section
variable{X:Cx}{cl:List Cl}{a c:Expr}{fa:Fl}{ua uc:TU}{pos p2:Pos}
end
end L3
namespace PySem
open SetTable
theorem gO{xs:Array Nat}(u:xs.toList.Pairwise (·<·))(j:Nat):∀(d lo g:Nat),g-lo<=d->lo<=g->g<=xs.size->(∀i,i<lo->xs.getD i 0<j)->(∀i,g<=i->i<xs.size->j<=xs.getD i 0) ->
  below.go xs j d lo g<=xs.size/\(∀i,i<below.go xs j d lo g->xs.getD i 0<j)/\∀i,below.go xs j d lo g<=i->i<xs.size->j<=xs.getD i 0
 | 0,lo,g,y,v,hsz,q,p=>by
  have e:lo=g:=by omega
  subst e
  exact⟨hsz,q,p⟩
 | d+1,lo,g,y,v,hsz,q,p=>by
  unfold below.go
  by_cases h:lo<g
  ·rw[wS h]
   have up:∀a b,a<=b->b<xs.size->xs.getD a 0<=xs.getD b 0:=fun a b B z=>by
    have x:∀k,k<xs.size->xs.getD k 0=xs.toList.getD k 0:=fun k C=>by
     rw[Qo,B2,Rl]
    by_cases e:a=b
    ·rw[e];exact sK _
    ·rw[x a (by omega),x b z,B2,B2,iU (by rw[Db];omega),iU (by rw[Db];omega)]
     exact Re (List.pairwise_iff_getElem.mp u a b (by rw[Db];omega) (by rw[Db];omega) (by omega))
   by_cases c:xs.getD ((lo+g)/2) 0<j
   ·rw[show(let l:=(lo+g)/2;if xs.getD l j<j then below.go xs j d (l+1) g else below.go xs j d lo l)=below.go xs j d ((lo+g)/2+1) g from by
     have e:xs.getD ((lo+g)/2) j=xs.getD ((lo+g)/2) 0:=by
      rw[Qo,Qo,KF (by omega)];rfl
     show(if xs.getD ((lo+g)/2) j<j then _ else _)=_
     rw[e,wS c]]
    exact gO u j d _ _ (by omega) (by omega) hsz (fun i o=>Su (up i _ (by omega) (by omega)) c) p
   ·rw[show(let l:=(lo+g)/2;if xs.getD l j<j then below.go xs j d (l+1) g else below.go xs j d lo l)=below.go xs j d lo ((lo+g)/2) from by
     have e:xs.getD ((lo+g)/2) j=xs.getD ((lo+g)/2) 0:=by
      rw[Qo,Qo,KF (by omega)];rfl
     show(if xs.getD ((lo+g)/2) j<j then _ else _)=_
     rw[e,wP c]]
    exact gO u j d _ _ (by omega) (by omega) (by omega) q fun i o r=>Qv (by omega) (up _ i o r)
  ·rw[wP h]
   have e:lo=g:=by omega
   subst e
   exact⟨hsz,q,p⟩
theorem bY{xs:Array Nat}(a:xs.toList.Pairwise (·<·))(j:Nat):below xs j<=xs.size/\(∀i,i<below xs j->xs.getD i 0<j)/\∀i,below xs j<=i->i<xs.size->j<=xs.getD i 0:=
 gO a j _ _ _ (sK _) (KM _) (sK _) (fun i h=>absurd h (RS _)) fun i c b=>by omega
theorem mI{xs:Array Nat}(b:xs.toList.Pairwise (·<·)){j:Nat}(u:xs[below xs j]?≠some j):(insertAt xs (below xs j) j).toList.Pairwise (·<·):=by
 obtain⟨E,B,o⟩:=bY b j
 rw[toList_insertAt]
 have C:xs.toList.length=xs.size:=Db
 have ge:∀k (a:k<xs.toList.length),xs.toList[k]=xs.getD k 0:=fun k a=>by
  rw[Qo,<-Rl,iU a];rfl
 refine List.pairwise_append.mpr ⟨b.sublist (RI _ _),List.pairwise_cons.mpr ⟨fun y c=>?_,b.sublist (List.drop_sublist _ _)⟩,fun x q y c=>?_⟩
 ·obtain⟨k,a,rfl⟩:=So c
  have h:=a
  rw[Rk] at h
  rw[List.getElem_drop,ge _ (by omega)]
  have v:=o (below xs j+k) (by omega) (by omega)
  have h0:=o (below xs j) (sK _) (by omega)
  have g:below xs j<xs.size:=by rw[Rk] at a;omega
  have l:xs[below xs j]?=some (xs.getD (below xs j) 0):=by rw[Qo,KF g];rfl
  have r:xs.getD (below xs j) 0≠j:=fun e=>u (by rw[l,e])
  by_cases z:k=0
  ·subst z;rw[Nat.add_zero] at v ⊢;omega
  ·have:=List.pairwise_iff_getElem.mp b (below xs j) (below xs j+k) (by omega) (by omega) (by omega)
   rw[ge _ (by omega),ge _ (by omega)] at this
   omega
 ·obtain⟨k,a,rfl⟩:=So q
  rw[Op] at a
  have d:=B k (by omega)
  rw[List.getElem_take,ge _ (by omega)]
  rcases List.mem_cons.mp c with e | e
  ·rw[e];exact d
  ·obtain⟨p,i,rfl⟩:=So e
   rw[Rk] at i
   rw[List.getElem_drop,ge _ (by omega)]
   have:=o (below xs j+p) (by omega) (by omega)
   omega
def TG(t:SetTable):Prop:=t.plain=true->t.place.toList.Pairwise (·<·)/\t.dummies=#[]
theorem sO{t:SetTable}{j:Nat}(h:t.slot j=.empty):t.place[below t.place j]?≠some j:=fun e=>by
 have:t.slot j=.live (below t.place j):=by unfold SetTable.slot;simp[e]
 rw[this] at h
 cases h
theorem tT{t:SetTable}(hd:t.dummies=#[])(j:Nat):t.slot j≠.dummy:=fun h=>by
 unfold SetTable.slot at h
 have e:has t.dummies j=false:=by rw[hd];unfold has;simp
 dsimp only at h
 rw[e] at h
 by_cases c:(t.place[below t.place j]? == some j)=true
 ·rw[wS c] at h;cases h
 ·rw[wP c,wP tL] at h;cases h
theorem jo(t:SetTable)(p:Probe):(t.advance p).dummy=p.dummy:=by
 unfold SetTable.advance
 split<;>rfl
theorem fu{t:SetTable}(hd:t.dummies=#[]){g:Nat->Int}{h:Int}:∀(a:Nat) (p:Probe),p.dummy=none->∀{j:Nat} {d:UR},probe.go t g h a p=some (.empty j d)->t.slot j=.empty/\d=none
 | 0,_,_,_,_,e=>by cases e
 | a+1,p,c,j,d,e=>by
  unfold probe.go at e
  split at e
  ·rename_i b
   cases e
   exact⟨b,c⟩
  ·rename_i b
   exact absurd b (tT hd _)
  ·split at e
   ·cases e
   ·exact fu hd a _ (by rw[jo];exact c) e
theorem wX{t:SetTable}(hd:t.dummies=#[]){h:Int}{j:Nat}{b:Bool}(e:t.freeSlot h=some (j,b)):t.slot j=.empty:=by
 unfold SetTable.freeSlot at e
 split at e
 ·rename_i i d a
  obtain⟨g,c⟩:=fu hd _ _ rfl a
  subst c
  cases e
  exact g
 ·cases e
theorem TG.vL(t:SetTable)(n:Nat):TG (t.standIn n):=fun h=>by cases h
theorem TG.GQ{t:SetTable}(h:TG t)(n:Nat):TG (t.orStandIn n):=by
 unfold SetTable.orStandIn
 split
 ·exact h
 ·exact TG.vL t n
theorem pX(t:SetTable)(n:Nat):(t.orStandIn n).led=t.led:=by
 unfold SetTable.orStandIn
 split<;>rfl
theorem TG.layNew{t:SetTable}(g:TG t)(c:Array (Int×Value))(h:Int)(x:Value):TG (PySem.layNew t c h x).2.1/\(PySem.layNew t c h x).2.1.led=t.led:=by
 unfold PySem.layNew
 split
 ·rename_i j b e
  refine⟨TG.GQ (fun a=>?_) _,pX _ _⟩
  have a:t.plain=true:=a
  obtain⟨g1,g2⟩:=g a
  refine⟨mI g1 (sO (wX g2 e)),?_⟩
  show(if has t.dummies j=true then _ else t.dummies)=#[]
  have e:has t.dummies j=false:=by rw[g2];unfold has;simp
  rw[e];exact g2
 ·exact⟨TG.vL _ _,rfl⟩
theorem sL(o:Nat->UR):∀l:UI,l.Pairwise (·<·)->((l.filterMap fun j=>(o j).map (j,·)).map (·.1)).Pairwise (·<·):=fun l h=>by
 rw[RJ]
 refine List.Pairwise.filterMap _ (fun a i d b e g c=>?_) h
 obtain⟨_,_,rfl⟩:=Option.map_eq_some_iff.mp e
 obtain⟨_,_,rfl⟩:=Option.map_eq_some_iff.mp c
 exact d
theorem TG.relayAll{t:SetTable}(g:TG t)(b:Array (Int×Value))(n:Nat):TG (PySem.relayAll t b n).2.1/\(PySem.relayAll t b n).2.1.led=t.led:=by
 unfold PySem.relayAll
 split
 ·rename_i t' a e
  unfold SetTable.relaid SetTable.laid at e
  obtain⟨owner,_,c⟩:=Option.bind_eq_some_iff.mp e
  cases c
  dsimp only
  split
  ·exact⟨fun _=>⟨by rw[List.toList_toArray];exact sL _ _ (List.pairwise_lt_range ..),rfl⟩,rfl⟩
  ·exact⟨TG.vL _ _,rfl⟩
 ·exact⟨TG.vL _ _,rfl⟩
theorem TG.fresh(a b:Nat)(led:Bool):TG (SetTable.fresh a b led):=fun _=>⟨List.Pairwise.nil,rfl⟩
end PySem
namespace PySem
section
variable{prog:Program}{w:World}{A:Around}{E:UM}{s:Shared}{a:Addr}
structure G8(prog:Program)(w:World)(led:Bool)(h:Heap)(a:Addr)(es:Array (Int×Value)):Prop where
 at_:∃o ep t,h.get? a=some o/\o.ExactSet/\o.data=.set es ep t/\t.fits es.size=true/\TG t/\t.led=led
 el:ElemsOf (intKind prog w) es.toList
 small:es.size<scanBound
theorem kq{led:Bool}{o:Obj}{q b:Array (Int×Value)}{ep:Nat}{t t':SetTable}{h:Heap}(i:h.get? a=some o)(c:o.ExactSet)(hd:o.data=.set q ep t)(d:ElemsOf (intKind prog w) b.toList)(p:b.size<scanBound)(l:t'.fits b.size=true)(g:TG t')(j:t'.led=led) :
  (h.update a (Obj.putSet b t')).get? a=some { o with data:=.set b (ep+1) t' }/\G8 prog w led (h.update a (Obj.putSet b t')) a b:=by
 have e:(h.update a (Obj.putSet b t')).get? a=some { o with data:=.set b (ep+1) t' }:=by
  have:=OV (Obj.putSet b t') i (by rw[putSet_of b t' hd];rfl)
  rw[putSet_of b t' hd] at this;exact this
 exact⟨e,⟨_,ep+1,t',e,c,rfl,l,g,j⟩,d,p⟩
theorem jU{g:Bool->Sem Unit}(S:∀(b:Bool) (l:Shared) (Q:Unit->Shared->Prop),Q () l->wpAny (model prog w) A (g b) Q E l)
  {led:Bool} {o:Obj} {U:Array (Int×Value)} {ep:Nat} {t:SetTable} (M:s.heap.get? a=some o) (y:o.ExactSet) (hd:o.data=.set U ep t)
  {c:Array (Int×Value)} {i:SetTable} (q:ElemsOf (intKind prog w) c.toList)
  (u:c.size<scanBound) (C:i.fits c.size=true) (J:TG i) (O:i.led=led) {d:Bool} {R:Option Bool->Shared->Prop}
  (h:∀h' e,Heap.SameBut a s.heap h'->G8 prog w led h' a e->e.toList.Perm c.toList->R (some true) { s with heap:=h' }) :
  wpAny (model prog w) A (do
    storeSet a c i
    if (!d&&i.tooFull)=true then do
      g (relayAll i c (SetTable.grown c.size)).2.2
      storeSet a (relayAll i c (SetTable.grown c.size)).1 (relayAll i c (SetTable.grown c.size)).2.1
      pure (some true)
     else pure (some true)) R E s:=by
 refine dL (wpAny_storeSet_of M hd ?_ (fits_of_scanBound u))
 obtain⟨x,H⟩:=kq (prog:=prog) (w:=w) M y hd q u C J O
 have p:=QE s.heap a (Obj.putSet c i)
 split
 ·have v:=relayAll_perm i c (SetTable.grown c.size)
  have r:=relayAll_fits i c (SetTable.grown c.size)
  have j:=J.relayAll c (SetTable.grown c.size)
  generalize T:relayAll i c (SetTable.grown c.size)=X at v r j ⊢
  obtain⟨e,Y,I⟩:=X
  dsimp only at v r j ⊢
  have z:ElemsOf (intKind prog w) e.toList:=q.perm v
  have hsz:e.size=c.size:=by rw[<-Db,v.length_eq,Db]
  have B:e.size<scanBound:=by rw[hsz];exact u
  refine dL (S _ _ _ ?_)
  refine dL (wpAny_storeSet_of x rfl ?_ (fits_of_scanBound B))
  obtain⟨_,G⟩:=kq (prog:=prog) (w:=w) (led:=led) x y rfl z B r j.1 (j.2.trans O)
  exact hH (h _ _ (p.trans (QE _ a _)) G v)
 ·exact hH (h _ _ p H (List.Perm.refl _))
theorem AA{led:Bool}{p:Array (Int×Value)}{k:Int}{x:Value}{Q:Bool->Shared->Prop}(y:(intKind prog w).is k x=true)(G:x.scannable=true)(hS:G8 prog w led s.heap a p)(H:p.size+1<scanBound)
  (h:∀h' O r,Heap.SameBut a s.heap h'->G8 prog w led h' a O->((∃e∈p.toList,(intKind prog w).is k e.2=true)/\O=p\/(¬∃e∈p.toList,(intKind prog w).is k e.2=true)/\O.toList.Perm (p.toList++[((intKind prog w).hash k,x)]))->Q r { s with heap:=h' }) :
  wpAny (model prog w) A (setAddHashed a x ((intKind prog w).hash k)) Q E s:=by
 obtain⟨⟨o,ep,t,U,S,hd,hf,tg,Y⟩,J,hb⟩:=id hS
 unfold setAddHashed setAddHashedIn
 refine Qq (dL (Rs U hd hf ?_))
 dsimp only
 rw[byScan_of G hb J]
 simp only[↓reduceIte]
 unfold setAddByScan
 refine dL ?_
 refine dL (Sd ?_)
 refine dL (wpAny_setScan_of y U hd hf J ?_)
 cases hr:List.findIdx? (fun e=>(intKind prog w).is k e.2) p.toList with
 | some j=>
  dsimp only
  obtain⟨hj,X,_⟩:=List.findIdx?_eq_some_iff_getElem.mp hr
  refine hH (hH ?_)
  exact h s.heap p _ (Heap.SameBut.refl a s.heap) hS (.inl ⟨⟨p.toList[j],Rx hj,X⟩,rfl⟩)
 | none=>
  dsimp only
  have no:¬∃e∈p.toList,(intKind prog w).is k e.2=true:=fun⟨e,he,I⟩=>by
   have:=List.findIdx?_eq_none_iff.mp hr e he
   rw[I] at this;exact Bool.noConfusion this
  have a0:∀(b:Bool) {g:Shared} {T:Unit->Shared->Prop},T () g->wpAny (model prog w) A (match b with | true=>rule "set.scan.the-table-gave-way" | false=>pure ()) T E g:=
   fun b g T v=>by cases b<;>first | exact hH v | exact Sd v
  have c:=layNew_perm t p ((intKind prog w).hash k) x
  have d:=layNew_fits t p ((intKind prog w).hash k) x
  have l:=tg.layNew p ((intKind prog w).hash k) x
  generalize hL:layNew t p ((intKind prog w).hash k) x=L at c d l ⊢
  obtain⟨M,t1,R,a1⟩:=L
  dsimp only at c d l ⊢
  rw[Array.toList_push] at c
  have B:ElemsOf (intKind prog w) M.toList:=(J.push y G).perm c
  have C:M.size<scanBound:=by rw[<-Db,c.length_eq,C2,Db];simpa using H
  refine dL (a0 _ ?_)
  have z:∀h' i,Heap.SameBut a s.heap h'->G8 prog w led h' a i->i.toList.Perm M.toList->∀r,Q r { s with heap:=h' }:=fun h' i q u I r=>h h' i r q u (.inr ⟨no,I.trans c⟩)
  split
  ·refine dL ?_
   rw[hashByValue_scannable 8 G]
   refine hH ?_
   refine jU (led:=led) ?_ U S hd B C ?_ ?_ ?_ ?_
   ·intro b g T v;cases b<;>first | exact hH v | exact Sd v
   ·split
    ·exact d
    ·exact SetTable.fits_plain_off d
   ·split
    ·exact l.1
    ·exact fun h=>by cases h
   ·split
    ·exact l.2.trans Y
    ·exact l.2.trans Y
   ·intro h' i q u I;dsimp only;exact hH (z h' i q u I _)
  ·refine dL (hH ?_)
   simp only[↓reduceIte]
   refine jU (led:=led) ?_ U S hd B C d l.1 (l.2.trans Y) ?_
   ·intro b g T v;cases b<;>first | exact hH v | exact Sd v
   ·intro h' i q u I;dsimp only;exact hH (z h' i q u I _)
end
end PySem
namespace L2
open PySem PySem.Spec PyProof.Rows
def T8(a:UH)(k:Int):UH:=if k∈a then a else a++[k]
def EI(c:Array (Int×Value))(b:UH):Prop:=∃a,IntsAre (c.toList.map (·.2)) a/\a.Perm b
theorem kh{k n:Int}{t:Tok}:Value.isInt k (.int n t)=true ↔ n=k:=by
 constructor
 ·intro h
  obtain⟨t',e⟩:=Value.isInt_shape h
  cases e;rfl
 ·rintro rfl
  exact lr n t
theorem pZ{P:Program}{w:World}:∀{b:List (Int×Value)} {c:UH},IntsAre (b.map (·.2)) c->∀k,(∃e∈b,(intKind P w).is k e.2=true) ↔ k∈c
 | [],_,h,k=>by
  cases h
  constructor
  ·rintro⟨_,h,_⟩;cases h
  ·intro h;cases h
 | e::b,c,h,k=>by
  obtain⟨n,t,ns,i,rfl,l⟩:∃n t ns,e.2=Value.int n t/\c=n::ns/\IntsAre (b.map (·.2)) ns:=by
   have d:IntsAre (e.2::b.map (·.2)) c:=h
   clear h
   generalize e.2=v at d
   generalize List.map (·.2) b=vs at d ⊢
   cases d with
   | cons n t j=>exact⟨n,t,_,rfl,rfl,j⟩
  have g:=pZ (P:=P) (w:=w) l k
  constructor
  ·rintro⟨z,hz,a⟩
   rcases List.mem_cons.mp hz with q | q
   ·rw[q,i] at a
    have a:Value.isInt k (.int n t)=true:=a
    rw[kh.mp a];exact lP
   ·exact hQ _ (g.mp ⟨z,q,a⟩)
  ·intro a
   rcases List.mem_cons.mp a with q | q
   ·exact⟨e,lP,by rw[i,q];exact(kh (t:=t)).mpr rfl⟩
   ·obtain⟨z,hz,a⟩:=g.mpr q
    exact⟨z,hQ _ hz,a⟩
theorem EI.mem{P:Program}{w:World}{b:Array (Int×Value)}{a:UH}(h:EI b a)(k:Int):(∃e∈b.toList,(intKind P w).is k e.2=true) ↔ k∈a:=by
 obtain⟨c,g,d⟩:=h
 rw[pZ g,d.mem_iff]
theorem kJ:∀{vs e:UF},e.Perm vs->∀{d:UH},IntsAre vs d->∃c,IntsAre e c/\c.Perm d:=fun p=>by
 induction p with
 | nil=>intro d h;exact⟨d,h,.refl _⟩
 | cons v p g=>
  intro d h
  cases h with
  | cons n t h=>obtain⟨c,a,b⟩:=g h;exact⟨n::c,.cons n t a,b.cons _⟩
 | swap v u l=>
  intro d h
  cases h with
  | cons n t h=>cases h with
   | cons m q h=>exact⟨m::n::_,.cons m q (.cons n t h),.swap ..⟩
 | trans p q j i=>
  intro d h
  obtain⟨k1,a1,r⟩:=i h
  obtain⟨k2,a2,o⟩:=j a1
  exact⟨k2,a2,o.trans r⟩
theorem ints_app:∀{vs a:UF} {b c:UH},IntsAre vs b->IntsAre a c->IntsAre (vs++a) (b++c)
 | _,_,_,_,.nil,q=>q
 | _,_,_,_,.cons n t h,q=>.cons n t (ints_app h q)
theorem iY:∀{vs:UF} {a:UH},IntsAre vs a->vs.length=a.length
 | _,_,.nil=>rfl
 | _,_,.cons n t h=>by rw[FS,FS,iY h]
theorem EI.size{b:Array (Int×Value)}{a:UH}(h:EI b a):b.size=a.length:=by
 obtain⟨c,e,d⟩:=h
 have:=iY e
 rw[eH,Db] at this
 rw[this,d.length_eq]
theorem EI.add{P:Program}{w:World}{g c:Array (Int×Value)}{j:UH}{k h0:Int}{t:Tok}(h:EI g j)(q:((∃e∈g.toList,(intKind P w).is k e.2=true)/\c=g\/(¬∃e∈g.toList,(intKind P w).is k e.2=true)/\c.toList.Perm (g.toList++[(h0,Value.int k t)]))):EI c (T8 j k):=by
 unfold T8
 rcases q with⟨i,rfl⟩ | ⟨i,p⟩
 ·rw[wS ((h.mem k).mp i)];exact h
 ·rw[wP fun z=>i ((h.mem k).mpr z)]
  obtain⟨l,u,r⟩:=h
  have d:=p.map (·.2)
  rw[GM] at d
  obtain⟨o,a,b⟩:=kJ d (ints_app u (.cons k t .nil))
  exact⟨o,a,b.trans (r.append_right _)⟩
theorem Ac(a:UH)(k:Int):(T8 a k).length<=a.length+1:=by
 unfold T8
 split
 ·omega
 ·rw[C2];exact sK _
theorem qF(ns:UH):∀a:UH,(ns.foldl T8 a).length<=a.length+ns.length:=by
 induction ns with
 | nil=>intro a;exact sK _
 | cons n ns b=>
  intro a
  have:=b (T8 a n)
  have:=Ac a n
  rw[RC,FS]
  omega
theorem Er(ns:UH):∀c:UH,c.Nodup->(ns.foldl T8 c).Nodup/\∀x,x∈ns.foldl T8 c ↔ x∈c\/x∈ns:=by
 induction ns with
 | nil=>intro c h;exact⟨h,fun x=>by simp⟩
 | cons n ns g=>
  intro c h
  have o:(T8 c n).Nodup:=by
   unfold T8
   split
   ·exact h
   ·rename_i d
    refine List.nodup_append.mpr ⟨h,QT _ _,fun a j b i e=>?_⟩
    rw[List.mem_singleton.mp i] at e
    exact d (e▸j)
  have l:∀x,x∈T8 c n ↔ x∈c\/x=n:=fun x=>by
   unfold T8
   split
   ·rename_i d;exact⟨.inl,fun z=>z.elim id fun e=>by rw[e];exact d⟩
   ·rw[TK,Sv]
  obtain⟨a,b⟩:=g _ o
  refine⟨a,fun x=>?_⟩
  rw[RC,b,l,Rn,or_assoc]
theorem yx{prog:Program}{w:World}{A:Around}{R:Result->Shared->Prop}{I:Addr}{U q:UD}{led:Bool}{ns:UH}{P:Nat->Value->Prop}{St:Nat->Heap->Prop}(W:Walks prog w A.in1 I U q ns.length P St)(S:Addr)(T:S∉U)(hv:∀i v,P i v->∃t,v=.int (ns.getD i 0) t)(g:ns.length+1<scanBound) :
  ∀(k i:Nat) (s:Shared),ns.length-i=k->i<=ns.length->St i s.heap->(∃c,G8 prog w led s.heap S c/\EI c ((ns.take i).foldl T8 [])) ->
   (∀h' tk c,(∀b o,b∉S::q->s.heap.get? b=some o->h'.get? b=some o)->G8 prog w led h' S c->EI c (ns.foldl T8 [])->R (.ok (.ret .none)) { s with heap:=h',toks:=tk }) ->
   codeAny (model prog w) A (.builtin "set.update.loop" ⟨[.ref S,.ref I],[]⟩) R s:=by
 have X:S∉q:=fun h=>T (W.sub _ h)
 have dm:∀{h h':Heap} {c:Array (Int×Value)},(∀b o,b∉q->h.get? b=some o->h'.get? b=some o)->G8 prog w led h S c->G8 prog w led h' S c:=fun k ⟨⟨o,ep,t,ho,r⟩,a,b⟩=>⟨⟨o,ep,t,k S _ X ho,r⟩,a,b⟩
 intro k
 induction k with
 | zero=>
  intro i s hk hi st ⟨c,G,p⟩ j
  have e:i=ns.length:=by omega
  subst e
  rw[QH] at p
  refine QM Rj ?_
  rw[QA QC _]
  show wpAny _ A.in1 (pyNext (.ref I) >>= _) _ _ s
  refine dL (W.done s _ _ st fun h' tk kp=>?_)
  exact hH (j h' tk c (fun b o g e=>kp b o (fun z=>g (hQ _ z)) e) (dm kp G) p)
 | succ k Y=>
  intro i s hk hi st ⟨c,G,p⟩ j
  have d:i<ns.length:=by omega
  refine QM Rj ?_
  rw[QA QC _]
  show wpAny _ A.in1 (pyNext (.ref I) >>= _) _ _ s
  refine dL (W.item i s _ _ d st fun v h' tk hP x kp=>?_)
  obtain⟨t,rfl⟩:=hv i v hP
  have E:=dm kp G
  have hsz:c.size+1<scanBound:=by
   have h1:=p.size
   have J:=qF (ns.take i) []
   rw[Op] at J
   have:([]:UH).length=0:=rfl
   omega
  show wpAny _ A.in1 (holding [_] (setAdd S _) >>= _) _ _ _
  refine dL (Qq ?_)
  unfold setAdd
  refine Qq (dL ((intKind prog w).pyHash (k:=ns.getD i 0) (intKind_is _ _ _ _) ?_))
  refine AA (s:={ s with heap:=h',toks:=tk+1 }) (intKind_is _ _ _ _) rfl E hsz fun J O r Q C hq=>?_
  have l:=p.add hq
  have et:T8 ((ns.take i).foldl T8 []) (ns.getD i 0)=(ns.take (i+1)).foldl T8 []:=by
   rw[Qp,iU d,Tq,B2,iU d];rfl
  rw[et] at l
  refine hH ⟨QS QC _,Y (i+1) _ (by omega) d (W.frame (i+1) h' J x fun b g o e=>(Q.2 b fun z=>T (z▸g)).trans e) ⟨O,C,l⟩ fun h3 u M y B H=>?_⟩
  refine j h3 u M (fun b o g e=>y b o g ?_) B H
  exact(Q.2 b fun z=>g (by rw[z];exact lP)).trans (kp b o (fun z=>g (hQ _ z)) e)
end L2
namespace PySem
namespace L4
theorem D3:Slot "set_iterator" "__next__" "set_iterator.__next__":=.of (owner:="set_iterator") (n:="__next__") (by rw[Rq,QR];kernel_rfl) (by decide +kernel) (by decide +kernel) (by decide +kernel) (by first | exact .inl (by decide +kernel) | exact .inr (by decide +kernel)) (by rw[Ri];kernel_rfl)
theorem jf:Slot "set_iterator" "__iter__" "set_iterator.__iter__":=.of (owner:="set_iterator") (n:="__iter__") (by rw[Rq,QR];kernel_rfl) (by decide +kernel) (by decide +kernel) (by decide +kernel) (by first | exact .inl (by decide +kernel) | exact .inr (by decide +kernel)) (by rw[Ri];kernel_rfl)
theorem bI:entryFor table "set_iterator.__next__"=some Builtin.«set_iterator.__next__»:=entryFor_of_tree (by kernel_rfl)
theorem tM:entryFor table "set_iterator.__iter__"=some Builtin.«dict_keyiterator.__iter__»:=entryFor_alias (id':="dict_keyiterator.__iter__") (by kernel_rfl) (by first | rfl | decide +kernel | (unfold String.splitOn;simp +decide [Tp])) (by decide +kernel) (by kernel_rfl)
theorem Nb:entryFor table "set.__iter__"=some Builtin.«frozenset.__iter__»:=entryFor_alias (id':="frozenset.__iter__") (by kernel_rfl) (by first | rfl | decide +kernel | (unfold String.splitOn;simp +decide [Tp])) (by decide +kernel) (by kernel_rfl)
theorem oh:Manifest.owners.lookup (String.ofList ['r','o','t','a','r','e','t','i','_','t','e','s'].reverse)=some Manifest.sig_set_iterator:=by kernel_rfl
theorem cB(a:Value):argsOk "set_iterator.__next__" ⟨[a],[]⟩:=by unfold argsOk;rw[TB (id:="set_iterator.__next__") (n:=['_','_','t','x','e','n','_','_']) (o:=['r','o','t','a','r','e','t','i','_','t','e','s']) (by kernel_rfl) oh];kernel_rfl
theorem sF(a:Value):argsOk "set_iterator.__iter__" ⟨[a],[]⟩:=by unfold argsOk;rw[TB (id:="set_iterator.__iter__") (n:=['_','_','r','e','t','i','_','_']) (o:=['r','o','t','a','r','e','t','i','_','t','e','s']) (by kernel_rfl) oh];kernel_rfl
theorem Nm:typeLookup (.type "set") "__len__"=pure (some (.builtin "set.__len__")):=by rw[Rq,QR];kernel_rfl
end L4
theorem cE{a:Type}:∀(l:List a) (i:Nat) (h:i<l.length),(l[i]::l.eraseIdx i).Perm l
 | [],_,h=>absurd h (RS _)
 | x::l,0,h=>.refl _
 | x::l,i+1,h=>(List.Perm.swap x _ _).trans ((cE l i (Nat.lt_of_succ_lt_succ h)).cons x)
theorem vM{c:Type}(next:Nat->Nat):∀(n k:Nat) (a:List c) (out:Array c),a.length=n->(pickOrder.go next n k a out).toList.Perm (out.toList++a)
 | 0,k,a,out,h=>by
  rw[List.length_eq_zero_iff.mp h,Do]
  show out.toList.Perm out.toList
  exact .refl _
 | n+1,k,a,out,h=>by
  have b:next k%a.length<a.length:=Nat.mod_lt _ (by omega)
  unfold pickOrder.go
  rw[iU b]
  refine(vM next n (k+1) _ _ (by rw[TY b];omega)).trans ?_
  rw[Array.toList_push,PP]
  exact(cE _ _ b).append_left _
theorem dS{a:Type}(next:Nat->Nat)(xs:Array a):(pickOrder next xs).toList.Perm xs.toList:=by
 have:=vM next xs.size 0 xs.toList #[] Db
 rwa [show(#[]:Array a).toList++xs.toList=xs.toList from rfl] at this
section
variable{M:Model}{A:Around}{E:UM}
theorem lR{s:Shared}{a:Source}{n:Nat}{Q:Nat->Shared->Prop}(b:n≠0)(h:∀i d,i<n->Q i { s with drawn:=d }):wpAny M A (choose a n) Q E s:=fun c p _=>by
 unfold choose
 rw[Sem.wp_choose]
 exact⟨b,h _ _ (Nat.mod_lt _ (Nat.pos_of_ne_zero b))⟩
theorem iX{c:Type}:∀(n:Nat) (xs:List c) {s:Shared} {Q:List c->Shared->Prop},xs.length=n->(∀a d,a.Perm xs->Q a { s with drawn:=d })->wpAny M A (drawOrder n xs) Q E s:=by
 intro n
 induction n with
 | zero=>
  intro xs s Q h q
  unfold drawOrder
  rw[List.length_eq_zero_iff.mp h] at q
  exact hH (q [] s.drawn (.refl _))
 | succ n ih=>
  intro xs s Q h q
  cases xs with
  | nil=>cases h
  | cons x xs=>
   unfold drawOrder
   refine dL (lR (by simp) fun i d b=>?_)
   rw[iU b]
   refine dL (ih _ (by rw[TY b];omega) fun a d' e=>?_)
   exact hH (q _ d' ((e.cons _).trans (cE _ _ b)))
end
section
variable{prog:Program}{w:World}{A:Around}{E:UM}{s:Shared}{it a:Addr}
def uM(h:Heap)(it a:Addr)(b:Value)(i n ep:Nat):Prop:=∃o,h.get? it=some o/\o.cls=.type "set_iterator" /\ o.data=.fields #[b,.int (i:Int) 0,.ref a,.int (n:Int) 0,.int (ep:Int) 0]
def SW(h:Heap)(a:Addr)(b:Array (Int×Value))(ep:Nat)(t:SetTable):Prop:=(∃o,h.get? a=some o/\o.data=.set b ep t)/\t.fits b.size=true
theorem uM.typeIs{b:Value}{i n ep:Nat}(x:uM s.heap it a b i n ep):s.TypeIs (.ref it) "set_iterator":=let ⟨o,c,d,_⟩:=x;⟨o,c,d⟩
theorem uM.at'{h h':Heap}{b:Value}{i n ep:Nat}(x:uM h it a b i n ep)(e:∀o,h.get? it=some o->h'.get? it=some o):uM h' it a b i n ep:=let ⟨o,c,r⟩:=x;⟨o,e _ c,r⟩
theorem SW.at'{h h':Heap}{b:Array (Int×Value)}{ep:Nat}{t:SetTable}(x:SW h a b ep t)(e:∀o,h.get? a=some o->h'.get? a=some o):SW h' a b ep t:=let ⟨⟨o,c,r⟩,f⟩:=x;⟨⟨o,e _ c,r⟩,f⟩
theorem aR{c:Value}{i n ep:Nat}{Q:UM}(b:uM s.heap it a c i n ep)(h:Q (.ref it) s):wpAny (model prog w) A (pyIter (.ref it)) Q E s:=by
 refine TQ b.typeIs L4.jf (Qz L4.jf b.typeIs L4.tM ?_ (L4.sF _))
 show wpAny _ _ (ret (.ref it)) _ _ s
 exact hH ⟨_,rfl,"set_iterator",_,b.typeIs,L4.D3.lookup,h⟩
theorem kc:isSubtype (.type "StopIteration") (.type "StopIteration")=pure true:=by rw[Ri];kernel_rfl
theorem jX{slot slot' i n ep:Nat}{g:Array (Int×Value)}{t:SetTable}{x:Value}{Q:UQ->Shared->Prop}(b:uM s.heap it a (.int (slot:Int) 0) i n ep)(l:SW s.heap a g ep t)(p:g.size=n)
  (j:∀(E:UM) (h:Option (Value×Nat)->Shared->Prop),h (some (x,slot')) s->wpAny (model prog w) A.in1 (setNext a slot i ep) h E s)
  (u:∀h',uM h' it a (.int (slot':Int) 0) (i+1) n ep->Heap.SameBut it s.heap h'->Q (some x) { s with heap:=h' }) :
  wpAny (model prog w) A (pyNext (.ref it)) Q E s:=by
 obtain⟨o,c,r,hd⟩:=id b
 obtain⟨⟨os,d,e⟩,q⟩:=id l
 unfold pyNext
 refine dL (RX (QJ (name:=Str.ofString "__next__") b.typeIs L4.D3 (Qz L4.D3 b.typeIs L4.bI ?_ (L4.cB _))))
 unfold Builtin.«set_iterator.__next__»
 refine dL (hH ?_)
 refine dL (To c hd ?_)
 refine dL (RW d e q ?_)
 rw[wP (by rw[p];simp)]
 dsimp only
 rw[Qy,Qy,Qy]
 refine dL (j _ _ ?_)
 dsimp only
 refine dL (Rm c hd (by simp) ?_)
 refine dL (Rm (OV _ c (Rg (Ps hd _))) (Ps hd _) (by simp) ?_)
 refine hH ⟨_,rfl,hH (u _ ?_ ((QE ..).trans (QE ..)))⟩
 have v:=OV (Obj.mapFields (·.setIfInBounds 0 (rawInt slot'))) c (Rg (Ps hd _))
 refine⟨_,OV _ v (Rg (Ps (Ps hd _) _)),?_,?_⟩
 ·exact(SU ..).trans ((SU ..).trans r)
 ·rw[Ps (Ps hd _)];simp[rawInt]
theorem sP{tp i n ep j:Nat}{p:Array (Int×Value)}{t:SetTable}{ps:UJ}{x:Int×Value}{Q:UQ->Shared->Prop}(b:uM s.heap it a (.ref tp) i n ep)(u:SW s.heap a p ep t)(y:p.size=n)
  (v:∃o e,s.heap.get? tp=some o/\o.data=.seq ps e) (z:ps[i]?=some (.int (j:Int) 0)) (r:p[j]?=some x)
  (C:∀h',uM h' it a (.ref tp) (i+1) n ep->Heap.SameBut it s.heap h'->Q (some x.2) { s with heap:=h' }) :
  wpAny (model prog w) A (pyNext (.ref it)) Q E s:=by
 obtain⟨o,h,B,hd⟩:=id b
 obtain⟨⟨os,c,d⟩,q⟩:=id u
 obtain⟨op,e,g,l⟩:=v
 unfold pyNext
 refine dL (RX (QJ (name:=Str.ofString "__next__") b.typeIs L4.D3 (Qz L4.D3 b.typeIs L4.bI ?_ (L4.cB _))))
 unfold Builtin.«set_iterator.__next__»
 refine dL (hH ?_)
 refine dL (To h hd ?_)
 refine dL (RW c d q ?_)
 rw[wP (by rw[y];simp)]
 dsimp only
 refine dL ?_
 unfold seqItems?
 refine dL (wpAny_load g ?_)
 rw[l]
 refine hH ?_
 dsimp only
 rw[Qy,z]
 dsimp only
 rw[Qy,Qy]
 refine dL ?_
 unfold setNextDrawn
 refine dL (Rs c d q ?_)
 dsimp only
 rw[wP (by simp),r]
 refine hH ?_
 refine dL (Rm h hd (by simp) ?_)
 refine hH ⟨_,rfl,hH (C _ ?_ (QE ..))⟩
 refine⟨_,OV _ h (Rg (Ps hd _)),(SU ..).trans B,?_⟩
 rw[Ps hd];simp[rawInt]
end
end PySem
namespace PySem
section
variable{prog:Program}{w:World}{A:Around}{E:UM}{s:Shared}{it a:Addr}
theorem L8 {Q:Bool->Shared->Prop} (h:Q (w.params.followText "set-order") s):wpAny (model prog w) A setsByText Q E s:=by
 unfold setsByText
 exact dL (Tb (hH h))
theorem tR{xs:Array Nat}(g:xs.toList.Pairwise (·<·)){i j:Nat}(h:xs[i]?=some j):SetTable.below xs (j+1)=i+1:=by
 obtain⟨u,o,l⟩:=bY g (j+1)
 obtain⟨d,e⟩:=Array.getElem?_eq_some_iff.mp h
 have r:xs.getD i 0=j:=by rw[Qo,h];rfl
 have c1:i<SetTable.below xs (j+1):=by
  rcases Nat.lt_or_ge i (SetTable.below xs (j+1)) with c | c
  ·exact c
  ·have:=l i c d
   omega
 rcases Nat.lt_or_ge (i+1) (SetTable.below xs (j+1)) with c | c
 ·have q:=o (i+1) c
  have b:i+1<xs.size:=by omega
  have g1:xs.getD (i+1) 0=xs.toList[i+1]'(by rw[Db];exact b):=by
   rw[Qo,KF b];rfl
  have p:=List.pairwise_iff_getElem.mp g i (i+1) (by rw[Db];exact d) (by rw[Db];exact b) (by omega)
  have g2:xs.toList[i]'(by rw[Db];exact d)=j:=e
  omega
 ·omega
theorem uw{xs:Array Nat}(b:xs.toList.Pairwise (·<·)):SetTable.below xs 0=0:=by
 obtain⟨h,d,g⟩:=bY b 0
 rcases Nat.eq_zero_or_pos (SetTable.below xs 0) with e | c
 ·exact e
 ·exact absurd (d 0 c) (RS _)
theorem pC {slot i ep:Nat} {c:Array (Int×Value)} {t:SetTable} {x:Int×Value} {Q:Option (Value×Nat)->Shared->Prop} (g:SW s.heap a c ep t) (u:w.params.followText "set-order"=false) (p:t.led=true)
  (hd:(!t.plain&&decide (c.size>1))=false) (v:t.place.toList.Pairwise (·<·)) (r:SetTable.below t.place slot=i) (e:c[i]?=some x) {j:Nat} (q:t.place[i]?=some j)
  (h:Q (some (x.2,j+1)) s):wpAny (model prog w) A (setNext a slot i ep) Q E s:=by
 obtain⟨⟨o,l,b⟩,d⟩:=id g
 unfold setNext
 refine dL (Rs l b d ?_)
 dsimp only
 refine dL (L8 ?_)
 rw[u]
 rw[wP tL]
 show wpAny _ _ (if (!t.plain&&decide (c.size>1))=true then _ else _) _ _ s
 rw[hd,wP tL]
 refine dL ?_
 wp_delta
 rw[p]
 refine hH ?_
 rw[r,e]
 have hz:t.place.size=c.size:=by
  simp only[SetTable.fits,Fa,beq_iff_eq,QN] at d
  exact d.1
 rw[q]
 exact hH h
theorem fN {slot ep g:Nat} {c:Array (Int×Value)} {t:SetTable} {Q:Option (Value×Nat)->Shared->Prop} (d:SW s.heap a c ep t) (p:w.params.followText "set-order"=false) (i:t.led=true)
  (hd:(!t.plain&&decide (c.size>1))=false) (j:SetTable.below t.place slot=c.size)
  (h:Q none s):wpAny (model prog w) A (setNext a slot g ep) Q E s:=by
 obtain⟨⟨o,e,b⟩,l⟩:=id d
 unfold setNext
 refine dL (Rs e b l ?_)
 dsimp only
 refine dL (L8 ?_)
 rw[p]
 rw[wP tL]
 show wpAny _ _ (if (!t.plain&&decide (c.size>1))=true then _ else _) _ _ s
 rw[hd,wP tL]
 refine dL ?_
 wp_delta
 rw[i]
 refine hH ?_
 rw[j,Sb (sK _)]
 exact hH h
theorem jV {slot i ep:Nat} {j:Array (Int×Value)} {t:SetTable} {Q:Option (Value×Nat)->Shared->Prop} (l:SW s.heap a j ep t) (g:w.params.followText "set-order"=true)
  (h:Q ((pickOrder (w.params.setOrder a ep) j)[i]?.map fun e=>(e.2,slot)) s):wpAny (model prog w) A (setNext a slot i ep) Q E s:=by
 obtain⟨⟨o,c,b⟩,d⟩:=id l
 unfold setNext
 refine dL (Rs c b d ?_)
 dsimp only
 refine dL (L8 ?_)
 rw[g,wS rfl]
 rw[wP (by simp)]
 refine dL ?_
 unfold setWalk
 refine dL (Rs c b d ?_)
 dsimp only
 refine dL (L8 ?_)
 rw[g,wS rfl]
 refine dL (Tb (hH ?_))
 exact hH h
theorem nZ{slot i n ep:Nat}{h:Array (Int×Value)}{t:SetTable}{Q:UQ->Shared->Prop}(r:A.handled=none)(c:uM s.heap it a (.int (slot:Int) 0) i n ep)(p:SW s.heap a h ep t)(q:h.size=n)
  (l:∀(E:UM) (j:Option (Value×Nat)->Shared->Prop),j none s->wpAny (model prog w) A.in1 (setNext a slot i ep) j E s)
  (v:∀h',Heap.ExtBut it s.heap h'->Q none { s with heap:=h' }) :
  wpAny (model prog w) A (pyNext (.ref it)) Q E s:=by
 obtain⟨o,g,x,hd⟩:=id c
 obtain⟨⟨os,d,e⟩,u⟩:=id p
 unfold pyNext
 refine dL (RX (QJ (name:=Str.ofString "__next__") c.typeIs L4.D3 (Qz L4.D3 c.typeIs L4.bI ?_ (L4.cB _))))
 unfold Builtin.«set_iterator.__next__»
 refine dL (hH ?_)
 refine dL (To g hd ?_)
 refine dL (RW d e u ?_)
 rw[wP (by rw[q];simp)]
 dsimp only
 rw[Qy,Qy,Qy]
 refine dL (l _ _ ?_)
 dsimp only
 refine dL (Rm g hd (by simp) ?_)
 refine dL ?_
 simp only[newExc,newTuple]
 refine dL (IR ?_ (by size_fits))
 refine dL (m:=firstArgMember _ _) (Rt (a:=Value.none) (by first | rfl | (simp only[firstArgMember];rfl)) ?_)
 refine IR ?_ (by size_fits)
 simp only[raiseNew]
 refine dL (wpAny_handled ?_)
 rw[show A.in1.handled=none from r]
 refine dL (hH (wpAny_throw ?_))
 refine dL (Sq (T:="StopIteration") (b:=true) ⟨_,At _ rfl,rfl⟩ kc ?_)
 exact hH (v _ (((QE ..).extBut.push _).push _))
theorem gR{tp i n ep:Nat}{p:Array (Int×Value)}{t:SetTable}{ps:UJ}{Q:UQ->Shared->Prop}(x:A.handled=none)(c:uM s.heap it a (.ref tp) i n ep)(q:SW s.heap a p ep t)(u:p.size=n)
  (r:∃o e,s.heap.get? tp=some o/\o.data=.seq ps e) (v:ps[i]?=none)
  (z:∀h',Heap.ExtBut it s.heap h'->Q none { s with heap:=h' }) :
  wpAny (model prog w) A (pyNext (.ref it)) Q E s:=by
 obtain⟨o,h,B,hd⟩:=id c
 obtain⟨⟨os,d,j⟩,y⟩:=id q
 obtain⟨op,e,g,l⟩:=r
 unfold pyNext
 refine dL (RX (QJ (name:=Str.ofString "__next__") c.typeIs L4.D3 (Qz L4.D3 c.typeIs L4.bI ?_ (L4.cB _))))
 unfold Builtin.«set_iterator.__next__»
 refine dL (hH ?_)
 refine dL (To h hd ?_)
 refine dL (RW d j y ?_)
 rw[wP (by rw[u];simp)]
 dsimp only
 refine dL ?_
 unfold seqItems?
 refine dL (wpAny_load g ?_)
 rw[l]
 refine hH ?_
 dsimp only
 rw[Qy,v]
 dsimp only
 refine dL (Rm h hd (by simp) ?_)
 refine dL (Rm (OV _ h (Rg (Ps hd _))) (Ps hd _) (by simp) ?_)
 refine dL ?_
 simp only[newExc,newTuple]
 refine dL (IR ?_ (by size_fits))
 refine dL (m:=firstArgMember _ _) (Rt (a:=Value.none) (by first | rfl | (simp only[firstArgMember];rfl)) ?_)
 refine IR ?_ (by size_fits)
 simp only[raiseNew]
 refine dL (wpAny_handled ?_)
 rw[show A.in1.handled=none from x]
 refine dL (hH (wpAny_throw ?_))
 refine dL (Sq (T:="StopIteration") (b:=true) ⟨_,At _ rfl,rfl⟩ kc ?_)
 exact hH (z _ ((((QE ..).trans (QE ..)).extBut.push _).push _))
end
end PySem
namespace PySem
section
variable{prog:Program}{w:World}{A:Around}{E:UM}{s:Shared}{I a:Addr}
theorem kf{t:SetTable}{n:Nat}(b:t.fits n=true):t.place.size=n:=by
 simp only[SetTable.fits,Fa,beq_iff_eq,QN] at b
 exact b.1
theorem mR (M:A.handled=none) (r:a≠I) {g:Array (Int×Value)} {ep:Nat} {t:SetTable} (d:w.params.followText "set-order"=false) (C:t.led=true)
  (hd:(!t.plain&&decide (g.size>1))=false) (B:t.place.toList.Pairwise (·<·)) :
  Walks prog w A I [I,a] [I] g.size (fun i v=>(g.toList.map (·.2))[i]?=some v) (fun i h=>(∃slot,uM h I a (.int ((slot:Nat):Int) 0) i g.size ep/\SetTable.below t.place slot=i)/\SW h a g ep t) where
 sub:=fun b d=>by simp at d;simp[d]
 frame:=fun _ _ _ ⟨⟨slot,st,e⟩,c⟩ G=>⟨⟨slot,st.at' fun o e=>G I (by simp) o e,e⟩,c.at' fun o e=>G a (by simp) o e⟩
 item:=fun i s Q E J ⟨⟨slot,st,e⟩,c⟩ p=>by
  have hz:=kf c.2
  have u:i<t.place.size:=by omega
  have H:t.place[i]?=some t.place[i]:=KF u
  have z:g[i]?=some g[i]:=KF J
  refine jX st c rfl (x:=g[i].2) (slot':=t.place[i]+1) (fun E O q=>pC c d C hd B e z H q) fun h' l j=>?_
  exact p _ h' s.toks (by rw[wE,Rl,z];rfl) ⟨⟨_,l,tR B H⟩,c.at' fun o e=>j.extBut a o r e⟩ fun b o d e=>j.extBut b o (fun h=>d (by simp[h])) e
 done:=fun s Q E ⟨⟨slot,st,e⟩,c⟩ p=>nZ M st c rfl (fun E O q=>fN c d C hd e q) fun h' y=>p h' s.toks fun b o d e=>y b o (fun h=>d (by simp[h])) e
 self:=fun _ _ _ _ ⟨⟨_,st,_⟩,_⟩ p=>aR st p
theorem uO (B:A.handled=none) (r:a≠I) {c:Array (Int×Value)} {ep:Nat} {t:SetTable} (d:w.params.followText "set-order"=true) :
  Walks prog w A I [I,a] [I] c.size (fun i v=>((pickOrder (w.params.setOrder a ep) c).toList.map (·.2))[i]?=some v) (fun i h=>uM h I a (.int ((0:Nat):Int) 0) i c.size ep/\SW h a c ep t) where
 sub:=fun b d=>by simp at d;simp[d]
 frame:=fun _ _ _ ⟨st,g⟩ z=>⟨st.at' fun o e=>z I (by simp) o e,g.at' fun o e=>z a (by simp) o e⟩
 item:=fun i s Q E G ⟨st,g⟩ p=>by
  have hz:(pickOrder (w.params.setOrder a ep) c).size=c.size:=by
   have:=(dS (w.params.setOrder a ep) c).length_eq
   rwa [Db,Db] at this
  have y:(pickOrder (w.params.setOrder a ep) c)[i]?=some (pickOrder (w.params.setOrder a ep) c)[i]:=KF (by omega)
  refine jX st g rfl (x:=((pickOrder (w.params.setOrder a ep) c)[i]'(by omega)).2) (slot':=0) (fun E C q=>jV g d (by rw[y];exact q)) fun h' l j=>?_
  exact p _ h' s.toks (by rw[wE,Rl,y];rfl) ⟨l,g.at' fun o e=>j.extBut a o r e⟩ fun b o d e=>j.extBut b o (fun h=>d (by simp[h])) e
 done:=fun s Q E ⟨st,g⟩ p=>by
  have hz:(pickOrder (w.params.setOrder a ep) c).size=c.size:=by
   have:=(dS (w.params.setOrder a ep) c).length_eq
   rwa [Db,Db] at this
  exact nZ B st g rfl (fun E C q=>jV g d (by rw[Sb (RO hz)];exact q)) fun h' u=>p h' s.toks fun b o d e=>u b o (fun h=>d (by simp[h])) e
 self:=fun _ _ _ _ ⟨st,_⟩ p=>aR st p
def dA(c:Array (Int×Value))(b:UI):UF:=b.map fun j=>((c[j]?).map (·.2)).getD .none
theorem jy(d:Array (Int×Value)){b:UI}(h:b.Perm (List.range d.size)):(dA d b).Perm (d.toList.map (·.2)):=by
 unfold dA
 refine(h.map _).trans ?_
 have:(List.range d.size).map (fun j=>((d[j]?).map (·.2)).getD Value.none)=d.toList.map (·.2):=by
  refine Tr fun i=>?_
  rw[wE,wE,Rl (xs:=d)]
  by_cases c:i<d.size
  ·rw[Te c,KF c]
   show some (((d[i]?).map (·.2)).getD Value.none)=_
   rw[KF c];rfl
  ·rw[RG (by simpa using c),Sb (by omega)];rfl
 rw[this]
theorem oO(O:A.handled=none){tp:Addr}(C:a≠I)(B:tp≠I){d:Array (Int×Value)}{ep:Nat}{t:SetTable}{c:UI}(z:c.Perm (List.range d.size)) :
  Walks prog w A I [I,a,tp] [I] d.size (fun i v=>(dA d c)[i]?=some v) (fun i h=>uM h I a (.ref tp) i d.size ep/\SW h a d ep t/\∃o e,h.get? tp=some o/\o.data=.seq (c.map fun j=>rawInt ((j:Nat):Int)).toArray e) where
 sub:=fun b q=>by simp at q;simp[q]
 frame:=fun _ _ _ ⟨st,p,o,e,u,r⟩ H=>⟨st.at' fun o e=>H I (by simp) o e,p.at' fun o e=>H a (by simp) o e,o,e,H tp (by simp) o u,r⟩
 item:=fun i s Q E R ⟨st,p,o,e,u,r⟩ y=>by
  have hz:c.length=d.size:=by rw[z.length_eq,BB]
  have l:i<c.length:=by omega
  have G:c[i]<d.size:=List.mem_range.mp (z.mem_iff.mp (Rx l))
  have M:d[c[i]]?=some d[c[i]]:=KF G
  refine sP st p rfl ⟨o,e,u,r⟩ (j:=c[i]) (by simp[l,rawInt]) M fun h' x g=>?_
  exact y _ h' s.toks (by unfold dA;rw[wE,iU l];show some (((d[c[i]]?).map (·.2)).getD Value.none)=_;rw[M];rfl) ⟨x,p.at' fun o e=>g.extBut a o C e,o,e,g.extBut tp o B u,r⟩ fun b o q e=>g.extBut b o (fun h=>q (by simp[h])) e
 done:=fun s Q E ⟨st,p,o,e,u,r⟩ y=>by
  have hz:c.length=d.size:=by rw[z.length_eq,BB]
  exact gR O st p rfl ⟨o,e,u,r⟩ (by simp[hz]) fun h' J=>y h' s.toks fun b o q e=>J b o (fun h=>q (by simp[h])) e
 self:=fun _ _ _ _ ⟨st,_⟩ y=>aR st y
theorem pB{t:SetTable}(g:TG t){n:Nat}(e:t.fits n=true)(hd:(!t.plain&&decide (n>1))=false):t.place.toList.Pairwise (·<·):=by
 cases b:t.plain with
 | true=>exact(g b).1
 | false=>
  rw[b] at hd
  have hz:=kf e
  have h:¬n>1:=fun c=>by rw[Da c] at hd;cases hd
  have d:t.place.toList.length<=1:=by rw[Db];omega
  match t.place.toList,d with
  | [],_=>exact List.Pairwise.nil
  | [x],_=>exact QT _ _
theorem uF (u:A.handled=none) {l:Array (Int×Value)} (O:G8 prog w (!w.params.followText "set-order") s.heap a l) {Q:UM}
  (h:∀(I:Addr) (h':Heap) (d:Drawn) (vs:UF) (G:UD) (St:Nat->Heap->Prop),(∀b o,s.heap.get? b=some o->h'.get? b=some o)->s.heap.objs.size<=I->(∀b∈G,b=a\/s.heap.objs.size<=b)->vs.Perm (l.toList.map (·.2)) ->
   Walks prog w A I G [I] l.size (fun i v=>vs[i]?=some v) St->St 0 h'->Q (.ref I) { s with heap:=h',drawn:=d }) :
  wpAny (model prog w) A (pyIter (.ref a)) Q E s:=by
 obtain⟨⟨o,ep,t,c,x,hd,g,B,H⟩,J,j⟩:=id O
 have C:s.TypeIs (.ref a) "set":=⟨o,c,x.1⟩
 have p:=AT c
 refine TQ C F.slot_set_iter (Qz F.slot_set_iter C L4.Nb ?_ (F.args_set_iter_1 _))
 unfold Builtin.«frozenset.__iter__»
 refine dL (hH ?_)
 refine dL (dL (RW c hd g (hH ?_)))
 refine dL (dL (Rs c hd g (dL (L8 (hH ?_)))))
 show wpAny _ _ (if (!w.params.followText "set-order" && (!t.plain&&decide (l.size>1)))=true then _ else _) _ _ s
 cases z:w.params.followText "set-order" with
 | true=>
  rw[wP (by simp)]
  refine dL (hH ?_)
  refine dL (TN c hd g ?_)
  unfold newFields
  refine dL (IR (hH ⟨_,rfl,"set_iterator",_,⟨_,At _ rfl,rfl⟩,L4.D3.lookup,?_⟩))
  refine h _ _ s.drawn _ _ _ (fun b o e=>hD _ e) (sK _) (fun b j=>?_) ((dS (w.params.setOrder a ep) l).map _) (uO (t:=t) (ep:=ep) u (Ew p) z) ⟨⟨_,At _ rfl,rfl,rfl⟩,⟨_,hD _ c,hd⟩,g⟩
  simp only[Rn,Tv,or_false] at j
  rcases j with rfl | rfl
  ·exact .inr (sK _)
  ·exact .inl rfl
 | false=>
  cases y:(!t.plain&&decide (l.size>1)) with
  | false=>
   rw[wP (by simp)]
   refine dL (hH ?_)
   refine dL (TN c hd g ?_)
   unfold newFields
   refine dL (IR (hH ⟨_,rfl,"set_iterator",_,⟨_,At _ rfl,rfl⟩,L4.D3.lookup,?_⟩))
   refine h _ _ s.drawn _ _ _ (fun b o e=>hD _ e) (sK _) (fun b j=>?_) (.refl _) (mR (ep:=ep) u (Ew p) z (by rw[H,z];rfl) y (pB B g y)) ⟨⟨0,⟨_,At _ rfl,rfl,rfl⟩,uw (pB B g y)⟩,⟨_,hD _ c,hd⟩,g⟩
   simp only[Rn,Tv,or_false] at j
   rcases j with rfl | rfl
   ·exact .inr (sK _)
   ·exact .inl rfl
  | true=>
   rw[wS (by simp)]
   refine dL (iX l.size _ BB fun q d r=>?_)
   refine dL (wpAny_newTuple ?_ (by have M:l.size<4096:=j;rw[eH,r.length_eq,BB,QU];omega))
   refine dL (TN (hD _ c) hd g ?_)
   unfold newFields
   refine dL (IR (hH ⟨_,rfl,"set_iterator",_,⟨_,At _ rfl,rfl⟩,L4.D3.lookup,?_⟩))
   refine h _ _ d _ _ _ (fun b o e=>hD _ (hD _ e)) (by rw[QL];exact Tc _) (fun b j=>?_) (jy l r) (oO (tp:=s.heap.objs.size) (t:=t) (ep:=ep) u (by rw[QL];exact Ew (QX p)) (by rw[QL];exact Ew (Rv _)) r)
    ⟨⟨_,At _ rfl,rfl,rfl⟩,⟨⟨_,hD _ (hD _ c),hd⟩,g⟩,⟨_,0,hD _ (At _ rfl),rfl⟩⟩
   simp only[Rn,Tv,or_false] at j
   rcases j with rfl | rfl | rfl
   ·exact .inr (by rw[QL];exact Tc _)
   ·exact .inl rfl
   ·exact .inr (sK _)
end
end PySem
namespace PySem
open PyProof.Rows
section
variable{prog:Program}{w:World}{A:Around}{E:UM}{s:Shared}{a:Addr}
theorem Ag {Q:Bool->Shared->Prop} (g:s.TypeIs (.ref a) "set") (h:Q false s):wpAny (model prog w) A (Builtin.List.listLengthHint (.ref a)) Q E s:=by
 unfold Builtin.List.listLengthHint
 refine dL (Sc g L4.Nm ?_)
 generalize d:("set.__len__" : String)=e
 wp_delta
 rw[show splitId e=some ("set","__len__") from by subst d;decide +kernel]
 subst d
 refine dL (Sq (T:="set") (b:=true) g (by rw[Ri];kernel_rfl) ?_)
 refine Th (fun c=>absurd c (by decide)) (fun _=>?_)
 refine Th (fun _=>?_) (fun c=>absurd (by decide +kernel) c)
 refine dL (SC g ?_)
 exact hH h
theorem rF {R:Result->Shared->Prop} (hh:A.handled=none) {B:Array (Int×Value)} (hS:G8 prog w (!w.params.followText "set-order") s.heap a B) (S:Addr) (O:S≠a) (q:Value) (h0:s.heap.get? S=some { cls:=.type "list",data:=.seq #[] })
  (hR:∀h' tk d g C (vs:UF),vs.Perm (B.toList.map (·.2))->(∀b o,b≠S->s.heap.get? b=some o->h'.get? b=some o)->h'.get? S=some { cls:=.type "list",dict:=none,data:=.seq g C,slots:=#[] }->ItemsOf (fun i v=>vs[i]?=some v) g B.size->R (.ok (.ret q)) { s with heap:=h',toks:=tk,drawn:=d }) :
  wpAny (model prog w) A.in1 (Builtin.List.listExtendWith (.ref S) (.ref a) q)
   (fun a0 u=>match a0 with | .done f=>R (.ok f) u | .again C=>C.quiet=true/\codeAny (model prog w) A C R u) (fun e u=>R (.error e) u) s:=by
 obtain⟨⟨o,ep,t,ho,H,hd,hf,tg,hl⟩,a1,r⟩:=id hS
 have hn:B.size<=sizeLine:=by have a2:B.size<4096:=r;rw[QU];omega
 have hT:s.TypeIs (.ref a) "set":=⟨o,ho,H.1⟩
 unfold Builtin.List.listExtendWith
 refine dL (SC (T:="set") hT ?_)
 have h1:Builtin.List.listSameRef (.ref S) (.ref a)=false:=by simp[Builtin.List.listSameRef,O]
 have y:(Value.type "set" == Value.type "list")=false:=by decide
 have h3:(Value.type "set" == Value.type "tuple")=false:=by decide
 simp only[h1,y,h3,Bool.or_false,RV,SH]
 refine dL (uF (A:=A.in1) hh hS fun I h' d vs fp St keep hI X hp W st=>?_)
 have Q:S∉fp:=fun z=>by
  rcases X _ z with e | e
  ·exact O e
  ·exact absurd (AT h0) (Nat.not_lt.mpr e)
 have G:∀(y:Heap) (p:Nat),St 0 y->(∀b o,b≠S->h'.get? b=some o->y.get? b=some o) ->
   y.get? S=some { cls:=.type "list",data:=.seq #[] p }->codeAny (model prog w) A (.builtin "list.extend.loop" ⟨[.ref S,.ref I,q],[]⟩) R { s with heap:=y,drawn:=d }:=by
  intro y p U hk c
  refine codeAny_extend_loopS W.toS hn S Q q B.size 0 _ #[] p rfl (KM _) U c (ItemsOf.nil _) fun u g C hm Y M=>?_
  rw[Moved.eq_with hm]
  refine hR u.heap u.toks d g C vs hp (fun b o r e=>hm.heap b o (fun j=>?_) (hk b o r (keep b o e))) Y M
  rcases List.mem_cons.mp j with e' | j
  ·exact r e'
  ·rcases List.mem_singleton.mp j with rfl
   exact absurd (AT e) (Nat.not_lt.mpr hI)
 have c:=keep _ _ h0
 refine dL (Qq (Ag ⟨o,keep _ _ ho,H.1⟩ ?_))
 refine Th (fun _=>?_) (fun _=>hH ⟨QS PySem.F.plain_extend_loop _,G _ _ st (fun b o _ e=>e) c⟩)
 refine dL (Sd ?_)
 refine dL ?_
 show wpAny _ _ (updateSeq S (·.push .none) >>= fun _=>updateSeq S (·.pop)) _ _ _
 refine dL (Sw c rfl ?_)
 have l:=OV (Obj.mapSeq (·.push Value.none)) c rfl
 refine Sw (hz:=by seq_fits) l rfl ?_
 have x:=OV (Obj.mapSeq (·.pop)) l rfl
 refine hH ⟨QS PySem.F.plain_extend_loop _,G _ _ ?_ (fun b o r e=>?_) x⟩
 ·refine W.frame 0 _ _ st fun b r o e=>?_
  have J:b≠S:=fun h=>Q (h▸r)
  exact(QI _ _ (QO J)).trans ((QI _ _ (QO J)).trans e)
 ·exact(QI _ _ (QO r)).trans ((QI _ _ (QO r)).trans e)
end
end PySem
namespace PySem
open PyProof.Rows
section
variable{prog:Program}{w:World}{A:Around}{E:UM}{s:Shared}{a:Addr}
theorem G8.keep{led:Bool}{h h':Heap}{d:Array (Int×Value)}(x:G8 prog w led h a d)(k:∀o,h.get? a=some o->h'.get? a=some o):G8 prog w led h' a d:=
 let ⟨⟨o,ep,t,e,r⟩,b,c⟩:=x;⟨⟨o,ep,t,k o e,r⟩,b,c⟩
theorem G8.lt{led:Bool}{h:Heap}{c:Array (Int×Value)}(x:G8 prog w led h a c):a<h.objs.size:=let ⟨⟨o,_,_,b,_⟩,_,_⟩:=x;AT b
theorem zd {R:Result->Shared->Prop} (h:A.handled=none) {g:Array (Int×Value)} (j:G8 prog w (!w.params.followText "set-order") s.heap a g) (S:Addr) (e:S≠a) (h0:s.heap.get? S=some { cls:=.type "list",data:=.seq #[] })
  (l:∀h' tk d c p (vs:UF),vs.Perm (g.toList.map (·.2))->(∀b o,b≠S->s.heap.get? b=some o->h'.get? b=some o)->h'.get? S=some { cls:=.type "list",dict:=none,data:=.seq c p,slots:=#[] }->ItemsOf (fun i v=>vs[i]?=some v) c g.size->R (.ok (.ret (.ref S))) { s with heap:=h',toks:=tk,drawn:=d }) :
  codeAny (model prog w) A (.builtin "list.__iadd__" ⟨[.ref S,.ref a],[]⟩) R s:=by
 refine QM F.entry_list_iadd ?_
 rw[QA F.plain_list_iadd _]
 exact rF h j S e (.ref S) h0 l
theorem oU (v:A.handled=none) {g:Array (Int×Value)} (u:G8 prog w (!w.params.followText "set-order") s.heap a g) {Q:UF->Shared->Prop}
  (h:∀(vs:UF) (h':Heap) (tk:Nat) (d:Drawn),vs.Perm (g.toList.map (·.2))->s.heap.objs.size<h'.objs.size->(∀b o,s.heap.get? b=some o->h'.get? b=some o)->Q vs { s with heap:=h',toks:=tk,drawn:=d }) :
  wpAny (model prog w) A (collect (.ref a)) Q E s:=by
 unfold collect
 refine dL (Tl (QM F.entry_proto_collect ?_))
 rw[QA F.plain_proto_collect _]
 show wpAny _ A.in1 (newList [] >>= fun l=>again (.builtin "list.__iadd__" ⟨[l,.ref a],[]⟩)) _ _ s
 refine dL (IR ?_)
 refine hH ⟨QS F.plain_list_iadd _,zd (s:={ s with heap:=s.heap.push { cls:=.type "list",data:=.seq ([]:UF).toArray } }) v (u.keep fun o e=>hD _ e) s.heap.objs.size (RN u.lt) (At _ rfl) fun h' tk d acc c vs j keep p r=>?_⟩
 show wpAny _ A (load s.heap.objs.size >>= _) _ _ _
 refine dL (wpAny_load p ?_)
 have hz:vs.length=g.size:=by rw[j.length_eq,eH,Db]
 have x:acc.toList=vs:=by
  refine Tr fun i=>?_
  rw[Rl]
  by_cases q:i<acc.size
  ·exact(KF q).trans (r.2 i _ (KF q)).symm
  ·rw[Sb (Tu q),RG (by rw[hz,<-r.1];exact Tu q)]
 refine hH ?_
 rw[x]
 exact h vs h' tk d j (AT p) fun b o e=>keep b o (Ew (AT e)) (hD _ e)
theorem rT (C:A.handled=none) {x:Array (Int×Value)} {p:UH} (I:G8 prog w (!w.params.followText "set-order") s.heap a x) (M:L2.EI x p) (q:p.length<64) {Q:UM}
  (J:∀(l:Addr) (h':Heap) (tk:Nat) (d:Drawn) (out:UJ) (c:UH) (e:Nat),s.heap.objs.size<=l->(∀b o,s.heap.get? b=some o->h'.get? b=some o)->h'.get? l=some (seqObj "list" out e)->IntsAre out.toList c->c.Perm p->c.Pairwise (·<=·) ->
   Q (.ref l) { s with heap:=h',toks:=tk,drawn:=d }) :
  wpAny (model prog w) A (call (.builtin "sorted") [.ref a]) Q E s:=by
 refine Calls.call_function_entry kind_sorted plain_sorted entry_sorted (args_sorted1 _) ?_
 unfold Builtin.«sorted»
 refine dL (m:=checkCount "sorted" 1 1 _) (hH ?_)
 refine dL (oU (A:=A.in1) C I fun vs h' tk d B hsz keep=>?_)
 obtain⟨y,z,u⟩:=M
 obtain⟨ns,v,r⟩:=L2.kJ B z
 have i:vs.length<64:=by rw[L2.iY v,r.length_eq,u.length_eq];exact q
 refine dL (wpAny_newList ?_ (by rw[QU];omega))
 have g:(h'.push (seqObj "list" vs.toArray 0)).get? h'.objs.size=some (seqObj "list" vs.toArray 0):=At _ rfl
 refine dL (Qq (Qz slot_list_sort ⟨_,g,rfl⟩ entry_list_sort (list_sort_tree g v i fun out c a1 a2 a3=>⟨_,rfl,?_⟩) (args_list_sort _)))
 obtain⟨e,G⟩:=sortedHeap_at (out:=out) g
 refine hH ⟨_,rfl,J _ _ tk d out c e ?_ (fun b o H=>?_) G a1 (a2.trans (r.trans u)) a3⟩
 ·exact Re hsz
 ·have j:=keep b o H
  have h:=AT j
  rw[sortedHeap_old (Ew h) (by rw[size_push'];exact QX h)]
  exact hD _ j
end
end PySem
namespace L2
open PySem PySem.Spec PyProof.Rows
abbrev X2(w:World):Bool:=!w.params.followText "set-order"
section
variable{prog:Program}{w:World}{A:Around}{E:UM}{s:Shared}
theorem yc{I:Addr}{b a:UD}{n m:Nat}{P:Nat->Value->Prop}{St:Nat->Heap->Prop}(e:n=m)(W:Walks prog w A I b a n P St):Walks prog w A I b a m P St:=by rw[<-e];exact W
theorem Ck(a:Value){Q1:UM}
  (h:Q1 (.ref s.heap.objs.size) { s with heap:=s.heap.push { cls:=.type "set",dict:=none,data:=.set #[] 0 (.fresh 0 0 (X2 w)) } }) :
  codeAny (model prog w) A (.call (.builtin "set.__new__") ⟨[.type "set",a],[]⟩) (wants Q1 E) s:=by
 refine Tj ?_
 show wpAny _ A.in1 (do checkBuiltinCall "set.__new__" ⟨[.type "set",a],[]⟩;again (.builtin "set.__new__" ⟨[.type "set",a],[]⟩)) _ _ s
 refine dL (Rt (F.newCall_set_1 a) (hH ⟨QS F.plain_set_new _,QM F.entry_set_new ?_⟩))
 rw[QA F.plain_set_new _]
 unfold Builtin.«set.__new__» Builtin.Frozenset.newClass
 have b:=sub_set_self
 obtain⟨c,g,d,tk,os⟩:=s
 dsimp only
 wp_walk
 refine Tb (hH ?_)
 dsimp only
 simp only[newObj]
 exact dL (wpAny_alloc (hH (hH h)))
end
section
variable{X:Cx}
def Am(X:Cx)(d:Addr)(b:UH)(h:Heap):Prop:=∃a,G8 X.prog X.w (X2 X.w) h d a/\EI a b
def Mh(K:UP)(X:Cx):List V->Hp->VK->Prop:=fun xs H Q=>∃(p:Addr) (ns:UH),xs=[.ref p]/\L1 K H p (ns.map V.int)/\ns.length+1<scanBound/\∀d,H d=none->Q (.ref d) (upd H d (.ext (Am X d (ns.foldl T8 []))))
theorem xu(hc:X.calm=true):I0 X (.type "set") (Mh X.K X):=by
 intro pins s σ H xs us Q I r h
 obtain⟨p,ns,rfl,hp,hl,q⟩:=h
 obtain⟨u,rfl,ru⟩:=vals1 r
 cases(show u=Value.ref p from ru)
 refine pF (Q1:=fun x s1=>x=.ref s.heap.objs.size/\s1={ s with heap:=s.heap.push { cls:=.type "set",dict:=none,data:=.set #[] 0 (.fresh 0 0 (X2 X.w)) } }) F.called_set (F.typeCall_set_1 _) F.entry_set_init (Ck _ ⟨rfl,rfl⟩) ?_
 rintro x s1 ⟨rfl,rfl⟩
 have hn:=I.hok.fresh (sK s.heap.objs.size)
 have hS:(s.heap.push { cls:=.type "set",dict:=none,data:=.set #[] 0 (.fresh 0 0 (X2 X.w)) }).get? s.heap.objs.size=some { cls:=.type "set",dict:=none,data:=.set #[] 0 (.fresh 0 0 (X2 X.w)) }:=At _ rfl
 have hT:Shared.TypeIs { s with heap:=s.heap.push { cls:=.type "set",dict:=none,data:=.set #[] 0 (.fresh 0 0 (X2 X.w)) } } (.ref s.heap.objs.size) "set":=⟨_,hS,rfl⟩
 refine⟨hT,fun hq=>check_set_init_1 hT hq,?_⟩
 have Y:∀(h':Heap) (tk:Nat) (c:Array (Int×Value)),(∀b o,b<s.heap.objs.size->s.heap.get? b=some o->h'.get? b=some o)->G8 X.prog X.w (X2 X.w) h' s.heap.objs.size c->EI c (ns.foldl T8 []) ->
   EP X pins σ Q (.ref s.heap.objs.size) { s with heap:=h',toks:=tk }:=fun h' tk c kp j d=>
  ⟨.ref s.heap.objs.size,_,I.laid (a:=s.heap.objs.size) (o:=.ext (Am X s.heap.objs.size (ns.foldl T8 []))) (h':=h') (t':=tk) (fun b o e=>kp b o (AT e) e) (sK _)
   ⟨⟨c,j,d⟩,let ⟨⟨o,_,_,ho,_⟩,_,_⟩:=j;⟨o,ho⟩,fun U l ⟨c,j,d⟩ k=>⟨c,j.keep k,d⟩⟩,rfl,q _ hn⟩
 have hh:=I.ok.hd hc
 have start:∀{l:Heap},l.get? s.heap.objs.size=some { cls:=.type "set",dict:=none,data:=.set #[] 0 (.fresh 0 0 (X2 X.w)) }->G8 X.prog X.w (X2 X.w) l s.heap.objs.size #[]:=fun g=>
  ⟨⟨_,0,_,g,⟨rfl,rfl,rfl⟩,rfl,by rfl,TG.fresh _ _ _,rfl⟩,fun e d=>by simp at d,by decide⟩
 obtain⟨its,rv,pl,hz⟩:=I.list hp
 have C:its.length=ns.length:=by rw[<-rv.length,eH]
 obtain⟨ob,R,M,J,G,E⟩:=pl
 obtain⟨oc,od,a0,O⟩:=ob
 simp only at J G E
 subst J G E
 have y:p<s.heap.objs.size:=AT M
 have np:s.heap.objs.size∉[(s.heap.push { cls:=.type "set",dict:=none,data:=.set #[] 0 (.fresh 0 0 (X2 X.w)) }).objs.size,p]:=by
  rw[QL]
  intro z
  rcases List.mem_cons.mp z with z | z
  ·exact absurd z (Ew (Rv _))
  ·exact absurd (List.mem_singleton.mp z) (RN y)
 have nI:p≠(s.heap.push { cls:=.type "set",dict:=none,data:=.set #[] 0 (.fresh 0 0 (X2 X.w)) }).objs.size:=by
  rw[QL];exact Ew (QX y)
 have S:∀{l h':Heap},(∀b o,s.heap.get? b=some o->l.get? b=some o)->(∀b o,b∉[s.heap.objs.size,(s.heap.push { cls:=.type "set",dict:=none,data:=.set #[] 0 (.fresh 0 0 (X2 X.w)) }).objs.size]->l.get? b=some o->h'.get? b=some o)->∀b o,b<s.heap.objs.size->s.heap.get? b=some o->h'.get? b=some o:=fun k1 k2 b o hb e=>k2 b o (fun z=>by
  rw[QL] at z
  rcases List.mem_cons.mp z with z | z
  ·exact absurd z (Ew hb)
  ·exact absurd (List.mem_singleton.mp z) (Ew (QX hb))) (k1 b o e)
 have B:(s.heap.push { cls:=.type "set",dict:=none,data:=.set #[] 0 (.fresh 0 0 (X2 X.w)) }).get? p=some { cls:=.type "list",dict:=none,data:=.seq its.toArray R,slots:=O }:=hD _ M
 have f1:=F.sub_list_set;have f2:=F.sub_list_frozenset;have f3:(Value.type "list" == Value.type "dict")=false:=by decide
 unfold Builtin.«set.__init__» noKeywords Builtin.Frozenset.updateFrom
 generalize T:pyIter=PI
 wp_walk
 subst T
 refine Sj (items:=its.toArray) ⟨_,B,rfl,R,rfl⟩ (dL (Tl ?_))
 have ez:its.toArray.size=ns.length:=by rw[A1];exact C
 refine yx (yc ez (Walks.list (by simp[hh]) _ p nI its.toArray)) s.heap.objs.size np (fun i v hv=>?_) hl ns.length 0 _ (by omega) (KM _) ⟨⟨_,At _ rfl,rfl,rfl⟩,⟨_,hD _ B,rfl,R,rfl⟩⟩ ⟨#[],start (hD _ hS),⟨[],.nil,.refl _⟩⟩ fun h' tk c kp j d=>?_
 ·have U:its[i]?=some v:=by simpa using hv
  have hi:=(List.getElem?_eq_some_iff.mp U).1
  obtain⟨u,hu,t,ht⟩:=rv.get (i:=i) (x:=.int (ns.getD i 0)) (by rw[wE,B2,iU (by omega)];rfl)
  rw[U] at hu
  cases hu
  exact⟨t,ht⟩
 ·exact hH (hH ⟨rfl,Y h' tk c (S (fun b o e=>hD _ (hD _ e)) kp) j d⟩)
theorem Inv.Kf{pins:TZ}{σ:St}{H:Hp}{s:Shared}(I:Inv X pins σ H s)(d:Drawn):Inv X pins σ H { s with drawn:=d }:=
 ⟨I.ok,I.os,I.bare,I.base,I.loc,I.cell,I.free,I.freeC,I.pin,I.hok,I.len⟩
def KN(X:Cx):List V->Hp->VK->Prop:=fun xs H Q=>∃(d:Addr) (b:UH),xs=[.ref d]/\H d=some (.ext (Am X d b))/\b.length<64/\∀(a:UH) l,a.Perm b->a.Pairwise (·<=·)->H l=none->Q (.ref l) (upd H l (.lst (a.map V.int)))
theorem tm(z:X.calm=true):I0 X (.builtin "sorted") (KN X):=by
 intro pins s σ H xs J Q I r h
 obtain⟨d,v,rfl,hd,g,q⟩:=h
 obtain⟨u,rfl,p⟩:=vals1 r
 cases(show u=Value.ref d from p)
 obtain⟨⟨M,B,C⟩,_⟩:=(show x6 X.prog X.w H s.heap d (.ext (Am X d v)) from I.hok d _ hd)
 refine rT (I.ok.hd z) B C g fun l h' tk E out b e j keep c y i x=>?_
 have G:=(I.laid (t':=tk) (a:=l) (o:=.lst (b.map V.int)) (h':=h') keep j
  ⟨by rw[eH,i.length_eq,QU];omega,out.toList,e,oA y,by rw[Array.toArray_toList];exact c⟩).Kf E
 exact⟨.ref l,_,G,rfl,q b l i x (I.hok.fresh j)⟩
end
end L2
namespace L3
open PySem PySem.Spec PySem.Calls PyProof.Rows PySem.W L2
section
variable{X:Cx}{cl:List Cl}{e:Expr}{us:cg}{x y:Str}{p1 p2 pos pos2:Pos}
def pP:List D->(D->Prop)->Prop:=fun ds Q=>∃(d:D) (ns:UH),ds=[d]/\kindB false d=some (ns.map D.int)/\ns.length<64/\∀a:UH,a.Pairwise (·<·)->(∀n,n∈a ↔ n∈ns)->Q (.lst (a.map D.int))
theorem nr{l:UH}(h:l.Pairwise (·<=·))(n:l.Nodup):l.Pairwise (·<·):=by
 refine(h.and n).imp fun⟨a,b⟩=>?_
 omega
theorem rK (hc:X.calm=true) (S:Gl X x) (I:X.mg x=none) (o:bootBuiltins x=some (.builtin "sorted")) (O:Gl X y) (C:X.mg y=none) (j:bootBuiltins y=some (.type "set")) (Y:xf X cl [e] us)
  (hn:x ≠ "__name__":=by decide) (hd:(x == ("__debug__" : Str))=false:=by decide) (z:y ≠ "__name__":=by decide) (U:(y == ("__debug__" : Str))=false:=by decide)
  (T:starEach [e] X.env=(false,eval e X.env)::starEach [] X.env:=by rfl) (g:(backTo pos2 (starEach [] X.env)).any (·.1)=false:=by rfl) (u:(backTo pos (starEach [] X.env)).any (·.1)=false:=by rfl) :
  PU X cl (.Call (.Name x p1) [.Call (.Name y p2) [e] [] pos2] [] pos) .fresh (cq pP us):=.of<|by
 obtain⟨t,p,h⟩:=Y.run
 refine⟨_,oK (tm hc) S I o (vK (dH (xu hc) O C j p z U T g) P4 rfl) hn hd rfl u,fun G ρ σ H fa Q R hG E hu k=>?_⟩
 refine h G ρ σ H fa _ _ hG E hu fun vs H1 ds A s r n3 q=>?_
 obtain⟨d,ns,rfl,ek,a0,q⟩:=q
 obtain⟨v,rfl,rr⟩:=r.one
 obtain⟨pp,ts,B,rfl,hq,r2,_⟩:=Z4 rr ek
 cases N1 r2
 refine⟨pp,ns,rfl,hq,by have:scanBound=4096:=rfl;omega,fun dd i=>?_⟩
 have fl:=qF ns []
 have fn:=Er ns [] xL
 refine⟨dd,ns.foldl T8 [],rfl,e9,by have:([]:UH).length=0:=rfl;omega,fun b l hp hs M=>?_⟩
 have s2:g4 H1 (upd (upd H1 dd (.ext (Am X dd (ns.foldl T8 [])))) l (.lst (b.map V.int))):=(g4.i4 i).trans (g4.i4 M)
 have J:H1 l=none:=by
  by_cases c:l=dd
  ·rw[c];exact i
  ·rw[i3 c] at M;exact M
 refine k _ _ (.lst (b.map D.int)) [l] (s.trans s2) (.lst e9 (iH b)) ⟨by simp,fun a Y=>?_⟩ (q b (nr hs (hp.nodup_iff.mpr fn.1)) fun n=>by rw[hp.mem_iff,fn.2];simp)
 rw[List.mem_singleton.mp Y];exact s.free J
end
end L3
namespace L2
open PySem PySem.Spec PyProof.Rows
section
variable(elt t1 i1 t2 i2:Expr)(ifs1 ifs2:UG)(scope:Scope)(pos:Pos)
abbrev two:Expr:=.ListComp elt [⟨t1,i1,ifs1,0⟩,⟨t2,i2,ifs2,0⟩] scope pos
theorem Bl(it acc:Value)(env:Env):compTurn (two elt t1 i1 t2 i2 ifs1 ifs2 scope pos) 0 it acc env=(do
  standAt i1.pos
  match <-pyNext it with
  | none=>pure (.done .next)
  | some v=>
   letOwnedTupleGo t1 it v
   assign t1 env v
   let mut ok:=true
   for c in ifs1 do
    if ok then ok <-isTrue c env (eval c env)
   if ok then
    let x <-eval i2 env
    standAt i2.pos
    let x <-foldedSetIterable i2 env x
    let _ <-runOwn (.compStart (two elt t1 i1 t2 i2 ifs1 ifs2 scope pos) 1 (<-holding [x] (pyIter x)) acc env) env
   again (.compLoop (two elt t1 i1 t2 i2 ifs1 ifs2 scope pos) 0 it acc env)):=by rfl
theorem Ff(it acc:Value)(env:Env):compTurn (two elt t1 i1 t2 i2 ifs1 ifs2 scope pos) 1 it acc env=(do
  standAt i2.pos
  match <-pyNext it with
  | none=>pure (.done .next)
  | some v=>
   letOwnedTupleGo t2 it v
   assign t2 env v
   let mut ok:=true
   for c in ifs2 do
    if ok then ok <-isTrue c env (eval c env)
   if ok then
    (do let _ <-call (.builtin "list.append") [acc,<-eval elt env])
   again (.compLoop (two elt t1 i1 t2 i2 ifs1 ifs2 scope pos) 1 it acc env)):=by rfl
end
section
variable{prog:Program}{w:World}{A:Around}{R:Result->Shared->Prop}{s:Shared}{elt t1 i1 t2 i2:Expr}{ifs1 ifs2:UG}{scope:Scope}{pos:Pos}{it acc:Value}{env:Env}
abbrev Pw(a:UG)(env:Env):Sem Bool:=forIn a true fun c r=>if r=true then do let ok <-isTrue c env (eval c env);pure (ForInStep.yield ok) else pure (ForInStep.yield r)
theorem AW(I:Nat->Shared->Prop)(u:∀x,foldedSetIterable i2 env x=pure x)
  (a:∀n s,I n s->wpAny (model prog w) A (pyNext it) (fun r c=>match r with
   | none=>R (.ok .next) c
   | some v=>wpAny (model prog w) A (letOwnedTupleGo t1 it v) (fun _ o=>wpAny (model prog w) A (assign t1 env v) (fun _ l=>
     wpAny (model prog w) A (Pw ifs1 env) (fun ok b=>
      if ok=true then wpAny (model prog w) A (eval i2 env) (fun x i=>wpAny (model prog w) A (pyIter x) (fun j g=>
       codeAny (model prog w) A (.compStart (two elt t1 i1 t2 i2 ifs1 ifs2 scope pos) 1 j acc env) (fun r e=>r=.ok .next/\∃m,m<n/\I m e) g) (fun _ _=>False) i) (fun _ _=>False) b
      else ∃m,m<n/\I m b) (fun _ _=>False) l) (fun _ _=>False) o) (fun _ _=>False) c) (fun _ _=>False) s)
  (n:Nat) (h:I n s) :
  codeAny (model prog w) A (.compLoop (two elt t1 i1 t2 i2 ifs1 ifs2 scope pos) 0 it acc env) R s:=by
 refine TV rfl I (fun n s y=>?_) n h
 show wpAny _ A ((compTurn (two elt t1 i1 t2 i2 ifs1 ifs2 scope pos) 0 it acc env).onRaise (fun x=>do noteFrame x env;theTreesLotGoes x)) _ _ s
 refine wpAny_noted ?_
 rw[Bl]
 refine dL (Ra (dL (NE (a n s y) (fun r c q=>?_) fun _ _ h'=>h'.elim)))
 cases r with
 | none=>exact hH q
 | some v=>
  refine dL (NE q (fun _ o E=>?_) fun _ _ h'=>h'.elim)
  refine dL (NE E (fun _ l C=>dL (NE C (fun ok b p=>?_) fun _ _ h'=>h'.elim)) fun _ _ h'=>h'.elim)
  cases ok with
  | false=>exact hH ⟨rfl,p⟩
  | true=>
   refine dL (NE p (fun x i B=>?_) fun _ _ h'=>h'.elim)
   refine dL (Ra ?_)
   rw[u]
   refine dL (hH ?_)
   refine dL (Qq (NE B (fun j g z=>?_) fun _ _ h'=>h'.elim))
   refine dL (wpAny_runOwn (SD z fun r e d=>?_))
   obtain⟨rfl,d⟩:=d
   exact hH ⟨rfl,d⟩
theorem FA(I:Nat->Shared->Prop)
  (a:∀n s,I n s->wpAny (model prog w) A (pyNext it) (fun r c=>match r with
   | none=>R (.ok .next) c
   | some v=>wpAny (model prog w) A (letOwnedTupleGo t2 it v) (fun _ i=>wpAny (model prog w) A (assign t2 env v) (fun _ g=>
     wpAny (model prog w) A (Pw ifs2 env) (fun ok b=>
      if ok=true then wpAny (model prog w) A (eval elt env) (fun x e=>
       wpAny (model prog w) A (call (.builtin "list.append") [acc,x]) (fun _ d=>∃m,m<n/\I m d) (fun _ _=>False) e) (fun _ _=>False) b
      else ∃m,m<n/\I m b) (fun _ _=>False) g) (fun _ _=>False) i) (fun _ _=>False) c) (fun _ _=>False) s)
  (n:Nat) (h:I n s) :
  codeAny (model prog w) A (.compLoop (two elt t1 i1 t2 i2 ifs1 ifs2 scope pos) 1 it acc env) R s:=by
 refine TV rfl I (fun n s o=>?_) n h
 show wpAny _ A ((compTurn (two elt t1 i1 t2 i2 ifs1 ifs2 scope pos) 1 it acc env).onRaise (fun x=>do noteFrame x env;theTreesLotGoes x)) _ _ s
 refine wpAny_noted ?_
 rw[Ff]
 refine dL (Ra (dL (NE (a n s o) (fun r c l=>?_) fun _ _ h'=>h'.elim)))
 cases r with
 | none=>exact hH l
 | some v=>
  refine dL (NE l (fun _ i y=>?_) fun _ _ h'=>h'.elim)
  refine dL (NE y (fun _ g u=>dL (NE u (fun ok b j=>?_) fun _ _ h'=>h'.elim)) fun _ _ h'=>h'.elim)
  cases ok with
  | false=>exact hH ⟨rfl,j⟩
  | true=>
   exact dL (dL (NE j (fun x e q=>dL (NE q (fun _ d p=>hH (hH ⟨rfl,p⟩)) fun _ _ h'=>h'.elim)) fun _ _ h'=>h'.elim))
theorem AD{j:Value}(h0:codeAny (model prog w) A (.compLoop (two elt t1 i1 t2 i2 ifs1 ifs2 scope pos) 1 j acc env) R s)
  (h:wpAny (model prog w) A (pyIter j) (fun b a=>codeAny (model prog w) A (.compLoop (two elt t1 i1 t2 i2 ifs1 ifs2 scope pos) 1 b acc env) R a) (notedBy (model prog w) A env fun x a=>R (.error x) a) s) :
  codeAny (model prog w) A (.compStart (two elt t1 i1 t2 i2 ifs1 ifs2 scope pos) 1 j acc env) R s:=by
 refine Tj ?_
 show wpAny _ _ ((compStart (two elt t1 i1 t2 i2 ifs1 ifs2 scope pos) 1 j acc env).onRaise (fun x=>do noteFrame x env;standAt theWindowsPlace)) _ _ s
 refine wpAny_notedAt ?_
 unfold compStart
 show wpAny _ _ (ask >>= _) _ _ s
 refine dL (Tb (wpAny_ite ?_))
 split
 ·first
   | exact dL (hH (hH (And.intro rfl h0)))
   | exact hH (And.intro rfl h0)
 ·refine dL (Sd ?_)
  show wpAny _ _ (standAt i2.pos >>= _) _ _ s
  exact dL (Ra (dL (NE h (fun c a h'=>hH (And.intro rfl h')) fun _ _ x=>x)))
end
def Pn(J:It)(g:TG)(tc:TT)(te:TE)(d:Addr)(e:St)(p:Hp)(Fin:Hp->Prop):Prop:=
 ∃W:Nat->Nat->St->Hp->Prop,(∃m,W 0 m e p)/\∀i m σ H,W i m σ H ->
  (J.stop i H/\Fin H) \/
  (J.go i H/\∀x l,J.yld i H x l->g x σ l fun a o=>tc a o fun b j=>
   if b=true then te a j fun v h=>∃acc,h d=some (.lst acc)/\acc.length<sizeLine/\∃c,c<m/\W (i+1) c a (upd h d (.lst (acc++[v])))
   else ∃c,c<m/\W (i+1) c a j)
section
variable{X:Cx}{N:UE}{scope:Scope}{cl:UB}{fp0:UD}{s0:Shared}{H0:Hp}{elt t1 i1 t2 i2:Expr}{ifs1 ifs2:UG}{pos:Pos}
theorem xp{J:It}{B:UD}{it d:Addr}{tn:Nat->Heap->Prop}{g:TG}{tc:TT}{te:TE}{pins:TZ}{σ:St}{H:Hp}{s:Shared}{Fin:Hp->Prop}{R:Result->Shared->Prop}(l:X.calm=true)
  (hg:PG (A7 X N scope cl fp0 s0 H0) t2 g) (hc:uY (A7 X N scope cl fp0 s0 H0) ifs2 tc) (he:PE (A7 X N scope cl fp0 s0 H0) elt te)
  (I:Inv (A7 X N scope cl fp0 s0 H0) pins σ H s) (T:Turn X.prog X.w X.K t2 J B it tn) (st:tn 0 s.heap) (hf:∀b∈B,M7 (A7 X N scope cl fp0 s0 H0) pins H b) (q:Pn J g tc te d σ H Fin)
  (hR:∀a c S,Inv (A7 X N scope cl fp0 s0 H0) pins a c S->Fin c->R (.ok .next) S) :
  codeAny (model X.prog X.w) X.A (.compStart (two elt t1 i1 t2 i2 ifs1 ifs2 scope pos) 1 (.ref it) (.ref d) (A7 X N scope cl fp0 s0 H0).env) R s:=by
 obtain⟨W,⟨m0,w0⟩,O⟩:=q
 have a3:∀b∈B,H b=none:=fun b p=>(hf b p).1
 have j:∀{c:Hp},(∀b∈B,c b=none)->∀b∈B,M7 (A7 X N scope cl fp0 s0 H0) pins c b:=fun hn b p=>⟨hn b p,(hf b p).2⟩
 have z:codeAny (model X.prog X.w) X.A (.compLoop (two elt t1 i1 t2 i2 ifs1 ifs2 scope pos) 1 (.ref it) (.ref d) (A7 X N scope cl fp0 s0 H0).env) R s:=by
  refine FA (fun n S=>∃i a c,Inv (A7 X N scope cl fp0 s0 H0) pins a c S/\tn i S.heap/\(∀b∈B,c b=none)/\W i n a c) ?_ m0 ⟨0,σ,H,I,st,a3,w0⟩
  rintro n s4 ⟨i,a1,H4,I4,Q,a0,w4⟩
  rcases O i n a1 H4 w4 with⟨stop,qn⟩ | ⟨go,step⟩
  ·refine y3 (T.done (A7 X N scope cl fp0 s0 H0) rfl rfl rfl l i pins s4 _ H4 (fun _ _=>False) I4 (j a0) Q stop) fun r s5 ⟨hr,I5⟩=>?_
   subst hr
   exact hR _ _ _ I5 qn
  ·refine y3 (T.item (A7 X N scope cl fp0 s0 H0) rfl rfl rfl l i pins s4 _ H4 (fun _ _=>False) I4 (j a0) Q go) fun r s5 ⟨u,hr,h5⟩=>?_
   subst hr
   refine y3 h5 fun _ s6 ⟨x,H6,I6,r6,y6,C,a2⟩=>?_
   have a5:=I6.pinned (j a2) (T.obj _ _ C)
   refine y3 (hg _ s6 _ H6 x u _ a5 r6 (step x H6 y6)) fun _ s7 ⟨h,H7,I7,q7⟩=>?_
   refine y3 (hc _ s7 h H7 _ I7 q7) fun ok s8 ⟨H8,I8,q8⟩=>?_
   have again:∀{E:Hp} {G:Shared},Inv (A7 X N scope cl fp0 s0 H0) (pins++aQ B s6.heap) h E G->(∃M,M<n/\W (i+1) M h E) ->
     ∃m,m<n/\∃i a c,Inv (A7 X N scope cl fp0 s0 H0) pins a c G/\tn i G.heap/\(∀b∈B,c b=none)/\W i m a c:=fun {E G} I9 ⟨M,hm,w9⟩=>by
    refine⟨M,hm,i+1,h,E,I9.R3,T.keep _ _ _ C fun b p o e=>(I9.pin (b,o) (wT _ (wT _ (C3 p e)))).1,fun b p=>?_,w9⟩
    obtain⟨o,e,_⟩:=T.obj _ _ C b p
    exact(I9.pin (b,o) (wT _ (wT _ (C3 p e)))).2.1
   cases ok with
   | false=>exact again I8 q8
   | true=>
    show wpAny _ _ (eval elt _) _ _ s8
    refine y3 (he _ s8 h H8 _ I8 q8) fun y G ⟨v,E,I9,r9,acc,Y,U,M,hm,w9⟩=>?_
    refine y3 (B7 _ G h E (.ref d) [v] (.ref d) [y] (fun _ c=>c=upd E d (.lst (acc++[v]))) I9 rfl (.cons r9 .nil) ⟨_,acc,v,rfl,rfl,Y,U,rfl⟩) fun _ a7 ⟨_,a8,a6,_,a4⟩=>?_
    subst a4
    exact again a6 ⟨M,hm,w9⟩
 exact AD z (T.self _ 0 _ _ _ st z)
end
def KI(J:It)(g:TG)(tc:TT)(o:TI)(g2:TG)(tc2:TT)(te:TE)(e:St)(Q:VK)(j:Hp):Prop:=∀d,j d=none ->
 ∃W:Nat->Nat->Hp->Prop,(∃m,W 0 m (upd j d (.lst [])))/\∀i m H,W i m H ->
  (J.stop i H/\Q (.ref d) H) \/
  (J.go i H/\∀x l,J.yld i H x l->g x e l fun a u=>tc a u fun b h=>
   if b=true then o a h fun p r=>Pn p g2 tc2 te d a r fun q=>∃c,c<m/\W (i+1) c q
   else ∃c,c<m/\W (i+1) c h)
theorem xh{X:Cx}{N:UE}{scope:Scope}{cap:UA}{a:UD}{pins:TZ}{σ:St}{H:Hp}{s:Shared}{a9 l a2 t2 i2:Expr}{a5 S:UG}{am:Pos}{g:UB->UD->Shared->Hp->TG}{tc:UB->UD->Shared->Hp->TT}{wi2:UB->UD->Shared->Hp->TI}{g2:UB->UD->Shared->Hp->TG}{tc2:UB->UD->Shared->Hp->TT}{te:UB->UD->Shared->Hp->TE}{J:It}{it:Addr}{tn:Nat->Heap->Prop}
  {E:UM} {RR:Value->Addr->Result->Shared->Prop} {Q:VK} (M:X.calm=true) (cf:L6 X N scope cap) (hk:scope.kind=.function)
  (hg:∀cl a s H,PG (A7 X N scope cl a s H) l (g cl a s H)) (hc:∀cl a s H,uY (A7 X N scope cl a s H) a5 (tc cl a s H)) (b3:∀cl a s H,PI (A7 X N scope cl a s H) t2 i2 (wi2 cl a s H)) (b4:∀cl a s H,PG (A7 X N scope cl a s H) t2 (g2 cl a s H)) (b6:∀cl a s H,uY (A7 X N scope cl a s H) S (tc2 cl a s H)) (he:∀cl a s H,PE (A7 X N scope cl a s H) a9 (te cl a s H))
  (b1:∀cl a s H x,foldedSetIterable i2 (A7 X N scope cl a s H).env x=pure x)
  (I:Inv X pins σ H s) (T:Turn X.prog X.w X.K l J a it tn) (st:tn 0 s.heap) (hf:∀b∈a,M7 X pins H b) (q:∀cl a s z,KI J (g cl a s z) (tc cl a s z) (wi2 cl a s z) (g2 cl a s z) (tc2 cl a s z) (te cl a s z) (L5 cap σ) Q H)
  (b7:∀d C z s' m,Inv X pins σ z s'->s'.heap.Ns C m->M7 X pins z C->Q (.ref d) z->RR (.ref d) C (.ok .next) s') :
  wpAny (model X.prog X.w) X.A (newList []) (fun acc B=>wpAny (model X.prog X.w) X.A (newFunctionEnv scope X.env.globals (A9 X.env scope.names []) [] X.env.qual none .none (some X.env)) (fun a3 s4=>
   codeAny (model X.prog X.w) X.A (.compStart (two a9 l a2 t2 i2 a5 S scope am) 0 (.ref it) acc { a3 with scope:=relabel scope X.env }) (RR acc a3.locals) s4) E B) E s:=by
 refine IR (Tn cf.nocell (by intro y hy;simp at hy) (fun h1 a7 a6=>?_) hk)
 have I3:Inv X pins σ (upd H s.heap.objs.size (.lst [])) { s with heap:=s.heap.push { cls:=.type "list",data:=.seq ([]:UF).toArray } }:=I.Dg (its:=[]) (t':=s.toks) .nil (KM _)
 have b5:H s.heap.objs.size=none:=I.fresh
 obtain⟨W,⟨m0,w0⟩,a0⟩:=q (A9 X.env scope.names []) a { s with heap:=s.heap.push { cls:=.type "list",data:=.seq ([]:UF).toArray } } (upd H s.heap.objs.size (.lst [])) s.heap.objs.size b5
 have an:∀b∈a,b<s.heap.objs.size:=fun b j=>by
  obtain⟨o,e,_⟩:=T.obj 0 _ st b j
  exact AT e
 have a8:∀b∈a,M7 X pins (upd H s.heap.objs.size (.lst [])) b:=fun b j=>⟨by rw[i3 (Ew (an b j))];exact(hf b j).1,(hf b j).2⟩
 have U:∀b∈a,b<(s.heap.push { cls:=.type "list",data:=.seq ([]:UF).toArray }).objs.size:=fun b j=>by
  rw[QL]
  exact QX (an b j)
 dsimp only at a7 a6 ⊢
 generalize Y:({ s with heap:=s.heap.push { cls:=.type "list",data:=.seq ([]:UF).toArray } }:Shared)=B at I3 a0
 have G:B.heap=s.heap.push { cls:=.type "list",data:=.seq ([]:UF).toArray }:=by rw[<-Y]
 have bv:B.toks=s.toks:=by rw[<-Y]
 rw[<-G] at a7 a6 U
 have R:∀b o,B.heap.get? b=some o->h1.get? b=some o:=fun b o e=>a6.extBut b o (Ew (AT e)) (hD _ e)
 have keep:∀b o,s.heap.get? b=some o->h1.get? b=some o:=fun b o e=>R b o (by rw[G];exact hD _ e)
 have Ic:=gH (tk:=s.toks) I3 cf hk a8 U a7 R
 have al:tn 0 h1:=T.keep 0 _ _ st fun b _ o e=>keep b o e
 have bg:∀b∈a,(upd H s.heap.objs.size (.lst [])) b=none:=fun b j=>(a8 b j).1
 have O:∀{z:Hp},(∀b∈a,z b=none)->∀b∈a,M7 (A7 X N scope (A9 X.env scope.names []) a B (upd H s.heap.objs.size (.lst []))) [] z b:=fun hn b j=>
  ⟨hn b j,Ew (U b j),Ic.ok.exfs b j,.inl j,fun x c h=>(hf b j).2.2.2.2.1 x c (Z6 h),fun p hp=>absurd (show p∈([]:TZ) from hp) (by simp)⟩
 have c8:B.os=s.os:=by rw[<-Y]
 have c9:B.gens=s.gens:=by rw[<-Y]
 have a1:codeAny (model X.prog X.w) X.A (.compLoop (two a9 l a2 t2 i2 a5 S scope am) 0 (.ref it) (.ref s.heap.objs.size) (compEnvC scope (A9 X.env scope.names []) B.heap.objs.size X.env))
   (RR (.ref s.heap.objs.size) B.heap.objs.size) { B with heap:=h1,toks:=s.toks }:=by
  refine AW (fun n s'=>∃i z,Inv (A7 X N scope (A9 X.env scope.names []) a B (upd H s.heap.objs.size (.lst []))) [] (L5 cap σ) z s'/\tn i s'.heap/\(∀b∈a,z b=none)/\W i n z) (fun x=>b1 (A9 X.env scope.names []) a B (upd H s.heap.objs.size (.lst [])) x) ?_ m0 ⟨0,_,Ic,al,bg,w0⟩
  rintro n s4 ⟨i,H4,I4,ad,ao,w4⟩
  rcases a0 i n H4 w4 with⟨stop,qn⟩ | ⟨go,step⟩
  ·refine y3 (T.done (A7 X N scope (A9 X.env scope.names []) a B (upd H s.heap.objs.size (.lst []))) rfl rfl rfl M i [] s4 _ H4 (fun _ _=>False) I4 (O ao) ad stop) fun r s5 ⟨hr,I5⟩=>?_
   subst hr
   obtain⟨m,b2,_⟩:=I5.loc
   refine b7 _ _ H4 s5 m ?_ b2 (I3.fH (sK _) I5.free) qn
   exact I3.zP I5.os I5.base I5.hok I5.bare fun b j=>⟨(hf b j).2.2.2.1,(hf b j).2.1,(hf b j).2.2.2.2.1,(hf b j).2.2.2.2.2⟩
  ·refine y3 (T.item (A7 X N scope (A9 X.env scope.names []) a B (upd H s.heap.objs.size (.lst []))) rfl rfl rfl M i [] s4 _ H4 (fun _ _=>False) I4 (O ao) ad go) fun r s5 ⟨u,hr,h5⟩=>?_
   subst hr
   refine y3 h5 fun _ s6 ⟨x,H6,I6,r6,y6,a4,b9⟩=>?_
   have bm:=I6.pinned (O b9) (T.obj _ _ a4)
   refine y3 (hg _ _ _ _ _ s6 _ H6 x u _ bm r6 (step x H6 y6)) fun _ s7 ⟨ac,H7,I7,q7⟩=>?_
   refine y3 (hc _ _ _ _ _ s7 ac H7 _ I7 q7) fun ok s8 ⟨H8,I8,q8⟩=>?_
   have again:∀{ab:St} {H9:Hp} {s9:Shared},Inv (A7 X N scope (A9 X.env scope.names []) a B (upd H s.heap.objs.size (.lst []))) ([]++aQ a s6.heap) ab H9 s9->(∃m',m'<n/\W (i+1) m' H9) ->
     ∃m,m<n/\∃i z,Inv (A7 X N scope (A9 X.env scope.names []) a B (upd H s.heap.objs.size (.lst []))) [] (L5 cap σ) z s9/\tn i s9.heap/\(∀b∈a,z b=none)/\W i m z:=fun {ab H9 s9} I9 ⟨m',hm,w9⟩=>by
    refine⟨m',hm,i+1,H9,eK I3 cf a8 I9.R3,T.keep _ _ _ a4 fun b j o e=>(I9.pin (b,o) (wT _ (wT _ (C3 j e)))).1,fun b j=>?_,w9⟩
    obtain⟨o,e,d⟩:=T.obj _ _ a4 b j
    exact(I9.pin (b,o) (wT _ (wT _ (C3 j e)))).2.1
   cases ok with
   | false=>exact again I8 q8
   | true=>
    show wpAny _ _ (eval i2 _) _ _ s8
    refine y3 (b3 _ _ _ _ _ s8 ac H8 _ I8 q8) fun v s9 h9=>y3 h9 fun c6 c5 b8=>?_
    obtain⟨c7,ca,c3,J2,cc,rfl,bn,T2,ap,f2,b0⟩:=b8
    exact xp M (b4 _ _ _ _) (b6 _ _ _ _) (he _ _ _ _) bn T2 ap f2 b0 fun c0 z s' I' bi=>⟨rfl,again I' bi⟩
 have e4:({ s with heap:=h1,toks:=s.toks+([]:UC).length }:Shared)={ B with heap:=h1,toks:=s.toks }:=by rw[<-Y];rfl
 rw[<-G,e4]
 exact codeAny_compStart_list a1 (T.self _ 0 _ _ _ al a1)
def OH(cap:UA)(c:TI)(g:UB->UD->Shared->Hp->TG)(tc:UB->UD->Shared->Hp->TT)(wi2:UB->UD->Shared->Hp->TI)(g2:UB->UD->Shared->Hp->TG)(tc2:UB->UD->Shared->Hp->TT)(te:UB->UD->Shared->Hp->TE):TE:=fun σ H Q=>c σ H fun J d=>∀cl a s b,KI J (g cl a s b) (tc cl a s b) (wi2 cl a s b) (g2 cl a s b) (tc2 cl a s b) (te cl a s b) (L5 cap σ) Q d
theorem xy{X:Cx}{i:Nat}{y:Str}{XN N:UE}{XS scope:Scope}{cap:UA}{p b c M O:Expr}{o l:UG}{u r G:Pos}{wi:TI}{g:UB->UD->Shared->Hp->TG}{tc:UB->UD->Shared->Hp->TT}{wi2:UB->UD->Shared->Hp->TI}{g2:UB->UD->Shared->Hp->TG}{tc2:UB->UD->Shared->Hp->TT}{te:UB->UD->Shared->Hp->TE}
  (a5:X.N.Nodup) (a1:X.N[i]?=some y) (hy:X.env.scope.names.lookup y=some .local)
  (R:X0 XN N XS scope cap=true) (hN:X.N=XN) (hS:X.env.scope=XS) (hk:scope.kind=.function) (B:X.calm=true) (hi:PI X b c wi)
  (hg:∀cl j s H,PG (A7 X N scope cl j s H) b (g cl j s H)) (hc:∀cl j s H,uY (A7 X N scope cl j s H) o (tc cl j s H)) (a2:∀cl j s H,PI (A7 X N scope cl j s H) M O (wi2 cl j s H)) (a3:∀cl j s H,PG (A7 X N scope cl j s H) M (g2 cl j s H)) (a4:∀cl j s H,uY (A7 X N scope cl j s H) l (tc2 cl j s H)) (he:∀cl j s H,PE (A7 X N scope cl j s H) p (te cl j s H))
  (a0:∀cl j s H x,foldedSetIterable O (A7 X N scope cl j s H).env x=pure x)
  (Y:swapsWith (two p b c M O o l scope u) (some (.Name y G)) r.line X.env=pure true:=by rfl)
  (hs:∀x,foldedSetIterable c X.env x=pure x:=by intro _;rfl):PS X (.Assign [.Name y G] (two p b c M O o l scope u) r) (si (OH cap wi g tc wi2 g2 tc2 te) (kA i)):=by
 refine .of ?_
 intro pins s σ H D I h
 have cf:=O6 hN hS R
 rw[Tk _ _ _ _ Y]
 refine dL (Ra (dL ?_))
 show wpAny _ X.A (do let _ <-comprehension (two p b c M O o l scope u) scope X.env _ (newList []) false (eval c X.env) (some (assign (.Name y G) X.env))) _ _ s
 refine dL (NE (Ry (use:=some (assign (.Name y G) X.env)) (Q:=fun _ E=>SP X pins D .next E) rfl hs (R8 (I.R9 cf)) hk cf.loc (y3 (hi pins s σ H _ I h) fun v s1 h1=>y3 h1 fun a6 s2 h2=>?_))
  (fun _ E hq=>hH (hH hq)) fun _ _ e=>e)
 obtain⟨it,j,tn,J,H2,rfl,I2,T,S,f2,q⟩:=h2
 refine xh (RR:=fun acc C=>compPost (model X.prog X.w) X.A X.xe (some (assign (.Name y G) X.env)) (fun _ E=>SP X pins D .next E) acc C) B cf hk hg hc a2 a3 a4 he a0 I2 T S f2 q fun d C H' E m I' hn hC q'=>?_
 show wpAny _ _ (assign (.Name y G) X.env (.ref d)) _ _ E
 refine SS (br (v:=.ref d) I' a5 a1 (.inl hy) rfl (fun s2 I2 ⟨a,sb,ha⟩=>⟨m,hn.sameBut sb ?_,fun h' U=>⟨_,H',I2.qW hC U,q'⟩⟩) (.inr hy))
 rcases ha with z | z
 ·rw[z];exact hC.2.1
 ·exact fun e=>hC.2.2.2.2.1 y a z e.symm
end L2
namespace L3
open PySem PySem.Spec PySem.Calls PySem.W L2
open PyProof.Rows hiding St
def BX(a:Ev):Bool:=a.all fun o=>match o with
 | some d=>y1 d
 | none=>true
theorem Dr{a:Ev}(h:BX a=true){i:Nat}{d:D}(e:a[i]?=some (some d)):y1 d=true:=List.all_eq_true.mp h _ (AC e)
theorem Tf.tr{H d c:Hp}(a:Tf H d)(b:Tf d c):Tf H c:=⟨fun _ _ h=>b.P9 _ _ (a.P9 _ _ h),fun _ _ _ h=>b.frzs _ _ _ (a.frzs _ _ _ h)⟩
theorem Z7{H a:Hp}(s:g4 H a):Tf H a:=⟨fun _ _ h=>s _ _ h,fun _ _ _ h=>s _ _ h⟩
theorem IA{H:Hp}{d:Addr}{xs:List V}{o:HO}(h:H d=some (.lst xs)):Tf H (upd H d o):=⟨fun b a e=>by rw[i3 (nU e h (fun z=>nomatch z))];exact e,fun b _ _ e=>by rw[i3 (nU e h (fun z=>nomatch z))];exact e⟩
theorem E3.LN{K:UP}{cap:UA}{c:Ev}{σ:St}{H l:Hp}{j:UN}(E:E3 K (X9 cap) c σ H j)(h:BX c=true)(tf:Tf H l):E3 K (X9 cap) c σ l j:=by
 refine⟨fun i d e=>?_,E.emp,E.len,E.nd,E.dj,E.par,E.old,E.new,fun a o h=>(nomatch h),⟨fun b xs h=>(nomatch h),fun b o u h=>(nomatch h),fun _ _=>rfl⟩,fun a z=>z.elim,fun a z=>z.elim,E.zo,E.po⟩
 obtain⟨v,p,r⟩:=E.rep i d e
 refine⟨v,p,r.D8 tf fun a g=>?_⟩
 rw[r.D4 (Dr h e)] at g
 cases g
def BC(g2:aH)(tc2:ar)(te:TU):List D->Ev->List D->(List D->Prop)->Prop
 | [],_,acc,Q=>Q acc
 | y::c,e,acc,Q=>g2 y e fun a=>BX a=true/\tc2 a fun b=>Br b (acc.length<sizeLine/\te a fun d=>y1 d=true/\BC g2 tc2 te c a (acc++[d]) Q) (BC g2 tc2 te c a acc Q)
def gG(g:aH)(tc:ar)(d:lG)(g2:aH)(tc2:ar)(te:TU)(c:Ev):List D->List D->(List D->Prop)->Prop
 | [],acc,Q=>Q acc
 | x::xs,acc,Q=>g x c fun a=>tc a fun b=>Br b (BX a=true/\d a fun h=>BC g2 tc2 te h a acc fun e=>gG g tc d g2 tc2 te c xs e Q) (gG g tc d g2 tc2 te c xs acc Q)
theorem Oo{K:UP}{cap:UA}{g3 T:aH}{a1 z:ar}{Y:lG}{O:TU}{J:It}{g g2:TG}{tc tc2:TT}{wi:TI}{te:TE}{xs:List D}{C:UD}{l:Ev}{σ:St}{G:Ent}{M:Hp}{x:UN}{Q:List D->Prop}{R:VK}
  (hg:∀(G:Ent) (l:Ev) (σ:St) (H:Hp) (x:UN) (v:V) (d:D) (B:UD) (Q:Ev->Prop) (R:St->Hp->Prop),G.cl=C1 cap->E3 K G l σ H x->Rep K H v d B->(∀i,G.own i->∀a∈B,a∉x i)->g3 d l Q ->
   (∀p h u,E3 K G h p H u->(∀i,G.own i->u i=x i/\p[i]?=σ[i]?)->(∀i,G.own i->h[i]?=l[i]?)->Q h->R p H)->g v σ H R)
  (hc:∀(G:Ent) (l:Ev) (σ:St) (H:Hp) (x:UN) (Q:Bool->Prop) (R:Bool->Hp->Prop),G.cl=C1 cap->E3 K G l σ H x->a1 l Q->(∀b r,g4 H r->Q b->R b r)->tc σ H R)
  (b6:∀(G:Ent) (l:Ev) (σ:St) (H:Hp) (x:UN) (Q:List D->Prop) (R:It->Hp->Prop),G.cl=C1 cap->E3 K G l σ H x->Y l Q->(∀J M xs,g4 H M->bu K J xs [] M->Q xs->R J M)->wi σ H R)
  (b7:∀(G:Ent) (l:Ev) (σ:St) (H:Hp) (x:UN) (v:V) (d:D) (B:UD) (Q:Ev->Prop) (R:St->Hp->Prop),G.cl=C1 cap->E3 K G l σ H x->Rep K H v d B->(∀i,G.own i->∀a∈B,a∉x i)->T d l Q ->
   (∀p h u,E3 K G h p H u->(∀i,G.own i->u i=x i/\p[i]?=σ[i]?)->(∀i,G.own i->h[i]?=l[i]?)->Q h->R p H)->g2 v σ H R)
  (b8:∀(G:Ent) (l:Ev) (σ:St) (H:Hp) (x:UN) (Q:Bool->Prop) (R:Bool->Hp->Prop),G.cl=C1 cap->E3 K G l σ H x->z l Q->(∀b r,g4 H r->Q b->R b r)->tc2 σ H R)
  (he:∀(G:Ent) (l:Ev) (σ:St) (H:Hp) (x:UN) (Q:D->Prop) (R:VK),G.cl=C1 cap->E3 K G l σ H x->O l Q->(∀v r d B,g4 H r->Rep K r v d B->B0 G H x B .fresh->Q d->R v r)->te σ H R)
  (E:E3 K G l σ M x) (it:bu K J xs C M) (tr:∀a∈C,M a≠none) (q:gG g3 a1 Y T z O (T7 cap l) xs [] Q)
  (k:∀d r ds,g4 M r->Rep K r (.ref d) (.lst ds) [d]->M d=none->Q ds->R (.ref d) r):KI J g tc wi g2 tc2 te (L5 cap σ) R M:=by
 intro d hd
 refine⟨fun i m H=>m=xs.length-i/\i<=xs.length/\g4 M H/\∃acc ds,H d=some (.lst acc)/\j7 K H acc ds []/\gG g3 a1 Y T z O (T7 cap l) (xs.drop i) ds Q,
  ⟨xs.length,by simp,KM _,g4.i4 hd,[],[],e9,.nil,q⟩,?_⟩
 rintro i m H ⟨rfl,bn,s1,acc,ds,a5,rs,q⟩
 have tf:Tf M H:=Z7 s1
 have kC:∀a∈C,H a=M a:=fun a ha=>by
  obtain⟨o,eo⟩:=Option.ne_none_iff_exists'.mp (tr a ha)
  rw[eo];exact s1 a o eo
 by_cases a3:i<xs.length
 ·right
  obtain⟨go,yl⟩:=(it H tf kC i).2 _ (iU a3)
  rw[QK a3] at q
  refine⟨go,fun y H2 hy=>?_⟩
  obtain⟨s2,By,rB,sB⟩:=yl y H2 hy
  have E2:=(E.same (s1.trans s2)).comp cap
  refine hg (X9 cap) _ _ H2 _ y _ By _ _ rfl E2 rB (fun j hj=>(D7 hj).elim) q fun al a6 a9 ac _ _ q3=>?_
  refine hc (X9 cap) a6 al H2 a9 _ _ rfl ac q3 fun b H3 s3 q4=>?_
  have S:H3 d=some (.lst acc):=s3 _ _ (s2 _ _ a5)
  cases b with
  | false=>
   rw[wP tL]
   exact⟨xs.length-(i+1),by omega,rfl,a3,(s1.trans s2).trans s3,acc,ds,S,(rs.same s2).same s3,q4.f rfl⟩
  | true=>
   rw[wS rfl]
   obtain⟨b5,q5⟩:=q4.t rfl
   refine b6 (X9 cap) a6 al H3 a9 _ _ rfl (ac.same s3) q5 fun J2 H4 ys s4 am q6=>?_
   refine⟨fun j m2 p r=>m2=ys.length-j/\j<=ys.length/\∃h u acc ds,E3 K (X9 cap) h p r u/\BX h=true/\g4 M r/\Tf H4 r/\r d=some (.lst acc)/\j7 K r acc ds []/\BC T z O (ys.drop j) h ds fun c=>gG g3 a1 Y T z O (T7 cap l) (xs.drop (i+1)) c Q,
    ⟨ys.length,by simp,KM _,a6,a9,acc,ds,(ac.same s3).same s4,b5,((s1.trans s2).trans s3).trans s4,Z7 (g4.refl _),s4 _ _ S,((rs.same s2).same s3).same s4,q6⟩,?_⟩
   rintro j m2 p r ⟨rfl,hj,h,u,c,ab,E',bm,a7,a0,ap,a2,q'⟩
   by_cases I:j<ys.length
   ·right
    obtain⟨b9,b0⟩:=(am r a0 (fun a ha=>nomatch ha) j).2 _ (iU I)
    rw[QK I] at q'
    refine⟨b9,fun y2 H5 b4=>?_⟩
    obtain⟨s5,bg,b2,bi⟩:=b0 y2 H5 b4
    refine b7 (X9 cap) h p H5 u y2 _ bg _ _ rfl (E'.same s5) b2 (fun j hj=>(D7 hj).elim) q' fun ad X a4 E6 _ _ q6=>?_
    obtain⟨a8,q6⟩:=q6
    refine b8 (X9 cap) X ad H5 a4 _ _ rfl E6 q6 fun b H6 U q7=>?_
    have ao:H6 d=some (.lst c):=U _ _ (s5 _ _ ap)
    cases b with
    | false=>
     rw[wP tL]
     exact⟨ys.length-(j+1),by omega,rfl,I,X,a4,c,ab,E6.same U,a8,(a7.trans s5).trans U,(a0.tr (Z7 s5)).tr (Z7 U),ao,(a2.same s5).same U,q7.f rfl⟩
    | true=>
     obtain⟨hl,q8⟩:=q7.t rfl
     rw[wS rfl]
     refine he (X9 cap) X ad H6 a4 _ _ rfl (E6.same U) q8 fun v H7 dv Bv s7 rv fo q9=>?_
     obtain⟨b3,q9⟩:=q9
     have eB:=rv.D4 b3
     subst eB
     have an:H7 d=some (.lst c):=s7 _ _ ao
     have td:Tf H7 (upd H7 d (.lst (c++[v]))):=IA an
     have b1:=(((a2.same s5).same U).same s7).D8 td (fun a ha=>nomatch ha)
     refine⟨c,an,by rw[a2.length];exact hl,ys.length-(j+1),by omega,rfl,I,X,a4,c++[v],ab++[dv],((E6.same U).same s7).LN a8 td,a8,fun b o e=>?_,((((a0.tr (Z7 s5)).tr (Z7 U)).tr (Z7 s7)).tr td),e9,b1.append (B:=[]) (j7.cons (A:=[]) (B:=[]) (rv.D8 td fun a ha=>nomatch ha) .nil),q9⟩
     rw[i3 (p8 e hd)]
     exact(((a7.trans s5).trans U).trans s7) _ _ e
   ·left
    have ej:j=ys.length:=by omega
    subst ej
    rw[RP] at q'
    exact⟨(am r a0 (fun a ha=>nomatch ha) _).1 rfl,xs.length-(i+1),by omega,rfl,a3,a7,c,ab,ap,a2,q'⟩
 ·have ei:i=xs.length:=by omega
  subst ei
  left
  rw[RP] at q
  exact⟨(it H tf kC _).1 rfl,k d H ds s1 (.lst a5 rs) hd q⟩
structure Pp(X:Cx)(cl:List Cl)(tg iter:Expr)(u:lG):Prop where
 of ::
 run:∃wi,PI X tg iter wi/\∀(G:Ent) (ρ:Ev) (σ:St) (H:Hp) (fa:UN) (Q:List D->Prop) (R:It->Hp->Prop),G.cl=cl->E3 X.K G ρ σ H fa->u ρ Q ->
  (∀J H1 xs,g4 H H1->bu X.K J xs [] H1->Q xs->R J H1)->wi σ H R
def tupI(u:TU):lG:=fun a Q=>u a fun d=>match d with
 | .tup xs=>y9 xs=true/\Q xs
 | _=>False
section
variable{X:Cx}{cl:List Cl}{tg e:Expr}{f:Fl}{pos:Pos}{ua:TU}
theorem JW(h:PU X cl e f ua):Pp X cl tg e (tupI ua):=.of<|by
 obtain⟨t,p,h⟩:=h.run
 refine⟨_,Jy p,fun G c σ H l Q R j E i k=>h G c σ H l _ _ j E i fun v u d B s r x q=>?_⟩
 cases d<;>first | exact(show False from q).elim | skip
 obtain⟨g,q⟩:=q
 obtain⟨p,vs,rfl,b,a⟩:=M4 r
 have o:=a.D4 g
 subst o
 exact⟨p,rfl,⟨vs,Q0.of b⟩,k _ u _ s (OX b a) q⟩
def Nc(cap:UA)(c:lG)(g:aH)(tc:ar)(a:lG)(g2:aH)(tc2:ar)(te:TU):TU:=fun b Q=>c b fun xs=>gG g tc a g2 tc2 te (T7 cap b) xs [] fun ds=>Q (.lst ds)
variable{XN N:UE}{XS scope:Scope}{cap:UA}{elt target iter t2 i2:Expr}{ifs ifs2:UG}{ui ui2:lG}{g3 g23:aH}{tc3 tc23:ar}{te3:TU}
theorem zB{i:Nat}{y:Str}{h py:Pos}(a0:X.N.Nodup)(M:X.N[i]?=some y)(hy:X.env.scope.names.lookup y=some .local)(U:xB cl[i]? .fresh i=true)
  (z:X0 XN N XS scope cap=true) (hN:X.N=XN) (hS:X.env.scope=XS) (hk:scope.kind=.function) (o:X.calm=true) (O:bU X cl target iter f ui)
  (Q:∀c b s H,yj (A7 X N scope c b s H) (C1 cap) target g3) (Y:∀c b s H,qU (A7 X N scope c b s H) (C1 cap) ifs tc3)
  (j:∀c b s H,Pp (A7 X N scope c b s H) (C1 cap) t2 i2 ui2) (l:∀c b s H,yj (A7 X N scope c b s H) (C1 cap) t2 g23) (p:∀c b s H,qU (A7 X N scope c b s H) (C1 cap) ifs2 tc23) (S:∀c b s H,PU (A7 X N scope c b s H) (C1 cap) elt .fresh te3)
  (B:swapsWith (.ListComp elt [⟨target,iter,ifs,0⟩,⟨t2,i2,ifs2,0⟩] scope pos) (some (.Name y py)) h.line X.env=pure true:=by rfl)
  (hs:∀x,foldedSetIterable iter X.env x=pure x:=by intro _;rfl) (I:∀c b s H x,foldedSetIterable i2 (A7 X N scope c b s H).env x=pure x:=by intro _ _ _ _ _;rfl) :
  L7 X cl (.Assign [.Name y py] (.ListComp elt [⟨target,iter,ifs,0⟩,⟨t2,i2,ifs2,0⟩] scope pos) h) (u4 i (Nc cap ui g3 tc3 ui2 g23 tc23 te3)):=.of<|by
 obtain⟨wi,pi,O⟩:=O.run
 refine⟨_,xy (g:=fun c b s H=>Classical.choose (Q c b s H).run) (tc:=fun c b s H=>Classical.choose (Y c b s H).run) (wi2:=fun c b s H=>Classical.choose (j c b s H).run) (g2:=fun c b s H=>Classical.choose (l c b s H).run) (tc2:=fun c b s H=>Classical.choose (p c b s H).run) (te:=fun c b s H=>Classical.choose (S c b s H).run) a0 M hy z hN hS hk o pi
  (fun c b s H=>(oT (Q c b s H).run).1) (fun c b s H=>(oT (Y c b s H).run).1) (fun c b s H=>(oT (j c b s H).run).1) (fun c b s H=>(oT (l c b s H).run).1) (fun c b s H=>(oT (p c b s H).run).1) (fun c b s H=>(oT (S c b s H).run).1) I B hs,fun G T ρ σ H fa R hG E hu le=>?_⟩
 refine O G ρ σ H fa _ _ hG E hu fun J H1 xs C s it tr fo q=>fun c b u v=>?_
 refine Oo (K:=X.K) (oT (Q c b u v).run).2 (oT (Y c b u v).run).2 (oT (j c b u v).run).2 (oT (l c b u v).run).2 (oT (p c b u v).run).2 (oT (S c b u v).run).2 (E.same s) it tr q fun d H2 ds s2 r n q2=>?_
 exact le.nx _ _ ⟨_,_,(E.same (s.trans s2)).set (Ix q2.1) r (fM.of (f:=.fresh) E ⟨by simp,fun a ha=>by rw[List.mem_singleton.mp ha];exact s.free n⟩ (by rw[hG];exact U)),q2.2⟩
end
end L3
namespace PySem
open PyProof.Rows PySem.SeqAt
section
variable{prog:Program}{w:World}{A:Around}{E:UM}
def EW(x y:Int×Int):Bool:=decide (x.1>y.1\/x.1=y.1/\x.2>y.2)
theorem BD{s:Shared}{l m:Addr}{a b c d:Int}{t u v x:Tok}{Q:UM}(S:s.heap.IsTuple l #[.int a t,.int b u])(X:s.heap.IsTuple m #[.int c v,.int d x])(R:A.units<cLine)
  (h:Q (.bool (EW (a,b) (c,d))) s):wpAny (model prog w) A (richCompare .Gt (.ref l) (.ref m)) Q E s:=by
 obtain⟨⟨c1,d1,I,O⟩,q,U,n,hd⟩:=id S
 obtain⟨⟨c2,d2,H,M⟩,p,C,n2,B⟩:=id X
 cases(show c1=_ from U);cases(show I=_ from hd);cases(show c2=_ from C);cases(show H=_ from B)
 refine wpAny_richCompare_same_room (op:=.Gt) (T:="tuple") ⟨_,q,rfl⟩ ⟨_,p,rfl⟩ F.slot_tuple_gt (Qz F.slot_tuple_gt ⟨_,q,rfl⟩ F.entry_tuple_gt ?_ (F.args_tuple_gt_2 _ _)) R
 have f2:=AutoSeq1.sub_tuple_tuple
 have y:∀(e:Bool->Shared->Prop) (o:UM),e (a == c) s->wpAny (model prog w) A.in1 (eqBool (.int a t) (.int c v)) e o s:=fun e o=>EqAt.int_int (A:=A.in1) (s:=s) a t c v prog w o e
 have r:∀(e:Bool->Shared->Prop) (o:UM),e (b == d) s->wpAny (model prog w) A.in1 (eqBool (.int b u) (.int d x)) e o s:=fun e o=>EqAt.int_int (A:=A.in1) (s:=s) b u d x prog w o e
 have G:∀(i j:Int) (t u:Tok) (e o:UM),e (.bool (decide (i>j))) s->wpAny (model prog w) A.in1 (richCompare .Gt (.int i t) (.int j u)) e o s:=fun i j t u e o h=>
  CmpOf.ints_gt (P:=fun k v=>(k=0/\v=.int i t)\/(k=1/\v=.int j u)) (fun k=>if k=0 then i else j) (fun k v h=>by rcases h with⟨rfl,rfl⟩ | ⟨rfl,rfl⟩<;>exact⟨_,rfl⟩) 0 1 _ _ s e o (.inl ⟨rfl,rfl⟩) (.inr ⟨rfl,rfl⟩) h
 have g1:∀(e o:UM),e (.bool (decide (a>c))) s->wpAny (model prog w) A.in1 (richCompare .Gt (.int a t) (.int c v)) e o s:=G _ _ _ _
 have g2:∀(e o:UM),e (.bool (decide (b>d))) s->wpAny (model prog w) A.in1 (richCompare .Gt (.int b u) (.int d x)) e o s:=G _ _ _ _
 clear G
 obtain⟨Y,g,dr,tk,os⟩:=s
 by_cases J:a=c
 ·subst J
  rw[Tt] at y
  by_cases bd:b=d
  ·subst bd
   rw[Tt] at r
   wp_walk using wpAny_loadPart' q,wpAny_loadPart' p,y _ _,r _ _,g1 _ _,g2 _ _
   exact⟨.bool false,rfl,(fun z=>nomatch z),by rw[show EW (a,b) (a,b)=false from Fk (by omega)] at h;exact h⟩
  ·rw[show(b == d)=false from beq_eq_false_iff_ne.mpr bd] at r
   wp_walk using wpAny_loadPart' q,wpAny_loadPart' p,y _ _,r _ _,g1 _ _,g2 _ _
   exact⟨_,rfl,(fun z=>nomatch z),by rw[show EW (a,b) (a,d)=decide (b>d) from decide_eq_decide.mpr (by show(a>a\/a=a/\b>d) ↔ _;omega)] at h;exact h⟩
 ·rw[show(a == c)=false from beq_eq_false_iff_ne.mpr J] at y
  wp_walk using wpAny_loadPart' q,wpAny_loadPart' p,y _ _,r _ _,g1 _ _,g2 _ _
  exact⟨_,rfl,(fun z=>nomatch z),by rw[show EW (a,b) (c,d)=decide (a>c) from decide_eq_decide.mpr (by show(a>c\/a=c/\b>d) ↔ _;omega)] at h;exact h⟩
def CB(h:Heap)(items:UJ)(ns:UO)(i:Nat)(v:Value):Prop:=∃p a b t u,items[i]?=some v/\v=.ref p/\ns[i]?=some (a,b)/\h.IsTuple p #[.int a t,.int b u]
theorem IsTuple.HE{h h':Heap}{p:Addr}{xs:UJ}(x:h.IsTuple p xs)(k:∀o,h.get? p=some o->h'.get? p=some o):h'.IsTuple p xs:=by
 obtain⟨o,a,r⟩:=x
 exact⟨o,k o a,r⟩
theorem cJ{R:Result->Shared->Prop}{h0:Heap}{l I S:Addr}{items:UJ}{ns:UO}(hh:A.handled=none)(hu:A.units+1<cLine)(J:l≠I)(C:S≠I)(T:I ≥ h0.objs.size)(Q:S ≥ h0.objs.size)(hl:h0.IsList l items)(hn:ns.length=items.size)
  (H:∀(i:Nat) (v:Value),items[i]?=some v->CB h0 items ns i v) (g:Array GenState) (dr:Drawn) (os:OsState)
  (hR:∀(i:Nat) (v:Value) (h':Heap) (tk:Nat) (x:Int×Int),items[i]?=some v->ns[i]?=some x->(∀y∈ns,EW y x=false)->(∀b o,h0.get? b=some o->h'.get? b=some o)->R (.ok (.ret v)) ⟨h',g,dr,tk,os⟩) :
  ∀(r j:Nat) (h:Heap) (tk:Nat) (old:UJ) (c:Nat),items.size-j=r->j<=items.size->0<items.size->(∀b o,h0.get? b=some o->h.get? b=some o)->h.IsListIter I l j->h.get? S=some { cls:=.type "list",data:=.seq old c } ->
   (j=0/\old=#[]\/∃(i:Nat) (v:Value) (x:Int×Int),old=#[v,v]/\items[i]?=some v/\ns[i]?=some x/\∀y∈ns.take j,EW y x=false) ->
   codeAny (model prog w) A (.builtin "max.loop" ⟨[.ref I,.none,.ref S],[]⟩) R ⟨h,g,dr,tk,os⟩:=by
  intro r
  induction r using Nat.strongRecOn with | ind r ih=>
  intro j h tk old c hr hj h1 hk hI hS U
  have fr:∀b o,h0.get? b=some o->b≠I/\b≠S:=fun b o G=>⟨fun z=>absurd (AT G) (Nat.not_lt.mpr (z▸T)),fun z=>absurd (AT G) (Nat.not_lt.mpr (z▸Q))⟩
  have two:∀v:Value,(#[v,v]:UJ).size<=sizeLine:=fun v=>by rw[QU];show 2<=_;omega
  refine QM F.entry_max_loop ?_
  rw[QA Ss _]
  have W:=Walks.list (prog:=prog) (w:=w) (A:=A.in1) hh I l J items
  have X:h.IsList l items:=by obtain⟨o,ho,q⟩:=hl;exact⟨o,hk _ _ ho,q⟩
  refine dL (wpAny_seqItems hS rfl ?_)
  refine dL (wpAny_tryCatch ?_)
  by_cases e:j=items.size
  ·subst e
   refine W.done _ _ _ ⟨hI,X⟩ fun h' a6 keep=>?_
   have d:=keep _ _ (by simp[C]) hS
   rcases U with⟨e0,_⟩ | ⟨i,v,x,rfl,hv,hx,hm⟩
   ·omega
   ·show wpAny _ _ (updateSeq S (fun _=>#[]) >>= fun _=>_) _ _ _
    refine dL (Sw d rfl ?_ (two v) (KM _))
    refine dL (wpAny_letGo ?_)
    refine hH (hR i v _ _ x hv hx (fun y B=>hm y (by rw[<-hn,QH];exact B)) fun b o G=>?_)
    exact(QI _ _ (fr b o G).2.symm).trans (keep _ _ (by simpa using(fr b o G).1) (hk _ _ G))
  ·have O:j<items.size:=by omega
   refine W.item _ _ _ _ O ⟨hI,X⟩ fun v h' a6 hv st keep=>?_
   have d:=keep _ _ (by simp[C]) hS
   have M:∀b o,h0.get? b=some o->h'.get? b=some o:=fun b o G=>keep _ _ (by simpa using(fr b o G).1) (hk _ _ G)
   obtain⟨p,a,b,t,u,_,rfl,hp,a7⟩:=H j v hv
   have Y:ns.take (j+1)=ns.take j++[(a,b)]:=by rw[Qp,hp];rfl
   have a5:∀f,∀b o,h0.get? b=some o->(h'.update S (Obj.mapSeq f)).get? b=some o:=fun f b o G=>(QI _ _ (fr b o G).2.symm).trans (M b o G)
   have a0:∀f,(h'.update S (Obj.mapSeq f)).IsListIter I l (j+1):=fun f=>by
    obtain⟨o,ho,q⟩:=st.1
    exact⟨o,(QI _ _ C).trans ho,q⟩
   refine dL (hH ?_)
   rcases U with⟨e0,rfl⟩ | ⟨i,v,x,rfl,a1,hx,hm⟩
   ·show wpAny _ _ (updateSeq S (fun _=>#[.ref p,.ref p]) >>= fun _=>_) _ _ _
    refine dL (Sw d rfl ?_ (KM _) (Nat.le_succ_of_le (two (.ref p))))
    refine hH ⟨QS Ss _,?_⟩
    refine ih (items.size-(j+1)) (by omega) (j+1) _ _ _ _ rfl O h1 (a5 _) (a0 _) (OV _ d rfl) (.inr ⟨j,_,(a,b),rfl,hv,hp,fun y B=>?_⟩)
    rw[Y,e0,TX,Go,Sv] at B
    rw[B]
    exact Fk (by show ¬(a>a\/a=a/\b>b);omega)
   ·obtain⟨p2,a2,b2,t2,u2,_,rfl,a4,a3⟩:=H i v a1
    have ex:x=(a2,b2):=by rw[hx] at a4;cases a4;rfl
    subst ex
    refine dL (wpAny_tryCatch (Qq ?_))
    refine dL (BD (IsTuple.HE a7 fun o=>M _ _) (IsTuple.HE a3 fun o=>M _ _) hu ?_)
    refine dL (Qq (Si ?_))
    refine dL (wpAny_letGo (hH ?_))
    refine Th (fun hg=>?_) (fun hg=>?_)
    ·show wpAny _ _ (updateSeq S (fun _=>#[.ref p,.ref p]) >>= fun _=>_) _ _ _
     refine dL (Sw d rfl ?_ (two (.ref p2)) (Nat.le_succ_of_le (two (.ref p))))
     refine dL (wpAny_letGo (hH ⟨QS Ss _,?_⟩))
     refine ih (items.size-(j+1)) (by omega) (j+1) _ _ _ _ rfl O h1 (a5 _) (a0 _) (OV _ d rfl) (.inr ⟨j,_,(a,b),rfl,hv,hp,fun y B=>?_⟩)
     have hg:a>a2\/a=a2/\b>b2:=QD hg
     rw[Y,TK,Sv] at B
     refine Fk ?_
     rcases B with B | rfl
     ·have:=Rz (hm y B)
      show ¬(y.1>a\/y.1=a/\y.2>b)
      have this:¬(y.1>a2\/y.1=a2/\y.2>b2):=this
      omega
     ·show ¬(a>a\/a=a/\b>b);omega
    ·refine dL (wpAny_letGo (hH ⟨QS Ss _,?_⟩))
     refine ih (items.size-(j+1)) (by omega) (j+1) _ _ _ _ rfl O h1 M st.1 d (.inr ⟨i,_,(a2,b2),rfl,a1,hx,fun y B=>?_⟩)
     rw[Y,TK,Sv] at B
     rcases B with B | rfl
     ·exact hm y B
     ·exact Bool.eq_false_iff.mpr hg
end
end PySem
namespace L2
open PySem PySem.Spec PyProof.Rows
section
variable{X:Cx}
def Hm(K:UP)(xs:List V)(H:Hp)(Q:VK):Prop:=∃(p:Addr) (as:UD) (ns:UO),xs=[.ref p]/\L1 K H p (as.map V.ref)/\as.length=ns.length/\0<ns.length/\(∀(i:Nat) (a:Addr) (x:Int×Int),as[i]?=some a->ns[i]?=some x->Q0 K H a [.int x.1,.int x.2]) /\
 ∀(i:Nat) (a:Addr) (x:Int×Int),as[i]?=some a->ns[i]?=some x->(∀y∈ns,EW y x=false)->Q (.ref a) H
theorem kF:∀{as:UD} {its:UF},Vals (as.map V.ref) its->its=as.map Value.ref
 | [],_,.nil=>rfl
 | a::as,_,.cons h r=>by cases(show _=Value.ref a from h);rw[kF r];rfl
theorem yH(hc:X.calm=true)(S:X.A.units+1<cLine):I0 X (.builtin "max") (Hm X.K):=by
 intro pins s σ H xs us Q I r h
 obtain⟨p,as,ns,rfl,U,C,h0,T,q⟩:=h
 obtain⟨u,rfl,M⟩:=vals1 r
 cases(show u=Value.ref p from M)
 obtain⟨its,O,pl,hz⟩:=I.list U
 have e:=kF O
 subst e
 have B:ns.length=(as.map Value.ref).toArray.size:=by rw[A1,eH,C]
 have c:∀(i:Nat) (v:Value),(as.map Value.ref).toArray[i]?=some v->CB s.heap (as.map Value.ref).toArray ns i v:=fun i v g=>by
  have d:=g
  rw[List.getElem?_toArray,wE] at d
  obtain⟨a,j,rfl⟩:=Option.map_eq_some_iff.mp d
  have E:i<ns.length:=by rw[<-C];exact(List.getElem?_eq_some_iff.mp j).1
  obtain⟨z,l,pt,_⟩:=I.tuple (T i a _ j (iU E))
  obtain⟨v1,w1,rfl,⟨J,rfl⟩,⟨G,rfl⟩⟩:=vals2 l
  exact⟨a,_,_,J,G,g,rfl,iU E,pt⟩
 refine call_function_tree F.kind_max F.plain_max F.entry_max (F.args_max1 _) ?_
 show wpAny _ _ (pyIter (.ref p) >>= _) _ _ _
 refine dL (Sj pl.isList ?_)
 refine dL (IR ?_)
 have y:=AT (show s.heap.get? p=_ from pl.isList.choose_spec.1)
 refine hH ⟨QS Ss _,cJ (h0:=s.heap) (ns:=ns) (I.ok.hd hc) S (Ew y) (by rw[size_push'];exact RN (Rv _)) (sK _) (by rw[size_push'];exact Tc _) pl.isList B c s.gens s.drawn s.os (fun i v h' tk x g R Y keep=>?_) _ 0 _ _ #[] 0 rfl (KM _) (by rw[<-B];exact h0) (fun b o hb=>hD _ (hD _ hb)) ⟨_,hD _ (At _ rfl),rfl,rfl⟩ (At _ rfl) (.inl ⟨rfl,rfl⟩)⟩
 rw[List.getElem?_toArray,wE] at g
 obtain⟨a,j,rfl⟩:=Option.map_eq_some_iff.mp g
 exact⟨.ref a,H,I.kept keep,rfl,q i a x j R Y⟩
end
end L2
namespace L3
open PySem PySem.Spec PySem.Calls PyProof.Rows PySem.W L2
section
variable{X:Cx}
def GZ(x:Int×Int):D:=.tup [.int x.1,.int x.2]
def GX:List D->(D->Prop)->Prop:=fun ds Q=>∃(d:D) (ns:UO),ds=[d]/\kindB false d=some (ns.map GZ)/\0<ns.length/\∀x∈ns,(∀y∈ns,EW y x=false)->Q (GZ x)
theorem qK{K:UP}{H:Hp}:∀{vs:List V} {ns:UO} {A:UD},j7 K H vs (ns.map GZ) A->A=[]/\∃as:UD,vs=as.map V.ref/\as.length=ns.length/\∀(i:Nat) (a:Addr) (x:Int×Int),as[i]?=some a->ns[i]?=some x->Q0 K H a [.int x.1,.int x.2]/\Rep K H (.ref a) (GZ x) []
 | _,[],_,.nil=>⟨rfl,[],rfl,rfl,fun i a x h=>by simp at h⟩
 | _,n::ns,_,.cons r d=>by
  obtain⟨q,as,rfl,o,h⟩:=qK d
  obtain⟨p,vs,rfl,j,e⟩:=M4 r
  have l:=r.D4 rfl
  have g:vs=[.int n.1,.int n.2]:=by
   have:∀{vs:List V} {A:UD},j7 K H vs [D.int n.1,D.int n.2] A->vs=[.int n.1,.int n.2]:=fun {vs A} z=>by
    cases z with
    | cons a1 z=>
     cases z with
     | cons a2 z=>cases z;cases a1;cases a2;rfl
   exact this e
  subst q g
  rw[l] at r ⊢
  refine⟨rfl,p::as,rfl,by rw[FS,FS,o],fun i a x c b=>?_⟩
  cases i with
  | zero=>cases c;cases b;exact⟨Q0.of j,r⟩
  | succ i=>exact h i a x c b
theorem HZ:Call3 X (Hm X.K) GX:=by
 intro H vs ds A Q R r q k
 obtain⟨d,ns,rfl,e,h0,q⟩:=q
 obtain⟨v,rfl,g⟩:=r.one
 obtain⟨p,ts,B,rfl,l,j,_⟩:=Z4 g e
 obtain⟨y,as,rfl,u,h⟩:=qK j
 exact⟨p,as,ns,rfl,l,u,h0,fun i a x c b=>(h i a x c b).1,fun i a x c b o=>k _ H _ [] (g4.refl H) (h i a x c b).2 xL (fun _ h=>(by cases h)) (q x (AC b) o)⟩
theorem Ip{i j k:Nat}{ds:List D}{d:Ev}{Q:Ev->Prop}(h:E7 (g1 i) (E7 (gT (E7 (g1 j) (E7 (g1 k) cK))) cK) ds d Q):ds.length=2:=by
 match ds,h with
 | [_,_],_=>rfl
 | [_],h=>exact h.2.elim
 | a::b::c::ds,h=>
  obtain⟨_,h⟩:=h
  cases b with
  | tup xs=>
   match xs,h with
   | [_,_],h=>exact h.2.2.elim
   | [_],h=>exact h.2.elim
   | [],h=>exact(show False from h).elim
   | _::_::_::_,h=>exact h.2.2.elim
  | _=>exact(show False from h).elim
 | [],h=>exact(show False from h).elim
end
end L3
namespace My
open PySem L2 L3
theorem N6{a:Type}(x:a)(xs:List a):P0 (x::xs) 0=some x:=by
 have:(0:Int)<((xs.length+1:Nat):Int):=by omega
 unfold P0 kN
 rw[wS (Sk 0),FS,wS this]
 rfl
theorem P2{e:Type}{g:aH}{tc:ar}{te:TU}{d:Ev}{F f:e->D}{Q:List D->Prop}:∀(as:List e) (acc:List D),(∀a∈as,∀(K:D->Prop) (R:Prop),K (f a)->g (F a) d fun c=>tc c fun b=>Br b (te c K) R)->Q (acc++as.map f)->mV g tc te d (as.map F) acc Q
 | [],acc,_,q=>by
  rw[SO,Do] at q
  exact q
 | a::as,acc,h,q=>by
  rw[Bi]
  refine h a lP _ _ (P2 as (acc++[f a]) (fun b i=>h b (hQ _ i)) ?_)
  rw[PP]
  exact q
theorem G6{i:Type}{g:aH}{tc:ar}{te:TU}{d:Ev}{F f:i->D}{Q:List D->Prop}(p:i->Bool):∀(as:List i) (acc:List D),(∀a∈as,∀(K:D->Prop) (R:Prop),(p a=true->K (f a))->(p a=false->R)->g (F a) d fun c=>tc c fun b=>Br b (te c K) R)->Q (acc++(as.filter p).map f)->mV g tc te d (as.map F) acc Q
 | [],acc,_,q=>by
  rw[List.filter_nil,SO,Do] at q
  exact q
 | a::as,acc,h,q=>by
  rw[Bi]
  refine h a lP _ _ (fun e=>G6 p as (acc++[f a]) (fun b j=>h b (hQ _ j)) ?_) (fun e=>G6 p as acc (fun b j=>h b (hQ _ j)) ?_)
  ·rw[Rc,wS e,Bi] at q
   rw[PP];exact q
  ·rw[Rc,wP (by rw[e];exact tL)] at q
   exact q
theorem get_map{b:Type}{F:b->D}{as:List b}{i:Nat}{d:D}(h:(as.map F)[i]?=some d):∃a,as[i]?=some a/\d=F a:=by
 rw[wE] at h
 cases e:as[i]? with
 | none=>rw[e] at h;cases h
 | some a=>rw[e] at h;cases h;exact⟨a,rfl,rfl⟩
theorem i5{n:Nat}(h:n<=100000):n<sizeLine:=by rw[QU];omega
theorem Dp(ns:UH):y9 (ns.map D.int)=true:=by
 induction ns with
 | nil=>rfl
 | cons n ns a=>rw[Bi];exact a
theorem az(ns:UE):y9 (ns.map D.str)=true:=by
 induction ns with
 | nil=>rfl
 | cons n ns a=>rw[Bi];exact a
theorem rh{xs:List D}(h:∀x∈xs,y1 x=true):y9 xs=true:=by
 induction xs with
 | nil=>rfl
 | cons n ns a=>
  show(y1 n&&y9 ns)=true
  rw[h n lP,a fun x b=>h x (hQ _ b)];rfl
theorem J8{b:Type}{f:b->D}{xs:List b}{i:Int}(h0:0<=i)(c:i<xs.length):∃x,x∈xs/\xs[i.toNat]?=some x/\P0 (xs.map f) i=some (f x):=by
 have a:i.toNat<xs.length:=by omega
 refine⟨xs[i.toNat],Rx a,iU a,?_⟩
 unfold P0 kN
 rw[wS h0,eH,wS c]
 simp[a]
theorem MD{n:Int}(h:n<=10^70)(h0:0<n):n.natAbs.log2<9000:=by
 have a:n.natAbs<2^9000:=Su (m:=10^70) (by omega) (by decide +kernel)
 exact(Nat.log2_lt (by omega)).mpr a
abbrev EM(Q:D->D->Prop):W7:={ nx:=fun a=>d8 0 a fun l=>Q .o8 l,rt:=fun d a=>d8 0 a fun l=>Q d l }
abbrev EP(Q:D->Prop):W7:={ nx:=fun _=>Q .o8,rt:=fun d _=>Q d }
def nums(xs:UH):D:=.lst (xs.map D.int)
theorem A2(n:Nat):fP 0 n=(List.range n).map fun(k:Nat)=>D.int (0+(k:Int)):=rfl
theorem eM(p:Key×D)(r:List (Key×D))(j:Key):x9 (p::r) j=if p.1=j then some p.2 else x9 r j:=by
 unfold x9
 rw[QF]
 by_cases e:p.1=j
 ·rw[wS e,Da e];rfl
 ·rw[wP e,Fk e]
theorem ke(k j:Key)(y:D):∀kvs:List (Key×D),x9 (kvs.map fun c=>if c.1=k then(c.1,y) else c) j=if j=k then(x9 kvs j).map (fun _=>y) else x9 kvs j
 | []=>by simp[x9]
 | p::r=>by
  rw[Bi,eM,eM,ke k j y r]
  by_cases b:p.1=k
  ·rw[wS b]
   by_cases a:p.1=j
   ·have d:j=k:=a.symm.trans b
    simp[a,d]
   ·simp[a]
  ·rw[wP b]
   by_cases a:p.1=j
   ·have d:¬j=k:=fun z=>b (a.trans z)
    simp[a,d]
   ·simp[a]
theorem gW(k:Key):∀kvs:List (Key×D),(kvs.any fun a=>decide (a.1=k))=(x9 kvs k).isSome
 | []=>rfl
 | p::r=>by
  rw[Ro,gW k r,eM]
  by_cases e:p.1=k
  ·simp[e]
  ·simp[e]
theorem pf(k j:Key)(y:D):∀kvs:List (Key×D),x9 (kvs++[(k,y)]) j=(x9 kvs j).or (if k=j then some y else none)
 | []=>by rw[Go,eM];simp[x9]
 | p::r=>by
  rw[List.cons_append,eM,eM,pf k j y r]
  by_cases e:p.1=j
  ·simp[e]
  ·simp[e]
theorem pd(kvs:List (Key×D))(k j:Key)(y:D):x9 (putD kvs k y) j=if j=k then some y else x9 kvs j:=by
 unfold putD
 by_cases a:(kvs.any fun b=>decide (b.1=k))=true
 ·rw[wS a,ke]
  rw[gW] at a
  obtain⟨v,c⟩:=Option.isSome_iff_exists.mp a
  by_cases e:j=k
  ·subst e;simp[c]
  ·simp[e]
 ·rw[wP a,pf]
  rw[gW] at a
  have d:x9 kvs k=none:=by
   cases q:x9 kvs k with
   | none=>rfl
   | some v=>rw[q] at a;exact(a rfl).elim
  by_cases e:j=k
  ·subst e;simp[d]
  ·have g:¬k=j:=fun z=>e z.symm
   simp[e,g]
theorem bt(a b:D)(l:List D):P0 (a::b::l) 1=some b:=by
 unfold P0 kN
 rw[wS (by decide),wS (by simp only[FS];omega)]
 rfl
theorem mr{i:Type}{g:aH}{tc:ar}{tk te:TU}{e:Ev}{F v:i->D}{k:i->Key}{Q:List (Key×D)->Prop}:∀(as:List i) (acc:List (Key×D)),(∀a∈as,∀(K:Key->D->Prop) (R:Prop),K (k a) (v a)->g (F a) e fun c=>tc c fun b=>Br b (tk c fun y=>te c fun d=>∃k,ak y=some k/\y1 d=true/\K k d) R) ->
  Q (as.foldl (fun acc a=>putD acc (k a) (v a)) acc)->lI g tc tk te e (as.map F) acc Q
 | [],acc,_,q=>q
 | a::as,acc,h,q=>by
  rw[Bi]
  exact h a lP (fun k d=>lI g tc tk te e (as.map F) (putD acc k d) Q) _ (mr as _ (fun b j=>h b (hQ _ j)) q)
theorem dX{c:Type}{v:c->D}{k:c->Key}(j:Key):∀(as:List c) (acc:List (Key×D)),(∀a∈as,k a≠j)->x9 (as.foldl (fun acc a=>putD acc (k a) (v a)) acc) j=x9 acc j
 | [],acc,_=>rfl
 | a::as,acc,h=>by
  rw[RC,dX j as _ fun b d=>h b (hQ _ d),pd,wP fun z=>h a lP z.symm]
theorem iW{d:Type}{v:d->D}{k:d->Key}:∀(as:List d) (acc:List (Key×D)),(as.map k).Nodup->∀a∈as,x9 (as.foldl (fun acc a=>putD acc (k a) (v a)) acc) (k a)=some (v a)
 | [],_,_,a,g=>by cases g
 | b::as,acc,h,a,g=>by
  rw[Bi] at h
  obtain⟨l,j⟩:=List.nodup_cons.mp h
  rw[RC]
  rcases List.mem_cons.mp g with e | e
  ·subst e
   rw[dX (k a) as _ fun c i z=>l (List.mem_map.mpr ⟨c,i,z⟩),pd,wS rfl]
  ·exact iW as _ j a e
def Jk(d:D)(ns:UH):Prop:=d=.fz (ns.map D.int)\/d=.lst (ns.map D.int)
def feed(c d k:Int):D:=.lst [.int c,.int d,.int k]
abbrev Rw:=Str×List D
def row(r:Rw):D:=.tup (.str r.1::r.2)
def jE(xs:UE):D:=.lst (xs.map D.str)
def uD:Option Str->D
 | none=>.o8
 | some x=>.str x
abbrev Pr:=Int×Int
def pr(p:Pr):D:=.tup [.int p.1,.int p.2]
def jO(ps:List Pr):D:=.tup (ps.map pr)
def OY(p:Pr):Prop:=1<=p.1/\p.1<10^59/\0<=p.2/\p.2<10^60
theorem X8:∀ps:List Pr,y9 (ps.map pr)=true
 | []=>rfl
 | p::ps=>by
  show((true&&(true&&true))&&y9 (ps.map pr))=true
  rw[X8 ps];rfl
def T9(ps:List Pr):Prop:=1<=ps.length/\ps.length<=5/\(∀p∈ps,1<=p.1/\p.1<10^60/\1<=p.2/\p.2<10^60)/\ps.Pairwise fun p q=>p.1<q.1/\q.2<p.2
def nm(n:Nat)(x:Str):Prop:=1<=x.cps.toList.length/\x.cps.toList.length<=n/\∀c∈x.cps.toList,97<=c/\c<=122
instance (n:Nat) (x:Str):Decidable (nm n x):=by unfold nm;infer_instance
theorem aY(ps:List Pr):y1 (jO ps)=true:=X8 ps
def Y6:Cp:=fun ds Q=>∃(d:D) (ns:UH) (k:Int),ds=[d,.int k]/\Jk d ns/\0<=k/\∀c,Q (.int c)
def aM:Cp:=fun ds Q=>∃(d:D) (ns:UH) (k:Int),ds=[d,.int k]/\Jk d ns/\0<=k/\k<=1000/\∀c,Q (feed c c (100*k))
def y4:Cm:=fun ds Q=>∃(c d k n:Int),ds=[feed c d k,.int n]/\0<=k/\k<=10^9/\0<n/\n<=10^70/\∀(r d':Int),0<=r->r<n->Q (.int r) (feed c d' (k+1))
def mh:i9:=(y8 (A4 (g7 (d8 0) (d8 1))))
def xt:i9:=(y8 (uC (.int 0)))
def vP:i9:=(g9 (ib (tP (uT (p9 PK (d8 1) (cq eI (e7 (d8 0) j4))))) mh J0) xt)
def GN:i9:=(y8 (aj (e7 (A4 (d8 2)) (e7 (A4 (d8 2)) (e7 (p9 G9 (uC (.int 100)) (d8 1)) j4)))))
def Hb:i9:=(g9 (u4 2 (o7 Y6 (e7 (d8 0) (e7 (d8 1) j4)))) GN)
def rH:i9:=(y8 (A4 (d8 2)))
def rR:i9:=(g9 (yd 0 (mP (p9 FR (g7 (d8 0) (uC (.int 1))) (d8 1))) (mP (uC (.int 1)))) rH)
def tu:i9:=(g9 (u4 2 (p9 je (g7 (d8 0) (uC (.int 1))) (d8 1))) rR)
def FN:i9:=(y8 (p9 je (p9 FR (p9 je (p9 G9 (d8 3) (p9 t9 (p9 je (d8 3) (uC (.int 65521))) (uC (.int 3)))) (uC (.int 2147483629))) (uC (.int 5))) (d8 1)))
def FJ:i9:=(g9 (u4 3 (p9 je (p9 t9 (p9 t9 (d8 3) (p9 G9 (p9 G9 (g7 (d8 0) (uC (.int 2))) (g7 (d8 0) (uC (.int 2)))) (uC (.int 69621)))) (uC (.int 11))) (uC (.int 2147483647)))) FN)
def EA:i9:=(g9 (u4 3 (p9 t9 (p9 G9 (p9 je (g7 (d8 0) (uC (.int 0))) (uC (.int 2147483629))) (uC (.int 48271))) (p9 G9 (uC (.int 7919)) (g7 (d8 0) (uC (.int 2)))))) FJ)
def GS:i9:=(g9 (ib (tP (tI (uT (p9 OO (g7 (d8 0) (uC (.int 0))) (p9 NP (uC (.int 10)) (uC (.int 18))))) (uT (p9 Kr (g7 (d8 0) (uC (.int 1))) (uC (.int 0)))))) tu J0) EA)
def Hd:i9:=(g9 (yd 0 (mP (p9 t9 (g7 (d8 0) (uC (.int 2))) (uC (.int 1)))) (mP (uC (.int 2)))) GS)
end My
namespace L3
open PySem PySem.Spec PySem.Calls PyProof.Rows L2
section
variable{X:Cx}{cl:List Cl}{e a b:Expr}{es:UG}{f fa fb:Fl}{pos pos' p vp:Pos}{ua ub:TU}{us:cg}{ms:ni}{k k':Nat}{fn:Addr}{fd:FuncData}{ps:UE}{x y:Str}
theorem uv (i:Nat) (g:Kb cl[i]?=f) (h:X.N[i]?=some x:=by rfl) (d:Le X.env.scope x:=by first | exact Or.inl rfl | exact Or.inr (Or.inl rfl) | exact Or.inr (Or.inr rfl)) (hd:(x == ("__debug__" : Str))=false:=by decide) (c:(x == ("__classdict__" : Str))=false:=by decide):PU X cl (.Name x pos) f (d8 i):=IC i (pv i h d hd c) g
theorem p7(d:J3 k X.A)(h:PU X cl a fa ua)(g:PU X cl b fb ub)(c:gz b:=by exact fun _ _=>rfl):PU X cl (.Subscript a b pos) fa (g7 ua ub):=ID (D9 d) h g c
theorem gn(i:Nat)(j:X.N.Nodup)(d:X.N[i]?=some x:=by rfl)(c:Loc X.env.scope x:=by exact Or.inl rfl)(g:X.fn x=true\/X.env.scope.names.lookup x=some .local:=by first | exact .inl rfl | exact .inr rfl | assumption)(h:cl[i]?=some .bor:=by rfl):yj X cl (.Name x pos) (g1 i):=uo (mw j d c g) h
theorem ss(i:Nat)(o:X.N.Nodup)(j:PU X cl e f ua)(l:xB cl[i]? f i=true)(g:X.N[i]?=some x:=by rfl)(c:Loc X.env.scope x:=by exact Or.inl rfl)(d:swapsWith e (some (.Name x pos')) pos.line X.env=pure false:=by rfl)(h:X.fn x=true\/X.env.scope.names.lookup x=some .local:=by first | exact .inl rfl | exact .inr rfl | assumption) :
  L7 X cl (.Assign [.Name x pos'] e pos) (u4 i ua):=eT o g c j l d h
theorem pc {c:Cp} (C:V5 X.prog X.w X.K X.mg X.base x k ps (D1 X.K c) fn fd) (i:J3 k' X.A) (o:xf X cl (e::es) us) (d:isStar e=false) (j:k<=k':=by decide) (l:Gl X x:=by rfl) (h:(x == ("__debug__" : Str))=false:=by decide)
  (g:(backTo pos (starEach es X.env)).any (·.1)=false:=by rfl):PU X cl (.Call (.Name x p) (e::es) [] pos) .fresh (o7 c us):=Fy C (i.mono j) l o d h g
theorem pl {c:Cm} (j:Nat) (C:V5 X.prog X.w X.K X.mg X.base x k ps (AH X.K c) fn fd) (i:J3 k' X.A) (r:HV X cl es ms) (h:PE X (.Name y vp) (fE j):=by exact pv _) (o:cl[j]?=some .own:=by rfl) (l:k<=k':=by decide) (q:Gl X x:=by rfl) (g:(x == ("__debug__" : Str))=false:=by decide)
  (d:(backTo pos (starEach es X.env)).any (·.1)=false:=by rfl):PM X cl (.Call (.Name x p) (.Name y vp::es) [] pos) (A6 j c ms):=Gj j h o C (i.mono l) q r g d
end
end L3
namespace My
open PySem L2 L3
abbrev D6(c:Cp)(n:Nat):Prop:=∀ds Q,c ds Q->ds.length=n
abbrev KZ(c:Cm)(n:Nat):Prop:=∀ds Q,c ds Q->ds.length=n
abbrev au(c:Cp)(t:i9)(n:Nat):Prop:=∀ds Q,c ds Q->t (EP Q) (i7 n ds)
abbrev NO(c:Cm)(t:i9)(n:Nat):Prop:=∀ds Q,c ds Q->t (EM Q) (i7 n ds)
def lS:Str:="abcdefghijklmnopqrstuvwxyz"
def ji(i:Int):Nat:=(P0 lS.cps.toList i).getD 0
theorem FT:∀n:Nat,n<26->ji (n:Int)=97+n:=by decide +kernel
theorem mD{i:Int}(h0:0<=i)(a:i<26):ji i=97+i.toNat:=by
 have e:((i.toNat:Nat):Int)=i:=Int.toNat_of_nonneg h0
 have q:=FT i.toNat (by omega)
 rw[e] at q
 exact q
theorem wD{i j:Int}(d:0<=i)(c:i<26)(b:0<=j)(a:j<26)(h:ji i=ji j):i=j:=by
 rw[mD d c,mD b a] at h;omega
theorem uK{i:Int}(h0:0<=i)(a:i<26):97<=ji i/\ji i<=122:=by rw[mD h0 a];omega
theorem vA{c:Nat}{n:Int}(h0:0<=n)(a:n<=4):(Txt.mul ⟨#[c]⟩ n).cps.toList=List.replicate n.toNat c:=by
 have h:n=0\/n=1\/n=2\/n=3\/n=4:=by omega
 rcases h with rfl | rfl | rfl | rfl | rfl
 all_goals rfl
theorem wZ(xs:UH):∀acc:Array Nat,((xs.map fun b=>(⟨#[ji b]⟩:Str)).foldl (fun acc p=>acc++(Str.cps "")++p.cps) acc).toList=acc.toList++xs.map ji:=by
 induction xs with
 | nil=>intro acc;simp
 | cons b B a=>
  intro acc
  rw[Bi,RC,a,Bi]
  show(acc++#[]++#[ji b]).toList++_=_
  simp
theorem Ax(xs:UH):(Txt.join "" (xs.map fun b=>(⟨#[ji b]⟩:Str))).cps.toList=xs.map ji:=by
 unfold Txt.join Builtin.Str.glued
 cases xs with
 | nil=>rfl
 | cons b B=>
  exact(wZ B #[ji b]).trans rfl
theorem Gr(x y:Str):(x++y).cps.toList=x.cps.toList++y.cps.toList:=by
 show(x.cps++y.cps).toList=_
 simp
theorem ag{d:Type}(f:Nat->d)(n:Nat)(h:∀i j,i<n->j<n->f i=f j->i=j):((List.range n).map f).Nodup:=by
 rw[List.Nodup,RJ]
 refine List.Pairwise.imp_of_mem ?_ (List.nodup_range (n:=n))
 intro a b l g c e
 exact c (h a b (List.mem_range.mp l) (List.mem_range.mp g) e)
theorem ky{b:Type}{x:b}:∀{xs:List b} (i:Nat),xs.Nodup->x∉xs->(xs.set i x).Nodup
 | [],_,_,_=>xL
 | y::c,0,h,a=>List.nodup_cons.mpr ⟨fun z=>a (hQ _ z),(List.nodup_cons.mp h).2⟩
 | y::c,i+1,h,a=>by
  rw[List.set_cons_succ]
  refine List.nodup_cons.mpr ⟨fun z=>?_,ky i (List.nodup_cons.mp h).2 fun z=>a (hQ _ z)⟩
  rcases Rb z with w | w
  ·exact(List.nodup_cons.mp h).1 w
  ·exact a (w▸lP)
def nameA(f:Int)(i:Nat):Str:=Txt.mul ⟨#[ji ((f+(0+(i:Int)))%26)]⟩ (1+(0+(i:Int))/26)
theorem dU{f:Int}{i:Nat}(a:i<100):(nameA f i).cps.toList=List.replicate (1+i/26) (ji ((f+(0+(i:Int)))%26)):=by
 unfold nameA
 rw[vA (by omega) (by omega)]
 congr 1
 omega
theorem yo{f:Int}{i j:Nat}(b:i<100)(a:j<100)(h:nameA f i=nameA f j):i=j:=by
 have e:=QV (fun x:Str=>x.cps.toList) h
 rw[dU b,dU a] at e
 have el:=QV List.length e
 rw[RF,RF] at el
 rw[el] at e
 have d:ji ((f+(0+(i:Int)))%26)=ji ((f+(0+(j:Int)))%26):=by
  have c:=QV (fun l:UI=>l.head?) e
  simpa[Nat.add_comm 1,QY] using c
 have g:=wD (QG _ (by decide)) (Qs _ (by decide)) (QG _ (by decide)) (Qs _ (by decide)) d
 omega
theorem Cv{f:Int}{i n:Nat}(a:i<100)(h:1+i/26<=n):nm n (nameA f i):=by
 unfold nm
 rw[dU a,RF]
 refine⟨by omega,h,fun c b=>?_⟩
 rw[(List.mem_replicate.mp b).2]
 exact uK (QG _ (by decide)) (Qs _ (by decide))
def fG(bs:UH)(a o c b:Int)(i:Nat):UH:=(bs.set a.toNat ((c+(0+(i:Int)))%26)).set o.toNat ((b+(0+(i:Int))/26)%26)
def eP(bs:UH)(a o d c f l:Int)(i:Nat):Str:=Txt.join "" ((fG bs a o d c i).map fun b=>(⟨#[ji b]⟩:Str))++Txt.mul ⟨#[ji f]⟩ (l*((0+(i:Int))%2))
theorem ax{bs:UH}{a o c b:Int}{i:Nat}:(fG bs a o c b i).length=bs.length:=by unfold fG;rw[Rh,Rh]
theorem mq{bs:UH}{a o g e:Int}{i:Nat}(d:∀b∈bs,0<=b/\b<26):∀b∈fG bs a o g e i,0<=b/\b<26:=fun b c=>by
 rcases Rb c with w | w
 ·rcases Rb w with w | w
  ·exact d b w
  ·rw[w];exact⟨QG _ (by decide),Qs _ (by decide)⟩
 ·rw[w];exact⟨QG _ (by decide),Qs _ (by decide)⟩
theorem Lz{l:Int}(a:0<=l)(l1:l<=1)(i:Nat):0<=l*((0+(i:Int))%2)/\l*((0+(i:Int))%2)<=1:=by
 have h:l=0\/l=1:=by omega
 rcases h with rfl | rfl<;>omega
theorem er{bs:UH}{a o c b f l:Int}{i:Nat}(d:0<=l)(l1:l<=1):(eP bs a o c b f l i).cps.toList=(fG bs a o c b i).map ji++List.replicate (l*((0+(i:Int))%2)).toNat (ji f):=by
 unfold eP
 have:=Lz d l1 i
 rw[Gr,Ax,vA this.1 (by omega)]
theorem xD{bs:UH}{a o d c f l:Int}{i j:Nat}(I:i<100)(H:j<100)(g:0<=l)(l1:l<=1)(a0:0<=a)(a1:a<bs.length)(G:0<=o)(E:o<bs.length)(J:a≠o)(r:∀b∈bs,0<=b/\b<26)
  (h:eP bs a o d c f l i=eP bs a o d c f l j):i=j:=by
 have e:=QV (fun x:Str=>x.cps.toList) h
 rw[er g l1,er g l1] at e
 have v:=(List.append_inj e (by rw[eH,eH,ax,ax])).1
 have at_:∀(n:Nat) (x y:Int),(fG bs a o d c i)[n]?=some x->(fG bs a o d c j)[n]?=some y->x=y:=fun n x y q p=>by
  have u:=QV (fun z:UI=>z[n]?) v
  rw[wE,wE,q,p] at u
  have:=mq r x (AC q)
  have:=mq r y (AC p)
  exact wD (by omega) (by omega) (by omega) (by omega) (Qn u)
 have ga:∀k:Nat,(fG bs a o d c k)[a.toNat]?=some ((d+(0+(k:Int)))%26):=fun k=>by
  unfold fG
  rw[No (by omega),IN (by omega)]
 have go:∀k:Nat,(fG bs a o d c k)[o.toNat]?=some ((c+(0+(k:Int))/26)%26):=fun k=>by
  unfold fG
  rw[IN (by rw[Rh];omega)]
 have C:=at_ _ _ _ (ga i) (ga j)
 have B:=at_ _ _ _ (go i) (go j)
 omega
theorem zR{bs:UH}{a o u r f l:Int}{i n:Nat}(e:0<=l)(l1:l<=1)(q:0<=f)(p:f<26)(j:∀b∈bs,0<=b/\b<26)(x:1<=bs.length)(v:bs.length+l<=n):nm n (eP bs a o u r f l i):=by
 have:=Lz e l1 i
 have h:l=0\/l=1:=by omega
 unfold nm
 rw[er e l1,C2,eH,ax,RF]
 refine⟨by omega,?_,fun c g=>?_⟩
 ·rcases h with rfl | rfl
  ·rw[Sr];show bs.length+0<=n;omega
  ·omega
 ·rcases List.mem_append.mp g with w | w
  ·obtain⟨b,d,rfl⟩:=List.mem_map.mp w
   have:=mq j b d
   exact uK this.1 this.2
  ·rw[(List.mem_replicate.mp w).2]
   exact uK q p
theorem Cq{a r n:Int}(a0:0<=a)(a1:a<n)(d:0<=r)(c:r<n-1):a≠(a+1+r)%n:=by
 by_cases h:a+1+r<n
 ·rw[Int.emod_eq_of_lt (by omega) h];omega
 ·have e:(a+1+r)%n=a+1+r-n:=by
   have b:a+1+r=(a+1+r-n)+n:=by omega
   rw[b,Int.add_emod_right,Int.emod_eq_of_lt (by omega) (by omega)]
   omega
  rw[e];omega
def bV:Cm:=fun ds Q=>∃(c d k m:Int),ds=[feed c d k,.int m]/\0<=k/\k<=10^6/\1<=m/\m<=100/\∀(xs:UE) (d' a:Int),xs.length=m->xs.Nodup->(∀x∈xs,nm 8 x)->Q (jE xs) (feed c d' a)
local macro_rules | `(tactic| walk_at "w")=>`(tactic| conv=>whnf)
local macro_rules | `(tactic| walk_at "a")=>`(tactic| first | refine⟨rfl,?_⟩ | refine⟨_,rfl,?_⟩ | refine⟨(show(0:Int)<_ from by decide),?_⟩ | refine⟨(show R4 _ _ from⟨by decide,by decide⟩),?_⟩ | refine⟨(show bN _ _ from⟨by decide,by decide,by decide⟩),?_⟩ | refine⟨(show M3 _ _ from .inr ⟨by decide,by decide⟩),?_⟩ | refine⟨(show M3 _ _ from .inl ⟨by decide,by decide⟩),?_⟩ | refine⟨_,_,_,rfl,rfl,rfl,?_⟩ | refine⟨_,N6 _ _,?_⟩ | refine⟨_,_,rfl,rfl,?_⟩)
local macro_rules | `(tactic| walk_at "r")=>`(tactic| ((repeat ((conv=>whnf);(walk_at "a")));(try (conv=>whnf))))
structure Ng(xs:UE)(gs:List Rw)(ds:UI)(i:Nat)(g:Rw)(u:Option Str)(e:Nat)(cv:List Pr)(n1 n2:Int):Prop where
 name:xs[i]?=some g.1
 row:g.2=[uD u,jO cv,.int n1,.int n2]
 cv:T9 cv
 n1:0<=n1/\n1<10^60
 n2:0<=n2/\n2<10^60
 dep:ds[i]?=some e
 top:u=none->e=1
 under:∀y,u=some y->∃j f gj,j<i/\gs[j]?=some gj/\gj.1=y/\ds[j]?=some f/\e=f+1
 ge:1<=e
 le:e<=8
def LX(xs:UE)(gs:List Rw)(ds:UI):Prop:=ds.length=gs.length/\∀i g,gs[i]?=some g->∃u e cv n1 n2,Ng xs gs ds i g u e cv n1 n2
theorem LX.y9{xs:UE}{gs:List Rw}{ds:UI}(h:LX xs gs ds):∀g∈gs,y9 g.2=true:=fun g c=>by
 obtain⟨i,b⟩:=Qx c
 obtain⟨u,e,cv,n1,n2,a⟩:=h.2 i g b
 rw[a.row]
 show(y1 (uD u)&&(y1 (jO cv)&&(true&&(true&&true))))=true
 rw[aY]
 cases u<;>rfl
theorem Ng.more{xs:UE}{gs:List Rw}{ds:UI}{i:Nat}{g:Rw}{u:Option Str}{e:Nat}{cv:List Pr}{n1 n2:Int}(a:Ng xs gs ds i g u e cv n1 n2)(b:List Rw)(c:UI):Ng xs (gs++b) (ds++c) i g u e cv n1 n2:=by
 refine⟨a.name,a.row,a.cv,a.n1,a.n2,?_,a.top,fun y l=>?_,a.ge,a.le⟩
 ·rw[EQ (List.getElem?_eq_some_iff.mp a.dep).1];exact a.dep
 ·obtain⟨j,f,r,q,h,p,d,o⟩:=a.under y l
  exact⟨j,f,r,q,by rw[EQ (List.getElem?_eq_some_iff.mp h).1];exact h,p,by rw[EQ (List.getElem?_eq_some_iff.mp d).1];exact d,o⟩
theorem LX.snoc{xs:UE}{gs:List Rw}{ds:UI}{g:Rw}{e:Nat}{u:Option Str}{cv:List Pr}{n1 n2:Int}(h:LX xs gs ds)(a:Ng xs (gs++[g]) (ds++[e]) gs.length g u e cv n1 n2):LX xs (gs++[g]) (ds++[e]):=by
 refine⟨by simp[h.1],fun i x b=>?_⟩
 by_cases p:i<gs.length
 ·rw[EQ p] at b
  obtain⟨o,r,l,d,c,v⟩:=h.2 i x b
  exact⟨o,r,l,d,c,v.more _ _⟩
 ·have j:=(List.getElem?_eq_some_iff.mp b).1
  rw[C2,QB] at j
  have q:i=gs.length:=by omega
  subst q
  rw[Qr (sK _),RY] at b
  cases b
  exact⟨_,_,_,_,_,a⟩
structure OT(xs:UE)(gs:List Rw)(i:Nat)(l:Rw)(y:Str)(ps:List Pr)(n:Int)(b:Bool):Prop where
 name:xs[i]?=some l.1
 row:l.2=[.str y,jO ps,.int n,.bl b]
 at_:∃g∈gs,g.1=y
 len:ps.length<=4
 prs:∀p∈ps,OY p
 n:0<=n/\n<10^60
def PC(xs:UE)(gs ls:List Rw):Prop:=ls.length=xs.length/\∀i l,ls[i]?=some l->∃y ps n b,OT xs gs i l y ps n b
theorem OT.y9{xs:UE}{gs:List Rw}{i:Nat}{l:Rw}{y:Str}{ps:List Pr}{n:Int}{b:Bool}(a:OT xs gs i l y ps n b):y9 l.2=true:=by
 rw[a.row]
 show(true&&(L3.y9 (ps.map pr)&&(true&&(true&&true))))=true
 rw[X8];rfl
theorem PC.y9{xs:UE}{gs ls:List Rw}(h:PC xs gs ls):∀l∈ls,y9 l.2=true:=fun l c=>by
 obtain⟨i,d⟩:=Qx c
 obtain⟨y,ps,n,b,a⟩:=h.2 i l d
 exact a.y9
end My
namespace My
open PySem L2 L3
structure Gd where
 nm:Str
 un:Option Str
 cv:List Pr
 de:Int
 wa:Int
structure Ld where
 nm:Str
 at_:Str
 cs:List Pr
 la:Int
 on:Bool
structure Bd where
 gs:List Gd
 ls:List Ld
def gD(g:Gd):D:=.tup [.str g.nm,uD g.un,jO g.cv,.int g.de,.int g.wa]
def lD(l:Ld):D:=.tup [.str l.nm,.str l.at_,jO l.cs,.int l.la,.bl l.on]
def bD(b:Bd):D:=.tup [.tup (b.gs.map gD),.tup (b.ls.map lD)]
def EJ(gs:List Gd):Prop:=∃dp:Nat->Nat,∀i g,gs[i]?=some g->1<=dp i/\dp i<=8/\(g.un=none->dp i=1)/\∀y,g.un=some y->∃j a,j<i/\gs[j]?=some a/\a.nm=y/\dp i=dp j+1
structure o3(b:Bd):Prop where
 g1:1<=b.gs.length
 g16:b.gs.length<=16
 l24:b.ls.length<=24
 nd:(b.gs.map (·.nm)++b.ls.map (·.nm)).Nodup
 nmg:∀g∈b.gs,nm 8 g.nm
 nml:∀l∈b.ls,nm 8 l.nm
 cv:∀g∈b.gs,T9 g.cv
 de:∀g∈b.gs,0<=g.de/\g.de<10^60
 wa:∀g∈b.gs,0<=g.wa/\g.wa<10^60
 un:EJ b.gs
 cs4:∀l∈b.ls,l.cs.length<=4
 cs:∀l∈b.ls,∀p∈l.cs,1<=p.1/\p.1<10^60/\0<=p.2/\p.2<10^60
 la:∀l∈b.ls,0<=l.la/\l.la<10^60
 at_:∀l∈b.ls,∃g∈b.gs,g.nm=l.at_
theorem iy(u:Option Str):y1 (uD u)=true:=by cases u<;>rfl
theorem Y5(g:Gd):y1 (gD g)=true:=by
 show(true&&(y1 (uD g.un)&&(y1 (jO g.cv)&&(true&&(true&&true)))))=true
 rw[iy,aY];rfl
theorem Jd(g:Ld):y1 (lD g)=true:=by
 show(true&&(true&&(y1 (jO g.cs)&&(true&&(true&&true)))))=true
 rw[aY];rfl
theorem aB{b:Type}{f:b->D}(h:∀a,y1 (f a)=true)(as:List b):y9 (as.map f)=true:=rh fun x c=>by
 obtain⟨a,_,rfl⟩:=List.mem_map.mp c
 exact h a
theorem Fg(gs:List Gd):y9 (gs.map gD)=true:=aB Y5 gs
theorem DK(gs:List Ld):y9 (gs.map lD)=true:=aB Jd gs
abbrev cs(x:Str):UI:=x.cps.toList
def nt(n:Int):Str:=Str.ofString (toString n)
theorem IU{n:Int}(h:0<=n)(a:n<10^60):(nt n).length<=61:=by
 unfold nt
 rw[ofString_length]
 exact int_text_length_le10 (by decide) (by omega)
def num(n:Int):Prop:=0<=n/\n<10^60
def Cz(ps:List Pr):Prop:=ps.length<=5/\∀p∈ps,num p.1/\num p.2
structure GT(g:Gd):Prop where
 nm:nm 8 g.nm
 un:∀y,g.un=some y->My.nm 8 y
 cv:Cz g.cv
 de:num g.de
 wa:num g.wa
structure LT(l:Ld):Prop where
 nm:nm 8 l.nm
 at_:My.nm 8 l.at_
 cs:Cz l.cs
 la:num l.la
theorem num.len{n:Int}(h:num n):(nt n).length<=61:=IU h.1 h.2
theorem Ig{n:Nat}{x:Str}(h:nm n x):x.length<=n:=by
 have:=h.2.1
 simpa[Str.length] using this
def LW(x:Str):Prop:=10∉cs x
instance (x:Str):Decidable (LW x):=by unfold LW;infer_instance
theorem o3.gt{b:Bd}(h:o3 b):∀g∈b.gs,GT g:=fun g a=>by
 refine⟨h.nmg g a,fun y c=>?_,⟨(h.cv g a).2.1,fun p d=>?_⟩,h.de g a,h.wa g a⟩
 ·obtain⟨dp,hd⟩:=h.un
  obtain⟨i,l⟩:=Qx a
  obtain⟨j,o,_,e,rfl,_⟩:=(hd i g l).2.2.2 y c
  exact h.nmg o (AC e)
 ·have:=(h.cv g a).2.2.1 p d
  unfold num
  omega
theorem o3.lt{b:Bd}(h:o3 b):∀l∈b.ls,LT l:=fun l a=>by
 refine⟨h.nml l a,?_,⟨Qv (h.cs4 l a) (by decide),fun p c=>?_⟩,h.la l a⟩
 ·obtain⟨g,d,e⟩:=h.at_ l a
  rw[<-e];exact h.nmg g d
 ·have:=h.cs l a p c
  unfold num
  omega
mutual
def kn:D->Bool
 | .o8=>true
 | .bl _=>true
 | .int _=>true
 | .str x=>decide (x.length<=100000)
 | .tup xs=>NX xs
 | .lst xs=>NX xs
 | .dic _=>true
 | _=>false
def NX:List D->Bool
 | []=>true
 | x::xs=>kn x&&NX xs
end
theorem HD{d:D}(h:kn d=true):∃a,tyName d=some a:=by
 cases d<;>first | exact⟨_,rfl⟩ | (simp[kn] at h)
def yC(q:D)(xs:List D):Prop:=q=.tup xs\/q=.lst xs
def KS:D->Str
 | .tup (.str x::_)=>x
 | _=>Str.empty
def Ke(d:D):Prop:=∃x r,d=.tup (.str x::r)
def O8:Cp:=fun ds Q=>∃(q:D) (xs:List D),ds=[q]/\yC q xs/\xs.length<=100/\(∀x∈xs,Ke x)/\Q (jE (xs.map KS))
structure Ma(gs:List Gd):Prop where
 len:gs.length<=16
 nd:(gs.map (·.nm)).Nodup
 un:EJ gs
def nE(gs:List Gd)(x:Str):Option Str:=match gs.find? (fun g=>decide (g.nm=x)) with
 | some g=>g.un
 | none=>none
def ups(gs:List Gd):Nat->Option Str->UE
 | 0,_=>[]
 | _+1,none=>[]
 | n+1,some x=>x::ups gs n (nE gs x)
def cm:Cp:=fun ds Q=>∃(q:D) (gs:List Gd) (x:Str),ds=[q,.str x]/\yC q (gs.map gD)/\Ma gs/\(∃g∈gs,g.nm=x)/\Q (jE (ups gs 8 (some x)))
def y7(b:Bd):UE:=b.gs.map (·.nm)
def O7(b:Bd):UE:=b.ls.map (·.nm)
def lL(xs:UE):D->Bool
 | .str x=>decide (x∈xs)
 | _=>false
def W3(b:Bd)(x:Str):Str:=match b.ls.find? (fun l=>decide (l.nm=x)) with
 | some l=>l.at_
 | none=>x
def j8(b:Bd)(x:Str):UE:=ups b.gs 8 (some (W3 b x))
def K5:Cp:=fun ds Q=>∃(b:Bd),ds=[bD b]/\o3 b/\Q (jE (y7 b))
def S5:Cp:=fun ds Q=>∃(b:Bd),ds=[bD b]/\o3 b/\Q (jE (O7 b))
def O0:Cp:=fun ds Q=>∃(b:Bd) (d:D),ds=[bD b,d]/\o3 b/\kn d=true/\Q (.bl (lL (y7 b) d))
def R6:Cp:=fun ds Q=>∃(b:Bd) (d:D),ds=[bD b,d]/\o3 b/\kn d=true/\Q (.bl (lL (O7 b) d))
def N8:Cp:=fun ds Q=>∃(b:Bd) (d:D),ds=[bD b,d]/\o3 b/\kn d=true/\Q (.bl (lL (y7 b) d||lL (O7 b) d))
def eX:MK:=fun ds Q W=>∃(b:Bd) (d:D),ds=[bD b,d]/\o3 b/\kn d=true/\((∃x,d=.str x/\x∈y7 b++O7 b/\Q (jE (j8 b x)))\/(lL (y7 b) d=false/\lL (O7 b) d=false/\W "NoPlace"))
def IM(d:D)(xs:UE):Prop:=d=.lst (xs.map D.str)\/d=.tup (xs.map D.str)
def G5(b:Bd)(op:UE)(x:Str):Bool:=(j8 b x).all fun g=>decide (g∉op)
def Pd(kvs:List (Key×D))(x:Str):Int:=match x9 kvs (.inr x) with
 | some (.int n)=>n
 | _=>0
def uS(kvs:List (Key×D)):Prop:=∀a∈kvs,∃n,a.2=.int n
def pR(b:Bd)(op:UE):List (Key×D):=b.gs.map fun g=>(.inr g.nm,.bl (G5 b op g.nm))
def o5(b:Bd)(v:Str->Int):List (Key×D):=b.gs.map fun g=>(.inr g.nm,.int (v g.nm))
def O4(b:Bd)(op:UE)(P:Str->Int)(y:Str):Int:=((y7 b++O7 b).map fun x=>if G5 b op x then(((j8 b x).count y:Nat):Int)*P x else 0).sum
def lo(cv:List Pr):Int:=(cv.head?.map (·.1)).getD 0
def nA(b:Bd)(x:Str):Int:=match b.ls.find? (fun l=>decide (l.nm=x)) with
 | some l=>if l.on then l.la else 0
 | none=>0
def r8(b:Bd):Str->Int:=O4 b [] (nA b)
def F0(b:Bd)(v:Str->Int):UE:=(b.gs.filter fun g=>decide (lo g.cv<=v g.nm)).map (·.nm)
def S2:Cp:=fun ds Q=>∃(cv:List Pr),ds=[jO cv]/\T9 cv/\Q (.int (lo cv))
def K3:Cp:=fun ds Q=>∃(b:Bd) (o:D) (op:UE),ds=[bD b,o]/\o3 b/\IM o op/\op.length<4000/\Q (.dic (pR b op))
def N2:Cp:=fun ds Q=>∃(b:Bd) (op:UE) (kvs:List (Key×D)),ds=[bD b,.dic (pR b op),.dic kvs]/\o3 b/\uS kvs/\Q (.dic (o5 b (O4 b op (Pd kvs))))
def cD:Cp:=fun ds Q=>∃(b:Bd) (o:D) (op:UE) (kvs:List (Key×D)),ds=[bD b,o,.dic kvs]/\o3 b/\IM o op/\op.length<4000/\uS kvs/\Q (.dic (o5 b (O4 b op (Pd kvs))))
def eQ:Cp:=fun ds Q=>∃(b:Bd),ds=[bD b]/\o3 b/\Q (.dic (o5 b (r8 b)))
def bJ:Cp:=fun ds Q=>∃(b:Bd) (v:Str->Int),ds=[bD b,.dic (o5 b v)]/\o3 b/\Q (jE (F0 b v))
def uQ:UE->D
 | []=>.o8
 | x::_=>.str x
def cu:Cp:=fun ds Q=>∃(b:Bd),ds=[bD b]/\o3 b/\Q (uQ (F0 b (r8 b)))
def nq:i9:=(y8 (A4 (g7 (g7 (d8 0) (uC (.int 0))) (uC (.int 0)))))
def af:i9:=(dG 3 (mP (A4 (GO (p9 (JO true) (d8 5) (d8 2)) (OK (p9 (Y1 false) (d8 6) (uC .o8)) (g7 (d8 3) (d8 6)))))) (mP (d8 5)))
def fL:i9:=(g9 (JE 5 6 (e7 (g7 (d8 4) (uC (.int 0))) (e7 (g7 (d8 4) (uC (.int 1))) j4))) af)
def nh:i9:=(y8 (d8 3))
def mU:i9:=(g9 (Y0 (iP (J4 (g7 (d8 0) (uC (.int 0))))) (g1 4) fL) nh)
def mz:i9:=(g9 (u4 3 (uC (.dic []))) mU)
def iS:i9:=(g9 (u4 2 (cq Ls (e7 (d8 1) j4))) mz)
def gU:i9:=(tZ 3 (g7 (d8 5) (uC (.int 1))) (hW (d8 2) (g7 (d8 5) (uC (.int 0))) (uC (.int 0))))
def gK:i9:=(dG 3 (mP (uC (.int 0))) (mP (d8 6)))
def iG:i9:=(tZ 3 (d8 7) (g7 (d8 3) (d8 6)))
def ic:i9:=(ib (tP (uT (p9 (Y1 true) (d8 7) (uC .o8)))) iG J0)
def iO:i9:=(ib (tP (Dl (tE (g7 (d8 1) (d8 6))))) gK ic)
def aL:i9:=(g9 (JE 6 7 (e7 (g7 (d8 4) (uC (.int 0))) (e7 (g7 (d8 4) (uC (.int 1))) j4))) iO)
def oR:i9:=(y8 (d8 3))
def fA:i9:=(g9 (Y0 (iP (HF (g7 (d8 0) (uC (.int 0))))) (g1 4) aL) oR)
def qI:i9:=(g9 (Y0 (iP (J4 (g7 (d8 0) (uC (.int 1))))) (g1 5) gU) fA)
def kO:i9:=(g9 (u4 3 (Iw [none,some 2] (J4 (g7 (d8 0) (uC (.int 0)))) (g1 0) T6 (g7 (d8 0) (uC (.int 0))) (hW (d8 1) (g7 (d8 0) (uC (.int 0))) (uC (.int 0))))) qI)
def CH:i9:=(y8 (o7 N2 (e7 (d8 0) (e7 (o7 K3 (e7 (d8 0) (e7 (d8 1) j4))) (e7 (d8 2) j4)))))
def Hg:i9:=(y8 (o7 cD (e7 (d8 0) (e7 (aj j4) (e7 (Iw [none] (J4 (g7 (d8 0) (uC (.int 1)))) (g1 0) (tE (g7 (d8 0) (uC (.int 4)))) (g7 (d8 0) (uC (.int 0))) (g7 (d8 0) (uC (.int 3)))) j4)))))
def zM:i9:=(y8 (kU [none,some 1] (J4 (g7 (d8 0) (uC (.int 0)))) (g1 0) (uT (p9 OO (g7 (d8 1) (g7 (d8 0) (uC (.int 0)))) (o7 S2 (e7 (g7 (d8 0) (uC (.int 2))) j4)))) (A4 (g7 (d8 0) (uC (.int 0))))))
def Be:i9:=(y8 (A4 (Ph (tE (d8 1)) (g7 (d8 1) (uC (.int 0))) (uC .o8))))
def Ap:i9:=(g9 (u4 1 (o7 bJ (e7 (d8 0) (e7 (o7 eQ (e7 (d8 0) j4)) j4)))) Be)
def Pk(q:D)(b:Bd):Prop:=∃x y:D,q=.tup [x,y]/\yC x (b.gs.map gD)/\yC y (b.ls.map lD)
def jk(b:Bd)(a:UE):List (Key×D):=a.map fun x=>(.inr x,.fz ((j8 b x).map D.str))
def bQ(u t:Int):Prop:=1<=u/\u<=10^50+3/\1<=t/\t<=10^40
structure OE(gs:List Gd)(u t:Int):Prop where
 c1:∀g∈gs,∀p∈g.cv,p.1<=46*u
 c2:∀g∈gs,∀p∈g.cv,p.2<=15*t
 de:∀g∈gs,g.de<=3*t
 wa:∀g∈gs,g.wa<=2*t
structure OW(ls:List Ld)(u t:Int):Prop where
 la:∀l∈ls,l.la<=3*u
 cs:∀l∈ls,∀p∈l.cs,p.1<=3*t/\p.2<=11*u
structure PD(b:Bd)(u t:Int):Prop where
 g8:b.gs.length<=8
 l8:b.ls.length<=8
 c1:∀g∈b.gs,∀p∈g.cv,p.1<=70*u
 c2:∀g∈b.gs,∀p∈g.cv,p.2<=15*t
 de:∀g∈b.gs,g.de<=3*t
 wa:∀g∈b.gs,g.wa<=2*t
 ls:OW b.ls u t
def pj(g:Gd)(n:Int):Gd:={ g with cv:=g.cv.map fun p=>(p.1+n,p.2) }
def aJ:Cp:=fun ds Q=>∃(q:D) (b:Bd),ds=[q]/\Pk q b/\o3 b/\Q (.dic (jk b (y7 b++O7 b)))
def S0:Cm:=fun ds Q=>∃(c d k u t:Int),ds=[feed c d k,.int u,.int t]/\0<=k/\k<=10^6/\bQ u t/\∀(cv:List Pr) (d' a:Int),T9 cv->(∀p∈cv,p.1<=46*u)->(∀p∈cv,p.2<=15*t)->k<=a->a<=k+50->Q (jO cv) (feed c d' a)
def Y9:Cp:=fun ds Q=>∃(g:Gd) (n:Int),ds=[gD g,.int n]/\g.cv.length<=5/\Q (gD (pj g n))
def Y4:Cp:=fun ds Q=>∃(q:D) (b:Bd),ds=[q]/\Pk q b/\o3 b/\Q (.dic (o5 b (r8 b)))
def N0:Cp:=fun ds Q=>∃(d:D) (ns:UH) (xs:UE) (u t:Int),ds=[d,jE xs,.int u,.int t]/\Jk d ns/\1<=xs.length/\xs.length<=8/\xs.Nodup/\bQ u t/\∀gs:List Gd,gs.map (·.nm)=xs->EJ gs->(∀g∈gs,T9 g.cv)->(∀g∈gs,0<=g.de)->(∀g∈gs,0<=g.wa)->OE gs u t->Q (.lst (gs.map gD))
def R1:Cp:=fun ds Q=>∃(d:D) (ns:UH) (xs:UE) (gs:List Gd) (u t:Int),ds=[d,jE xs,.lst (gs.map gD),.int u,.int t]/\Jk d ns/\1<=gs.length/\gs.length<=8/\xs.length<=8/\bQ u t/\∀ls:List Ld,ls.map (·.nm)=xs->(∀l∈ls,l.cs.length<=4)->(∀l∈ls,∀p∈l.cs,1<=p.1/\0<=p.2)->(∀l∈ls,0<=l.la)->(∀l∈ls,∃g∈gs,g.nm=l.at_)->OW ls u t->Q (.lst (ls.map lD))
def R7:Cp:=fun ds Q=>∃(d:D) (ns:UH) (u t:Int),ds=[d,.int u,.int t]/\Jk d ns/\bQ u t/\∀b:Bd,o3 b->PD b u t->Q (bD b)
def BW(b:Bd)(x:Str):Gd:=(b.gs.find? fun g=>decide (g.nm=x)).getD ⟨x,none,[],0,0⟩
def cR(b:Bd)(x:Str):Bool:=b.ls.any fun l=>decide (l.nm=x)&&!l.on
def M8(b:Bd)(x:Str):List (Gd×Int):=bif cR b x then[] else(j8 b x).map fun y=>(BW b y,r8 b y)
def jj(ps:List (Gd×Int)):D:=.lst (ps.map fun r=>.tup [gD r.1,.int r.2])
structure qR(ps:List (Gd×Int)):Prop where
 len:ps.length<=16
 cv:∀r∈ps,T9 r.1.cv
def ai(cv:List Pr)(n:Int):Option Int:=((cv.filter fun p=>decide (p.1<=n)).getLast?).map (·.2)
def S6:Option Int->D
 | none=>.o8
 | some n=>.int n
structure xw(ps:List (Gd×Int))(m:Int)(ls:UH):Prop where
 up:ls.Pairwise (·<·)
 mem:∀x,x∈ls ↔ x=1\/∃r∈ps,∃s∈r.1.cv,x=s.1-r.2/\x<=m
def cy:Cp:=fun ds Q=>∃(b:Bd),ds=[bD b]/\o3 b/\Q (uQ (F0 b (r8 b)))
def hZ:Cp:=fun ds Q=>∃(b:Bd) (x:Str),ds=[bD b,.str x]/\o3 b/\x∈y7 b++O7 b/\Q (jj (M8 b x))
def Z2:Cp:=fun ds Q=>∃(ps:List (Gd×Int)) (i n:Int),ds=[jj ps,.int i,.int n]/\qR ps/\0<=i/\i<ps.length/\∀r,ps[i.toNat]?=some r->Q (S6 (ai r.1.cv (r.2+n)))
def J9:Cp:=fun ds Q=>∃(b:Bd),ds=[bD b]/\o3 b/\F0 b (r8 b)=[]/\Q (.dic (o5 b (r8 b)))
def bZ:Cp:=fun ds Q=>∃(b:Bd) (x:Str),ds=[bD b,.str x]/\o3 b/\x∈y7 b++O7 b/\F0 b (r8 b)=[]/\Q (jj (M8 b x))
def fK(cv:List Pr)(n:Int):Int:=(cv.filter fun p=>decide (p.1<=n)).length
def sZ:Cp:=fun ds Q=>∃(cv:List Pr) (n:Int),ds=[.tup (cv.map pr),.int n]/\T9 cv/\Q (.int (fK cv n))
def S3:Cp:=fun ds Q=>∃(cv:List Pr) (n:Int),ds=[.tup (cv.map pr),.int n]/\T9 cv/\Q (S6 (ai cv n))
def Z3:Cp:=fun ds Q=>∃(ps:List (Gd×Int)) (m:Int),ds=[jj ps,.int m]/\qR ps/\ps.length<=8/\∀ls:UH,xw ps m ls->Q (.lst (ls.map D.int))
def G3(r:Gd×Int)(n:Int)(a:Bool):Option Int:=(ai r.1.cv (r.2+n)).map fun t=>bif a then t+r.1.wa else t
def w5(n:Int):Bool->List (Gd×Int)->List (Option Int)
 | _,[]=>[]
 | a,r::b=>G3 r n a::w5 n (ai r.1.cv (r.2+n)).isSome b
def S1:Cp:=fun ds Q=>∃(ps:List (Gd×Int)) (n:Int),ds=[jj ps,.int n]/\qR ps/\Q (.lst ((w5 n false ps).map S6))
def Mx:i9:=(y8 (cq eI (e7 (kU [none,some 1] (J4 (d8 0)) (g1 0) (uT (p9 Aj (g7 (d8 0) (uC (.int 0))) (d8 1))) (A4 (d8 0))) j4)))
def jt:i9:=(y8 (uC .o8))
def sI:i9:=(y8 (A4 (g7 (g7 (d8 0) (p9 aa (d8 2) (uC (.int 1)))) (uC (.int 1)))))
def sT:i9:=(g9 (ib (tP (uT (p9 (dF false) (d8 2) (uC (.int 0))))) jt J0) sI)
def nP:i9:=(g9 (u4 2 (o7 sZ (e7 (d8 0) (e7 (d8 1) j4)))) sT)
def yG:i9:=(y8 (cq pP (e7 (p9 t9 (aj (e7 (uC (.int 1)) j4)) (kU [none,some 1] (J4 (d8 2)) (g1 0) (uT (p9 Aj (d8 0) (d8 1))) (A4 (d8 0)))) j4)))
def wJ:i9:=(g9 (u4 2 (Nc [none,none,none] (J4 (d8 0)) (gT (E7 (g1 0) (E7 (g1 1) cK))) T6 (tupI (g7 (d8 0) (uC (.int 2)))) (g1 2) T6 (p9 aa (g7 (d8 2) (uC (.int 0))) (d8 1)))) yG)
def jr:i9:=(HI 6 (fun i j=>i+j) (g7 (d8 4) (uC (.int 4))))
def U8:i9:=(aU (jc 2 (mP (A4 (d8 6)))))
def jM:i9:=(g9 (ib (tP (tI (uT (p9 (Y1 true) (d8 6) (uC .o8))) (tI (uT (p9 Kr (d8 3) (uC (.int 0)))) (uT (p9 (Y1 true) (g7 (d8 2) (p9 aa (d8 3) (uC (.int 1)))) (uC .o8)))))) jr J0) U8)
def ju:i9:=(g9 (u4 6 (o7 S3 (e7 (g7 (d8 4) (uC (.int 2))) (e7 (p9 t9 (d8 5) (d8 1)) j4)))) jM)
def rN:i9:=(y8 (d8 2))
def tU:i9:=(g9 (Y0 (iP (Nd (d8 0))) (gT (E7 (g1 3) (E7 (gT (E7 (g1 4) (E7 (g1 5) cK))) cK))) ju) rN)
def qN:i9:=(g9 (u4 2 (aj j4)) tU)
def qe:i9:=(y8 (kU [none] (J4 (d8 0)) (g1 0) T6 (A4 (g7 (d8 0) (uC (.int 0))))))
def nj:i9:=(u4 1 (g7 (d8 2) (d8 1)))
def qv:i9:=(g9 (aU (jc 4 (mP (A4 (d8 1))))) nj)
def CW:i9:=(y8 (d8 4))
def za:i9:=(g9 (Aa (tP (uT (p9 (Y1 true) (d8 1) (uC .o8)))) qv) CW)
def qf:i9:=(g9 (u4 4 (aj j4)) za)
def CI:i9:=(g9 (u4 2 (Iw [none] (J4 (d8 0)) (g1 0) T6 (g7 (d8 0) (uC (.int 0))) (g7 (d8 0) (uC (.int 1))))) qf)
def kZ:i9:=(y8 (o7 O8 (e7 (g7 (d8 0) (uC (.int 0))) j4)))
def om:i9:=(y8 (o7 O8 (e7 (g7 (d8 0) (uC (.int 1))) j4)))
def ko:i9:=(y8 (GO (cq JQ (e7 (d8 1) (e7 (uC (.ty "str")) j4))) (p9 (oo false) (d8 1) (o7 K5 (e7 (d8 0) j4)))))
def qE:i9:=(y8 (GO (cq JQ (e7 (d8 1) (e7 (uC (.ty "str")) j4))) (p9 (oo false) (d8 1) (o7 S5 (e7 (d8 0) j4)))))
def lp:i9:=(y8 (OK (o7 O0 (e7 (d8 0) (e7 (d8 1) j4))) (o7 R6 (e7 (d8 0) (e7 (d8 1) j4)))))
def gB(W:Str->Prop):i9:=(Ca W "NoPlace" (e7 (uC (.str "no such place")) j4))
def Em(W:Str->Prop):i9:=(y8 (o7 cm (e7 (g7 (d8 0) (uC (.int 0))) (e7 (hW (d8 2) (d8 1) (d8 1)) j4))))
def Fp(W:Str->Prop):i9:=(g9 (u4 2 (Iw [none] (J4 (g7 (d8 0) (uC (.int 1)))) (g1 0) T6 (g7 (d8 0) (uC (.int 0))) (g7 (d8 0) (uC (.int 1))))) (Em W))
def Hk(W:Str->Prop):i9:=(g9 (ib (tP (Dl (tE (o7 N8 (e7 (d8 0) (e7 (d8 1) j4)))))) (gB W) J0) (Fp W))
def nJ:i9:=(y8 (A4 (g7 (d8 2) (uC (.int 0)))))
def pA:i9:=(ib (tP (uT (p9 OO (g7 (d8 1) (g7 (d8 2) (uC (.int 0)))) (g7 (g7 (g7 (d8 2) (uC (.int 2))) (uC (.int 0))) (uC (.int 0)))))) nJ J0)
def Cb:i9:=(y8 (uC .o8))
def zg:i9:=(g9 (Y0 (iP (J4 (g7 (d8 0) (uC (.int 0))))) (g1 2) pA) Cb)
def AX:i9:=(g9 (u4 1 (o7 Y4 (e7 (d8 0) j4))) zg)
def va:i9:=(y8 (aj j4))
def tN:i9:=(ib (tP (tI (uT (p9 (dF false) (g7 (d8 4) (uC (.int 0))) (d8 1))) (Dl (tE (g7 (d8 4) (uC (.int 4))))))) va J0)
def vq:i9:=(y8 (kU [none,some 2,some 3] (J4 (g7 (o7 aJ (e7 (d8 0) j4)) (d8 1))) (g1 0) T6 (bL (e7 (A4 (g7 (d8 1) (d8 0))) (e7 (A4 (g7 (d8 2) (d8 0))) j4)))))
def Ft:i9:=(g9 (Y0 (iP (J4 (g7 (d8 0) (uC (.int 1))))) (g1 4) tN) vq)
def ED:i9:=(g9 (u4 3 (o7 Y4 (e7 (d8 0) j4))) Ft)
def HK:i9:=(g9 (u4 2 (cq uz (e7 (kU [none] (J4 (g7 (d8 0) (uC (.int 0)))) (g1 0) T6 (bL (e7 (A4 (g7 (d8 0) (uC (.int 0)))) (e7 (A4 (d8 0)) j4)))) j4))) ED)
def qg:i9:=(y8 (uC .o8))
def zT:i9:=(y8 (A4 (g7 (d8 5) (Ny Ed (uC (.int 1))))))
def AZ:i9:=(g9 (ib (tP (uT (p9 (dF false) (cq eI (e7 (d8 5) j4)) (uC (.int 0))))) qg J0) zT)
def Bb:i9:=(g9 (u4 5 (kU [none,some 4,some 2] (J4 (g7 (d8 3) (uC (.int 2)))) (g1 0) (uT (p9 Aj (g7 (d8 0) (uC (.int 0))) (p9 t9 (d8 1) (d8 2)))) (A4 (g7 (d8 0) (uC (.int 1)))))) AZ)
def Dj:i9:=(g9 (MG (gT (E7 (g1 3) (E7 (g1 4) cK))) (g7 (d8 0) (d8 1))) Bb)
def fD:i9:=zf
def mO:i9:=(y8 (o7 eQ (e7 (d8 0) j4)))
def mK:i9:=(g9 (ib (tP (uT (p9 (Y1 true) (d8 1) (uC .o8)))) fD J0) mO)
def gY:i9:=(g9 (u4 1 (o7 cu (e7 (d8 0) j4))) mK)
def oX:i9:=(y8 (aj j4))
def Cc:i9:=(y8 (kU [none,some 4,some 3] (J4 (d8 2)) (g1 0) T6 (bL (e7 (A4 (g7 (d8 1) (d8 0))) (e7 (A4 (g7 (d8 2) (d8 0))) j4)))))
def Al:i9:=(g9 (u4 4 (Iw [none] (J4 (g7 (d8 0) (uC (.int 0)))) (g1 0) T6 (g7 (d8 0) (uC (.int 0))) (d8 0))) Cc)
def CG:i9:=(g9 (ib (tP (uT (p9 (oo false) (d8 1) (kU [none] (J4 (g7 (d8 0) (uC (.int 1)))) (g1 0) (Dl (tE (g7 (d8 0) (uC (.int 4))))) (A4 (g7 (d8 0) (uC (.int 0)))))))) oX J0) Al)
def zY:i9:=(g9 (u4 3 (o7 J9 (e7 (d8 0) j4))) CG)
def Df:i9:=(g9 (u4 2 (o7 (calm eX) (e7 (d8 0) (e7 (d8 1) j4)))) zY)
def M5(ps:List (Gd×Int))(n:Int)(j:Nat):Option Int:=(ps[j]?).bind fun r=>ai r.1.cv (r.2+n)
def B4(ps:List (Gd×Int))(i:Nat)(n:Int):Option Int:=match M5 ps n 0,M5 ps n i,ps[i]? with
 | some a,some b,some r=>some (a-(bif (M5 ps n (i-1)).isSome then b+r.1.wa else b)+1)
 | _,_,_=>none
def u7(ps:List (Gd×Int))(i:Nat)(o:Option (Int×Int))(low:Int):Option (Int×Int):=match B4 ps i low with
 | none=>o
 | some k=>match o with
  | none=>some (k,low)
  | some (k0,a)=>if k0<k then some (k,low) else some (k0,a)
open Classical in
def bF(ps:List (Gd×Int))(m:Int):UH:=if h:∃l,xw ps m l then h.choose else[]
def U4(ps:List (Gd×Int))(i:Nat)(m:Int):Option (Int×Int):=(bF ps m).foldl (u7 ps i) none
def Dh:Option (Int×Int)->D
 | none=>.o8
 | some (k,l)=>.tup [.int k,.int l]
def ie:Cp:=fun ds Q=>∃(ps:List (Gd×Int)) (i:Nat) (n:Int),ds=[jj ps,.int i,.int n]/\qR ps/\1<=i/\i<ps.length/\Q (S6 (B4 ps i n))
def C4:Cp:=fun ds Q=>∃(ps:List (Gd×Int)) (i:Nat) (m:Int),ds=[jj ps,.int i,.int m]/\qR ps/\ps.length<=8/\1<=i/\i<ps.length/\Q (Dh (U4 ps i m))
def A5(b:Bd)(x:Str)(o:Option (Int×Int))(i:Nat):List D:=match o,(M8 b x)[i]? with
 | some (k,l),some r=>[.tup [.str x,.str r.1.nm,.int k,.int l]]
 | _,_=>[]
def p5(b:Bd)(m:Int)(x:Str):List D:=(List.range ((M8 b x).length-1)).flatMap fun k=>A5 b x (U4 (M8 b x) (1+k) m) (1+k)
def S9:Cp:=fun ds Q=>∃(b:Bd) (m:Int),ds=[bD b,.int m]/\o3 b/\b.gs.length<=8/\F0 b (r8 b)=[]/\Q (.lst ((y7 b).flatMap (p5 b m)))
def cb:Cp:=fun ds Q=>∃(b:Bd) (x:Str) (m:Int),ds=[bD b,.str x,.int m]/\o3 b/\x∈y7 b/\F0 b (r8 b)=[]/\1<=m/\m<=1000/\Q (.lst (p5 b m x))
def bX:Cp:=fun ds Q=>∃(d:D) (ns:UH),ds=[d]/\Jk d ns/\ns.length<=63/\Q (.bl true)
def bR:i9:=(u4 3 (bL (e7 (A4 (d8 6)) (e7 (A4 (d8 4)) j4))))
def bM:i9:=(ib (tP (OZ (uT (p9 (Y1 false) (d8 3) (uC .o8))) (uT (p9 Kr (d8 6) (g7 (d8 3) (uC (.int 0))))))) bR J0)
def cz:i9:=(g9 (u4 6 (p9 t9 (p9 aa (g7 (d8 5) (uC (.int 0))) (g7 (d8 5) (d8 1))) (uC (.int 1)))) bM)
def bK:i9:=(ib (tP (tI (uT (p9 (Y1 true) (g7 (d8 5) (uC (.int 0))) (uC .o8))) (uT (p9 (Y1 true) (g7 (d8 5) (d8 1)) (uC .o8))))) cz J0)
def bP:i9:=(g9 (u4 5 (o7 S1 (e7 (d8 0) (e7 (d8 4) j4)))) bK)
def fF:i9:=(y8 (A4 (d8 3)))
def fJ:i9:=(g9 (Y0 (iP (J4 (o7 Z3 (e7 (d8 0) (e7 (d8 2) j4))))) (g1 4) bP) fF)
def bC:i9:=(g9 (u4 3 (uC .o8)) fJ)
def jL:i9:=(aU (jc 2 (mP (bL (e7 (A4 (d8 3)) (e7 (A4 (g7 (g7 (g7 (d8 4) (d8 5)) (uC (.int 0))) (uC (.int 0)))) (e7 (A4 (g7 (d8 6) (uC (.int 0)))) (e7 (A4 (g7 (d8 6) (uC (.int 1)))) j4))))))))
def jn:i9:=(ib (tP (uT (p9 (Y1 true) (d8 6) (uC .o8)))) jL J0)
def jx:i9:=(g9 (u4 6 (o7 C4 (e7 (d8 4) (e7 (d8 5) (e7 (d8 1) j4))))) jn)
def jz:i9:=(Y0 (iP (vm (e7 (uC (.int 1)) (e7 (cq eI (e7 (d8 4) j4)) j4)))) (g1 5) jx)
def jm:i9:=(g9 (u4 4 (o7 bZ (e7 (d8 0) (e7 (d8 3) j4)))) jz)
def vf:i9:=(y8 (d8 2))
def rJ:i9:=(g9 (Y0 (iP (J4 (o7 K5 (e7 (d8 0) j4)))) (g1 3) jm) vf)
def og:i9:=(g9 (u4 2 (aj j4)) rJ)
def tG:i9:=(y8 (uC .o8))
def uG:i9:=(u4 4 (p9 t9 (d8 4) (g7 (g7 (g7 (d8 0) (d8 1)) (uC (.int 0))) (uC (.int 4)))))
def Fc:i9:=(y8 (p9 t9 (p9 aa (d8 3) (d8 4)) (uC (.int 1))))
def Ea:i9:=(g9 (ib (tP (uT (p9 (Y1 true) (o7 Z2 (e7 (d8 0) (e7 (p9 aa (d8 1) (uC (.int 1))) (e7 (d8 2) j4)))) (uC .o8)))) uG J0) Fc)
def Ep:i9:=(g9 (ib (tP (OZ (uT (p9 (Y1 false) (d8 3) (uC .o8))) (uT (p9 (Y1 false) (d8 4) (uC .o8))))) tG J0) Ea)
def Gk:i9:=(g9 (u4 4 (o7 Z2 (e7 (d8 0) (e7 (d8 1) (e7 (d8 2) j4))))) Ep)
def HC:i9:=(g9 (u4 3 (o7 Z2 (e7 (d8 0) (e7 (uC (.int 0)) (e7 (d8 2) j4))))) Gk)
def nR:i9:=(u4 4 (kU [none,some 2,some 3] (eY (d8 1)) (g1 0) T6 (p9 G9 (g7 (d8 1) (p9 je (p9 t9 (d8 2) (d8 0)) (uC (.int 26)))) (p9 t9 (uC (.int 1)) (p9 FR (d8 0) (uC (.int 26)))))))
def nV:i9:=(aU (jc 4 (mP (p9 t9 (yZ (uC (.str "")) (kU [none,some 2] (J4 (d8 11)) (g1 0) T6 (A4 (g7 (d8 1) (d8 0))))) (p9 G9 (g7 (d8 2) (d8 3)) (p9 G9 (d8 9) (p9 je (d8 10) (uC (.int 2)))))))))
def pT:i9:=(g9 (yd 11 (mP (p9 je (p9 t9 (g7 (d8 6) (d8 8)) (p9 FR (d8 10) (uC (.int 26)))) (uC (.int 26)))) (mP (d8 8))) nV)
def qi:i9:=(g9 (yd 11 (mP (p9 je (p9 t9 (g7 (d8 6) (d8 7)) (d8 10)) (uC (.int 26)))) (mP (d8 7))) pT)
def pz:i9:=(g9 (u4 11 (cq HM (e7 (d8 6) j4))) qi)
def qx:i9:=(Y0 (iP (eY (d8 1))) (g1 10) pz)
def oi:i9:=(g9 (u4 4 (aj j4)) qx)
def pK:i9:=(g9 (L0 9 (bq G9 (A6 0 y4 (o6 (mP (uC (.int 2))) C7)) (mP (cq oN (e7 (p9 PK (d8 5) (uC (.int 8))) j4))))) oi)
def qD:i9:=(g9 (L0 8 (bq je (bq t9 (mP (p9 t9 (d8 7) (uC (.int 1)))) (A6 0 y4 (o6 (mP (p9 aa (d8 5) (uC (.int 1)))) C7))) (mP (d8 5)))) pK)
def oZ:i9:=(g9 (L0 7 (A6 0 y4 (o6 (mP (d8 5)) C7))) qD)
def nO:i9:=(g9 (L0 6 (Pc 1 0 [none,some 0] (iP (eY (d8 5))) (g1 0) MM (A6 1 y4 (o6 (mP (uC (.int 26))) C7)))) oZ)
def rg:i9:=(g9 (L0 5 (bq t9 (mP (uC (.int 2))) (A6 0 y4 (o6 (mP (uC (.int 7))) C7)))) nO)
def nM:i9:=(yd 4 (mP (A4 (d8 12))) (A6 0 y4 (o6 (mP (d8 1)) C7)))
def Ae:i9:=(y8 (d8 4))
def rA:i9:=(g9 (ib (tP (tI (uT (p9 (dF true) (d8 12) (uC (.str "")))) (uT (p9 (oo true) (d8 12) (d8 4))))) nM J0) Ae)
def oy:i9:=(g9 (L0 12 (Bq (uH (mP (aj (e7 (uC (.str "guard")) (e7 (uC (.str "load")) (e7 (uC (.str "on")) (e7 (uC (.str "off")) (e7 (uC (.str "board")) (e7 (uC (.str "map")) (e7 (uC (.str "least")) (e7 (uC (.str "")) (e7 (uC (.str "")) (e7 (uC (.str "")) (e7 (uC (.str "")) j4))))))))))))) (A6 0 y4 (o6 (mP (uC (.int 11))) C7))))) rA)
def zp:i9:=(g9 (ib (mT (bq (dF false) (A6 0 y4 (o6 (mP (uC (.int 5))) C7)) (mP (uC (.int 0))))) nR rg) oy)
def Cw:i9:=(g9 (L0 3 (A6 0 y4 (o6 (mP (uC (.int 26))) C7))) zp)
def BQ:i9:=(g9 (u4 2 (uC (.str "abcdefghijklmnopqrstuvwxyz"))) Cw)
def eU:i9:=(dG 1 (mP (JS (p9 zC (aj (e7 (A4 (g7 (d8 2) (uC (.int 0)))) j4)) (hW (d8 1) (g7 (d8 2) (uC (.int 1))) (JS (aj j4)))))) (mP (g7 (d8 2) (uC (.int 0)))))
def eR:i9:=(dG 1 (mP (A4 (g7 (d8 1) (g7 (d8 3) (uC (.int 1)))))) (mP (g7 (d8 3) (uC (.int 0)))))
def Bf:i9:=(y8 (d8 1))
def pw:i9:=(g9 (Y0 (iP (J4 (g7 (d8 0) (uC (.int 1))))) (g1 3) eR) Bf)
def CK:i9:=(g9 (Y0 (iP (J4 (g7 (d8 0) (uC (.int 0))))) (g1 2) eU) pw)
def BI:i9:=(g9 (u4 1 (uC (.dic []))) CK)
def jF:i9:=(aU (jc 5 (bq t9 (mP (p9 t9 (g7 (d8 5) (Ny Ed (uC (.int 1)))) (uC (.int 1)))) (A6 0 y4 (o6 (mP (uC (.int 3))) C7)))))
def jP:i9:=(g9 (aU (jc 4 (bq t9 (mP (p9 t9 (g7 (d8 4) (Ny Ed (uC (.int 1)))) (uC (.int 1)))) (A6 0 y4 (o6 (mP (uC (.int 9))) C7))))) jF)
def gM:i9:=(y8 (cq dR (e7 (kU [none,some 1,some 2,some 4,some 5,some 3] (eY (d8 3)) (g1 0) T6 (bL (e7 (p9 G9 (g7 (d8 3) (d8 0)) (d8 1)) (e7 (p9 G9 (g7 (d8 4) (p9 aa (p9 aa (d8 5) (uC (.int 1))) (d8 0))) (d8 2)) j4)))) j4)))
def sH:i9:=(g9 (Y0 (iP (eY (p9 aa (d8 3) (uC (.int 1))))) (g1 6) jP) gM)
def tF:i9:=(g9 (L0 5 (Ex (o6 (bq t9 (mP (uC (.int 1))) (A6 0 y4 (o6 (mP (uC (.int 3))) C7))) C7))) sH)
def sd:i9:=(g9 (L0 4 (Ex (o6 (bq t9 (mP (uC (.int 1))) (A6 0 y4 (o6 (mP (uC (.int 10))) C7))) C7))) tF)
def qT:i9:=(g9 (L0 3 (bq t9 (mP (uC (.int 1))) (A6 0 y4 (o6 (mP (uC (.int 5))) C7)))) sd)
def wL:i9:=(y8 (p9 t9 (p9 t9 (BH (d8 0) ql (pQ (uC (.int 2)))) (bL (e7 (cq dR (e7 (kU [none,some 1] (J4 (g7 (d8 0) (uC (.int 2)))) (g1 0) T6 (bL (e7 (p9 t9 (g7 (d8 0) (uC (.int 0))) (d8 1)) (e7 (A4 (g7 (d8 0) (uC (.int 1)))) j4)))) j4)) j4))) (BH (d8 0) (pQ (uC (.int 3))) ql)))
def oW:i9:=(dG 2 (mP (p9 t9 (g7 (d8 2) (d8 4)) (p9 G9 (g7 (d8 3) (uC (.int 3))) (cq oN (e7 (g7 (d8 3) (uC (.int 4))) j4))))) (mP (d8 4)))
def eO:i9:=(Y0 (iP (J4 (g7 (d8 1) (g7 (d8 3) (uC (.int 0)))))) (g1 4) oW)
def AQ:i9:=(y8 (d8 2))
def qX:i9:=(g9 (Y0 (iP (J4 (g7 (d8 0) (uC (.int 1))))) (g1 3) eO) AQ)
def Bh:i9:=(g9 (u4 2 (cq uz (e7 (kU [none] (J4 (g7 (d8 0) (uC (.int 0)))) (g1 0) T6 (bL (e7 (A4 (g7 (d8 0) (uC (.int 0)))) (e7 (uC (.int 0)) j4)))) j4))) qX)
def zE:i9:=(g9 (u4 1 (o7 aJ (e7 (d8 0) j4))) Bh)
def iq:i9:=(aU (jc 4 (Gy (o6 (mP (A4 (g7 (d8 1) (d8 5)))) (o6 (mP (g7 (p9 t9 (aj (e7 (uC .o8) j4)) (d8 1)) (d8 7))) (o6 (mP (A4 (d8 8))) (o6 (mP (A4 (d8 9))) (o6 (bq G9 (A6 6 y4 (o6 (mP (uC (.int 3))) C7)) (mP (d8 3))) C7))))))))
def gN:i9:=(g9 (L0 9 (bq G9 (A6 6 y4 (o6 (mP (uC (.int 4))) C7)) (mP (d8 3)))) iq)
def iL:i9:=(g9 (L0 8 (A6 6 S0 (o6 (mP (d8 2)) (o6 (mP (d8 3)) C7)))) gN)
def iZ:i9:=(g9 (L0 7 (Bq (uH (Ex (o6 (A6 6 y4 (o6 (mP (p9 t9 (d8 5) (uC (.int 1)))) C7)) (o6 (mP (A4 (d8 5))) C7))) (NY oN (o6 (bq Kr (A6 6 y4 (o6 (mP (uC (.int 3))) C7)) (mP (uC (.int 0)))) C7))))) iL)
def hU:i9:=(g9 (u4 6 (o7 aM (e7 (d8 0) (e7 (p9 t9 (uC (.int 2)) (d8 5)) j4)))) iZ)
def oF:i9:=(y8 (d8 4))
def pe:i9:=(g9 (Y0 (iP (eY (cq eI (e7 (d8 1) j4)))) (g1 5) hU) oF)
def kY:i9:=(g9 (u4 4 (aj j4)) pe)
def jG:i9:=(aU (jc 9 (Gy (o6 (bq G9 (bq t9 (mP (uC (.int 1))) (A6 7 y4 (o6 (mP (uC (.int 3))) C7))) (mP (d8 4))) (o6 (bq G9 (A6 7 y4 (o6 (mP (uC (.int 12))) C7)) (mP (d8 3))) C7)))))
def jD:i9:=(aU (jc 5 (Gy (o6 (mP (A4 (g7 (d8 1) (d8 6)))) (o6 (mP (A4 (d8 8))) (o6 (mP (cq dR (e7 (d8 9) j4))) (o6 (bq G9 (A6 7 y4 (o6 (mP (uC (.int 4))) C7)) (mP (d8 3))) (o6 (bq Kr (A6 7 y4 (o6 (mP (uC (.int 4))) C7)) (mP (uC (.int 0)))) C7))))))))
def jB:i9:=(g9 (Y0 (Lv (A6 7 y4 (o6 (mP (uC (.int 5))) C7))) (g1 10) jG) jD)
def jq:i9:=(g9 (u4 9 (aj j4)) jB)
def jQ:i9:=(g9 (L0 8 (Bq (uH (uH (mP (d8 2)) (A6 7 y4 (o6 (mP (cq eI (e7 (d8 2) j4))) C7))) (mP (uC (.int 0)))))) jq)
def jH:i9:=(g9 (u4 7 (o7 aM (e7 (d8 0) (e7 (p9 t9 (uC (.int 10)) (d8 6)) j4)))) jQ)
def tB:i9:=(y8 (d8 5))
def uJ:i9:=(g9 (Y0 (iP (eY (cq eI (e7 (d8 1) j4)))) (g1 6) jH) tB)
def qM:i9:=(g9 (u4 5 (aj j4)) uJ)
def jI:i9:=(u4 6 (kU [none,some 8] (J4 (d8 6)) (g1 0) T6 (o7 Y9 (e7 (d8 0) (e7 (g7 (d8 1) (g7 (d8 0) (uC (.int 0)))) j4)))))
def ip:i9:=(y8 (bL (e7 (cq dR (e7 (d8 6) j4)) (e7 (cq dR (e7 (d8 7) j4)) j4))))
def sS:i9:=(g9 (ib (mT (bq Kr (A6 3 y4 (o6 (mP (uC (.int 8))) C7)) (mP (uC (.int 0))))) jI J0) ip)
def sM:i9:=(g9 (u4 8 (o7 Y4 (e7 (bL (e7 (d8 6) (e7 (d8 7) j4))) j4))) sS)
def vc:i9:=(g9 (u4 7 (o7 R1 (e7 (d8 0) (e7 (BH (d8 5) (pQ (d8 4)) ql) (e7 (d8 6) (e7 (d8 1) (e7 (d8 2) j4))))))) sM)
def sV:i9:=(g9 (u4 6 (o7 N0 (e7 (d8 0) (e7 (BH (d8 5) ql (pQ (d8 4))) (e7 (d8 1) (e7 (d8 2) j4)))))) vc)
def sG:i9:=(g9 (L0 5 (zj bV (mP (o7 aM (e7 (d8 0) (e7 (uC (.int 1)) j4)))) (o6 (bq t9 (mP (d8 4)) (A6 3 y4 (o6 (mP (uC (.int 9))) C7))) C7))) sV)
def rG:i9:=(g9 (L0 4 (bq t9 (mP (uC (.int 1))) (A6 3 y4 (o6 (mP (uC (.int 8))) C7)))) sG)
def nQ:i9:=(g9 (u4 3 (o7 aM (e7 (d8 0) (e7 (uC (.int 0)) j4)))) rG)
def qj:i9:=(aU (jc 4 (mP (bL (e7 (A4 (d8 1)) (e7 (A4 (g7 (g7 (g7 (d8 3) (d8 5)) (uC (.int 0))) (uC (.int 0)))) (e7 (A4 (g7 (d8 7) (uC (.int 0)))) (e7 (p9 aa (uC (.int 0)) (g7 (d8 7) (uC (.int 1)))) j4))))))))
def nY:i9:=(g9 (u4 7 (cq GX (e7 (d8 6) j4))) qj)
def qB:i9:=(ib (tP (uT (p9 Kr (cq eI (e7 (d8 6) j4)) (uC (.int 0))))) nY J0)
def qo:i9:=(g9 (u4 6 (kU [none] (J4 (d8 6)) (g1 0) (uT (p9 (Y1 true) (g7 (d8 0) (uC (.int 0))) (uC .o8))) (A4 (d8 0)))) qB)
def qt:i9:=(g9 (u4 6 (kU [none,some 3,some 5] (vm (e7 (uC (.int 1)) (e7 (p9 t9 (d8 2) (uC (.int 1))) j4))) (g1 0) T6 (bL (e7 (o7 ie (e7 (d8 1) (e7 (d8 2) (e7 (d8 0) j4)))) (e7 (p9 aa (uC (.int 0)) (d8 0)) j4))))) qo)
def zK:i9:=(y8 (d8 4))
def zG:i9:=(g9 (Y0 (iP (vm (e7 (uC (.int 1)) (e7 (cq eI (e7 (d8 3) j4)) j4)))) (g1 5) qt) zK)
def Cg:i9:=(g9 (u4 4 (aj j4)) zG)
def zq:i9:=(g9 (u4 3 (o7 hZ (e7 (d8 0) (e7 (d8 1) j4)))) Cg)
def pH:i9:=(y8 (uC (.bl true)))
def AB:i9:=(y8 (p9 (dF false) (kU [none,some 3] (J4 (o7 S9 (e7 (d8 1) (e7 (d8 4) j4)))) (g1 0) (uT (p9 (dF false) (g7 (d8 0) (uC (.int 0))) (d8 1))) (A4 (d8 0))) (o7 cb (e7 (d8 1) (e7 (d8 3) (e7 (d8 4) j4))))))
def zJ:i9:=(g9 (L0 4 (bq t9 (mP (uC (.int 1))) (A6 2 y4 (o6 (mP (uC (.int 40))) C7)))) AB)
def BP:i9:=(g9 (L0 3 (Bq (uH (uH (mP (g7 (d8 1) (uC (.int 0)))) (bq aa (mP (p9 aa (cq eI (e7 (g7 (d8 1) (uC (.int 0))) j4)) (uC (.int 1)))) (A6 2 y4 (o6 (mP (cq (NQ fun i j=>if j<i then j else i) (e7 (uC (.int 3)) (e7 (cq eI (e7 (g7 (d8 1) (uC (.int 0))) j4)) j4)))) C7)))) (mP (uC (.int 0)))))) zJ)
def AL:i9:=(g9 (u4 2 (o7 aM (e7 (d8 0) (e7 (uC (.int 18)) j4)))) BP)
def yX:i9:=(g9 (ib (tP (uT (p9 (Y1 true) (o7 cy (e7 (d8 1) j4)) (uC .o8)))) pH J0) AL)
def Af:i9:=(g9 (u4 1 (o7 R7 (e7 (d8 0) (e7 (uC (.int 1)) (e7 (uC (.int 1)) j4))))) yX)
def top(i:Nat):Stmt:=PySem.Challenge.pw_fuseboard_k49_pairs_by_each_greatness.main.body.getD i (.Pass ⟨0,0,0,0⟩)
abbrev X7:Stmt:=top 1
abbrev uW:Stmt:=top 2
abbrev X3:Stmt:=top 3
abbrev S8:Stmt:=top 9
abbrev Q8:Stmt:=top 10
abbrev V6:Stmt:=top 11
abbrev R0:Stmt:=top 12
abbrev X1:Stmt:=top 13
abbrev Q9:Stmt:=top 14
abbrev cA:Stmt:=top 15
abbrev gP:Stmt:=top 16
abbrev N3:Stmt:=top 18
abbrev N4:Stmt:=top 20
abbrev dI:Stmt:=top 19
abbrev gX:Stmt:=top 21
abbrev cw:Stmt:=top 22
abbrev dQ:Stmt:=top 23
abbrev M9:Stmt:=top 24
abbrev Z9:Stmt:=top 26
abbrev U5:Stmt:=top 27
abbrev W6:Stmt:=top 28
abbrev D0:Stmt:=top 31
abbrev W2:Stmt:=top 30
abbrev aW:Stmt:=top 33
abbrev lA:Stmt:=top 34
abbrev lq:Stmt:=top 35
abbrev Z1:Stmt:=top 36
abbrev eD:Stmt:=top 37
abbrev T3:Stmt:=top 38
abbrev Z5:Stmt:=top 39
abbrev bO:Stmt:=top 40
abbrev Q7:Stmt:=top 41
abbrev V7:Stmt:=top 42
abbrev T4:Stmt:=top 43
abbrev fw:Stmt:=top 44
abbrev eh:Stmt:=top 47
abbrev cF:Stmt:=top 49
abbrev kM:Stmt:=top 50
abbrev av:Stmt:=top 51
abbrev V2:Stmt:=top 52
abbrev Mv(P:Program)(w:World)(K:UP)(mg:UK)(base:Heap)(f:Addr)(a:FuncData):=V5 P w K mg base "met" 1 ["curve","draw"] (D1 K sZ) f a
abbrev gL(P:Program)(w:World)(K:UP)(mg:UK)(base:Heap)(f:Addr)(a:FuncData):=V5 P w K mg base "names_of" 1 ["rows"] (D1 K O8) f a
abbrev dD(P:Program)(w:World)(K:UP)(mg:UK)(base:Heap)(f:Addr)(a:FuncData):=V5 P w K mg base "guards_of" 2 ["board"] (D1 K K5) f a
abbrev nK(P:Program)(w:World)(K:UP)(mg:UK)(base:Heap)(f:Addr)(a:FuncData):=V5 P w K mg base "loads_of" 2 ["board"] (D1 K S5) f a
abbrev ku(P:Program)(w:World)(K:UP)(mg:UK)(base:Heap)(f:Addr)(a:FuncData):=V5 P w K mg base "has_guard" 3 ["board","thing"] (D1 K O0) f a
abbrev oj(P:Program)(w:World)(K:UP)(mg:UK)(base:Heap)(f:Addr)(a:FuncData):=V5 P w K mg base "has_load" 3 ["board","thing"] (D1 K R6) f a
abbrev kR(P:Program)(w:World)(K:UP)(mg:UK)(base:Heap)(f:Addr)(a:FuncData):=V5 P w K mg base "has_place" 4 ["board","thing"] (D1 K N8) f a
abbrev Bc(P:Program)(w:World)(K:UP)(mg:UK)(base:Heap)(f:Addr)(a:FuncData):=V5 P w K mg base "climb" 1 ["guards","name"] (D1 K cm) f a
abbrev iI(P:Program)(w:World)(K:UP)(mg:UK)(base:Heap)(f:Addr)(a:FuncData):=V5 P w K mg base "fed_guards" 1 ["board","opened"] (D1 K K3) f a
abbrev lB(P:Program)(w:World)(K:UP)(mg:UK)(base:Heap)(f:Addr)(a:FuncData):=V5 P w K mg base "draws_fed" 1 ["board","lit","pulls"] (D1 K N2) f a
abbrev Ay(P:Program)(w:World)(K:UP)(mg:UK)(base:Heap)(f:Addr)(a:FuncData):=V5 P w K mg base "draws" 2 ["board","opened","pulls"] (D1 K cD) f a
abbrev oD(P:Program)(w:World)(K:UP)(mg:UK)(base:Heap)(f:Addr)(a:FuncData):=V5 P w K mg base "least_of" 1 ["curve"] (D1 K S2) f a
abbrev Ar(P:Program)(w:World)(K:UP)(mg:UK)(base:Heap)(f:Addr)(a:FuncData):=V5 P w K mg base "rest" 3 ["board"] (D1 K eQ) f a
abbrev zx(P:Program)(w:World)(K:UP)(mg:UK)(base:Heap)(f:Addr)(a:FuncData):=V5 P w K mg base "awake" 2 ["board","found"] (D1 K bJ) f a
abbrev Cd(P:Program)(w:World)(K:UP)(mg:UK)(base:Heap)(f:Addr)(a:FuncData):=V5 P w K mg base "loud" 4 ["board"] (D1 K cu) f a
abbrev gC(P:Program)(w:World)(K:UP)(mg:UK)(base:Heap)(f:Addr)(a:FuncData):=V5 P w K mg base "quiet_rest" 5 ["board"] (D1 K J9) f a
abbrev qL(P:Program)(w:World)(K:UP)(mg:UK)(base:Heap)(f:Addr)(a:FuncData):=V5 P w K mg base "turns_at" 2 ["curve","draw"] (D1 K S3) f a
abbrev vW(P:Program)(w:World)(K:UP)(mg:UK)(base:Heap)(f:Addr)(a:FuncData):=V5 P w K mg base "lows_of" 1 ["way","most"] (D1 K Z3) f a
abbrev qV(P:Program)(w:World)(K:UP)(mg:UK)(base:Heap)(f:Addr)(a:FuncData):=V5 P w K mg base "spans_of" 3 ["way","greatness"] (D1 K S1) f a
abbrev yV(P:Program)(w:World)(K:UP)(mg:UK)(base:Heap)(f:Addr)(a:FuncData):=V5 P w K mg base "way_of" 6 ["board","place"] (D1 K bZ) f a
abbrev bx(P:Program)(w:World)(K:UP)(mg:UK)(base:Heap)(f:Addr)(a:FuncData):=V5 P w K mg base "greatest_lack" 4 ["way","at","most"] (D1 K C4) f a
abbrev vY(P:Program)(w:World)(K:UP)(mg:UK)(base:Heap)(f:Addr)(a:FuncData):=V5 P w K mg base "_law_cell_at" 1 ["_law_script","_law_k"] (D1 K Y6) f a
abbrev ia(P:Program)(w:World)(K:UP)(mg:UK)(base:Heap)(f:Addr)(a:FuncData):=V5 P w K mg base "_law_take" 1 ["_law_feed_here","_law_many"] (AH K y4) f a
abbrev uX(P:Program)(w:World)(K:UP)(mg:UK)(base:Heap)(f:Addr)(a:FuncData):=V5 P w K mg base "_law_overs" 1 ["_law_board"] (D1 K aJ) f a
abbrev qJ(P:Program)(w:World)(K:UP)(mg:UK)(base:Heap)(f:Addr)(a:FuncData):=V5 P w K mg base "_law_feed" 2 ["_law_script","_law_k"] (D1 K aM) f a
abbrev nX(P:Program)(w:World)(K:UP)(mg:UK)(base:Heap)(f:Addr)(a:FuncData):=V5 P w K mg base "_law_small_curve" 2 ["_law_feed_here","_law_unit","_law_time"] (AH K S0) f a
abbrev Bp(P:Program)(w:World)(K:UP)(mg:UK)(base:Heap)(f:Addr)(a:FuncData):=V5 P w K mg base "_law_names" 2 ["_law_feed_here","_law_many"] (AH K bV) f a
abbrev vi(P:Program)(w:World)(K:UP)(mg:UK)(base:Heap)(f:Addr)(a:FuncData):=V5 P w K mg base "_law_lifted" 1 ["_law_guard","_law_more"] (D1 K Y9) f a
abbrev mB(P:Program)(w:World)(K:UP)(mg:UK)(base:Heap)(f:Addr)(a:FuncData):=V5 P w K mg base "_law_rest" 2 ["_law_board"] (D1 K Y4) f a
abbrev jS(P:Program)(w:World)(K:UP)(mg:UK)(base:Heap)(f:Addr)(a:FuncData):=V5 P w K mg base "_law_small_guards" 3 ["_law_script","_law_names_here","_law_unit","_law_time"] (D1 K N0) f a
abbrev pL(P:Program)(w:World)(K:UP)(mg:UK)(base:Heap)(f:Addr)(a:FuncData):=V5 P w K mg base "_law_small_loads" 3 ["_law_script","_law_names_here","_law_guards","_law_unit","_law_time"] (D1 K R1) f a
abbrev Au(P:Program)(w:World)(K:UP)(mg:UK)(base:Heap)(f:Addr)(a:FuncData):=V5 P w K mg base "_law_turns" 1 ["_law_path_here","_law_at","_law_greatness"] (D1 K Z2) f a
abbrev Hj(P:Program)(w:World)(K:UP)(mg:UK)(base:Heap)(f:Addr)(a:FuncData):=V5 P w K mg base "_law_path" 3 ["_law_board","_law_place"] (D1 K hZ) f a
abbrev Hx(P:Program)(w:World)(K:UP)(mg:UK)(base:Heap)(f:Addr)(a:FuncData):=V5 P w K mg base "_law_lack" 2 ["_law_path_here","_law_at","_law_greatness"] (D1 K ie) f a
abbrev rD(P:Program)(w:World)(K:UP)(mg:UK)(base:Heap)(f:Addr)(a:FuncData):=V5 P w K mg base "pairs_of" 7 ["board","most"] (D1 K S9) f a
abbrev pW(P:Program)(w:World)(K:UP)(mg:UK)(base:Heap)(f:Addr)(a:FuncData):=V5 P w K mg base "_law_small_board" 4 ["_law_script","_law_unit","_law_time"] (D1 K R7) f a
abbrev Ct(P:Program)(w:World)(K:UP)(mg:UK)(base:Heap)(f:Addr)(a:FuncData):=V5 P w K mg base "_law_loud" 3 ["_law_board"] (D1 K cy) f a
abbrev Cj(P:Program)(w:World)(K:UP)(mg:UK)(base:Heap)(f:Addr)(a:FuncData):=V5 P w K mg base "_law_due" 4 ["_law_board","_law_lower","_law_most"] (D1 K cb) f a
section
variable{P:Program}{w:World}{K:UP}{mg:UK}{base:Heap}
local macro_rules | `(tactic| walk_at "s") => `(tactic| exact ⟨rfl,rfl,rfl,by decide +kernel,rfl,by decide +kernel,by decide +kernel⟩)
theorem yu:i8 ["curve"] ["curve"] (e5 X7):=by walk_at "s"
theorem ym (F:P7 K "least_of" "least_of" X7 f c)
  (len:D6 S2 1) (b:au S2 nq 1):u6 P w K mg base P6 1 f c ["curve"] (D1 K S2):=
 aq (cl:=[.bor]) F yu rfl len (fun d A outer e H E a=>(Y2 rfl (w8 (PU.y1 (p7 a (p7 a (uv 0 rfl) d9) d9)) rfl))) b
theorem Mc:i8 ["curve","draw"] ["curve","draw"] (e5 uW):=by walk_at "s"
theorem Jv:(["step","draw"]:UE).Nodup:=by decide +kernel
theorem MI (F:P7 K "met" "met" uW f d) (a:mg "len"=none)
  (len:D6 sZ 2) (b:au sZ Mx 2):u6 P w K mg base P6 1 f d ["curve","draw"] (D1 K sZ):=
 aq (cl:=[.bor,.bor]) F Mc rfl len (fun e A outer g H E c=>(Y2 rfl (w8 (A8 G4 aS (by rfl) a QW (e6 (V9 (XN:=["curve","draw"]) (N:=["step","draw"]) (XS:=e5 uW) (cap:=[none,some 1]) (by decide +kernel) rfl rfl rfl rfl (u5 (uv 0 rfl)) (fun _ _ _ _=>(gn 0 Jv)) (fun _ _ _ _=>(ay (tW (p7 c (uv 0 rfl) d9) (uv 1 rfl) (o9 _)))) (fun _ _ _ _=>(PU.y1 (uv 0 rfl)))) g6 rfl)) rfl))) b
theorem km:i8 ["curve","draw","many"] ["curve","draw"] (e5 X3):=by walk_at "s"
theorem xM (F:P7 K "turns_at" "turns_at" X3 f g) (a:Mv P w K mg base d c)
  (len:D6 S3 2) (e:au S3 nP 3):u6 P w K mg base P6 2 f g ["curve","draw"] (D1 K S3):=
 aq (cl:=[.bor,.bor,.bor]) F km rfl len (fun h A outer i H E b=>(yP rfl (ss 2 km.nd (pc a b (e6 (uv 0 rfl) (e6 (uv 1 rfl) g6 rfl) rfl) rfl) rfl)
   (T5 (U3.m (lV b (uv 2 rfl) d9 (o9 _))) (Y2 rfl (w8 B6 rfl)) K6)
   (w8 (PU.y1 (p7 b (p7 b (uv 0 rfl) (N7 (uv 2 rfl) d9)) d9)) rfl))) e
theorem xa:i8 ["rows"] ["rows"] (e5 S8):=by walk_at "s"
theorem sh:(["row"]:UE).Nodup:=by decide +kernel
theorem xV (F:P7 K "names_of" "names_of" S8 f c)
  (len:D6 O8 1) (a:au O8 qe 1):u6 P w K mg base P6 1 f c ["rows"] (D1 K O8):=
 aq (cl:=[.bor]) F xa rfl len (fun d A outer e H E b=>(Y2 rfl (w8 (V9 (XN:=["rows"]) (N:=["row"]) (XS:=e5 S8) (cap:=[none]) (by decide +kernel) rfl rfl rfl rfl (u5 (uv 0 rfl)) (fun _ _ _ _=>(gn 0 sh)) (fun _ _ _ _=>G1) (fun _ _ _ _=>(PU.y1 (p7 b (uv 0 rfl) d9)))) rfl))) a
theorem tK:i8 ["board"] ["board"] (e5 Q8):=by walk_at "s"
theorem sD (F:P7 K "guards_of" "guards_of" Q8 f g) (a:gL P w K mg base c b)
  (len:D6 K5 1) (e:au K5 kZ 1):u6 P w K mg base P6 2 f g ["board"] (D1 K K5):=
 aq (cl:=[.bor]) F tK rfl len (fun h A outer i H E d=>(Y2 rfl (w8 (pc a d (e6 (p7 d (uv 0 rfl) d9) g6 rfl) rfl) rfl))) e
theorem xP:i8 ["board"] ["board"] (e5 V6):=by walk_at "s"
theorem xA (F:P7 K "loads_of" "loads_of" V6 f g) (a:gL P w K mg base c b)
  (len:D6 S5 1) (e:au S5 om 1):u6 P w K mg base P6 2 f g ["board"] (D1 K S5):=
 aq (cl:=[.bor]) F xP rfl len (fun h A outer i H E d=>(Y2 rfl (w8 (pc a d (e6 (p7 d (uv 0 rfl) d9) g6 rfl) rfl) rfl))) e
theorem rZ:i8 ["board","thing"] ["board","thing"] (e5 R0):=by walk_at "s"
theorem rM (F:P7 K "has_guard" "has_guard" R0 f i) (b:dD P w K mg base d c) (a:mg "isinstance"=none) (e:mg "str"=none)
  (len:D6 O0 2) (h:au O0 ko 2):u6 P w K mg base P6 3 f i ["board","thing"] (D1 K O0):=
 aq (cl:=[.bor,.bor]) F rZ rfl len (fun j A outer l H E g=>(Y2 rfl (w8 (su (A8 fh Hn (by rfl) a TH (e6 (uv 1 rfl) (e6 (HB (wG (v:=.ty "str") rfl e PyProof.Rows.boot_str rfl)) g6 rfl) rfl)) (iT (As (D9 g) (uv 1 rfl) (pc b g (e6 (uv 0 rfl) g6 rfl) rfl) rfl))) rfl))) h
theorem yt:i8 ["board","thing"] ["board","thing"] (e5 X1):=by walk_at "s"
theorem wO (F:P7 K "has_load" "has_load" X1 f i) (b:nK P w K mg base d c) (a:mg "isinstance"=none) (e:mg "str"=none)
  (len:D6 R6 2) (h:au R6 qE 2):u6 P w K mg base P6 3 f i ["board","thing"] (D1 K R6):=
 aq (cl:=[.bor,.bor]) F yt rfl len (fun j A outer l H E g=>(Y2 rfl (w8 (su (A8 fh Hn (by rfl) a TH (e6 (uv 1 rfl) (e6 (HB (wG (v:=.ty "str") rfl e PyProof.Rows.boot_str rfl)) g6 rfl) rfl)) (iT (As (D9 g) (uv 1 rfl) (pc b g (e6 (uv 0 rfl) g6 rfl) rfl) rfl))) rfl))) h
theorem tj:i8 ["board","thing"] ["board","thing"] (e5 Q9):=by walk_at "s"
theorem tV (F:P7 K "has_place" "has_place" Q9 f j) (a:ku P w K mg base e c) (b:oj P w K mg base g d)
  (len:D6 N8 2) (i:au N8 lp 2):u6 P w K mg base P6 4 f j ["board","thing"] (D1 K N8):=
 aq (cl:=[.bor,.bor]) F tj rfl len (fun l A outer o H E h=>(Y2 rfl (w8 (Hi (pc a h (e6 (uv 0 rfl) (e6 (uv 1 rfl) g6 rfl) rfl) rfl) (iT (pc b h (e6 (uv 0 rfl) (e6 (uv 1 rfl) g6 rfl) rfl) rfl))) rfl))) i
abbrev vH:UE:=["guards","name","unders","guard","found"]
theorem gA:i8 vH ["guards","name"] (e5 cA):=by walk_at "s"
theorem CF:(["guard"]:UE).Nodup:=by decide +kernel
theorem DP (F:P7 K "climb" "climb" cA f d)
  (len:D6 cm 2) (b:au cm CI 5):u6 P w K mg base P6 1 f d ["guards","name"] (D1 K cm):=
 aq (cl:=[.bor,.bor,.bor,.bor,.own]) F gA rfl len (fun e A outer g H E a=>(DB rfl (mY (i:=2) (XN:=vH) (N:=["guard"]) (XS:=e5 cA) (cap:=[none]) gA.nd rfl rfl rfl (by decide +kernel) rfl rfl rfl rfl (u5 (uv 0 rfl)) (fun _ _ _ _=>(gn 0 CF)) (fun _ _ _ _=>G1) (fun _ _ _ _=>(p7 a (uv 0 rfl) d9)) (fun _ _ _ _=>(p7 a (uv 0 rfl) d9)))
   (ss 4 gA.nd (G0 u9 rfl) rfl)
   (Fu On (U3.m (G2 (uv 1 rfl) B6 (o9 _))) (xg rfl (V0 (PM.n (D2 (r:=J5) 4 (pv 4) rfl (PU.m (PU.y1 (uv 1 rfl))) rfl (fun c=>aP Qt PySem.F.slot_list_append PySem.F.type_list_append B7 (pv 4) c))))
   (ss 1 gA.nd (p7 a (uv 2 rfl) (uv 1 rfl)) rfl)))
   (S7 4 (pv 4) (by decide) rfl))) b
theorem Dq:i8 ["board","place","ats","load"] ["board","place"] (e5 gP):=by walk_at "s"
theorem Ek:(["load"]:UE).Nodup:=by decide +kernel
theorem JM (F:P7 K "over" "over" gP f r) (b:kR P w K mg base h e) (d:Bc P w K mg base o l) {c:Addr} (a:PyProof.Rows.OwnCls "NoPlace" c [.type "ValueError",.type "Exception",.type "BaseException",.type "object"] "ValueError.__new__" mg base)
  (len:∀ds Q W,eX ds Q W->ds.length=2) (q:∀ds Q W,eX ds Q W->Hk W (EP Q) (i7 4 ds)):u6 P w K mg base (Hf P w) 5 f r ["board","place"] (MX K mg eX):=
 fnX (cl:=[.bor,.bor,.bor,.bor]) F Dq rfl len (fun W u A outer v H E g p=>(yP rfl (T5 (U3.m (lT (X5 (pc b g (e6 (uv 0 rfl) (e6 (uv 1 rfl) g6 rfl) rfl) rfl) (fun _=>rfl)))) (Y2 rfl (GH (j:=4) a TW rfl TW rfl yF p rfl (by rfl) (e6 K1 g6 rfl) rfl)) K6)
   (mY (i:=2) (XN:=["board","place","ats","load"]) (N:=["load"]) (XS:=e5 gP) (cap:=[none]) Dq.nd rfl rfl rfl (by decide +kernel) rfl rfl rfl rfl (u5 (p7 g (uv 0 rfl) d9)) (fun _ _ _ _=>(gn 0 Ek)) (fun _ _ _ _=>G1) (fun _ _ _ _=>(p7 g (uv 0 rfl) d9)) (fun _ _ _ _=>(p7 g (uv 0 rfl) d9)))
   (w8 (pc d g (e6 (p7 g (uv 0 rfl) d9) (e6 (dq (D9 g) (uv 2 rfl) (uv 1 rfl) (uv 1 rfl) ⟨rfl,rfl,rfl,rfl⟩) g6 rfl) rfl) rfl) rfl))) q
theorem O9:i8 ["board","opened","apart","found","guard","name","under"] ["board","opened"] (e5 N3):=by walk_at "s"
theorem nu (F:P7 K "fed_guards" "fed_guards" N3 f h) (d:mg "set"=none)
  (len:D6 K3 2) (g:au K3 iS 7):u6 P w K mg base P6 1 f h ["board","opened"] (D1 K K3):=
 aq (cl:=[.bor,.bor,.bor,.own,.bor,.bor,.bor]) F O9 rfl len (fun l A outer o H E e=>(DB rfl (ss 2 O9.nd (C5 (ye rfl) IQ (by rfl) d PyProof.Rows.boot_set (e6 (uv 1 rfl) g6 rfl)) rfl)
   (ss 3 O9.nd vt rfl)
   (M1 (bU.m (u5 (p7 e (uv 0 rfl) d9)) rfl) (gn 4 O9.nd)
    (xg rfl (HH (i:=5) (j:=6) rfl O9.nd rfl rfl (by decide) rfl rfl (e6 (p7 e (uv 4 rfl) d9) (e6 (p7 e (uv 4 rfl) d9) g6 rfl) rfl) rfl rfl rfl)
   (gF (D9 e) 3 (pv 3) rfl (PM.n (PU.m (PU.y1 (su (wQ (uv 5 rfl) (uv 2 rfl) rfl) (iT (Hi (Jp (uv 6 rfl) B6 (o9 _)) (iT (p7 e (uv 3 rfl) (uv 6 rfl))))))))) (PU.n (uv 5 rfl) rfl))) (fun a b c=>C9 On rfl a b c))
   (S7 3 (pv 3) (by decide) rfl))) g
abbrev iA:UE:=["board","lit","pulls","found","guard","load","name","under"]
theorem T1:i8 iA ["board","lit","pulls"] (e5 N4):=by walk_at "s"
theorem oz:(["guard","pulls"]:UE).Nodup:=by decide +kernel
theorem rP (F:P7 K "draws_fed" "draws_fed" N4 f l) (e:mg "reversed"=none)
  (len:D6 N2 3) (g:au N2 kO 8):u6 P w K mg base P6 1 f l ["board","lit","pulls"] (D1 K N2):=
 aq (cl:=[.bor,.bor,.bor,.own,.bor,.bor,.bor,.bor]) F T1 rfl len (fun o A outer p H E d=>(DB rfl (mY (i:=3) (XN:=iA) (N:=["guard","pulls"]) (XS:=e5 N4) (cap:=[none,some 2]) T1.nd rfl rfl rfl (by decide +kernel) rfl rfl rfl rfl (u5 (p7 d (uv 0 rfl) d9)) (fun _ _ _ _=>(gn 0 oz)) (fun _ _ _ _=>G1) (fun _ _ _ _=>(p7 d (uv 0 rfl) d9)) (fun _ _ _ _=>(dq (D9 d) (uv 1 rfl) (p7 d (uv 0 rfl) d9) d9 ⟨rfl,rfl,rfl,rfl⟩)))
   (M1 (bU.m (u5 (p7 d (uv 0 rfl) d9)) rfl) (gn 5 T1.nd)
    (Y2 rfl (zV (D9 d) 3 (pv 3) rfl (p7 d (uv 5 rfl) d9) (dq (D9 d) (uv 2 rfl) (p7 d (uv 5 rfl) d9) d9 ⟨rfl,rfl,rfl,rfl⟩))) (fun a b c=>C9 On rfl a b c))
   (M1 (bU.m (DA (p7 d (uv 0 rfl) d9) rfl (fun h=>zO (by rfl) e h)) rfl) (gn 4 T1.nd)
    (xg rfl (HH (i:=6) (j:=7) rfl T1.nd rfl rfl (by decide) rfl rfl (e6 (p7 d (uv 4 rfl) d9) (e6 (p7 d (uv 4 rfl) d9) g6 rfl) rfl) rfl rfl rfl)
   (T5 (U3.m (lT (X5 (p7 d (uv 1 rfl) (uv 6 rfl)) (fun _=>rfl)))) (Y2 rfl (gF (D9 d) 3 (pv 3) rfl (PU.n d9 rfl) (PU.n (uv 6 rfl) rfl))) (Y2 rfl (T5 (U3.m (G2 (uv 7 rfl) B6 (o9 _))) (Y2 rfl (zV (D9 d) 3 (pv 3) rfl (uv 7 rfl) (p7 d (uv 3 rfl) (uv 6 rfl)))) K6)))) (fun a b c=>C9 On rfl a b c))
   (S7 3 (pv 3) (by decide) rfl))) g
theorem Eb:i8 ["board","opened","pulls"] ["board","opened","pulls"] (e5 dI):=by walk_at "s"
theorem FU (F:P7 K "draws" "draws" dI f j) (a:iI P w K mg base e c) (b:lB P w K mg base g d)
  (len:D6 cD 3) (i:au cD CH 3):u6 P w K mg base P6 2 f j ["board","opened","pulls"] (D1 K cD):=
 aq (cl:=[.bor,.bor,.bor]) F Eb rfl len (fun l A outer o H E h=>(Y2 rfl (w8 (pc b h (e6 (uv 0 rfl) (e6 (pc a h (e6 (uv 0 rfl) (e6 (uv 1 rfl) g6 rfl) rfl) rfl) (e6 (uv 2 rfl) g6 rfl) rfl) rfl) rfl) rfl))) i
theorem IB:i8 ["board","load"] ["board"] (e5 gX):=by walk_at "s"
theorem DR:(["load"]:UE).Nodup:=by decide +kernel
theorem KJ (F:P7 K "rest" "rest" gX f g) (a:Ay P w K mg base d c)
  (len:D6 eQ 1) (e:au eQ Hg 2):u6 P w K mg base P6 3 f g ["board"] (D1 K eQ):=
 aq (cl:=[.bor,.bor]) F IB rfl len (fun h A outer i H E b=>(Y2 rfl (w8 (pc a b (e6 (uv 0 rfl) (e6 (G0 u9 rfl) (e6 (Hh (XN:=["board","load"]) (N:=["load"]) (XS:=e5 gX) (cap:=[none]) (by decide +kernel) rfl rfl rfl rfl (u5 (p7 b (uv 0 rfl) d9)) (fun _ _ _ _=>(gn 0 DR)) (fun _ _ _ _=>(ay (X5 (p7 b (uv 0 rfl) d9) (fun _=>rfl)))) (fun _ _ _ _=>(p7 b (uv 0 rfl) d9)) (fun _ _ _ _=>(p7 b (uv 0 rfl) d9))) g6 rfl) rfl) rfl) rfl) rfl))) e
theorem DF:i8 ["board","found"] ["board","found"] (e5 cw):=by walk_at "s"
theorem AF:(["guard","found"]:UE).Nodup:=by decide +kernel
theorem Eh (F:P7 K "awake" "awake" cw f g) (a:oD P w K mg base d b)
  (len:D6 bJ 2) (e:au bJ zM 2):u6 P w K mg base P6 2 f g ["board","found"] (D1 K bJ):=
 aq (cl:=[.bor,.bor]) F DF rfl len (fun h A outer i H E c=>(Y2 rfl (w8 (V9 (XN:=["board","found"]) (N:=["guard","found"]) (XS:=e5 cw) (cap:=[none,some 1]) (by decide +kernel) rfl rfl rfl rfl (u5 (p7 c (uv 0 rfl) d9)) (fun _ _ _ _=>(gn 0 AF)) (fun _ _ _ _=>(ay (BL (p7 c (uv 1 rfl) (p7 c (uv 0 rfl) d9)) (pc a c (e6 (p7 c (uv 0 rfl) d9) g6 rfl) rfl) (o9 _)))) (fun _ _ _ _=>(PU.y1 (p7 c (uv 0 rfl) d9)))) rfl))) e
theorem vw:i8 ["board","names"] ["board"] (e5 dQ):=by walk_at "s"
theorem FY (F:P7 K "loud" "loud" dQ f l) (b:Ar P w K mg base i d) (a:zx P w K mg base e c)
  (len:D6 cu 1) (j:au cu Ap 2):u6 P w K mg base P6 4 f l ["board"] (D1 K cu):=
 aq (cl:=[.bor,.bor]) F vw rfl len (fun o A outer p H E h=>(xg rfl (ss 1 vw.nd (pc a h (e6 (uv 0 rfl) (e6 (pc b h (e6 (uv 0 rfl) g6 rfl) rfl) g6 rfl) rfl) rfl) rfl)
   (w8 (PU.y1 (MU (X5 (uv 1 rfl) (fun _=>rfl)) (p7 h (uv 1 rfl) d9) (PU.weak (g:=.stab) B6 rfl))) rfl))) j
theorem fg:i8 ["board","first"] ["board"] (e5 M9):=by walk_at "s"
theorem nG (F:P7 K "quiet_rest" "quiet_rest" M9 f j) (b:Ar P w K mg base g d) (a:Cd P w K mg base e c)
  (len:D6 J9 1) (i:au J9 gY 2):u6 P w K mg base P6 5 f j ["board"] (D1 K J9):=
 aq (cl:=[.bor,.bor]) F fg rfl len (fun l A outer o H E h=>(yP rfl (ss 1 fg.nd (pc a h (e6 (uv 0 rfl) g6 rfl) rfl) rfl)
   (T5 (U3.m (G2 (uv 1 rfl) B6 (o9 _))) (Y2 rfl Gp) K6)
   (w8 (pc b h (e6 (uv 0 rfl) g6 rfl) rfl) rfl))) i
abbrev gb:UE:=["board","place","names","found","guards","guard"]
theorem fZ:i8 gb ["board","place"] (e5 Z9):=by walk_at "s"
theorem AR:(["load"]:UE).Nodup:=by decide +kernel
theorem BG:(["guard"]:UE).Nodup:=by decide +kernel
theorem Ah:(["name","guards","found"]:UE).Nodup:=by decide +kernel
theorem DW (F:P7 K "way_of" "way_of" Z9 f l) {g:Addr} {d:FuncData} (h:IE P w K mg base "over" 5 ["board","place"] (MX K mg eX) g d) (a:gC P w K mg base e c)
  (len:D6 bZ 2) (j:au bZ Df 6):u6 P w K mg base P6 6 f l ["board","place"] (D1 K bZ):=
 aq (cl:=[.bor,.bor,.bor,.bor,.bor,.bor]) F fZ rfl len (fun o A outer p H E b=>(Lf rfl (ss 2 fZ.nd (AV h (b.mono (by decide)) (by rfl) (e6 (uv 0 rfl) (e6 (uv 1 rfl) g6 rfl) rfl) rfl) rfl)
   (eT (i:=3) fZ.nd rfl (Or.inr rfl) (pc a b (e6 (uv 0 rfl) g6 rfl) rfl) rfl)
   (T5 (U3.m (Jz (D9 b) (uv 1 rfl) (V9 (XN:=gb) (N:=["load"]) (XS:=e5 Z9) (cap:=[none]) (by decide +kernel) rfl rfl rfl rfl (u5 (p7 b (uv 0 rfl) d9)) (fun _ _ _ _=>(gn 0 AR)) (fun _ _ _ _=>(ay (lT (X5 (p7 b (uv 0 rfl) d9) (fun _=>rfl))))) (fun _ _ _ _=>(PU.y1 (p7 b (uv 0 rfl) d9)))) rfl)) (Y2 rfl (w8 (G0 u9 rfl) rfl)) K6)
   (eT (i:=4) fZ.nd rfl (Or.inr rfl) (Hh (XN:=gb) (N:=["guard"]) (XS:=e5 Z9) (cap:=[none]) (by decide +kernel) rfl rfl rfl rfl (u5 (p7 b (uv 0 rfl) d9)) (fun _ _ _ _=>(gn 0 BG)) (fun _ _ _ _=>G1) (fun _ _ _ _=>(p7 b (uv 0 rfl) d9)) (fun _ _ _ _=>(uv 0 rfl))) rfl)
   (w8 (V9 (XN:=gb) (N:=["name","guards","found"]) (XS:=e5 Z9) (cap:=[none,some 4,some 3]) (by decide +kernel) rfl rfl rfl rfl (u5 (uv 2 rfl)) (fun _ _ _ _=>(gn 0 Ah)) (fun _ _ _ _=>G1) (fun _ _ _ _=>(P1 (j6 (PU.y1 (p7 b (uv 1 rfl) (uv 0 rfl))) (j6 (PU.y1 (p7 b (uv 2 rfl) (uv 0 rfl))) u9 rfl) rfl) rfl))) rfl))) j
abbrev iK:UE:=["way","most","lows"]
theorem nN:i8 iK ["way","most"] (e5 U5):=by walk_at "s"
theorem eu:(["guard","drawn","step"]:UE).Nodup:=by decide +kernel
theorem wR:(["low","most"]:UE).Nodup:=by decide +kernel
theorem yT (F:P7 K "lows_of" "lows_of" U5 f e) (b:mg "set"=none) (a:mg "sorted"=none)
  (len:D6 Z3 2) (d:au Z3 wJ 3):u6 P w K mg base P6 1 f e ["way","most"] (D1 K Z3):=
 aq (cl:=[.bor,.bor,.bor]) F nN rfl len (fun g A outer j H E c=>(xg rfl (zB (i:=2) (XN:=iK) (N:=["guard","drawn","step"]) (XS:=e5 U5) (cap:=[none,none,none]) nN.nd rfl rfl rfl (by decide +kernel) rfl rfl rfl rfl (u5 (uv 0 rfl)) (fun _ _ _ _=>(vg (n:=2) (U6 (gn 0 eu) (U6 (gn 1 eu) mJ)) (fun _ _ _ h=>zZ h) (fun p=>lM rfl p))) (fun _ _ _ _=>G1) (fun _ _ _ _=>(JW (p7 c (uv 0 rfl) d9))) (fun _ _ _ _=>(gn 2 eu)) (fun _ _ _ _=>G1) (fun _ _ _ _=>(N7 (p7 c (uv 2 rfl) d9) (uv 1 rfl))))
   (w8 (rK rfl (by rfl) a PyProof.Rows.boot_sorted (by rfl) b PyProof.Rows.boot_set (e6 (p3 (G0 (j6 d9 u9 rfl) rfl) (V9 (XN:=iK) (N:=["low","most"]) (XS:=e5 U5) (cap:=[none,some 1]) (by decide +kernel) rfl rfl rfl rfl (u5 (uv 2 rfl)) (fun _ _ _ _=>(gn 0 wR)) (fun _ _ _ _=>(ay (tW (uv 0 rfl) (uv 1 rfl) (o9 _)))) (fun _ _ _ _=>(PU.y1 (uv 0 rfl))))) g6 rfl)) rfl))) d
theorem N9:i8 ["way","greatness","spans","at","guard","drawn","span"] ["way","greatness"] (e5 W6):=by walk_at "s"
theorem yJ (F:P7 K "spans_of" "spans_of" W6 f x) (e:qL P w K mg base o l) (d:mg "enumerate"=none)
  (len:D6 S1 2) (v:au S1 qN 7):u6 P w K mg base P6 3 f x ["way","greatness"] (D1 K S1):=
 aq (cl:=[.bor,.bor,.own,.bor,.bor,.bor,.bor]) F N9 rfl len (fun y A outer z H E q=>(yP rfl (ss 2 N9.nd (G0 u9 rfl) rfl)
   (M1 (bU.m (Jr (uv 0 rfl) rfl (fun u=>FE (by rfl) d u)) rfl) (vg (n:=2) (U6 (gn 3 N9.nd) (U6 (vg (n:=2) (U6 (gn 4 N9.nd) (U6 (gn 5 N9.nd) mJ)) (fun _ _ _ h=>zZ h) (fun p=>lM rfl p)) mJ)) (fun _ _ _ h=>Ip h) (fun p=>lM rfl p))
    (yP rfl (ss 6 N9.nd (pc e q (e6 (p7 q (uv 4 rfl) d9) (e6 (p3 (uv 5 rfl) (uv 1 rfl)) g6 rfl) rfl) rfl) rfl)
   (T5 (U3.m (sQ.pt (eE (G2 (uv 6 rfl) B6 (o9 _)) (eE (wu (uv 3 rfl) d9 (o9 _)) (cT (G2 (p7 q (uv 2 rfl) (N7 (uv 3 rfl) d9)) B6 (o9 _))))))) (Y2 rfl (JP (i:=6) (g:=fun i j=>i+j) (p7 q (uv 4 rfl) d9) rfl (fun p=>Ju N9.nd rfl (Or.inl rfl) p Cn))) K6)
   (V0 (PM.n (D2 (r:=J5) 2 (pv 2) rfl (PU.m (PU.y1 (uv 6 rfl))) rfl (fun u=>aP Qt PySem.F.slot_list_append PySem.F.type_list_append B7 (pv 2) u))))) (fun a b c=>C9 On rfl a b c))
   (S7 2 (pv 2) (by decide) rfl))) v
theorem C6:i8 ["way","at","most","best","low","spans","lack"] ["way","at","most"] (e5 D0):=by walk_at "s"
theorem iN (F:P7 K "greatest_lack" "greatest_lack" D0 f p) (e:vW P w K mg base l i) (d:qV P w K mg base j h)
  (len:D6 C4 3) (o:au C4 bC 7):u6 P w K mg base P6 4 f p ["way","at","most"] (D1 K C4):=
 aq (cl:=[.bor,.bor,.bor,.bor,.bor,.bor,.bor]) F C6 rfl len (fun q A outer r H E g=>(yP rfl (ss 3 C6.nd B6 rfl)
   (M1 (bU.m (u5 (pc e g (e6 (uv 0 rfl) (e6 (uv 2 rfl) g6 rfl) rfl) rfl)) rfl) (gn 4 C6.nd)
    (xg rfl (ss 5 C6.nd (pc d g (e6 (uv 0 rfl) (e6 (uv 4 rfl) g6 rfl) rfl) rfl) rfl)
   (T5 (U3.m (sQ.pt (eE (G2 (p7 g (uv 5 rfl) d9) B6 (o9 _)) (cT (G2 (p7 g (uv 5 rfl) (uv 1 rfl)) B6 (o9 _)))))) (xg rfl (ss 6 C6.nd (p3 (N7 (p7 g (uv 5 rfl) d9) (p7 g (uv 5 rfl) (uv 1 rfl))) d9) rfl)
   (T5 (U3.m (sQ.pt (HL (uf (uv 3 rfl) B6 (o9 _)) (Dw (wu (uv 6 rfl) (p7 g (uv 3 rfl) d9) (o9 _)))))) (Y2 rfl (ss 3 C6.nd (P1 (j6 (PU.y1 (uv 6 rfl)) (j6 (PU.y1 (uv 4 rfl)) u9 rfl) rfl) rfl) rfl)) K6)) K6)) (fun a b c=>C9 On rfl a b c))
   (w8 (PU.y1 (uv 3 rfl)) rfl))) o
theorem Q3:i8 ["board","most","found","lower","way","at","lack"] ["board","most"] (e5 W2):=by walk_at "s"
theorem ya (F:P7 K "pairs_of" "pairs_of" W2 f z) (e:dD P w K mg base p o) (j:yV P w K mg base v u) (d:bx P w K mg base h g) (q:mg "len"=none) (i:mg "range"=none)
  (len:D6 S9 2) (y:au S9 og 7):u6 P w K mg base P6 7 f z ["board","most"] (D1 K S9):=
 aq (cl:=[.bor,.bor,.own,.bor,.bor,.bor,.bor]) F Q3 rfl len (fun B A outer C H E l=>(yP rfl (ss 2 Q3.nd (G0 u9 rfl) rfl)
   (M1 (bU.m (u5 (pc e l (e6 (uv 0 rfl) g6 rfl) rfl)) rfl) (gn 3 Q3.nd)
    (xg rfl (ss 4 Q3.nd (pc j l (e6 (uv 0 rfl) (e6 (uv 3 rfl) g6 rfl) rfl) rfl) rfl)
   (M1 (bU.m (iD (e6 d9 (e6 (A8 G4 aS (by rfl) q QW (e6 (uv 4 rfl) g6 rfl)) g6 rfl) rfl) (fun x=>dO (by rfl) i x)) rfl) (gn 5 Q3.nd)
    (xg rfl (ss 6 Q3.nd (pc d l (e6 (uv 4 rfl) (e6 (uv 5 rfl) (e6 (uv 1 rfl) g6 rfl) rfl) rfl) rfl) rfl)
   (T5 (U3.m (G2 (uv 6 rfl) B6 (o9 _))) (Y2 rfl (V0 (PM.n (D2 (r:=J5) 2 (pv 2) rfl (PU.m (P1 (j6 (PU.y1 (uv 3 rfl)) (j6 (PU.y1 (p7 l (p7 l (p7 l (uv 4 rfl) (uv 5 rfl)) d9) d9)) (j6 (PU.y1 (p7 l (uv 6 rfl) d9)) (j6 (PU.y1 (p7 l (uv 6 rfl) d9)) u9 rfl) rfl) rfl) rfl) rfl)) rfl (fun x=>aP Qt PySem.F.slot_list_append PySem.F.type_list_append B7 (pv 2) x))))) K6)) (fun a b c=>C9 On rfl a b c))) (fun a b c=>C9 On rfl a b c))
   (S7 2 (pv 2) (by decide) rfl))) y
theorem BM:i8 ["_law_script","_law_k"] ["_law_script","_law_k"] (e5 aW):=by walk_at "s"
theorem AK (F:P7 K "_law_cell_at" "_law_cell_at" aW f d) (a:mg "len"=none)
  (len:D6 Y6 2) (b:au Y6 vP 2):u6 P w K mg base P6 1 f d ["_law_script","_law_k"] (D1 K Y6):=
 aq (cl:=[.bor,.bor]) F BM rfl len (fun e A outer g H E c=>(xg rfl (T5 (U3.m (Li (uv 1 rfl) (A8 G4 aS (by rfl) a QW (e6 (uv 0 rfl) g6 rfl)) (o9 _))) (Y2 rfl (w8 (PU.y1 (p7 c (uv 0 rfl) (uv 1 rfl))) rfl)) K6)
   (w8 d9 rfl))) b
theorem BF:i8 ["_law_script","_law_k","_law_cell"] ["_law_script","_law_k"] (e5 lA):=by walk_at "s"
theorem Kh (F:P7 K "_law_feed" "_law_feed" lA f g) (a:vY P w K mg base c b)
  (len:D6 aM 2) (d:au aM Hb 3):u6 P w K mg base P6 2 f g ["_law_script","_law_k"] (D1 K aM):=
 aq (cl:=[.bor,.bor,.bor]) F BF rfl len (fun h A outer i H E e=>(xg rfl (ss 2 BF.nd (pc a e (e6 (uv 0 rfl) (e6 (uv 1 rfl) g6 rfl) rfl) rfl) rfl)
   (w8 (G0 (j6 (PU.y1 (uv 2 rfl)) (j6 (PU.y1 (uv 2 rfl)) (j6 (J6 d9 (uv 1 rfl)) u9 rfl) rfl) rfl) rfl) rfl))) d
theorem lW:i8 ["_law_feed_here","_law_many","_law_digit","_law_number"] ["_law_feed_here","_law_many"] (e5 lq):=by walk_at "s"
theorem HW (F:P7 K "_law_take" "_law_take" lq f d)
  (len:KZ y4 2) (c:NO y4 Hd 4):u6 P w K mg base P6 1 f d ["_law_feed_here","_law_many"] (AH K y4):=
 Oq (cl:=[.bor,.bor,.bor]) F lW rfl len (fun e A outer g H E a=>(Lf rfl (oB 0 (pv 0) rfl (PU.m (p3 (p7 a (uv 0 rfl) d9) d9)) (PU.n d9 rfl) (fun p b=>dM p (ij (pv 0) b set_list)))
   (T5 (U3.m (sQ.pt (eE (BL (p7 a (uv 0 rfl) d9) (Jw d9 d9) (o9 _)) (cT (wu (p7 a (uv 0 rfl) d9) d9 (o9 _)))))) (yP rfl (ss 2 lW.nd (U9 (p7 a (uv 0 rfl) d9) (uv 1 rfl)) rfl)
   (oB 0 (pv 0) rfl (PU.m (gq (p7 a (uv 0 rfl) d9) (uv 1 rfl))) (PU.n d9 rfl) (fun p b=>dM p (ij (pv 0) b set_list)))
   (w8 (PU.y1 (uv 2 rfl)) rfl)) K6)
   (ss 3 lW.nd (p3 (J6 (U9 (p7 a (uv 0 rfl) d9) d9) d9) (J6 d9 (p7 a (uv 0 rfl) d9))) rfl)
   (ss 3 lW.nd (U9 (p3 (p3 (uv 3 rfl) (J6 (J6 (p7 a (uv 0 rfl) d9) (p7 a (uv 0 rfl) d9)) d9)) d9) d9) rfl)
   (w8 (U9 (gq (U9 (J6 (uv 3 rfl) (p3 (U9 (uv 3 rfl) d9) d9)) d9) d9) (uv 1 rfl)) rfl))) c
abbrev gg:UE:=["_law_feed_here","_law_many","_law_letters","_law_first","_law_names_here","_law_size","_law_base","_law_at","_law_other","_law_longer","_law_k","_law_some","_law_word"]
theorem G7:i8 gg ["_law_feed_here","_law_many"] (e5 Z1):=by walk_at "s"
theorem Du:(["_law_k","_law_letters","_law_first"]:UE).Nodup:=by decide +kernel
theorem Cu:(["_law_k","_law_feed_here"]:UE).Nodup:=by decide +kernel
theorem yS:(["_law_one","_law_letters"]:UE).Nodup:=by decide +kernel
theorem Ec (F:P7 K "_law_names" "_law_names" Z1 f x) (d:ia P w K mg base u q) (o:mg "int"=none) (j:mg "list"=none) (e:mg "range"=none)
  (len:KZ bV 2) (v:NO bV BQ 13):u6 P w K mg base P6 2 f x ["_law_feed_here","_law_many"] (AH K bV):=
 Oq (cl:=[.bor,.bor,.bor,.own,.bor,.bor,.bor,.bor,.bor,.bor,.own,.bor]) F G7 rfl len (fun y A outer z H E g=>(Pe rfl (eT (i:=2) G7.nd rfl (Or.inr rfl) K1 rfl)
   (E8 (i:=3) G7.nd rfl (Or.inr rfl) (pl 0 d g (n9 (PU.n d9 rfl) u3 rfl)) rfl)
   (T5 (Im g (PM.n (pl 0 d g (n9 (PU.n d9 rfl) u3 rfl))) (PU.n d9 rfl) (o9 _)) (Y2 rfl (cV (i:=4) (XN:=gg) (N:=["_law_k","_law_letters","_law_first"]) (XS:=e5 Z1) (cap:=[none,some 2,some 3]) G7.nd rfl rfl rfl (by decide +kernel) rfl rfl rfl rfl (S4 (by rfl) e (uv 1 rfl) rfl (fun h=>K8 (by rfl) e h)) (fun _ _ _ _=>(gn 0 Du)) (fun _ _ _ _=>G1) (fun _ _ _ _=>(J6 (p7 g (uv 1 rfl) (U9 (p3 (uv 2 rfl) (uv 0 rfl)) d9)) (p3 d9 (gq (uv 0 rfl) d9)))))) (PL rfl (E8 (i:=5) G7.nd rfl (Or.inl rfl) (M0 (PU.n d9 rfl) (PM.n (pl 0 d g (n9 (PU.n d9 rfl) u3 rfl)))) rfl)
   (Cf (i:=6) (XN:=gg) (N:=["_law_k","_law_feed_here"]) (XS:=e5 Z1) (cap:=[none,some 0]) 1 0 G7.nd rfl rfl rfl rfl rfl rfl (by decide +kernel) rfl rfl rfl rfl (bU.m (S4 (by rfl) e (uv 5 rfl) rfl (fun h=>K8 (by rfl) e h)) rfl) (fun _ _ _ _=>(gn 0 Cu)) (fun _ _ _ _=>FQ) (fun _ _ _ _=>(pl 1 d g (n9 (PU.n d9 rfl) u3 rfl))))
   (E8 (i:=7) G7.nd rfl (Or.inl rfl) (pl 0 d g (n9 (PU.n (uv 5 rfl) rfl) u3 rfl)) rfl)
   (E8 (i:=8) G7.nd rfl (Or.inl rfl) (KH (PM.n (M0 (PU.n (p3 (uv 7 rfl) d9) rfl) (PM.n (pl 0 d g (n9 (PU.n (N7 (uv 5 rfl) d9) rfl) u3 rfl))))) (PU.n (uv 5 rfl) rfl)) rfl)
   (E8 (i:=9) G7.nd rfl (Or.inl rfl) (aX (PM.n (pl 0 d g (n9 (PU.n d9 rfl) u3 rfl))) (PU.n (C5 eJ rL (by rfl) o SZ (e6 (LC (uv 5 rfl) d9 (o9 _)) g6 rfl)) rfl)) rfl)
   (ss 4 G7.nd (G0 u9 rfl) rfl)
   (M1 (bU.m (S4 (by rfl) e (uv 1 rfl) rfl (fun h=>K8 (by rfl) e h)) rfl) (gn 10 G7.nd)
    (DB rfl (ss 11 G7.nd (C5 lJ Ia (by rfl) j PyProof.Rows.boot_list (e6 (uv 6 rfl) g6 rfl)) rfl)
   (oB 11 (pv 11) rfl (PU.m (U9 (p3 (p7 g (uv 6 rfl) (uv 7 rfl)) (uv 10 rfl)) d9)) (PU.n (uv 7 rfl) rfl) (fun p l=>dM p (ij (pv 11) l set_list)))
   (oB 11 (pv 11) rfl (PU.m (U9 (p3 (p7 g (uv 6 rfl) (uv 8 rfl)) (gq (uv 10 rfl) d9)) d9)) (PU.n (uv 8 rfl) rfl) (fun p l=>dM p (ij (pv 11) l set_list)))
   (V0 (PM.n (D2 (r:=J5) 4 (pv 4) rfl (PU.m (p3 (GF K1 (V9 (XN:=gg) (N:=["_law_one","_law_letters"]) (XS:=e5 Z1) (cap:=[none,some 2]) (by decide +kernel) rfl rfl rfl rfl (u5 (uv 11 rfl)) (fun _ _ _ _=>(gn 0 yS)) (fun _ _ _ _=>G1) (fun _ _ _ _=>(PU.y1 (p7 g (uv 1 rfl) (uv 0 rfl))))) rfl (fun po h=>aP PySem.F.plainAttrs_str PySem.F.slot_str_join PySem.F.type_str_join Ey po h)) (J6 (p7 g (uv 2 rfl) (uv 3 rfl)) (J6 (uv 9 rfl) (U9 (uv 10 rfl) d9))))) rfl (fun h=>aP Qt PySem.F.slot_list_append PySem.F.type_list_append B7 (pv 4) h))))) (fun a b c=>C9 On rfl a b c))))
   (E8 (i:=12) G7.nd rfl (Or.inl rfl) (PN.y1 (eL (D9 g) (PU.n (G0 (j6 K1 (j6 K1 (j6 K1 (j6 K1 (j6 K1 (j6 K1 (j6 K1 (j6 K1 (j6 K1 (j6 K1 (j6 K1 u9 rfl) rfl) rfl) rfl) rfl) rfl) rfl) rfl) rfl) rfl) rfl) rfl) rfl) (PM.n (pl 0 d g (n9 (PU.n d9 rfl) u3 rfl))) (fun _ _=>rfl))) rfl)
   (T5 (U3.m (sQ.pt (eE (JJ g (uv 12 rfl) K1 (o9 _)) (cT (wN (D9 g) (uv 12 rfl) (uv 4 rfl) rfl))))) (Y2 rfl (oB 4 (pv 4) rfl (PU.m (PU.y1 (uv 12 rfl))) (PM.n (pl 0 d g (n9 (PU.n (uv 1 rfl) rfl) u3 rfl))) (fun p l=>dM p (ij (pv 4) l set_list)))) K6)
   (S7 4 (pv 4) (by decide) rfl))) v
theorem fR:i8 ["_law_board","_law_overs_here","_law_guard","_law_load"] ["_law_board"] (e5 eD):=by walk_at "s"
theorem Eg (F:P7 K "_law_overs" "_law_overs" eD f g)
  (len:D6 aJ 1) (e:au aJ BI 4):u6 P w K mg base P6 1 f g ["_law_board"] (D1 K aJ):=
 aq (cl:=[.bor,.own,.bor,.bor]) F fR rfl len (fun h A outer i H E d=>(DB rfl (ss 1 fR.nd vt rfl)
   (M1 (bU.m (u5 (p7 d (uv 0 rfl) d9)) rfl) (gn 2 fR.nd)
    (Y2 rfl (gF (D9 d) 1 (pv 1) rfl (PU.n (zL (DH (G0 (j6 (PU.y1 (p7 d (uv 2 rfl) d9)) u9 rfl) rfl) (dq (D9 d) (uv 1 rfl) (p7 d (uv 2 rfl) d9) (zL (G0 u9 rfl)) ⟨rfl,rfl,rfl,rfl⟩))) rfl) (PU.n (p7 d (uv 2 rfl) d9) rfl))) (fun a b c=>C9 On rfl a b c))
   (M1 (bU.m (u5 (p7 d (uv 0 rfl) d9)) rfl) (gn 3 fR.nd)
    (Y2 rfl (gF (D9 d) 1 (pv 1) rfl (PM.n (PU.m (PU.y1 (p7 d (uv 1 rfl) (p7 d (uv 3 rfl) d9))))) (PU.n (p7 d (uv 3 rfl) d9) rfl))) (fun a b c=>C9 On rfl a b c))
   (S7 1 (pv 1) (by decide) rfl))) e
abbrev ki:UE:=["_law_feed_here","_law_unit","_law_time","_law_many","_law_some","_law_times","_law_k"]
theorem W5:i8 ki ["_law_feed_here","_law_unit","_law_time"] (e5 T3):=by walk_at "s"
theorem uE:(["_law_k","_law_unit","_law_time","_law_some","_law_times","_law_many"]:UE).Nodup:=by decide +kernel
theorem xK (F:P7 K "_law_small_curve" "_law_small_curve" T3 f q) (e:ia P w K mg base o l) (d:mg "range"=none) (g:mg "tuple"=none)
  (len:KZ S0 3) (p:NO S0 qT 7):u6 P w K mg base P6 2 f q ["_law_feed_here","_law_unit","_law_time"] (AH K S0):=
 Oq (cl:=[.bor,.bor,.bor,.own,.own,.bor]) F W5 rfl len (fun u A outer v H E h=>(Lf rfl (E8 (i:=3) W5.nd rfl (Or.inr rfl) (M0 (PU.n d9 rfl) (PM.n (pl 0 e h (n9 (PU.n d9 rfl) u3 rfl)))) rfl)
   (E8 (i:=4) W5.nd rfl (Or.inr rfl) (tY (B9 (M0 (PU.n d9 rfl) (PM.n (pl 0 e h (n9 (PU.n d9 rfl) u3 rfl)))) cC rfl) rfl) rfl)
   (E8 (i:=5) W5.nd rfl (Or.inr rfl) (tY (B9 (M0 (PU.n d9 rfl) (PM.n (pl 0 e h (n9 (PU.n d9 rfl) u3 rfl)))) cC rfl) rfl) rfl)
   (M1 (bU.m (S4 (by rfl) d (N7 (uv 3 rfl) d9) rfl (fun j=>K8 (by rfl) d j)) rfl) (gn 6 W5.nd)
    (xg rfl (V0 (PM.n (D2 (r:=J5) 4 (pv 4) rfl (M0 (PU.n (p3 (p7 h (uv 4 rfl) (ve d9)) d9) rfl) (PM.n (pl 0 e h (n9 (PU.n d9 rfl) u3 rfl)))) rfl (fun j=>aP Qt PySem.F.slot_list_append PySem.F.type_list_append B7 (pv 4) j))))
   (V0 (PM.n (D2 (r:=J5) 5 (pv 5) rfl (M0 (PU.n (p3 (p7 h (uv 5 rfl) (ve d9)) d9) rfl) (PM.n (pl 0 e h (n9 (PU.n d9 rfl) u3 rfl)))) rfl (fun j=>aP Qt PySem.F.slot_list_append PySem.F.type_list_append B7 (pv 5) j))))) (fun a b c=>C9 On rfl a b c))
   (w8 (C5 J1 cI (by rfl) g Ru (e6 (V9 (XN:=ki) (N:=["_law_k","_law_unit","_law_time","_law_some","_law_times","_law_many"]) (XS:=e5 T3) (cap:=[none,some 1,some 2,some 4,some 5,some 3]) (by decide +kernel) rfl rfl rfl rfl (S4 (by rfl) d (uv 3 rfl) rfl (fun j=>K8 (by rfl) d j)) (fun _ _ _ _=>(gn 0 uE)) (fun _ _ _ _=>G1) (fun _ _ _ _=>(P1 (j6 (J6 (p7 h (uv 3 rfl) (uv 0 rfl)) (uv 1 rfl)) (j6 (J6 (p7 h (uv 4 rfl) (N7 (N7 (uv 5 rfl) d9) (uv 0 rfl))) (uv 2 rfl)) u9 rfl) rfl) rfl))) g6 rfl)) rfl))) p
theorem Dn:i8 ["_law_guard","_law_more"] ["_law_guard","_law_more"] (e5 Z5):=by walk_at "s"
theorem yi:(["_law_step","_law_more"]:UE).Nodup:=by decide +kernel
theorem zW (F:P7 K "_law_lifted" "_law_lifted" Z5 f d) (a:mg "tuple"=none)
  (len:D6 Y9 2) (c:au Y9 wL 2):u6 P w K mg base P6 1 f d ["_law_guard","_law_more"] (D1 K Y9):=
 aq (cl:=[.bor,.bor]) F Dn rfl len (fun e A outer g H E b=>(Y2 rfl (w8 (p3 (p3 (mj (uv 0 rfl) fQ (gr d9)) (P1 (j6 (C5 J1 cI (by rfl) a Ru (e6 (V9 (XN:=["_law_guard","_law_more"]) (N:=["_law_step","_law_more"]) (XS:=e5 Z5) (cap:=[none,some 1]) (by decide +kernel) rfl rfl rfl rfl (u5 (p7 b (uv 0 rfl) d9)) (fun _ _ _ _=>(gn 0 yi)) (fun _ _ _ _=>G1) (fun _ _ _ _=>(P1 (j6 (p3 (p7 b (uv 0 rfl) d9) (uv 1 rfl)) (j6 (PU.y1 (p7 b (uv 0 rfl) d9)) u9 rfl) rfl) rfl))) g6 rfl)) u9 rfl) rfl)) (mj (uv 0 rfl) (gr d9) fQ)) rfl))) c
abbrev wK:UE:=["_law_board","_law_overs_here","_law_found","_law_load","_law_name"]
theorem df:i8 wK ["_law_board"] (e5 bO):=by walk_at "s"
theorem CL:(["_law_guard"]:UE).Nodup:=by decide +kernel
theorem DN (F:P7 K "_law_rest" "_law_rest" bO f o) (e:uX P w K mg base j i) (g:mg "dict"=none) (h:mg "int"=none)
  (len:D6 Y4 1) (l:au Y4 zE 5):u6 P w K mg base P6 2 f o ["_law_board"] (D1 K Y4):=
 aq (cl:=[.bor,.bor,.own,.bor,.bor]) F df rfl len (fun p A outer q H E d=>(DB rfl (ss 1 df.nd (pc e d (e6 (uv 0 rfl) g6 rfl) rfl) rfl)
   (ss 2 df.nd (C5 (iE rfl) vR (by rfl) g PyProof.Rows.boot_dict (e6 (V9 (XN:=wK) (N:=["_law_guard"]) (XS:=e5 bO) (cap:=[none]) (by decide +kernel) rfl rfl rfl rfl (u5 (p7 d (uv 0 rfl) d9)) (fun _ _ _ _=>(gn 0 CL)) (fun _ _ _ _=>G1) (fun _ _ _ _=>(P1 (j6 (PU.y1 (p7 d (uv 0 rfl) d9)) (j6 d9 u9 rfl) rfl) rfl))) g6 rfl)) rfl)
   (M1 (bU.m (u5 (p7 d (uv 0 rfl) d9)) rfl) (gn 3 df.nd)
    (Y2 rfl (M1 (bU.m (u5 (p7 d (uv 1 rfl) (p7 d (uv 3 rfl) d9))) rfl) (gn 4 df.nd)
    (Y2 rfl (gF (D9 d) 2 (pv 2) rfl (PU.n (p3 (p7 d (uv 2 rfl) (uv 4 rfl)) (J6 (p7 d (uv 3 rfl) d9) (C5 eJ rL (by rfl) h SZ (e6 (p7 d (uv 3 rfl) d9) g6 rfl)))) rfl) (PU.n (uv 4 rfl) rfl))) (fun a b c=>C9 On rfl a b c))) (fun a b c=>C9 On rfl a b c))
   (S7 2 (pv 2) (by decide) rfl))) l
theorem K2:i8 ["_law_script","_law_names_here","_law_unit","_law_time","_law_guards","_law_k","_law_feed_here","_law_at","_law_curve","_law_delay"] ["_law_script","_law_names_here","_law_unit","_law_time"] (e5 Q7):=by walk_at "s"
theorem sv (F:P7 K "_law_small_guards" "_law_small_guards" Q7 f C) (l:qJ P w K mg base z v) (d:ia P w K mg base y u) (g:nX P w K mg base o j) (q:mg "int"=none) (p:mg "len"=none) (e:mg "range"=none)
  (len:D6 N0 4) (B:au N0 kY 10):u6 P w K mg base P6 3 f C ["_law_script","_law_names_here","_law_unit","_law_time"] (D1 K N0):=
 aq (cl:=[.bor,.bor,.bor,.bor,.own,.bor,.own,.bor,.bor,.bor]) F K2 rfl len (fun G A outer I H E h=>(yP rfl (ss 4 K2.nd (G0 u9 rfl) rfl)
   (M1 (bU.m (S4 (by rfl) e (A8 G4 aS (by rfl) p QW (e6 (uv 1 rfl) g6 rfl)) rfl (fun x=>K8 (by rfl) e x)) rfl) (gn 5 K2.nd)
    (Lf rfl (ss 6 K2.nd (pc l h (e6 (uv 0 rfl) (e6 (p3 d9 (uv 5 rfl)) g6 rfl) rfl) rfl) rfl)
   (E8 (i:=7) K2.nd rfl (Or.inl rfl) (PN.y1 (eL (D9 h) (PM.n (tY (B9 (pl 6 d h (n9 (PU.n (p3 (uv 5 rfl) d9) rfl) u3 rfl)) (B9 (PU.m (PU.y1 (uv 5 rfl))) cC rfl) rfl) rfl)) (PM.n (xk eJ rL (by rfl) q SZ (n9 (PM.n (Hc (PM.n (pl 6 d h (n9 (PU.n d9 rfl) u3 rfl))) (PU.n d9 rfl) (o9 _))) u3 rfl))) (fun _ _=>rfl))) rfl)
   (E8 (i:=8) K2.nd rfl (Or.inl rfl) (pl 6 g h (n9 (PU.n (uv 2 rfl) rfl) (n9 (PU.n (uv 3 rfl) rfl) u3 rfl) rfl)) rfl)
   (E8 (i:=9) K2.nd rfl (Or.inl rfl) (aX (PM.n (pl 6 d h (n9 (PU.n d9 rfl) u3 rfl))) (PU.n (uv 3 rfl) rfl)) rfl)
   (V0 (PM.n (D2 (r:=J5) 4 (pv 4) rfl (tS (B9 (PU.m (PU.y1 (p7 h (uv 1 rfl) (uv 5 rfl)))) (B9 (PU.m (p7 h (p3 (G0 (j6 B6 u9 rfl) rfl) (uv 1 rfl)) (uv 7 rfl))) (B9 (PU.m (PU.y1 (uv 8 rfl))) (B9 (PU.m (PU.y1 (uv 9 rfl))) (B9 (aX (PM.n (pl 6 d h (n9 (PU.n d9 rfl) u3 rfl))) (PU.n (uv 3 rfl) rfl)) cC rfl) rfl) rfl) rfl) rfl) rfl) rfl (fun x=>aP Qt PySem.F.slot_list_append PySem.F.type_list_append B7 (pv 4) x))))) (fun a b c=>C9 On rfl a b c))
   (S7 4 (pv 4) (by decide) rfl))) B
theorem N5:i8 ["_law_script","_law_names_here","_law_guards","_law_unit","_law_time","_law_loads","_law_k","_law_feed_here","_law_at","_law_course","_law_j"] ["_law_script","_law_names_here","_law_guards","_law_unit","_law_time"] (e5 V7):=by walk_at "s"
theorem xZ (F:P7 K "_law_small_loads" "_law_small_loads" V7 f y) (o:qJ P w K mg base v q) (d:ia P w K mg base u p) (j:mg "len"=none) (e:mg "range"=none) (h:mg "tuple"=none)
  (len:D6 R1 5) (x:au R1 qM 11):u6 P w K mg base P6 3 f y ["_law_script","_law_names_here","_law_guards","_law_unit","_law_time"] (D1 K R1):=
 aq (cl:=[.bor,.bor,.bor,.bor,.bor,.own,.bor,.own,.bor,.own,.bor]) F N5 rfl len (fun z A outer B H E g=>(yP rfl (ss 5 N5.nd (G0 u9 rfl) rfl)
   (M1 (bU.m (S4 (by rfl) e (A8 G4 aS (by rfl) j QW (e6 (uv 1 rfl) g6 rfl)) rfl (fun l=>K8 (by rfl) e l)) rfl) (gn 6 N5.nd)
    (Lf rfl (ss 7 N5.nd (pc o g (e6 (uv 0 rfl) (e6 (p3 d9 (uv 6 rfl)) g6 rfl) rfl) rfl) rfl)
   (E8 (i:=8) N5.nd rfl (Or.inl rfl) (PN.y1 (eL (D9 g) (eL (D9 g) (PU.n (uv 2 rfl) rfl) (PM.n (pl 7 d g (n9 (PU.n (A8 G4 aS (by rfl) j QW (e6 (uv 2 rfl) g6 rfl)) rfl) u3 rfl))) (fun _ _=>rfl)) (PU.n d9 rfl) (fun _ _=>rfl))) rfl)
   (ss 9 N5.nd (G0 u9 rfl) rfl)
   (M1 (xE (by rfl) e (PM.n (pl 7 d g (n9 (PU.n d9 rfl) u3 rfl))) rfl (fun l=>K8 (by rfl) e l)) (gn 10 N5.nd)
    (Y2 rfl (V0 (PM.n (D2 (r:=J5) 9 (pv 9) rfl (tS (B9 (aX (PM.n (M0 (PU.n d9 rfl) (PM.n (pl 7 d g (n9 (PU.n d9 rfl) u3 rfl))))) (PU.n (uv 4 rfl) rfl)) (B9 (aX (PM.n (pl 7 d g (n9 (PU.n d9 rfl) u3 rfl))) (PU.n (uv 3 rfl) rfl)) cC rfl) rfl) rfl) rfl (fun l=>aP Qt PySem.F.slot_list_append PySem.F.type_list_append B7 (pv 9) l))))) (fun a b c=>C9 On rfl a b c))
   (V0 (PM.n (D2 (r:=J5) 5 (pv 5) rfl (tS (B9 (PU.m (PU.y1 (p7 g (uv 1 rfl) (uv 6 rfl)))) (B9 (PU.m (PU.y1 (uv 8 rfl))) (B9 (PU.m (C5 J1 cI (by rfl) h Ru (e6 (uv 9 rfl) g6 rfl))) (B9 (aX (PM.n (pl 7 d g (n9 (PU.n d9 rfl) u3 rfl))) (PU.n (uv 3 rfl) rfl)) (B9 (Hc (PM.n (pl 7 d g (n9 (PU.n d9 rfl) u3 rfl))) (PU.n d9 rfl) (o9 _)) cC rfl) rfl) rfl) rfl) rfl) rfl) rfl (fun l=>aP Qt PySem.F.slot_list_append PySem.F.type_list_append B7 (pv 5) l))))) (fun a b c=>C9 On rfl a b c))
   (S7 5 (pv 5) (by decide) rfl))) x
abbrev jW:UE:=["_law_script","_law_unit","_law_time","_law_feed_here","_law_many","_law_names_here","_law_guards","_law_loads","_law_found"]
theorem K7:i8 jW ["_law_script","_law_unit","_law_time"] (e5 T4):=by walk_at "s"
theorem uU:(["_law_guard","_law_found"]:UE).Nodup:=by decide +kernel
theorem xx (F:P7 K "_law_small_board" "_law_small_board" T4 f O) (h:qJ P w K mg base J B) (a:ia P w K mg base I z) (l:Bp P w K mg base G x) (g:vi P w K mg base y r) (j:mB P w K mg base C v) (b:jS P w K mg base q o) (d:pL P w K mg base u p) (c:mg "tuple"=none)
  (len:D6 R7 3) (M:au R7 nQ 9):u6 P w K mg base P6 4 f O ["_law_script","_law_unit","_law_time"] (D1 K R7):=
 aq (cl:=[.bor,.bor,.bor,.own,.bor,.bor,.bor,.bor,.bor]) F K7 rfl len (fun Q A outer R H E e=>(PR rfl (ss 3 K7.nd (pc h e (e6 (uv 0 rfl) (e6 d9 g6 rfl) rfl) rfl) rfl)
   (E8 (i:=4) K7.nd rfl (Or.inl rfl) (M0 (PU.n d9 rfl) (PM.n (pl 3 a e (n9 (PU.n d9 rfl) u3 rfl)))) rfl)
   (E8 (i:=5) K7.nd rfl (Or.inl rfl) (BV l (e.mono (by decide)) (by rfl) (PU.m (pc h e (e6 (uv 0 rfl) (e6 d9 g6 rfl) rfl) rfl)) (B9 (M0 (PU.n (uv 4 rfl) rfl) (PM.n (pl 3 a e (n9 (PU.n d9 rfl) u3 rfl)))) cC rfl) rfl) rfl)
   (ss 6 K7.nd (pc b e (e6 (uv 0 rfl) (e6 (mj (uv 5 rfl) fQ (gr (uv 4 rfl))) (e6 (uv 1 rfl) (e6 (uv 2 rfl) g6 rfl) rfl) rfl) rfl) rfl) rfl)
   (ss 7 K7.nd (pc d e (e6 (uv 0 rfl) (e6 (mj (uv 5 rfl) (gr (uv 4 rfl)) fQ) (e6 (uv 6 rfl) (e6 (uv 1 rfl) (e6 (uv 2 rfl) g6 rfl) rfl) rfl) rfl) rfl) rfl) rfl)
   (eT (i:=8) K7.nd rfl (Or.inr rfl) (pc j e (e6 (GI (vj (uv 6 rfl) (vj (uv 7 rfl) Js rfl rfl) rfl rfl) rfl) g6 rfl) rfl) rfl)
   (T5 (Ln (PM.n (pl 3 a e (n9 (PU.n d9 rfl) u3 rfl))) (PU.n d9 rfl) (o9 _)) (Y2 rfl (cV (i:=6) (XN:=jW) (N:=["_law_guard","_law_found"]) (XS:=e5 T4) (cap:=[none,some 8]) K7.nd rfl rfl rfl (by decide +kernel) rfl rfl rfl rfl (u5 (uv 6 rfl)) (fun _ _ _ _=>(gn 0 uU)) (fun _ _ _ _=>G1) (fun _ _ _ _=>(pc g e (e6 (uv 0 rfl) (e6 (p7 e (uv 1 rfl) (p7 e (uv 0 rfl) d9)) g6 rfl) rfl) rfl)))) K6)
   (w8 (P1 (j6 (C5 J1 cI (by rfl) c Ru (e6 (uv 6 rfl) g6 rfl)) (j6 (C5 J1 cI (by rfl) c Ru (e6 (uv 7 rfl) g6 rfl)) u9 rfl) rfl) rfl) rfl))) M
abbrev uL:UE:=["_law_board","_law_place","_law_known","_law_found","_law_load"]
theorem mH:i8 uL ["_law_board","_law_place"] (e5 fw):=by walk_at "s"
theorem EB:(["_law_guard"]:UE).Nodup:=by decide +kernel
theorem Gn:(["_law_name","_law_known","_law_found"]:UE).Nodup:=by decide +kernel
theorem KA (F:P7 K "_law_path" "_law_path" fw f r) (g:uX P w K mg base p l) (e:mB P w K mg base o j) (h:mg "dict"=none)
  (len:D6 hZ 2) (q:au hZ HK 5):u6 P w K mg base P6 3 f r ["_law_board","_law_place"] (D1 K hZ):=
 aq (cl:=[.bor,.bor,.bor,.bor,.bor]) F mH rfl len (fun u A outer v H E d=>(DB rfl (eT (i:=2) mH.nd rfl (Or.inr rfl) (C5 (iE rfl) vR (by rfl) h PyProof.Rows.boot_dict (e6 (V9 (XN:=uL) (N:=["_law_guard"]) (XS:=e5 fw) (cap:=[none]) (by decide +kernel) rfl rfl rfl rfl (u5 (p7 d (uv 0 rfl) d9)) (fun _ _ _ _=>(gn 0 EB)) (fun _ _ _ _=>G1) (fun _ _ _ _=>(P1 (j6 (PU.y1 (p7 d (uv 0 rfl) d9)) (j6 (PU.y1 (uv 0 rfl)) u9 rfl) rfl) rfl))) g6 rfl)) rfl)
   (eT (i:=3) mH.nd rfl (Or.inr rfl) (pc e d (e6 (uv 0 rfl) g6 rfl) rfl) rfl)
   (M1 (bU.m (u5 (p7 d (uv 0 rfl) d9)) rfl) (gn 4 mH.nd)
    (Y2 rfl (T5 (U3.m (sQ.pt (eE (lV d (p7 d (uv 4 rfl) d9) (uv 1 rfl) (o9 _)) (cT (lT (X5 (p7 d (uv 4 rfl) d9) (fun _=>rfl))))))) (Y2 rfl (w8 (G0 u9 rfl) rfl)) K6)) (fun a b c=>C9 On rfl a b c))
   (w8 (V9 (XN:=uL) (N:=["_law_name","_law_known","_law_found"]) (XS:=e5 fw) (cap:=[none,some 2,some 3]) (by decide +kernel) rfl rfl rfl rfl (u5 (p7 d (pc g d (e6 (uv 0 rfl) g6 rfl) rfl) (uv 1 rfl))) (fun _ _ _ _=>(gn 0 Gn)) (fun _ _ _ _=>G1) (fun _ _ _ _=>(P1 (j6 (PU.y1 (p7 d (uv 1 rfl) (uv 0 rfl))) (j6 (PU.y1 (p7 d (uv 2 rfl) (uv 0 rfl))) u9 rfl) rfl) rfl))) rfl))) q
theorem lY:i8 ["_law_board","_law_found","_law_guard"] ["_law_board"] (e5 eh):=by walk_at "s"
theorem Ez (F:P7 K "_law_loud" "_law_loud" eh f j) (d:mB P w K mg base h g)
  (len:D6 cy 1) (i:au cy AX 3):u6 P w K mg base P6 3 f j ["_law_board"] (D1 K cy):=
 aq (cl:=[.bor,.bor,.bor]) F lY rfl len (fun l A outer o H E e=>(yP rfl (ss 1 lY.nd (pc d e (e6 (uv 0 rfl) g6 rfl) rfl) rfl)
   (M1 (bU.m (u5 (p7 e (uv 0 rfl) d9)) rfl) (gn 2 lY.nd)
    (Y2 rfl (T5 (U3.m (BL (p7 e (uv 1 rfl) (p7 e (uv 2 rfl) d9)) (p7 e (p7 e (p7 e (uv 2 rfl) d9) d9) d9) (o9 _))) (Y2 rfl (w8 (PU.y1 (p7 e (uv 2 rfl) d9)) rfl)) K6)) (fun a b c=>C9 On rfl a b c))
   (w8 B6 rfl))) i
abbrev vX:UE:=["_law_path_here","_law_at","_law_greatness","_law_guard","_law_one","_law_times"]
theorem fT:i8 vX ["_law_path_here","_law_at","_law_greatness"] (e5 cF):=by walk_at "s"
theorem Av:(["_law_step","_law_one","_law_greatness"]:UE).Nodup:=by decide +kernel
theorem Gs (F:P7 K "_law_turns" "_law_turns" cF f d) (b:mg "len"=none)
  (len:D6 Z2 3) (c:au Z2 Dj 6):u6 P w K mg base P6 1 f d ["_law_path_here","_law_at","_law_greatness"] (D1 K Z2):=
 aq (cl:=[.bor,.bor,.bor,.bor,.bor,.bor]) F fT rfl len (fun e A outer j H E a=>(DB rfl (Mb (p7 a (uv 0 rfl) (uv 1 rfl)) rfl (vg (n:=2) (U6 (gn 3 fT.nd) (U6 (uo (mw (i:=4) fT.nd rfl (Or.inr rfl)) rfl) mJ)) (fun _ _ _ h=>zZ h) (fun p=>lM rfl p)) (fun p g=>dM p g))
   (cV (i:=5) (XN:=vX) (N:=["_law_step","_law_one","_law_greatness"]) (XS:=e5 cF) (cap:=[none,some 4,some 2]) fT.nd rfl rfl rfl (by decide +kernel) rfl rfl rfl rfl (u5 (p7 a (uv 3 rfl) d9)) (fun _ _ _ _=>(gn 0 Av)) (fun _ _ _ _=>(ay (tW (p7 a (uv 0 rfl) d9) (p3 (uv 1 rfl) (uv 2 rfl)) (o9 _)))) (fun _ _ _ _=>(PU.y1 (p7 a (uv 0 rfl) d9))))
   (T5 (U3.m (lV a (A8 G4 aS (by rfl) b QW (e6 (uv 5 rfl) g6 rfl)) d9 (o9 _))) (Y2 rfl (w8 B6 rfl)) K6)
   (w8 (PU.y1 (p7 a (uv 5 rfl) (ve d9))) rfl))) c
theorem lE:i8 ["_law_path_here","_law_at","_law_greatness","_law_low","_law_up"] ["_law_path_here","_law_at","_law_greatness"] (e5 kM):=by walk_at "s"
theorem JC (F:P7 K "_law_lack" "_law_lack" kM f g) (a:Au P w K mg base d c)
  (len:D6 ie 3) (e:au ie HC 5):u6 P w K mg base P6 2 f g ["_law_path_here","_law_at","_law_greatness"] (D1 K ie):=
 aq (cl:=[.bor,.bor,.bor,.bor,.bor]) F lE rfl len (fun h A outer i H E b=>(Lf rfl (ss 3 lE.nd (pc a b (e6 (uv 0 rfl) (e6 d9 (e6 (uv 2 rfl) g6 rfl) rfl) rfl) rfl) rfl)
   (ss 4 lE.nd (pc a b (e6 (uv 0 rfl) (e6 (uv 1 rfl) (e6 (uv 2 rfl) g6 rfl) rfl) rfl) rfl) rfl)
   (T5 (U3.m (sQ.pt (HL (uf (uv 3 rfl) B6 (o9 _)) (Dw (uf (uv 4 rfl) B6 (o9 _)))))) (Y2 rfl (w8 B6 rfl)) K6)
   (T5 (U3.m (G2 (pc a b (e6 (uv 0 rfl) (e6 (N7 (uv 1 rfl) d9) (e6 (uv 2 rfl) g6 rfl) rfl) rfl) rfl) B6 (o9 _))) (Y2 rfl (ss 4 lE.nd (p3 (uv 4 rfl) (p7 b (p7 b (p7 b (uv 0 rfl) (uv 1 rfl)) d9) d9)) rfl)) K6)
   (w8 (p3 (N7 (uv 3 rfl) (uv 4 rfl)) d9) rfl))) e
abbrev mG:UE:=["_law_board","_law_lower","_law_most","_law_path_here","_law_rows","_law_at","_law_some","_law_best"]
theorem Z8:i8 mG ["_law_board","_law_lower","_law_most"] (e5 av):=by walk_at "s"
theorem yQ:(["_law_greatness","_law_path_here","_law_at"]:UE).Nodup:=by decide +kernel
theorem zI:(["_law_one"]:UE).Nodup:=by decide +kernel
theorem GD (F:P7 K "_law_due" "_law_due" av f y) (h:Hj P w K mg base u p) (j:Hx P w K mg base v q) (g:mg "len"=none) (o:mg "max"=none) (d:mg "range"=none)
  (len:D6 cb 3) (x:au cb zq 8):u6 P w K mg base P6 4 f y ["_law_board","_law_lower","_law_most"] (D1 K cb):=
 aq (cl:=[.bor,.bor,.bor,.bor,.own,.bor,.bor,.bor]) F Z8 rfl len (fun z A outer B H E e=>(DB rfl (eT (i:=3) Z8.nd rfl (Or.inr rfl) (pc h e (e6 (uv 0 rfl) (e6 (uv 1 rfl) g6 rfl) rfl) rfl) rfl)
   (ss 4 Z8.nd (G0 u9 rfl) rfl)
   (M1 (bU.m (iD (e6 d9 (e6 (A8 G4 aS (by rfl) g QW (e6 (uv 3 rfl) g6 rfl)) g6 rfl) rfl) (fun l=>dO (by rfl) d l)) rfl) (uo (mw (i:=5) Z8.nd rfl (Or.inr rfl)) rfl)
    (yP rfl (cV (i:=6) (XN:=mG) (N:=["_law_greatness","_law_path_here","_law_at"]) (XS:=e5 av) (cap:=[none,some 3,some 5]) Z8.nd rfl rfl rfl (by decide +kernel) rfl rfl rfl rfl (iD (e6 d9 (e6 (p3 (uv 2 rfl) d9) g6 rfl) rfl) (fun l=>dO (by rfl) d l)) (fun _ _ _ _=>(gn 0 yQ)) (fun _ _ _ _=>G1) (fun _ _ _ _=>(P1 (j6 (pc j e (e6 (uv 1 rfl) (e6 (uv 2 rfl) (e6 (uv 0 rfl) g6 rfl) rfl) rfl) rfl) (j6 (N7 d9 (uv 0 rfl)) u9 rfl) rfl) rfl)))
   (cV (i:=6) (XN:=mG) (N:=["_law_one"]) (XS:=e5 av) (cap:=[none]) Z8.nd rfl rfl rfl (by decide +kernel) rfl rfl rfl rfl (u5 (uv 6 rfl)) (fun _ _ _ _=>(gn 0 zI)) (fun _ _ _ _=>(ay (G2 (p7 e (uv 0 rfl) d9) B6 (o9 _)))) (fun _ _ _ _=>(PU.y1 (uv 0 rfl))))
   (T5 (U3.m (wu (A8 G4 aS (by rfl) g QW (e6 (uv 6 rfl) g6 rfl)) d9 (o9 _))) (xg rfl (ss 7 Z8.nd (A8 (yH rfl (D9 e)) HZ (by rfl) o PyProof.Rows.boot_max (e6 (uv 6 rfl) g6 rfl)) rfl)
   (V0 (PM.n (D2 (r:=J5) 4 (pv 4) rfl (PU.m (P1 (j6 (PU.y1 (uv 1 rfl)) (j6 (PU.y1 (p7 e (p7 e (p7 e (uv 3 rfl) (uv 5 rfl)) d9) d9)) (j6 (PU.y1 (p7 e (uv 7 rfl) d9)) (j6 (N7 d9 (p7 e (uv 7 rfl) d9)) u9 rfl) rfl) rfl) rfl) rfl)) rfl (fun l=>aP Qt PySem.F.slot_list_append PySem.F.type_list_append B7 (pv 4) l))))) K6)) (fun a b c=>C9 On rfl a b c))
   (S7 4 (pv 4) (by decide) rfl))) x
abbrev vV:UE:=["_law_script","_law_board","_law_feed_here","_law_lower","_law_most"]
theorem di:i8 vV ["_law_script"] (e5 V2):=by walk_at "s"
theorem CU:(["_law_row","_law_lower"]:UE).Nodup:=by decide +kernel
theorem DT (F:P7 K "law" "law" V2 f J) (c:rD P w K mg base q l) (o:qJ P w K mg base G y) (d:ia P w K mg base C x) (b:pW P w K mg base p j) (e:Ct P w K mg base z u) (g:Cj P w K mg base B v) (h:mg "len"=none) (r:mg "min"=none)
  (len:D6 bX 1) (I:au bX Af 5):u6 P w K mg base P6 8 f J ["_law_script"] (D1 K bX):=
 aq (cl:=[.bor,.bor,.own,.bor,.bor]) F di rfl len (fun M A outer O H E a=>(Pe rfl (ss 1 di.nd (pc b a (e6 (uv 0 rfl) (e6 d9 (e6 d9 g6 rfl) rfl) rfl) rfl) rfl)
   (T5 (U3.m (G2 (pc e a (e6 (uv 1 rfl) g6 rfl) rfl) B6 (o9 _))) (Y2 rfl (w8 MN rfl)) K6)
   (ss 2 di.nd (pc o a (e6 (uv 0 rfl) (e6 d9 g6 rfl) rfl) rfl) rfl)
   (E8 (i:=3) di.nd rfl (Or.inr rfl) (PN.y1 (eL (D9 a) (eL (D9 a) (PU.n (p7 a (uv 1 rfl) d9) rfl) (PM.n (Iz (PU.n (N7 (A8 G4 aS (by rfl) h QW (e6 (p7 a (uv 1 rfl) d9) g6 rfl)) d9) rfl) (PM.n (pl 2 d a (n9 (PU.n (A8 (yh rfl) NV (by rfl) r PyProof.Rows.boot_min (e6 d9 (e6 (A8 G4 aS (by rfl) h QW (e6 (p7 a (uv 1 rfl) d9) g6 rfl)) g6 rfl) rfl)) rfl) u3 rfl))))) (fun _ _=>rfl)) (PU.n d9 rfl) (fun _ _=>rfl))) rfl)
   (E8 (i:=4) di.nd rfl (Or.inl rfl) (M0 (PU.n d9 rfl) (PM.n (pl 2 d a (n9 (PU.n d9 rfl) u3 rfl)))) rfl)
   (w8 (Ks a (V9 (XN:=vV) (N:=["_law_row","_law_lower"]) (XS:=e5 V2) (cap:=[none,some 3]) (by decide +kernel) rfl rfl rfl rfl (u5 (pc c a (e6 (uv 1 rfl) (e6 (uv 4 rfl) g6 rfl) rfl) rfl)) (fun _ _ _ _=>(gn 0 CU)) (fun _ _ _ _=>(ay (lV a (p7 a (uv 0 rfl) d9) (uv 1 rfl) (o9 _)))) (fun _ _ _ _=>(PU.y1 (uv 0 rfl)))) (pc g a (e6 (uv 1 rfl) (e6 (uv 3 rfl) (e6 (uv 4 rfl) g6 rfl) rfl) rfl) rfl) (o9 _)) rfl))) I
end
local macro_rules | `(tactic| walk_at "w")=>`(tactic| conv=>whnf)
local macro_rules | `(tactic| walk_at "a")=>`(tactic| first | refine⟨rfl,?_⟩ | refine⟨_,rfl,?_⟩ | refine Br.yes rfl ?_ | refine Br.no rfl ?_ | refine⟨(show(0:Int)<_ from by decide),?_⟩ | refine⟨(show R4 _ _ from⟨by decide,by decide⟩),?_⟩ | refine⟨(show bN _ _ from⟨by decide,by decide,by decide⟩),?_⟩ | refine⟨(show M3 _ _ from .inr ⟨by decide,by decide⟩),?_⟩ | refine⟨(show M3 _ _ from .inl ⟨by decide,by decide⟩),?_⟩ | refine⟨_,_,_,rfl,rfl,rfl,?_⟩ | refine⟨_,N6 _ _,?_⟩ | refine⟨_,bt _ _ _,?_⟩ | refine⟨_,_,rfl,rfl,?_⟩)
local macro_rules | `(tactic| walk_at "r")=>`(tactic| ((repeat ((conv=>whnf);(walk_at "a")));(try (conv=>whnf))))
theorem sz{n:Nat}(h:n<=100000):n<=sizeLine:=by rw[QU];omega
theorem gv(x:Str):∀a:UE,inD (.str x) (a.map D.str)=decide (x∈a)
 | []=>rfl
 | y::a=>by
  have b:=gv x a
  unfold inD at b ⊢
  rw[Bi,Ro,b]
  show(decide (y=x)||decide (x∈a))=_
  by_cases h:y=x
  ·subst h;simp
  ·have c:¬x=y:=fun z=>h z.symm
   simp[h,c]
theorem bb:∀a:UE,(a.map D.str).all aC=true
 | []=>rfl
 | y::a=>by
  rw[Bi,RE,bb a]
  rfl
theorem yw(ds:List D)(Q:D->Prop)(h:O8 ds Q):qe (EP Q) (i7 1 ds):=by
 obtain⟨d,xs,rfl,c,l,g,q⟩:=h
 have body:xs.length<sizeLine/\mV (g1 0) T6 (A4 (g7 (d8 0) (uC (.int 0)))) (T7 [none] [some d]) xs [] fun ds=>(EP Q).rt (.lst ds) [some d]:=by
  refine⟨i5 (by omega),?_⟩
  have e:xs=xs.map id:=by simp
  rw[e]
  refine P2 (F:=id) (f:=fun d=>.str (KS d)) xs [] (fun a i K R b=>?_) ?_
  ·obtain⟨x,r,rfl⟩:=g a i
   walk_at "r"
   exact b
  ·have j:xs.map (fun d=>D.str (KS d))=(xs.map KS).map D.str:=by rw[Qw];rfl
   rw[Go,j]
   exact q
 rcases c with rfl | rfl
 ·exact body
 ·exact body
theorem nc:∀{gs:List Gd} {g:Gd},(gs.map (·.nm)).Nodup->g∈gs->gs.find? (fun h=>decide (h.nm=g.nm))=some g
 | [],_,_,h=>by cases h
 | a::as,g,h,b=>by
  rw[Bi] at h
  obtain⟨d,c⟩:=List.nodup_cons.mp h
  rw[QF]
  rcases List.mem_cons.mp b with e | e
  ·subst e;rw[Da rfl]
  ·have ne:¬a.nm=g.nm:=fun z=>d (z▸List.mem_map.mpr ⟨g,e,rfl⟩)
   rw[Fk ne]
   exact nc c e
theorem aD{gs:List Gd}{g:Gd}(h:(gs.map (·.nm)).Nodup)(a:g∈gs):nE gs g.nm=g.un:=by
 unfold nE
 rw[nc h a]
def qO(gs:List Gd)(dp:Nat->Nat)(n:Nat)(y:Str):Prop:=∃(j:Nat) (g:Gd),gs[j]?=some g/\g.nm=y/\1<=dp j/\dp j<=n
def oJ(gs:List Gd)(dp:Nat->Nat):Prop:=∀i g,gs[i]?=some g->1<=dp i/\dp i<=8/\(g.un=none->dp i=1)/\∀y,g.un=some y->∃j a,j<i/\gs[j]?=some a/\a.nm=y/\dp i=dp j+1
theorem qO.next{gs:List Gd}{dp:Nat->Nat}{n:Nat}{y z:Str}(h:oJ gs dp)(o:(gs.map (·.nm)).Nodup)(d:qO gs dp (n+1) y)(e:nE gs y=some z):qO gs dp n z:=by
 obtain⟨j,g,c,rfl,r,q⟩:=d
 rw[aD o (AC c)] at e
 obtain⟨_,_,_,a⟩:=h j g c
 obtain⟨b,i,_,l,p,u⟩:=a z e
 exact⟨b,i,l,p,(h b i l).1,by omega⟩
theorem Gx(ds:List D)(Q:D->Prop)(h:cm ds Q):CI (EP Q) (i7 5 ds):=by
 obtain⟨d,gs,x,rfl,hs,J,⟨X,I,e0⟩,q⟩:=h
 obtain⟨dp,o⟩:=J.un
 have o:oJ gs dp:=o
 have hl:=J.len
 have G:=J.nd
 have rest:∀b:List (Key×D),(∀g∈gs,x9 b (.inr g.nm)=some (uD g.un))->qf (EP Q) [some d,some (.str x),some (.dic b),none,none]:=fun b hv=>by
  walk_at "r"
  refine⟨fun m O=>∃(acc:UE) (a:Option Str) (B:Option D),O=[some d,some (uD a),some (.dic b),B,some (jE acc)]/\acc++ups gs m a=ups gs 8 (some x)/\acc.length<=8-m/\m<=8/\(∀y,a=some y->qO gs dp m y),⟨8,[],some x,none,rfl,rfl,KM _,sK _,fun y hy=>?_⟩,?_⟩
  ·cases hy
   obtain⟨j,S⟩:=Qx I
   obtain⟨a1,a2,_⟩:=o j X S
   exact⟨j,X,S,e0,a1,a2⟩
  ·rintro m O ⟨acc,a,B,rfl,c,ha,hm,hd⟩
   cases a with
   | none=>
    walk_at "r"
    have e:ups gs m none=[]:=by cases m<;>rfl
    rw[e,Do] at c
    rw[<-c] at q
    exact q
   | some y=>
    have M:=hd y rfl
    have H:∃C,m=C+1:=by
     obtain⟨_,_,_,_,U,T⟩:=M
     exact⟨m-1,by omega⟩
    obtain⟨C,rfl⟩:=H
    have p:∃g∈gs,g.nm=y:=by
     obtain⟨j,g,U,T,_⟩:=M
     exact⟨g,AC U,T⟩
    obtain⟨g,l,rfl⟩:=p
    have i:=aD G l
    walk_at "r"
    refine⟨by rw[eH];exact i5 (by omega),?_⟩
    refine⟨_,_,rfl,hv g l,rfl,?_⟩
    refine⟨C,Rv _,acc++[g.nm],g.un,B,?_,?_,?_,by omega,fun z hz=>M.next o G (i.trans hz)⟩
    ·unfold jE
     rw[GM]
     rfl
    ·rw[PP,<-i]
     exact c
    ·rw[C2,QB];omega
 rcases hs with rfl | rfl
 all_goals
  refine⟨by rw[eH];exact i5 (by omega),?_⟩
  refine mr (k:=fun g:Gd=>.inr g.nm) (v:=fun g:Gd=>uD g.un) gs [] (fun g p K R E=>?_) ⟨rfl,?_⟩
  ·obtain⟨n,u,cv,de,wa⟩:=g
   have E:K (.inr n) (uD u):=E
   have Y:y1 (uD u)=true:=iy u
   walk_at "r"
   exact⟨Y,E⟩
  ·refine rest _ fun g p=>iW (k:=fun g:Gd=>(.inr g.nm:Key)) (v:=fun g:Gd=>uD g.un) gs [] ?_ g p
   have e:gs.map (fun g:Gd=>(.inr g.nm:Key))=(gs.map (·.nm)).map (fun y=>(.inr y:Key)):=by rw[Qw];rfl
   rw[e,List.Nodup,RJ]
   exact G.imp fun h z=>h (RM z)
theorem Mo(gs:List Gd):(gs.map gD).map KS=gs.map (·.nm):=by rw[Qw];rfl
theorem DL(gs:List Gd):∀x∈gs.map gD,Ke x:=fun x a=>by
 obtain⟨g,_,rfl⟩:=List.mem_map.mp a
 exact⟨_,_,rfl⟩
theorem Mj(gs:List Ld):(gs.map lD).map KS=gs.map (·.nm):=by rw[Qw];rfl
theorem GP(gs:List Ld):∀x∈gs.map lD,Ke x:=fun x a=>by
 obtain⟨g,_,rfl⟩:=List.mem_map.mp a
 exact⟨_,_,rfl⟩
theorem o3.eV{b:Bd}(h:o3 b):Ma b.gs:=⟨h.g16,(List.nodup_append.mp h.nd).1,h.un⟩
theorem rS(ds:List D)(Q:D->Prop)(h:K5 ds Q):kZ (EP Q) (i7 1 ds):=by
 obtain⟨b,rfl,a,q⟩:=h
 have:=a.g16
 walk_at "r"
 refine⟨_,_,rfl,.inl rfl,by rw[eH];omega,DL _,?_⟩
 rw[Mo]
 exact q
theorem xr(ds:List D)(Q:D->Prop)(h:S5 ds Q):om (EP Q) (i7 1 ds):=by
 obtain⟨b,rfl,a,q⟩:=h
 have:=a.l24
 walk_at "r"
 refine⟨_,_,rfl,.inl rfl,by rw[eH];omega,GP _,?_⟩
 rw[Mj]
 exact q
theorem tw(ds:List D)(Q:D->Prop)(h:O0 ds Q):ko (EP Q) (i7 2 ds):=by
 obtain⟨b,d,rfl,g,e,q⟩:=h
 obtain⟨a,c⟩:=HD e
 refine⟨d,a,"str",rfl,c,rfl,?_⟩
 show Br (DS a "str") _ _
 cases d<;>first | (cases c;done) | skip
 case str x=>
  cases c
  refine Br.yes rfl ?_
  have q:Q (.bl (decide (x∈y7 b))):=q
  rw[<-gv] at q
  refine⟨b,rfl,g,?_⟩
  exact⟨rfl,_,rfl,bb _,q⟩
 all_goals
  cases c
  exact Br.no (by decide) q
theorem yz(ds:List D)(Q:D->Prop)(h:R6 ds Q):qE (EP Q) (i7 2 ds):=by
 obtain⟨b,d,rfl,g,e,q⟩:=h
 obtain⟨a,c⟩:=HD e
 refine⟨d,a,"str",rfl,c,rfl,?_⟩
 show Br (DS a "str") _ _
 cases d<;>first | (cases c;done) | skip
 case str x=>
  cases c
  refine Br.yes rfl ?_
  have q:Q (.bl (decide (x∈O7 b))):=q
  rw[<-gv] at q
  refine⟨b,rfl,g,?_⟩
  exact⟨rfl,_,rfl,bb _,q⟩
 all_goals
  cases c
  exact Br.no (by decide) q
theorem rW(ds:List D)(Q:D->Prop)(h:N8 ds Q):lp (EP Q) (i7 2 ds):=by
 obtain⟨b,d,rfl,c,a,q⟩:=h
 refine⟨b,d,rfl,c,a,?_⟩
 show Br (lL (y7 b) d) _ _
 refine⟨fun e=>?_,fun e=>⟨b,d,rfl,c,a,?_⟩⟩
 ·rw[e] at q;exact q
 ·rw[e] at q;exact q
theorem Ee{b:Bd}(a:o3 b):(b.ls.map (·.nm)).Nodup:=(List.nodup_append.mp a.nd).2.1
theorem O2:∀{ls:List Ld} {l:Ld},(ls.map (·.nm)).Nodup->l∈ls->ls.find? (fun h=>decide (h.nm=l.nm))=some l
 | [],_,_,h=>by cases h
 | a::as,g,h,b=>by
  rw[Bi] at h
  obtain⟨d,c⟩:=List.nodup_cons.mp h
  rw[QF]
  rcases List.mem_cons.mp b with e | e
  ·subst e;rw[Da rfl]
  ·have ne:¬a.nm=g.nm:=fun z=>d (z▸List.mem_map.mpr ⟨g,e,rfl⟩)
   rw[Fk ne]
   exact O2 c e
theorem aE{ls:List Ld}{x:Str}(h:x∉ls.map (·.nm)):ls.find? (fun h=>decide (h.nm=x))=none:=by
 rw[List.find?_eq_none]
 intro l a e
 exact h (List.mem_map.mpr ⟨l,a,QD e⟩)
theorem ra{b:Bd}(a:o3 b){x:Str}(d:x∈y7 b++O7 b):∃g∈b.gs,g.nm=W3 b x:=by
 unfold W3
 rcases List.mem_append.mp d with h | h
 ·have i:x∉b.ls.map (·.nm):=fun z=>(List.nodup_append.mp a.nd).2.2 x h x z rfl
  rw[aE i]
  obtain⟨g,j,e⟩:=List.mem_map.mp h
  exact⟨g,j,e⟩
 ·obtain⟨l,c,rfl⟩:=List.mem_map.mp h
  rw[O2 (Ee a) c]
  exact a.at_ l c
theorem DE{b:Bd}(g:o3 b)(a:List (Key×D))(d:∀l∈b.ls,x9 a (.inr l.nm)=some (.str l.at_))(e:∀x,x∉O7 b->x9 a (.inr x)=none)(x:Str):(x9 a (.inr x)).getD (.str x)=.str (W3 b x):=by
 unfold W3
 by_cases h:x∈O7 b
 ·obtain⟨l,c,rfl⟩:=List.mem_map.mp h
  rw[O2 (Ee g) c,d l c];rfl
 ·rw[aE h,e x h];rfl
theorem Jc(ds:List D)(Q:D->Prop)(W:Str->Prop)(h:eX ds Q W):Hk W (EP Q) (i7 4 ds):=by
 obtain⟨b,d,rfl,a,p,h⟩:=h
 refine⟨b,d,rfl,a,p,?_⟩
 show Br (!(lL (y7 b) d||lL (O7 b) d)) (gB W _ _) _
 rcases h with⟨x,rfl,j,q⟩ | ⟨G,E,w⟩
 ·refine Br.no ?_ ?_
  ·show(!(decide (x∈y7 b)||decide (x∈O7 b)))=false
   rcases List.mem_append.mp j with h | h
   ·rw[Da h];rfl
   ·rw[Da h,Bool.or_true];rfl
  have C:=a.l24
  refine⟨_,bt _ _ _,by rw[eH];exact i5 (by omega),?_⟩
  refine mr (k:=fun l:Ld=>.inr l.nm) (v:=fun l:Ld=>.str l.at_) b.ls [] (fun l c K R i=>?_) ⟨rfl,?_⟩
  ·obtain⟨n,u,cv,de,wa⟩:=l
   have i:K (.inr n) (.str u):=i
   walk_at "r"
   exact i
  ·have e:=DE a _ (fun l c=>iW (k:=fun g:Ld=>(.inr g.nm:Key)) (v:=fun g:Ld=>.str g.at_) b.ls [] (by
     have e:b.ls.map (fun g:Ld=>(.inr g.nm:Key))=(b.ls.map (·.nm)).map (fun y=>(.inr y:Key)):=by rw[Qw];rfl
     rw[e,List.Nodup,RJ]
     exact(Ee a).imp fun h z=>h (RM z)) l c)
    (fun y o=>dX (k:=fun g:Ld=>(.inr g.nm:Key)) (v:=fun g:Ld=>.str g.at_) (.inr y) b.ls [] fun l c z=>o (List.mem_map.mpr ⟨l,c,RM z⟩)) x
   obtain⟨g,B,H⟩:=ra a j
   walk_at "r"
   rw[e]
   exact⟨rfl,_,b.gs,W3 b x,rfl,.inl rfl,a.eV,⟨g,B,H⟩,q⟩
 ·refine Br.yes (by rw[G,E];rfl) ?_
  exact⟨rfl,w⟩
theorem sum_add{a:Type}(f g:a->Int):∀l:List a,(l.map fun x=>f x+g x).sum=(l.map f).sum+(l.map g).sum
 | []=>rfl
 | x::l=>by
  rw[Bi,Bi,Bi,Rf,Rf,Rf,sum_add f g l]
  omega
theorem O3{a:Type}(l:List a)(f:a->Int)(h:∀x∈l,f x=0):(l.map f).sum=0:=by
 induction l with
 | nil=>rfl
 | cons x l b=>rw[Bi,Rf,h x lP,b fun y c=>h y (hQ _ c)];rfl
theorem K4{a:Type}{l:List a}{f g:a->Int}(h:∀x∈l,f x=g x):(l.map f).sum=(l.map g).sum:=by
 rw[Sm h]
theorem oP{b a:Type}(f:b->a->Int)(m:List a):∀l:List b,(l.map fun x=>(m.map fun y=>f x y).sum).sum=(m.map fun y=>(l.map fun x=>f x y).sum).sum
 | []=>(O3 m (fun _=>0) fun _ _=>rfl).symm
 | x::l=>by
  rw[Bi,Rf,oP f m l,<-sum_add]
  rfl
theorem vT{a:Type}(f:a->Int)(c:Int):∀l:List a,(l.map f).sum*c=(l.map fun x=>f x*c).sum
 | []=>Sr c
 | x::l=>by rw[Bi,Bi,Rf,Rf,TD,vT f c l]
theorem mf{b:Type}{nm:b->Str}(f:b->Int):∀{l:List b} {a:b},(l.map nm).Nodup->a∈l->(l.map fun x=>if nm x=nm a then f x else 0).sum=f a
 | [],_,_,h=>by cases h
 | x::l,a,nd,h=>by
  rw[Bi] at nd
  obtain⟨c,g⟩:=List.nodup_cons.mp nd
  rw[Bi,Rf]
  rcases List.mem_cons.mp h with e | e
  ·subst e
   rw[wS rfl,O3 l _ fun y d=>wP fun z:nm y=nm a=>c (z▸List.mem_map.mpr ⟨y,d,rfl⟩)]
   omega
  ·have ne:¬nm x=nm a:=fun z=>c (z▸List.mem_map.mpr ⟨a,e,rfl⟩)
   rw[wP ne,mf f g e]
   omega
theorem ff(y x:Str)(l:UE):(((x::l).count y:Nat):Int)=(if x=y then 1 else 0)+((l.count y:Nat):Int):=by
 rw[List.count_cons]
 by_cases h:x=y
 ·subst h;simp;omega
 ·simp[h]
theorem wI{gs:List Gd}{dp:Nat->Nat}(b:oJ gs dp)(nd:(gs.map (·.nm)).Nodup)(y:Str):∀(n:Nat) (x:Str),qO gs dp n x ->
  (((ups gs n (some x)).count y:Nat):Int)=(if x=y then 1 else 0)+(gs.map fun h=>if h.un=some y then(((ups gs n (some x)).count h.nm:Nat):Int) else 0).sum
 | 0,x,d=>by
  obtain⟨_,_,_,_,p,o⟩:=d
  omega
 | n+1,x,d=>by
  obtain⟨j,g,l,rfl,p,o⟩:=id d
  have c:=AC l
  have a:=aD nd c
  have C:ups gs (n+1) (some g.nm)=g.nm::ups gs n g.un:=by
   show g.nm::ups gs n (nE gs g.nm)=_
   rw[a]
  rw[C,ff]
  have B:(gs.map fun h=>if h.un=some y then(((g.nm::ups gs n g.un).count h.nm:Nat):Int) else 0).sum=(if g.un=some y then 1 else 0)+(gs.map fun h=>if h.un=some y then(((ups gs n g.un).count h.nm:Nat):Int) else 0).sum:=by
   have v:=mf (nm:=fun h:Gd=>h.nm) (fun h:Gd=>if h.un=some y then 1 else 0) nd c
   rw[<-v,<-sum_add]
   refine K4 fun h _=>?_
   rw[ff]
   by_cases z:h.un=some y
   ·rw[wS z,wS z,wS z]
    by_cases z2:g.nm=h.nm
    ·rw[wS z2,wS z2.symm]
    ·rw[wP z2,wP fun w=>z2 w.symm]
   ·rw[wP z,wP z,wP z]
    split<;>rfl
  rw[B]
  cases i:g.un with
  | none=>
   have u:ups gs n none=[]:=by cases n<;>rfl
   rw[u,O3 gs _ fun h _=>by split<;>rfl]
   rw[show(if (none:Option Str)=some y then(1:Int) else 0)=0 from wP (by intro z;cases z)]
   simp
  | some z=>
   have E:=d.next b nd (a.trans i)
   have e:=wI b nd y n z E
   rw[e]
   have r:(if (some z:Option Str)=some y then(1:Int) else 0)=if z=y then 1 else 0:=by
    by_cases w:z=y
    ·rw[wS w,wS (by rw[w])]
    ·rw[wP w,wP fun q=>w (Qn q)]
   rw[r]
theorem U2{b:Bd}(d:o3 b){x:Str}(a:x∈y7 b):W3 b x=x:=by
 have c:x∉b.ls.map (·.nm):=fun z=>(List.nodup_append.mp d.nd).2.2 x a x z rfl
 unfold W3;rw[aE c]
theorem vU{b:Bd}(c:o3 b){l:Ld}(a:l∈b.ls):W3 b l.nm=l.at_:=by
 unfold W3;rw[O2 (Ee c) a]
theorem vC{b:Bd}(h:o3 b):∃dp,oJ b.gs dp/\∀x∈y7 b,qO b.gs dp 8 x:=by
 obtain⟨dp,a⟩:=h.eV.un
 refine⟨dp,a,fun x d=>?_⟩
 obtain⟨g,e,rfl⟩:=List.mem_map.mp d
 obtain⟨j,c⟩:=Qx e
 obtain⟨a1,a2,_⟩:=a j g c
 exact⟨j,g,c,rfl,a1,a2⟩
theorem pI{b:Bd}(d:o3 b){x:Str}(a:x∈y7 b++O7 b):W3 b x∈y7 b:=by
 obtain⟨g,c,e⟩:=ra d a
 rw[<-e];exact List.mem_map.mpr ⟨g,c,rfl⟩
theorem BZ{b:Bd}(a:o3 b){x:Str}(d:x∈y7 b++O7 b)(y:Str) :
  (((j8 b x).count y:Nat):Int)=(if W3 b x=y then 1 else 0)+(b.gs.map fun h=>if h.un=some y then(((j8 b x).count h.nm:Nat):Int) else 0).sum:=by
 obtain⟨dp,c,dd⟩:=vC a
 exact wI c a.eV.nd y 8 _ (dd _ (pI a d))
theorem cP{gs:List Gd}{dp:Nat->Nat}(a:oJ gs dp)(nd:(gs.map (·.nm)).Nodup):∀(n m:Nat) (x:Str),qO gs dp n x->n<=m->ups gs m (some x)=ups gs n (some x)
 | 0,_,_,d,_=>by
  obtain⟨_,_,_,_,e,c⟩:=d
  omega
 | n+1,0,_,_,h=>by omega
 | n+1,m+1,x,d,h=>by
  show x::ups gs m (nE gs x)=x::ups gs n (nE gs x)
  cases b:nE gs x with
  | none=>cases m<;>cases n<;>rfl
  | some z=>rw[cP a nd n m z (d.next a nd b) (by omega)]
theorem vS{gs:List Gd}{dp:Nat->Nat}(b:oJ gs dp)(nd:(gs.map (·.nm)).Nodup):∀(n:Nat) (x y:Str),n<=8->qO gs dp n x->y∈ups gs n (some x)->∀z∈ups gs 8 (some y),z∈ups gs n (some x)
 | 0,_,_,_,d,_=>by
  obtain⟨_,_,_,_,i,h⟩:=d
  omega
 | n+1,x,y,g,d,c=>by
  have c:y∈x::ups gs n (nE gs x):=c
  rcases List.mem_cons.mp c with e | e
  ·subst e
   rw[cP b nd (n+1) 8 y d g]
   exact fun z hz=>hz
  ·cases a:nE gs x with
   | none=>
    rw[a] at e
    cases n<;>cases e
   | some w=>
    rw[a] at e
    intro z hz
    show z∈x::ups gs n (nE gs x)
    rw[a]
    exact hQ _ (vS b nd n w y (by omega) (d.next b nd a) e z hz)
theorem EL{b:Bd}(a:o3 b){x y:Str}(e:x∈y7 b++O7 b)(d:y∈y7 b)(h:y∈j8 b x):∀z∈j8 b y,z∈j8 b x:=by
 obtain⟨dp,c,dd⟩:=vC a
 unfold j8
 rw[U2 a d]
 exact vS c a.eV.nd 8 _ y (sK _) (dd _ (pI a e)) h
theorem zX{b:Bd}(d:o3 b){op:UE}{x y:Str}(c:x∈y7 b++O7 b)(a:y∈y7 b)(h:y∈j8 b x)(f:G5 b op x=true):G5 b op y=true:=by
 unfold G5 at f ⊢
 rw[RQ] at f ⊢
 exact fun z hz=>f z (EL d c a h z hz)
theorem Ji{b:Bd}(a:o3 b){op:UE}{x:Str}(c:x∈y7 b++O7 b):G5 b op x=G5 b op (W3 b x):=by
 unfold G5 j8
 rw[U2 a (pI a c)]
def uP(b:Bd)(P:Str->Int)(y:Str):Int:=P y+(b.ls.map fun l=>if l.at_=y then P l.nm else 0).sum
theorem Fh{b:Bd}(c:o3 b)(P:Str->Int){y:Str}(d:y∈y7 b):((y7 b++O7 b).map fun x=>if W3 b x=y then P x else 0).sum=uP b P y:=by
 rw[GM,Sl]
 have i:((y7 b).map fun x=>if W3 b x=y then P x else 0).sum=P y:=by
  have:=mf (nm:=fun x:Str=>x) P (l:=y7 b) (a:=y) (by rw[List.map_id'];exact c.eV.nd) d
  rw[<-this]
  exact K4 fun x e=>by rw[U2 c e]
 have h:((O7 b).map fun x=>if W3 b x=y then P x else 0).sum=(b.ls.map fun l=>if l.at_=y then P l.nm else 0).sum:=by
  unfold O7
  rw[Qw]
  exact K4 fun l g=>by
   show(if W3 b l.nm=y then P l.nm else 0)=_
   rw[vU c g]
 rw[i,h];rfl
theorem BE{b:Bd}(d:o3 b)(op:UE)(P:Str->Int){y:Str}(e:y∈y7 b) :
  O4 b op P y=if G5 b op y then uP b P y+(b.gs.map fun h=>if h.un=some y then O4 b op P h.nm else 0).sum else 0:=by
 by_cases f:G5 b op y=true
 ·rw[wS f,<-Fh d P e]
  have j:(b.gs.map fun h=>if h.un=some y then O4 b op P h.nm else 0).sum=((y7 b++O7 b).map fun x=>(b.gs.map fun h=>if h.un=some y then(if G5 b op x then(((j8 b x).count h.nm:Nat):Int)*P x else 0) else 0).sum).sum:=by
   rw[oP]
   refine K4 fun h _=>?_
   by_cases z:h.un=some y
   ·rw[wS z]
    unfold O4
    exact K4 fun x _=>by rw[wS z]
   ·rw[wP z]
    exact(O3 _ _ fun x _=>wP z).symm
  rw[j,<-sum_add]
  unfold O4
  refine K4 fun x c=>?_
  rw[BZ d c y,TD,vT]
  by_cases a:G5 b op x=true
  ·rw[wS a]
   have i:(if W3 b x=y then(1:Int) else 0)*P x=if W3 b x=y then P x else 0:=by split<;>simp
   rw[i]
   congr 1
   refine K4 fun h _=>?_
   by_cases z:h.un=some y
   ·rw[wS z,wS z,wS a]
   ·rw[wP z,wP z];simp
  ·rw[wP a]
   have g:¬W3 b x=y:=fun z=>a (by rw[Ji d c,z];exact f)
   rw[wP g,O3 b.gs _ fun h _=>by rw[wP a];split<;>rfl]
   rfl
 ·rw[wP f]
  unfold O4
  refine O3 _ _ fun x c=>?_
  by_cases a:G5 b op x=true
  ·rw[wS a]
   have:y∉j8 b x:=fun z=>f (zX d c e z a)
   rw[List.count_eq_zero.mpr this];simp
  ·rw[wP a]
end My
namespace My
open PySem L2 L3
local macro_rules | `(tactic| walk_at "w")=>`(tactic| conv=>whnf)
local macro_rules | `(tactic| walk_at "a")=>`(tactic| first | refine⟨rfl,?_⟩ | refine⟨_,rfl,?_⟩ | refine Br.yes rfl ?_ | refine Br.no rfl ?_ | refine⟨(show(0:Int)<_ from by decide),?_⟩ | refine⟨(show R4 _ _ from⟨by decide,by decide⟩),?_⟩ | refine⟨(show bN _ _ from⟨by decide,by decide,by decide⟩),?_⟩ | refine⟨(show M3 _ _ from .inr ⟨by decide,by decide⟩),?_⟩ | refine⟨(show M3 _ _ from .inl ⟨by decide,by decide⟩),?_⟩ | refine⟨_,_,_,rfl,rfl,rfl,?_⟩ | refine⟨_,N6 _ _,?_⟩ | refine⟨_,bt _ _ _,?_⟩ | refine⟨_,_,rfl,rfl,?_⟩)
local macro_rules | `(tactic| walk_at "r")=>`(tactic| ((repeat ((conv=>whnf);(walk_at "a")));(try (conv=>whnf))))
theorem zm{o:D}{op:UE}(h:IM o op):qY o=some (op.map D.str):=by
 rcases h with rfl | rfl<;>rfl
theorem dC{b:Type}(k:b->Str)(v:b->D):∀as:List b,bT (as.map fun a=>.tup [.str (k a),v a])=some (as.map fun a=>((.inr (k a):Key),v a))
 | []=>rfl
 | a::as=>by
  rw[Bi]
  unfold bT
  rw[dC k v as]
  rfl
theorem kP{b:Type}(k:b->Str)(v:b->D)(as:List b):jg (as.map fun a=>((.inr (k a):Key),v a))=as.foldl (fun acc a=>putD acc (.inr (k a)) (v a)) []:=by
 unfold jg
 rw[List.foldl_map]
theorem Q4{b:Type}{k:b->Str}{v:b->D}{as:List b}(nd:(as.map k).Nodup){a:b}(c:a∈as):x9 (as.map fun a=>((.inr (k a):Key),v a)) (.inr (k a))=some (v a):=by
 induction as with
 | nil=>cases c
 | cons x as d=>
  rw[Bi] at nd
  obtain⟨h,g⟩:=List.nodup_cons.mp nd
  unfold x9
  rw[Bi,QF]
  rcases List.mem_cons.mp c with e | e
  ·subst e
   rw[Da rfl];rfl
  ·have ne:¬(Sum.inr (k x):Key)=Sum.inr (k a):=fun z=>h (RM z▸List.mem_map.mpr ⟨a,e,rfl⟩)
   rw[Fk ne]
   exact d g e
theorem iC{b:Type}{k:b->Str}{v:b->D}{as:List b}{x:Str}(h:x∉as.map k):x9 (as.map fun a=>((.inr (k a):Key),v a)) (.inr x)=none:=by
 unfold x9
 rw[Option.map_eq_none_iff,List.find?_eq_none]
 intro g c e
 obtain⟨a,d,rfl⟩:=List.mem_map.mp c
 exact h (List.mem_map.mpr ⟨a,d,RM (QD e)⟩)
theorem lC{b:Type}{k:b->Str}{v:b->D}(as:List b)(x:Str):((as.map fun a=>((.inr (k a):Key),v a)).any fun g=>decide (g.1=Sum.inr x))=decide (x∈as.map k):=by
 by_cases h:x∈as.map k
 ·rw[Da h,Tz]
  obtain⟨a,d,rfl⟩:=List.mem_map.mp h
  exact⟨_,List.mem_map.mpr ⟨a,d,rfl⟩,Da rfl⟩
 ·rw[Fk h,RZ]
  intro g c e
  obtain⟨a,d,rfl⟩:=List.mem_map.mp c
  exact h (List.mem_map.mpr ⟨a,d,RM (QD e)⟩)
theorem dY{b:Type}{k:b->Str}{v:b->D}{as:List b}{x:Str}{d:D}(h:x∉as.map k):putD (as.map fun a=>((.inr (k a):Key),v a)) (.inr x) d=(as.map fun a=>((.inr (k a):Key),v a))++[(.inr x,d)]:=by
 unfold putD
 rw[lC,Fk h];rfl
theorem cS{b:Bd}{v:Str->Int}{x:Str}{n:Int}(a:x∈y7 b):putD (o5 b v) (.inr x) (.int n)=o5 b (fun y=>if y=x then n else v y):=by
 unfold o5 putD
 rw[lC (k:=fun g:Gd=>g.nm) (v:=fun g:Gd=>.int (v g.nm)),Da (show x∈b.gs.map (fun g:Gd=>g.nm) from a),wS rfl,Qw]
 refine Sm fun g _=>?_
 show(if (Sum.inr g.nm:Key)=Sum.inr x then _ else _)=_
 by_cases e:g.nm=x
 ·rw[wS (by rw[e])]
  show(_,D.int n)=(_,D.int (if g.nm=x then n else v g.nm))
  rw[wS e]
 ·rw[wP fun z=>e (RM z)]
  show(_,D.int (v g.nm))=(_,D.int (if g.nm=x then n else v g.nm))
  rw[wP e]
theorem L9{b:Bd}(d:o3 b){v:Str->Int}{x:Str}(a:x∈y7 b):x9 (o5 b v) (.inr x)=some (.int (v x)):=by
 obtain⟨g,c,rfl⟩:=List.mem_map.mp a
 exact Q4 (k:=fun g:Gd=>g.nm) (v:=fun g:Gd=>.int (v g.nm)) d.eV.nd c
theorem B3{b:Bd}{v w:Str->Int}(h:∀x∈y7 b,v x=w x):o5 b v=o5 b w:=
 Sm fun g a=>by rw[h g.nm (List.mem_map.mpr ⟨g,a,rfl⟩)]
theorem cW(b:Bd)(v:Str->Int):(o5 b v).length=b.gs.length:=eH _
theorem R5{b:Type}{k:b->Str}{v:b->D}:∀{as bs:List b},((bs++as).map k).Nodup->as.foldl (fun acc a=>putD acc (.inr (k a)) (v a)) (bs.map fun a=>((.inr (k a):Key),v a))=(bs++as).map fun a=>((.inr (k a):Key),v a)
 | [],bs,_=>by rw[Do];rfl
 | a::as,bs,nd=>by
  have e:bs++a::as=(bs++[a])++as:=by rw[PP];rfl
  rw[RC,e]
  have c:k a∉bs.map k:=fun z=>by
   rw[GM,Bi] at nd
   exact(List.nodup_append.mp nd).2.2 _ z _ lP rfl
  rw[dY c]
  have d:(bs.map fun a=>((.inr (k a):Key),v a))++[(.inr (k a),v a)]=(bs++[a]).map fun a=>((.inr (k a):Key),v a):=by rw[GM];rfl
  rw[d]
  exact R5 (by rw[<-e];exact nd)
theorem ba{j:Type}{g:aH}{tc:ar}{tk te:TU}{i:Ev}{F v:j->D}{k:j->Key}{Q:List (Key×D)->Prop}(p:j->Bool):∀(as:List j) (acc:List (Key×D)),(∀a∈as,∀(K:Key->D->Prop) (R:Prop),(p a=true->K (k a) (v a))->(p a=false->R)->g (F a) i fun c=>tc c fun b=>Br b (tk c fun y=>te c fun d=>∃k,ak y=some k/\y1 d=true/\K k d) R) ->
  Q ((as.filter p).foldl (fun acc a=>putD acc (k a) (v a)) acc)->lI g tc tk te i (as.map F) acc Q
 | [],acc,_,q=>q
 | a::as,acc,h,q=>by
  rw[Bi]
  refine h a lP (fun k d=>lI g tc tk te i (as.map F) (putD acc k d) Q) _ (fun e=>ba p as _ (fun b l=>h b (hQ _ l)) ?_) fun e=>ba p as acc (fun b l=>h b (hQ _ l)) ?_
  ·rw[Rc,wS e] at q;exact q
  ·rw[Rc,wP (by rw[e];exact tL)] at q;exact q
theorem oG{kvs:List (Key×D)}(h:uS kvs)(x:Str):(x9 kvs (.inr x)).getD (.int 0)=.int (Pd kvs x):=by
 unfold Pd
 cases e:x9 kvs (.inr x) with
 | none=>rfl
 | some d=>
  unfold x9 at e
  obtain⟨b,a,rfl⟩:=Option.map_eq_some_iff.mp e
  obtain⟨n,c⟩:=h b (List.mem_of_find?_eq_some a)
  show b.2=_
  rw[c]
theorem CV(op:UE)(x:Str):zh (op.map Sum.inr) (.inr x)=decide (x∈op):=by
 unfold zh
 rw[List.any_map]
 by_cases h:x∈op
 ·rw[Da h,Tz]
  exact⟨x,h,Da rfl⟩
 ·rw[Fk h,RZ]
  intro y a e
  have:y=x:=RM (QD e)
  exact h (this▸a)
theorem Ak{b:Bd}(a:o3 b)(op:UE){g:Gd}(i:g∈b.gs):G5 b op g.nm=(decide (g.nm∉op)&&match g.un with | none=>true | some y=>G5 b op y):=by
 have e:g.nm∈y7 b:=List.mem_map.mpr ⟨g,i,rfl⟩
 obtain⟨dp,d,dd⟩:=vC a
 have c:=aD a.eV.nd i
 have v:j8 b g.nm=g.nm::ups b.gs 7 g.un:=by
  unfold j8
  rw[U2 a e]
  show g.nm::ups b.gs 7 (nE b.gs g.nm)=_
  rw[c]
 unfold G5
 rw[v,RE]
 cases p:g.un with
 | none=>rfl
 | some y=>
  have l:=(dd _ e).next d a.eV.nd (c.trans p)
  have o:y∈y7 b:=by
   obtain⟨j,h,r,q,_⟩:=l
   exact List.mem_map.mpr ⟨h,AC r,q⟩
  have u:j8 b y=ups b.gs 7 (some y):=by
   unfold j8
   rw[U2 a o]
   exact cP d a.eV.nd 7 8 y l (by decide)
  show(_&&_)=(_&&(j8 b y).all _)
  rw[u]
theorem yr(ds:List D)(Q:D->Prop)(h:S2 ds Q):nq (EP Q) (i7 1 ds):=by
 obtain⟨cv,rfl,a,q⟩:=h
 cases cv with
 | nil=>exact absurd a.1 (by decide)
 | cons p ps=>
  walk_at "r"
  exact q
theorem Qh{T:W7}{b:Bd}{o:D}{op:UE}{i:Nat}{g:Gd}{u:Option D}(q:o3 b)(p:b.gs[i]?=some g)
  (I:T.nx [some (bD b),some o,some (.st (op.map Sum.inr)),some (.dic ((b.gs.take (i+1)).map fun g=>(.inr g.nm,.bl (G5 b op g.nm)))),u,some (.str g.nm),some (uD g.un)]) :
  af T [some (bD b),some o,some (.st (op.map Sum.inr)),some (.dic ((b.gs.take i).map fun g=>(.inr g.nm,.bl (G5 b op g.nm)))),u,some (.str g.nm),some (uD g.un)]:=by
 have S:=q.g16
 have G:=AC p
 have U:=(List.getElem?_eq_some_iff.mp p).1
 have c:g.nm∉(b.gs.take i).map (fun g:Gd=>g.nm):=fun z=>by
  obtain⟨h,R,e⟩:=List.mem_map.mp z
  obtain⟨j,d⟩:=Qx R
  have E:=(List.getElem?_eq_some_iff.mp d).1
  rw[Op] at E
  rw[QP (by omega)] at d
  have:=(Sz (i:=j) (j:=i) (l:=b.gs.map (·.nm)) (by rw[eH];omega) q.eV.nd).mp (by rw[wE,wE,d,p];show some h.nm=some g.nm;rw[e])
  omega
 have a:∀k:Bool,k=G5 b op g.nm->∃j,ak (.str g.nm)=some j/\((b.gs.take i).map fun g:Gd=>((.inr g.nm:Key),D.bl (G5 b op g.nm))).length<sizeLine/\T.nx [some (bD b),some o,some (.st (op.map Sum.inr)),some (.dic (putD ((b.gs.take i).map fun g=>(.inr g.nm,.bl (G5 b op g.nm))) j (.bl k))),u,some (.str g.nm),some (uD g.un)]:=fun k Q=>by
  refine⟨.inr g.nm,rfl,by rw[eH,Op];exact i5 (by omega),?_⟩
  rw[dY (k:=fun g:Gd=>g.nm) (v:=fun g:Gd=>.bl (G5 b op g.nm)) c,Q]
  rw[Qp,p,GM] at I
  exact I
 have st:=Ak q op G
 refine⟨_,rfl,?_⟩
 show Br (!zh (op.map Sum.inr) (.inr g.nm)) _ _
 rw[CV]
 by_cases r:g.nm∈op
 ·refine Br.no (by rw[Da r];rfl) ?_
  rw[show decide (g.nm∉op)=false from Fk fun z=>z r] at st
  exact⟨rfl,rfl,a false st.symm⟩
 ·refine Br.yes (by rw[Fk r];rfl) ?_
  rw[show decide (g.nm∉op)=true from Da r,Bool.true_and] at st
  cases B:g.un with
  | none=>
   rw[B] at st a
   exact Br.yes rfl ⟨rfl,rfl,a true st.symm⟩
  | some y=>
   rw[B] at st a
   obtain⟨dp,M⟩:=q.un
   obtain⟨_,_,_,up⟩:=M i g p
   obtain⟨j,J,d,H,rfl,_⟩:=up y B
   have C:J∈b.gs.take i:=by
    refine AC (i:=j) ?_
    rw[QP d];exact H
   have x:((b.gs.take i).map fun g:Gd=>g.nm).Nodup:=by
    rw[List.map_take]
    exact q.eV.nd.sublist (RI _ _)
   have O:=Q4 (k:=fun g:Gd=>g.nm) (v:=fun g:Gd=>.bl (G5 b op g.nm)) x C
   refine Br.no rfl ?_
   exact⟨_,_,rfl,O,rfl,rfl,a (G5 b op J.nm) st.symm⟩
theorem oQ(ds:List D)(Q:D->Prop)(h:K3 ds Q):iS (EP Q) (i7 7 ds):=by
 obtain⟨b,o,op,rfl,p,u,v,q⟩:=h
 have z:=p.g16
 have B:op.map D.str=(op.map (Sum.inr:Str->Key)).map kD:=by rw[Qw];rfl
 refine⟨o,op.map Sum.inr,rfl,by rw[<-B];exact zm u,by rw[eH];exact v,rfl,rfl,?_⟩
 refine⟨_,N6 _ _,?_⟩
 refine .of ⟨fun i a=>∃j d c:Option D,a=[some (bD b),some o,some (.st (op.map Sum.inr)),some (.dic ((b.gs.take i).map fun g=>(.inr g.nm,.bl (G5 b op g.nm)))),j,d,c],⟨none,none,none,rfl⟩,?_,?_⟩
 ·rintro i e a y ⟨j,d,c,rfl⟩
  obtain⟨g,l,rfl⟩:=get_map y
  have x:=AC l
  have C:=(List.getElem?_eq_some_iff.mp l).1
  refine⟨rfl,?_⟩
  walk_at "r"
  refine⟨iy g.un,rfl,rfl,?_⟩
  exact Qh p l ⟨_,_,_,rfl⟩
 ·rintro a ⟨j,d,c,rfl⟩
  rw[eH,QH]
  exact q
def wv(b:Bd)(op:UE)(P:Str->Int)(pr:List Gd)(y:Str):Int:=if y∈pr.map (·.nm) then O4 b op P y else uP b P y+(pr.map fun h=>if h.un=some y then O4 b op P h.nm else 0).sum
theorem rX{b:Bd}(d:o3 b){i j:Nat}{g h:Gd}(a:b.gs[i]?=some g)(c:b.gs[j]?=some h)(e:g.nm=h.nm):i=j:=
 (Sz (i:=i) (j:=j) (l:=b.gs.map (·.nm)) (by rw[eH];exact(List.getElem?_eq_some_iff.mp a).1) d.eV.nd).mp (by rw[wE,wE,a,c];show some g.nm=some h.nm;rw[e])
theorem wB{b:Bd}(o:o3 b){i j:Nat}{g:Gd}(d:b.gs[i]?=some g)(c:i<j):g.nm∉(b.gs.drop j).map (·.nm):=fun z=>by
 obtain⟨h,l,e⟩:=List.mem_map.mp z
 obtain⟨k,a⟩:=Qx l
 rw[List.getElem?_drop] at a
 have:=rX o a d e
 omega
theorem Es{b:Bd}(l:o3 b)(op:UE)(P:Str->Int){j:Nat}{g:Gd}(o:b.gs[j]?=some g):wv b op P (b.gs.drop (j+1)) g.nm=uP b P g.nm+(b.gs.map fun h=>if h.un=some g.nm then O4 b op P h.nm else 0).sum:=by
 unfold wv
 rw[wP (wB l o (Rv _))]
 congr 1
 conv=>rhs;rw[<-Ta (j+1) b.gs,GM,Sl]
 rw[O3 (b.gs.take (j+1)) _ fun h q=>wP fun z=>?_]
 ·omega
 ·obtain⟨i,c⟩:=Qx q
  have a:=(List.getElem?_eq_some_iff.mp c).1
  rw[Op] at a
  rw[QP (by omega)] at c
  obtain⟨dp,p⟩:=l.un
  obtain⟨_,_,_,up⟩:=p i h c
  obtain⟨k,u,r,d,e,_⟩:=up _ z
  have:=rX l d o e
  omega
theorem mn{b:Bd}(l:o3 b)(op:UE)(P:Str->Int){j:Nat}{g:Gd}(d:b.gs[j]?=some g){y:Str}:wv b op P (b.gs.drop j) y=if y=g.nm then O4 b op P g.nm else wv b op P (b.gs.drop (j+1)) y+if g.un=some y then O4 b op P g.nm else 0:=by
 have c:=(List.getElem?_eq_some_iff.mp d).1
 have e:b.gs.drop j=g::b.gs.drop (j+1):=by
  rw[QK c]
  have:=(List.getElem?_eq_some_iff.mp d).2
  rw[this]
 rw[e]
 unfold wv
 rw[Bi]
 by_cases i:y=g.nm
 ·subst i
  rw[wS lP,wS rfl]
 ·rw[wP i]
  by_cases a:y∈(b.gs.drop (j+1)).map (·.nm)
  ·rw[wS (hQ _ a),wS a,wP,SR]
   intro z
   obtain⟨dp,o⟩:=l.un
   obtain⟨_,_,_,up⟩:=o j g d
   obtain⟨k,r,q,h,p,_⟩:=up y z
   exact wB l h (show k<j+1 by omega) (p▸a)
  ·rw[wP fun z=>(List.mem_cons.mp z).elim i a,wP a,Bi,Rf]
   omega
theorem LJ{T:W7}{b:Bd}{op:UE}{P:Str->Int}{M:D}{H B u:Option D}{j m:Nat}{g:Gd}(c:o3 b)(d:b.gs[j]?=some g)(Q:m=j+1)
  (e:∀B u:Option D,T.nx [some (bD b),some (.dic (pR b op)),some M,some (.dic (o5 b (wv b op P (b.gs.drop j)))),some (gD g),H,B,u]) :
  aL T [some (bD b),some (.dic (pR b op)),some M,some (.dic (o5 b (wv b op P (b.gs.drop m)))),some (gD g),H,B,u]:=by
 subst Q
 have R:=c.g16
 have o:=AC d
 have G:g.nm∈y7 b:=List.mem_map.mpr ⟨g,o,rfl⟩
 have p:=Es c op P d
 have a:=BE c op P G
 have E:x9 (pR b op) (.inr g.nm)=some (.bl (G5 b op g.nm)):=Q4 (k:=fun g:Gd=>g.nm) (v:=fun g:Gd=>.bl (G5 b op g.nm)) c.eV.nd o
 walk_at "r"
 refine⟨iy g.un,rfl,rfl,?_⟩
 have e:=e (some (.str g.nm)) (some (uD g.un))
 refine⟨_,_,rfl,E,?_⟩
 show Br (!G5 b op g.nm) _ _
 by_cases f:G5 b op g.nm=true
 ·refine Br.no (by rw[f];rfl) ?_
  rw[wS f,<-p] at a
  cases l:g.un with
  | none=>
   refine Br.no rfl ?_
   have:o5 b (wv b op P (b.gs.drop j))=o5 b (wv b op P (b.gs.drop (j+1))):=B3 fun x _=>by
    rw[mn c op P d,l,wP (show ¬(none:Option Str)=some x from fun z=>by cases z),SR]
    by_cases z:x=g.nm
    ·rw[wS z,z];exact a
    ·rw[wP z]
   rw[this,l] at e
   exact e
  | some y=>
   have I:y∈y7 b:=by
    obtain⟨dp,C⟩:=c.un
    obtain⟨_,_,_,up⟩:=C j g d
    obtain⟨k,J,_,i,rfl,_⟩:=up y l
    exact List.mem_map.mpr ⟨J,AC i,rfl⟩
   refine Br.yes rfl ?_
   refine⟨_,_,rfl,L9 c I,by rw[cW];exact i5 (by omega),?_⟩
   refine⟨_,_,rfl,L9 c G,_,rfl,?_⟩
   rw[cS I]
   have:o5 b (wv b op P (b.gs.drop j))=o5 b (fun z=>if z=y then wv b op P (b.gs.drop (j+1)) y+wv b op P (b.gs.drop (j+1)) g.nm else wv b op P (b.gs.drop (j+1)) z):=B3 fun x _=>by
    rw[mn c op P d,l]
    by_cases z:x=g.nm
    ·rw[wS z]
     have O:¬x=y:=fun w=>by
      obtain⟨dp,C⟩:=c.un
      obtain⟨_,_,_,up⟩:=C j g d
      obtain⟨k,J,X,i,U,_⟩:=up y l
      have:=rX c i d (by rw[U,<-w,z])
      omega
     show _=if x=y then _ else _
     rw[wP O,z];exact a
    ·rw[wP z]
     show _=if x=y then _ else _
     by_cases w:x=y
     ·subst w
      rw[wS rfl,wS rfl,a]
     ·rw[wP w,wP fun q=>w (Qn q).symm,SR]
   rw[this,l] at e
   exact e
 ·have S:G5 b op g.nm=false:=by cases h:G5 b op g.nm<;>simp_all
  refine Br.yes (by rw[S];rfl) ?_
  rw[wP f] at a
  refine⟨rfl,.inr g.nm,rfl,by rw[cW];exact i5 (by omega),?_⟩
  rw[cS G]
  have:o5 b (wv b op P (b.gs.drop j))=o5 b (fun z=>if z=g.nm then 0 else wv b op P (b.gs.drop (j+1)) z):=B3 fun x _=>by
   rw[mn c op P d,a]
   show _=if x=g.nm then _ else _
   by_cases z:x=g.nm
   ·rw[wS z,wS z]
   ·rw[wP z,wP z]
    split<;>omega
  rw[this] at e
  exact e
theorem PX{Q:D->Prop}{b:Bd}{op:UE}{P:Str->Int}{r:D}{h d c a:Option D}(p:o3 b)(q:Q (.dic (o5 b (O4 b op P)))) :
  fA (EP Q) [some (bD b),some (.dic (pR b op)),some r,some (.dic (o5 b (uP b P))),h,d,c,a]:=by
 have B:=p.g16
 refine⟨_,N6 _ _,by rw[eH];exact i5 (by omega),?_⟩
 refine .of ⟨fun i j=>∃h d c a:Option D,j=[some (bD b),some (.dic (pR b op)),some r,some (.dic (o5 b (wv b op P (b.gs.drop (b.gs.length-i))))),h,d,c,a],⟨h,d,c,a,?_⟩,?_,?_⟩
 ·rw[Nat.sub_zero,RP]
  have:o5 b (wv b op P [])=o5 b (uP b P):=B3 fun x _=>by
   unfold wv
   rw[wP (by intro z;cases z)]
   show uP b P x+0=_
   omega
  rw[this]
 ·rintro i e j l ⟨h,d,c,a,rfl⟩
  have v:i<b.gs.length:=by
   have:=(List.getElem?_eq_some_iff.mp l).1
   rw[Sn,eH] at this
   exact this
  rw[List.getElem?_reverse (by rw[eH];exact v),eH] at l
  obtain⟨g,y,rfl⟩:=get_map l
  have C:b.gs.length-i=b.gs.length-1-i+1:=by omega
  have o:b.gs.length-(i+1)=b.gs.length-1-i:=by omega
  refine⟨rfl,LJ p y C fun c a=>⟨some (gD g),d,c,a,?_⟩⟩
  rw[o]
 ·rintro j ⟨h,d,c,a,rfl⟩
  rw[Sn,eH,RY]
  have:o5 b (wv b op P (b.gs.drop 0))=o5 b (O4 b op P):=B3 fun x u=>wS u
  rw[this]
  exact q
theorem rQ(ds:List D)(Q:D->Prop)(h:N2 ds Q):kO (EP Q) (i7 8 ds):=by
 obtain⟨b,op,kvs,rfl,c,u,q⟩:=h
 have J:=c.g16
 have I:=c.l24
 refine⟨_,N6 _ _,by rw[eH];exact i5 (by omega),?_⟩
 refine mr (k:=fun g:Gd=>.inr g.nm) (v:=fun g:Gd=>.int (Pd kvs g.nm)) b.gs [] (fun g C K R G=>?_) ⟨rfl,?_⟩
 ·walk_at "r"
  rw[oG u]
  exact⟨rfl,_,rfl,rfl,G⟩
 have E:=R5 (k:=fun g:Gd=>g.nm) (v:=fun g:Gd=>.int (Pd kvs g.nm)) (as:=b.gs) (bs:=[]) c.eV.nd
 rw[Go] at E
 rw[show b.gs.foldl (fun acc a=>putD acc (Sum.inr a.nm) (.int (Pd kvs a.nm))) []=o5 b (Pd kvs) from E]
 refine⟨_,bt _ _ _,?_⟩
 refine .of ⟨fun i j=>∃o:Option D,j=[some (bD b),some (.dic (pR b op)),some (.dic kvs),some (.dic (o5 b fun y=>Pd kvs y+((b.ls.take i).map fun l=>if l.at_=y then Pd kvs l.nm else 0).sum)),none,o,none,none],⟨none,?_⟩,?_,?_⟩
 ·have:o5 b (fun y=>Pd kvs y+((b.ls.take 0).map fun l=>if l.at_=y then Pd kvs l.nm else 0).sum)=o5 b (Pd kvs):=B3 fun x _=>by
   show Pd kvs x+0=_
   omega
  rw[this];rfl
 ·rintro i e j H ⟨o,rfl⟩
  obtain⟨l,B,rfl⟩:=get_map H
  have p:=AC B
  have d:l.at_∈y7 b:=by
   obtain⟨g,C,e⟩:=c.at_ l p
   rw[<-e];exact List.mem_map.mpr ⟨g,C,rfl⟩
  refine⟨rfl,?_⟩
  walk_at "r"
  refine⟨.inr l.at_,_,rfl,L9 c d,by rw[cW];exact i5 (by omega),?_⟩
  walk_at "r"
  rw[oG u]
  refine⟨rfl,_,rfl,?_⟩
  rw[cS d]
  refine⟨some (lD l),?_⟩
  have:o5 b (fun y=>Pd kvs y+((b.ls.take (i+1)).map fun l=>if l.at_=y then Pd kvs l.nm else 0).sum)=o5 b (fun y=>if y=l.at_ then Pd kvs l.at_+((b.ls.take i).map fun m=>if m.at_=l.at_ then Pd kvs m.nm else 0).sum+Pd kvs l.nm else Pd kvs y+((b.ls.take i).map fun l=>if l.at_=y then Pd kvs l.nm else 0).sum):=B3 fun x _=>by
   rw[Qp,B,GM,Sl]
   show _+(_+((if l.at_=x then Pd kvs l.nm else 0)+0))=if x=l.at_ then _ else _
   by_cases z:x=l.at_
   ·subst z
    rw[wS rfl,wS rfl]
    omega
   ·rw[wP z,wP fun w=>z w.symm]
    omega
  rw[this];rfl
 ·rintro j ⟨o,rfl⟩
  rw[eH,QH]
  exact PX (P:=Pd kvs) c q
theorem Fi(ds:List D)(Q:D->Prop)(h:cD ds Q):CH (EP Q) (i7 3 ds):=by
 obtain⟨b,o,op,kvs,rfl,a,c,e,d,q⟩:=h
 exact⟨b,o,op,rfl,a,c,e,b,op,kvs,rfl,a,d,q⟩
theorem oM{b:Bd}(a:o3 b):((b.ls.filter fun l=>l.on).map fun l:Ld=>l.nm).Nodup:=(Ee a).sublist (List.Sublist.map _ List.filter_sublist)
theorem DV{b:Bd}(c:o3 b):Pd ((b.ls.filter fun l=>l.on).map fun l:Ld=>((.inr l.nm:Key),D.int l.la))=nA b:=by
 funext x
 unfold Pd nA
 by_cases h:x∈b.ls.map (·.nm)
 ·obtain⟨l,i,rfl⟩:=List.mem_map.mp h
  rw[O2 (Ee c) i]
  by_cases o:l.on=true
  ·have a:l∈b.ls.filter fun l=>l.on:=List.mem_filter.mpr ⟨i,o⟩
   rw[Q4 (k:=fun l:Ld=>l.nm) (v:=fun l:Ld=>.int l.la) (oM c) a]
   show l.la=if l.on=true then _ else _
   rw[wS o]
  ·rw[iC (k:=fun l:Ld=>l.nm) (v:=fun l:Ld=>.int l.la)]
   ·show(0:Int)=if l.on=true then _ else _
    rw[wP o]
   ·intro z
    obtain⟨m,a,e⟩:=List.mem_map.mp z
    obtain⟨g,d⟩:=List.mem_filter.mp a
    have p:=O2 (Ee c) i
    have j:=O2 (Ee c) g
    rw[show m.nm=l.nm from e,p] at j
    cases j
    exact o d
 ·rw[aE h,iC (k:=fun l:Ld=>l.nm) (v:=fun l:Ld=>.int l.la)]
  intro z
  obtain⟨m,a,e⟩:=List.mem_map.mp z
  exact h (List.mem_map.mpr ⟨m,(List.mem_filter.mp a).1,e⟩)
theorem Kk(ds:List D)(Q:D->Prop)(h:eQ ds Q):Hg (EP Q) (i7 2 ds):=by
 obtain⟨b,rfl,c,q⟩:=h
 have i:=c.l24
 refine⟨_,bt _ _ _,by rw[eH];exact i5 (by omega),?_⟩
 refine ba (k:=fun l:Ld=>.inr l.nm) (v:=fun l:Ld=>.int l.la) (fun l:Ld=>l.on) b.ls [] (fun l o K R k1 k2=>?_) ?_
 ·obtain⟨n,u,cv,de,on⟩:=l
  cases on with
  | true=>
   have g:K (.inr n) (.int de):=k1 rfl
   walk_at "r"
   exact g
  | false=>
   walk_at "r"
   exact k2 rfl
 ·have e:=R5 (k:=fun l:Ld=>l.nm) (v:=fun l:Ld=>.int l.la) (as:=b.ls.filter fun l=>l.on) (bs:=[]) (oM c)
  rw[Go] at e
  rw[show(b.ls.filter fun l=>l.on).foldl (fun acc (a:Ld)=>putD acc (Sum.inr a.nm) (.int a.la)) []=_ from e]
  refine⟨b,_,[],_,rfl,c,.inl rfl,by decide,fun j d=>?_,?_⟩
  ·obtain⟨l,_,rfl⟩:=List.mem_map.mp d
   exact⟨_,rfl⟩
  ·rw[DV c]
   exact q
theorem Ga(ds:List D)(Q:D->Prop)(h:bJ ds Q):zM (EP Q) (i7 2 ds):=by
 obtain⟨b,v,rfl,a,q⟩:=h
 have i:=a.g16
 refine⟨_,N6 _ _,by rw[eH];exact i5 (by omega),?_⟩
 refine G6 (f:=fun g:Gd=>.str g.nm) (fun g:Gd=>decide (lo g.cv<=v g.nm)) b.gs [] (fun g c K R k1 k2=>?_) ?_
 ·have d:g.nm∈y7 b:=List.mem_map.mpr ⟨g,c,rfl⟩
  refine⟨rfl,?_⟩
  walk_at "r"
  refine⟨_,_,rfl,L9 a d,?_⟩
  walk_at "r"
  refine⟨a.cv g c,?_⟩
  show Br (decide (v g.nm ≥ lo g.cv)) _ _
  refine⟨fun e=>?_,fun e=>k2 e⟩
  walk_at "r"
  exact k1 e
 ·have e:(b.gs.filter fun g=>decide (lo g.cv<=v g.nm)).map (fun g:Gd=>D.str g.nm)=(F0 b v).map D.str:=by unfold F0;rw[Qw];rfl
  rw[Go,e]
  exact q
theorem GA(ds:List D)(Q:D->Prop)(h:cu ds Q):Ap (EP Q) (i7 2 ds):=by
 obtain⟨b,rfl,a,q⟩:=h
 refine⟨b,rfl,a,b,r8 b,rfl,a,rfl,?_⟩
 cases e:F0 b (r8 b) with
 | nil=>
  rw[e] at q
  refine Br.no rfl ?_
  exact⟨rfl,q⟩
 | cons x xs=>
  rw[e] at q
  refine Br.yes rfl ?_
  exact⟨_,N6 _ _,rfl,q⟩
end My
namespace My
open PySem L2 L3
local macro_rules | `(tactic| walk_at "w")=>`(tactic| conv=>whnf)
local macro_rules | `(tactic| walk_at "a")=>`(tactic| first | refine⟨rfl,?_⟩ | refine⟨_,rfl,?_⟩ | refine⟨(show(0:Int)<_ from by decide),?_⟩ | refine⟨(show R4 _ _ from⟨by decide,by decide⟩),?_⟩ | refine⟨(show bN _ _ from⟨by decide,by decide,by decide⟩),?_⟩ | refine⟨(show M3 _ _ from .inr ⟨by decide,by decide⟩),?_⟩ | refine⟨(show M3 _ _ from .inl ⟨by decide,by decide⟩),?_⟩ | refine⟨_,_,_,rfl,rfl,rfl,?_⟩ | refine⟨_,N6 _ _,?_⟩ | refine⟨_,_,rfl,rfl,?_⟩)
local macro_rules | `(tactic| walk_at "r")=>`(tactic| ((repeat ((conv=>whnf);(walk_at "a")));(try (conv=>whnf))))
def Up(b:Int)(xs:UH):Prop:=xs.Pairwise (·<·)/\∀x∈xs,1<=x/\x<=b
theorem vo{xs:UH}{b:Int}(h:Up b xs)(h0:0<xs.length):∃l,l∈xs/\(∀x∈xs,x<=l)/\P0 (xs.map D.int) (-1)=some (.int l):=by
 refine⟨xs[xs.length-1],Rx (by omega),fun x a=>?_,?_⟩
 ·obtain⟨i,c,rfl⟩:=So a
  by_cases e:i=xs.length-1
  ·subst e;exact Sk _
  ·exact Int.le_of_lt (List.pairwise_iff_getElem.mp h.1 i (xs.length-1) c (by omega) (by omega))
 ·unfold P0 kN
  have j:¬(0:Int)<=-1:=by decide
  have g:-((xs.map D.int).length:Int)<=-1:=by rw[eH];omega
  have d:((-1:Int)+((xs.map D.int).length:Int)).toNat=xs.length-1:=by rw[eH];omega
  rw[wP j,wS g,d]
  show(xs.map D.int)[xs.length-1]?=_
  rw[wE,iU (by omega)]
  rfl
theorem Up.mono{xs:UH}{b c:Int}(h:Up b xs)(d:b<=c):Up c xs:=⟨h.1,fun x a=>⟨(h.2 x a).1,by have:=(h.2 x a).2;omega⟩⟩
theorem Up.snoc{xs:UH}{b l u:Int}(h:Up b xs)(d:l∈xs)(e:∀x∈xs,x<=l)(i:1<=u)(g:u<10^59):Up (b+10^59) (xs++[l+u]):=by
 refine⟨List.pairwise_append.mpr ⟨h.1,QT _ _,fun x a y c=>?_⟩,fun x a=>?_⟩
 ·rw[List.mem_singleton.mp c]
  have:=e x a
  omega
 ·have:=h.2 l d
  rcases List.mem_append.mp a with w | w
  ·have:=h.2 x w;omega
  ·rw[List.mem_singleton.mp w];omega
def steps(m:Nat)(xs a:UH):List Pr:=(List.range m).map fun(k:Nat)=>(xs.getD k 0,a.getD (m-1-k) 0)
theorem yU{m:Nat}{xs d:UH}(C:xs.length=m)(B:d.length=m)(x:1<=m)(v:m<=5)(l:Up (10^60-1) xs)(h:Up (10^60-1) d):T9 (steps m xs d):=by
 have z:∀k,k<m->xs.getD k 0∈xs:=fun k e=>by rw[B2,iU (by omega)];exact Rx _
 have y:∀k,k<m->d.getD k 0∈d:=fun k e=>by rw[B2,iU (by omega)];exact Rx _
 have r:∀i j,i<j->j<m->xs.getD i 0<xs.getD j 0:=fun i j c g=>by
  rw[B2,B2,iU (by omega),iU (by omega)]
  exact List.pairwise_iff_getElem.mp l.1 i j (by omega) (by omega) c
 have q:∀i j,i<j->j<m->d.getD i 0<d.getD j 0:=fun i j c g=>by
  rw[B2,B2,iU (by omega),iU (by omega)]
  exact List.pairwise_iff_getElem.mp h.1 i j (by omega) (by omega) c
 unfold steps
 refine⟨by rw[eH,BB];exact x,by rw[eH,BB];exact v,fun p u=>?_,?_⟩
 ·obtain⟨k,e,rfl⟩:=List.mem_map.mp u
  have e:=List.mem_range.mp e
  have a:=l.2 _ (z k e)
  have b:=h.2 _ (y (m-1-k) (by omega))
  exact⟨a.1,by have:=a.2;omega,b.1,by have:=b.2;omega⟩
 ·rw[RJ]
  refine List.Pairwise.imp_of_mem ?_ (List.pairwise_lt_range (n:=m))
  intro i j o g c
  have o:=List.mem_range.mp o
  have g:=List.mem_range.mp g
  exact⟨r i j c g,q _ _ (by omega) (by omega)⟩
theorem sA{i:Int}(h0:0<=i)(d:i<26):∃c,P0 lS.cps.toList i=some c:=by
 have a:lS.cps.toList.length=26:=by decide +kernel
 have b:i.toNat<lS.cps.toList.length:=by omega
 refine⟨lS.cps.toList[i.toNat],?_⟩
 unfold P0 kN
 rw[wS h0,a,wS (by omega)]
 exact iU b
theorem mi:lS.length<=sizeLine:=by decide +kernel
theorem Ad{z:Str}{n:Int}(hz:z.length=1)(h0:0<=n)(a:n<=4):MulOk z n:=by
 have h:n=0\/n=1\/n=2\/n=3\/n=4:=by omega
 unfold MulOk
 rw[hz]
 rcases h with rfl | rfl | rfl | rfl | rfl
 all_goals decide
theorem Nj{z:Str}{n:Int}(hz:z.length=1)(h0:0<=n)(a:n<=1):(Txt.mul z n).length<=1:=by
 have h:n=0\/n=1:=by omega
 rcases h with rfl | rfl
 ·exact KM _
 ·have e:Txt.mul z 1=z:=by
   unfold Txt.mul
   rw[wP (by decide),wS (by rfl)]
  rw[e,hz]
  exact sK _
theorem Kx{x:Str}{xs:UE}(h:inD (.str x) (xs.map D.str)=false):x∉xs:=fun a=>by
 unfold inD at h
 rw[RZ] at h
 have:=h (.str x) (List.mem_map.mpr ⟨x,a,rfl⟩)
 exact this (Tt x)
theorem names5 {Q:D->D->Prop} {c d k m:Int} {xs:UE} {x:Str} {G E C B v u p h g:Option D} (hw:x="" \/ nm 8 x) (j:(xs.length:Int)=m) (S:1<=m) (R:m<=100) (k0:0<=k) (k1:k<=10^8) (b:xs.Nodup) (a:∀x∈xs,nm 8 x) (q:∀(xs:UE) (d' I:Int),xs.length=m->xs.Nodup->(∀x∈xs,nm 8 x)->Q (jE xs) (feed c d' I)):rA (EM Q) [some (feed c d k),some (.int m),G,E,some (jE xs),C,B,v,u,p,h,g,some (.str x)]:=by
 have M:(xs.map D.str).all aC=true:=by
  rw[RQ]
  intro y i
  obtain⟨z,_,rfl⟩:=List.mem_map.mp i
  rfl
 walk_at "r"
 refine⟨fun o=>?_,fun o=>Br.no rfl (q xs d k j b a)⟩
 walk_at "r"
 refine⟨M,?_⟩
 walk_at "r"
 refine⟨fun l=>?_,fun l=>q xs d k j b a⟩
 walk_at "r"
 refine⟨c,d,k,m,rfl,k0,by omega,by omega,by omega,fun r T H O=>?_⟩
 walk_at "r"
 refine⟨r.toNat,?_,?_⟩
 ·unfold kN
  rw[wS H,eH,wS (by omega)]
 ·have e:(xs.map D.str).set r.toNat (.str x)=(xs.set r.toNat x).map D.str:=by rw[List.map_set]
  walk_at "r"
  rw[e]
  refine q _ _ _ (by rw[Rh];exact j) (ky _ b (Kx ?_)) fun y i=>?_
  ·cases J:inD (D.str x) (List.map D.str xs) with
   | false=>rfl
   | true=>rw[J] at l;exact absurd l (by decide)
  ·rcases Rb i with w | w
   ·exact a y w
   ·rw[w]
    rcases hw with hw | hw
    ·rw[hw] at o;exact absurd o (by decide)
    ·exact hw
theorem BR:∀x∈(["guard","load","on","off","board","map","least","","","",""]:UE),x="" \/ nm 8 x:=by decide +kernel
theorem names4{Q:D->D->Prop}{c d k m:Int}{xs:UE}{B z y v u p o e b a:Option D}(H:(xs.length:Int)=m)(J:1<=m)(I:m<=100)(k0:0<=k)(k1:k<=10^7)(l:xs.Nodup)(j:∀x∈xs,nm 8 x)(q:∀(xs:UE) (d' G:Int),xs.length=m->xs.Nodup->(∀x∈xs,nm 8 x)->Q (jE xs) (feed c d' G)):oy (EM Q) [some (feed c d k),some (.int m),B,z,some (jE xs),y,v,u,p,o,e,b,a]:=by
 walk_at "r"
 refine⟨c,d,k,11,rfl,k0,by omega,by decide,by decide,fun r M E C=>?_⟩
 obtain⟨x,g,_,h⟩:=J8 (f:=D.str) (xs:=["guard","load","on","off","board","map","least","","","",""]) (i:=r) E C
 refine⟨_,h,rfl,rfl,?_⟩
 refine names5 ?_ H J I (by omega) (by omega) l j q
 exact BR x g
theorem DO(ds:List D)(Q:D->D->Prop)(h:bV ds Q):BQ (EM Q) (i7 13 ds):=by
 obtain⟨c,d,k,m,rfl,h0,h1,a4,a3,q⟩:=h
 walk_at "r"
 refine⟨c,d,k,26,rfl,h0,by omega,by decide,by decide,fun f d1 f0 f1=>?_⟩
 walk_at "r"
 refine⟨c,d1,k+1,5,rfl,by omega,by omega,by decide,by decide,fun r d2 r0 r1=>?_⟩
 walk_at "r"
 refine⟨fun e=>?_,fun e=>?_⟩
 ·walk_at "r"
  refine⟨⟨by omega,by omega⟩,?_⟩
  refine⟨by rw[A2,eH,BB];exact i5 (by omega),?_⟩
  refine P2 (f:=fun(i:Nat)=>.str (Txt.mul ⟨#[(P0 lS.cps.toList ((f+(0+(i:Int)))%26)).getD 0]⟩ (1+(0+(i:Int))/26))) (List.range m.toNat) [] (fun i v K R kk=>?_) ?_
  ·have v:=List.mem_range.mp v
   obtain⟨ch,o⟩:=sA (i:=(f+(0+(i:Int)))%26) (QG _ (by decide)) (Qs _ (by decide))
   rw[o] at kk
   walk_at "r"
   refine Br.yes rfl ?_
   walk_at "r"
   refine⟨mi,ch,o,?_⟩
   walk_at "r"
   refine⟨Ad rfl (by omega) (by omega),?_⟩
   exact kk
  ·have e:(List.range m.toNat).map (fun(i:Nat)=>D.str (Txt.mul ⟨#[(P0 lS.cps.toList ((f+(0+(i:Int)))%26)).getD 0]⟩ (1+(0+(i:Int))/26)))=((List.range m.toNat).map fun(i:Nat)=>Txt.mul ⟨#[(P0 lS.cps.toList ((f+(0+(i:Int)))%26)).getD 0]⟩ (1+(0+(i:Int))/26)).map D.str:=by rw[Qw];rfl
   rw[Go,e]
   refine⟨rfl,?_⟩
   refine names4 (by rw[eH,BB];omega) a4 a3 (by omega) (by omega) (ag (nameA f) _ fun i j v hj=>yo (by omega) (by omega)) (fun x hx=>?_) q
   obtain⟨i,v,rfl⟩:=List.mem_map.mp hx
   have v:=List.mem_range.mp v
   exact Cv (i:=i) (by omega) (by omega)
 ·walk_at "r"
  refine⟨c,d2,k+1+1,7,rfl,by omega,by omega,by decide,by decide,fun sz d3 s0 s1=>?_⟩
  walk_at "r"
  refine⟨⟨by omega,by omega⟩,?_⟩
  refine⟨by rw[A2,eH,BB];exact i5 (by omega),?_⟩
  walk_at "r"
  refine .of ⟨fun n acc I=>∃(d':Int) (bs:UH),I=[some (feed c d' (k+1+1+1+n)),some (.int m),some (.str lS),some (.int f),none,some (.int (2+sz)),none,none,none,none,none,none,none]/\acc=bs.map D.int/\bs.length=n/\∀b∈bs,0<=b/\b<26,⟨d3,[],?_,rfl,rfl,fun b X=>(by cases X)⟩,?_,?_⟩
  ·have:k+1+1+1+((0:Nat):Int)=k+1+1+1:=by omega
   rw[this]
   rfl
  ·rintro n y acc I hy ⟨d',bs,rfl,rfl,C,X⟩
   have hn:n<8:=by
    have:=(List.getElem?_eq_some_iff.mp hy).1
    rw[A2,eH,BB] at this
    omega
   walk_at "r"
   refine Br.yes rfl ?_
   walk_at "r"
   refine⟨c,d',_,26,rfl,by omega,by omega,by decide,by decide,fun b d4 b0 H=>?_⟩
   walk_at "r"
   refine⟨d4,bs++[b],?_,by rw[GM];rfl,by simp[C],fun z hz=>?_⟩
   ·have:k+1+1+1+((n+1:Nat):Int)=k+1+1+1+(n:Int)+1:=by omega
    rw[this]
    rfl
   ·rcases List.mem_append.mp hz with w | w
    ·exact X z w
    ·rw[List.mem_singleton.mp w];exact⟨b0,H⟩
  ·rintro acc I ⟨d',bs,rfl,rfl,C,X⟩
   rw[A2,eH,BB] at C ⊢
   have C:(bs.length:Int)=2+sz:=by omega
   walk_at "r"
   refine⟨c,d',_,_,rfl,by omega,by omega,by omega,by omega,fun a d5 a0 a1=>?_⟩
   walk_at "r"
   refine⟨c,d5,_,_,rfl,by omega,by omega,by omega,by omega,fun a2 d6 a20 a21=>?_⟩
   walk_at "r"
   refine⟨show(0:Int)<2+sz by omega,?_⟩
   have o0:=QG (a+1+a2) (show 2+sz≠0 by omega)
   have o1:=Qs (a+1+a2) (show 0<2+sz by omega)
   walk_at "r"
   refine⟨c,d6,_,2,rfl,by omega,by omega,by decide,by decide,fun lo d7 ac lo1=>?_⟩
   walk_at "r"
   refine⟨.inl ⟨by omega,by omega⟩,?_⟩
   have lg:∀b:Bool,0<=lo*(if b then 1 else 0)/\lo*(if b then 1 else 0)<=1:=fun b=>by cases b<;>simp<;>omega
   obtain⟨U,T⟩:=lg (decide (2+sz<8))
   obtain⟨H,_,_,a8⟩:=J8 (f:=D.int) (xs:=bs) (i:=a) a0 (by omega)
   obtain⟨Y,_,_,a5⟩:=J8 (f:=D.int) (xs:=bs) (i:=(a+1+a2)%(2+sz)) o0 (by omega)
   have ao:=Cq (n:=2+sz) a0 (by omega) a20 (by omega)
   have ad:2+sz+lo*(if decide (2+sz<8)=true then 1 else 0)<=8:=by
    by_cases h8:2+sz<8
    ·omega
    ·rw[Fk h8]
     show 2+sz+lo*0<=8
     omega
   walk_at "r"
   refine⟨⟨by omega,by omega⟩,?_⟩
   walk_at "w"
   refine .of ⟨fun i I=>∃(xs:UE) (S M:Option D),I=[some (feed c d7 (k+1+1+1+((2+sz).toNat:Int)+1+1+1)),some (.int m),some (.str lS),some (.int f),some (jE xs),some (.int (2+sz)),some (nums bs),some (.int a),some (.int ((a+1+a2)%(2+sz))),some (.int (lo*(if decide (2+sz<8)=true then 1 else 0))),S,M,none]/\xs=(List.range i).map (eP bs a ((a+1+a2)%(2+sz)) H Y f (lo*(if decide (2+sz<8)=true then 1 else 0))),⟨[],none,none,rfl,rfl⟩,?_,?_⟩
   ·rintro i y I hy ⟨xs,S,M,rfl,l⟩
    have a7:xs.length=i:=by rw[l,eH,BB]
    have v:i<100:=by
     have:=(List.getElem?_eq_some_iff.mp hy).1
     rw[A2,eH,BB] at this
     omega
    rw[A2] at hy
    obtain⟨g,a9,rfl⟩:=get_map hy
    have ei:g=i:=by
     have:=(List.getElem?_eq_some_iff.mp a9).2
     rw[RU] at this
     exact this.symm
    subst ei
    generalize (a+1+a2)%(2+sz)=O at o0 o1 a5 l
    generalize lo*(if decide (2+sz<8)=true then 1 else 0)=L at U T l
    walk_at "r"
    refine⟨Dp bs,?_⟩
    walk_at "r"
    refine⟨_,a8,?_⟩
    walk_at "r"
    refine⟨a.toNat,by unfold kN;rw[wS a0,eH,wS (by omega)],?_⟩
    walk_at "r"
    refine⟨_,a5,?_⟩
    walk_at "r"
    refine⟨O.toNat,by unfold kN;rw[wS o0,Rh,eH,wS (by omega)],?_⟩
    have e1:((bs.map D.int).set a.toNat (.int ((H+(0+(g:Int)))%26))).set O.toNat (.int ((Y+(0+(g:Int))/26)%26))=((bs.set a.toNat ((H+(0+(g:Int)))%26)).set O.toNat ((Y+(0+(g:Int))/26)%26)).map D.int:=by rw[List.map_set,List.map_set]
    have E:∀b∈(bs.set a.toNat ((H+(0+(g:Int)))%26)).set O.toNat ((Y+(0+(g:Int))/26)%26),0<=b/\b<26:=fun b G=>by
     rcases Rb G with w | w
     ·rcases Rb w with w | w
      ·exact X b w
      ·rw[w];exact⟨QG _ (by decide),Qs _ (by decide)⟩
     ·rw[w];exact⟨QG _ (by decide),Qs _ (by decide)⟩
    have u:((bs.set a.toNat ((H+(0+(g:Int)))%26)).set O.toNat ((Y+(0+(g:Int))/26)%26)).length=bs.length:=by rw[Rh,Rh]
    walk_at "r"
    dsimp only
    rw[e1]
    generalize a6:(bs.set a.toNat ((H+(0+(g:Int)))%26)).set O.toNat ((Y+(0+(g:Int))/26)%26)=p at E u
    refine⟨by rw[eH,u];exact i5 (by omega),?_⟩
    refine P2 (f:=fun(b:Int)=>.str ⟨#[(P0 lS.cps.toList b).getD 0]⟩) p [] (fun b G K R kk=>?_) ?_
    ·obtain⟨ch,o⟩:=sA (E b G).1 (E b G).2
     rw[o] at kk
     walk_at "r"
     refine Br.yes rfl ?_
     walk_at "r"
     refine⟨mi,ch,o,rfl,kk⟩
    ·have e2:p.map (fun(b:Int)=>D.str ⟨#[(P0 lS.cps.toList b).getD 0]⟩)=(p.map fun(b:Int)=>(⟨#[(P0 lS.cps.toList b).getD 0]⟩:Str)).map D.str:=by rw[Qw];rfl
     have e3:((p.map fun(b:Int)=>(⟨#[(P0 lS.cps.toList b).getD 0]⟩:Str)).map (·.length)).sum=p.length:=by
      clear a6 e1 E u e2
      induction p with
      | nil=>rfl
      | cons b B ih=>rw[Bi,Bi,Rf,ih,FS];show 1+B.length=_;omega
     rw[Go]
     refine⟨"",_,p.map fun(b:Int)=>(⟨#[(P0 lS.cps.toList b).getD 0]⟩:Str),rfl,rfl,e2,?_,?_⟩
     ·rw[e3,eH]
      show p.length+p.length*0<=_
      omega
     ·have e4:(Txt.join "" (p.map fun(b:Int)=>(⟨#[(P0 lS.cps.toList b).getD 0]⟩:Str))).length<=8:=by
       have:=size_glued "" (p.map fun(b:Int)=>(⟨#[(P0 lS.cps.toList b).getD 0]⟩:Str))
       unfold Txt.join
       rw[this,e3]
       show p.length+_*0<=8
       omega
      generalize hJ:Txt.join "" (p.map fun(b:Int)=>(⟨#[(P0 lS.cps.toList b).getD 0]⟩:Str))=J at e4
      obtain⟨ch,o⟩:=sA f0 f1
      walk_at "r"
      refine⟨mi,ch,o,?_⟩
      walk_at "r"
      refine⟨.inl ⟨by omega,by omega⟩,?_⟩
      have p0:=QG (0+(g:Int)) (show(2:Int)≠0 by decide)
      have p1:=Qs (0+(g:Int)) (show(0:Int)<2 by decide)
      have ab:L=0\/L=1:=by omega
      have n0:0<=L*((0+(g:Int))%2)/\L*((0+(g:Int))%2)<=1:=by rcases ab with rfl | rfl<;>omega
      walk_at "r"
      refine⟨Ad rfl n0.1 (by omega),?_⟩
      have ml:=Nj (z:=⟨#[ch]⟩) rfl n0.1 n0.2
      walk_at "r"
      refine⟨by rw[QU];omega,?_⟩
      walk_at "r"
      refine⟨by rw[eH];exact i5 (by omega),?_⟩
      refine⟨xs++[J++Txt.mul ⟨#[ch]⟩ (L*((0+(g:Int))%2))],some (.int (0+(g:Int))),some (.lst (p.map D.int)),?_,?_⟩
      ·unfold jE
       rw[GM]
       rfl
      ·have en:eP bs a O H Y f L g=J++Txt.mul ⟨#[ch]⟩ (L*((0+(g:Int))%2)):=by
        unfold eP fG
        rw[a6]
        have ef:ji f=ch:=by unfold ji;rw[o];rfl
        rw[ef]
        exact QV (·++_) hJ
       rw[SV,GM,<-l,List.map_singleton,en]
   ·rintro I ⟨xs,S,M,rfl,l⟩
    rw[A2,eH,BB] at l
    have a7:xs.length=m.toNat:=by rw[l,eH,BB]
    refine names4 (by omega) a4 a3 (by omega) (by omega) ?_ (fun x hx=>?_) q
    ·rw[l]
     exact ag _ _ fun i j v hj=>xD (by omega) (by omega) U T a0 (by omega) o0 (by omega) ao X
    ·rw[l] at hx
     obtain⟨i,v,rfl⟩:=List.mem_map.mp hx
     exact zR U T f0 f1 X (by omega) (by omega)
end My
namespace My
open PySem L2 L3
local macro_rules | `(tactic| walk_at "w")=>`(tactic| conv=>whnf)
local macro_rules | `(tactic| walk_at "a")=>`(tactic| first | refine⟨rfl,?_⟩ | refine⟨_,rfl,?_⟩ | refine Br.yes rfl ?_ | refine Br.no rfl ?_ | refine⟨(show(0:Int)<_ from by decide),?_⟩ | refine⟨(show R4 _ _ from⟨by decide,by decide⟩),?_⟩ | refine⟨(show bN _ _ from⟨by decide,by decide,by decide⟩),?_⟩ | refine⟨(show M3 _ _ from .inr ⟨by decide,by decide⟩),?_⟩ | refine⟨(show M3 _ _ from .inl ⟨by decide,by decide⟩),?_⟩ | refine⟨_,_,_,rfl,rfl,rfl,?_⟩ | refine⟨_,N6 _ _,?_⟩ | refine⟨_,bt _ _ _,?_⟩ | refine⟨_,_,rfl,rfl,?_⟩)
local macro_rules | `(tactic| walk_at "r")=>`(tactic| ((repeat ((conv=>whnf);(walk_at "a")));(try (conv=>whnf))))
open PySem.Builtin PySem.Builtin.Str in
open PySem.Builtin PySem.Builtin.Str in
open PySem.Builtin PySem.Builtin.Str in
structure Lb(xs:UE)(gs:List Gd)(es:UI):Prop where
 len:es.length=gs.length
 nms:gs.map (·.nm)=xs.take gs.length
 all:∀(j:Nat) (g:Gd),gs[j]?=some g->∃e:Nat,es[j]?=some e/\1<=e/\e<=8/\(g.un=none->e=1)/\∀y,g.un=some y->∃(j':Nat) (gj:Gd) (e':Nat),j'<j/\gs[j']?=some gj/\gj.nm=y/\es[j']?=some e'/\e=e'+1
 cv:∀g∈gs,T9 g.cv
 de:∀g∈gs,0<=g.de/\g.de<10^60
 wa:∀g∈gs,0<=g.wa/\g.wa<10^60
theorem Lb.snoc{xs:UE}{gs:List Gd}{i:UI}{g:Gd}{e:Nat}(h:Lb xs gs i)(r:xs[gs.length]?=some g.nm)(Q:1<=e)(O:e<=8)(p:g.un=none->e=1)(o:∀y,g.un=some y->∃(j:Nat) (b:Nat),j<gs.length/\xs[j]?=some y/\i[j]?=some b/\e=b+1)(x:T9 g.cv)(hd:0<=g.de/\g.de<10^60)(hw:0<=g.wa/\g.wa<10^60):Lb xs (gs++[g]) (i++[e]):=by
 have mem:∀{P:Gd->Prop},(∀g∈gs,P g)->P g->∀z∈gs++[g],P z:=fun C B z hz=>by
  rcases List.mem_append.mp hz with w | w
  ·exact C z w
  ·rw[List.mem_singleton.mp w];exact B
 refine⟨by rw[C2,C2,h.len];rfl,?_,fun j z hz=>?_,mem h.cv x,mem h.de hd,mem h.wa hw⟩
 ·rw[GM,h.nms,C2,QB,Qp,r]
  rfl
 ·by_cases l:j<gs.length
  ·rw[EQ l] at hz
   obtain⟨f,J,I,H,G,E⟩:=h.all j z hz
   refine⟨f,by rw[EQ (by rw[h.len];exact l)];exact J,I,H,G,fun y d=>?_⟩
   obtain⟨q,a,b,a1,a2,a3,a4,a5⟩:=E y d
   exact⟨q,a,b,a1,by rw[EQ (by omega)];exact a2,a3,by rw[EQ (by rw[h.len];omega)];exact a4,a5⟩
  ·have v:=(List.getElem?_eq_some_iff.mp hz).1
   rw[C2,QB] at v
   have M:j=gs.length:=by omega
   subst M
   rw[Qr (sK _),RY] at hz
   cases hz
   refine⟨e,by rw[<-h.len,Qr (sK _),RY];rfl,Q,O,p,fun y d=>?_⟩
   obtain⟨j,b,a1,a2,a3,a4⟩:=o y d
   obtain⟨a,c⟩:∃a,gs[j]?=some a:=⟨_,iU a1⟩
   have u:a.nm=y:=by
    have z1:(gs.map (·.nm))[j]?=some a.nm:=by rw[wE,c];rfl
    rw[h.nms,QP a1,a2] at z1
    exact(Qn z1).symm
   exact⟨j,a,b,a1,by rw[EQ a1];exact c,u,by rw[EQ (by rw[h.len];exact a1)];exact a3,a4⟩
theorem Lb.un{xs:UE}{gs:List Gd}{a:UI}(h:Lb xs gs a):EJ gs:=by
 refine⟨fun i=>a.getD i 0,fun i g d=>?_⟩
 obtain⟨e,a1,a2,a3,a4,a5⟩:=h.all i g d
 have o:a.getD i 0=e:=by rw[B2,a1];rfl
 simp only[o]
 refine⟨a2,a3,a4,fun y c=>?_⟩
 obtain⟨b,j,p,x,v,u,r,q⟩:=a5 y c
 have l:a.getD b 0=p:=by rw[B2,r];rfl
 exact⟨b,j,x,v,u,by rw[l];exact q⟩
theorem MZ(x y:Int){t:Int}(b:0<=t)(a:t<2):∃p:Int,P0 [D.int x,.int y] t=some (.int p)/\(p=x\/p=y):=by
 have h:t=0\/t=1:=by omega
 rcases h with rfl | rfl
 ·exact⟨x,rfl,.inl rfl⟩
 ·exact⟨y,rfl,.inr rfl⟩
structure NM(gs:List Gd)(ls:List Ld):Prop where
 c4:∀l∈ls,l.cs.length<=4
 cs:∀l∈ls,∀p∈l.cs,1<=p.1/\p.1<10^60/\0<=p.2/\p.2<10^60
 la:∀l∈ls,0<=l.la/\l.la<10^60
 at_:∀l∈ls,∃g∈gs,g.nm=l.at_
theorem NM.snoc{gs:List Gd}{ls:List Ld}{l:Ld}(h:NM gs ls)(b:l.cs.length<=4)(a:∀p∈l.cs,1<=p.1/\p.1<10^60/\0<=p.2/\p.2<10^60)(d:0<=l.la/\l.la<10^60)(c:∃g∈gs,g.nm=l.at_):NM gs (ls++[l]):=by
 have mem:∀{P:Ld->Prop},(∀g∈ls,P g)->P l->∀z∈ls++[l],P z:=fun b a z hz=>by
  rcases List.mem_append.mp hz with w | w
  ·exact b z w
  ·rw[List.mem_singleton.mp w];exact a
 exact⟨mem h.c4 b,mem h.cs a,mem h.la d,mem h.at_ c⟩
theorem DZ(xs:List D)(n:Nat):cutD xs none (some (n:Int))=xs.take n:=by
 unfold cutD
 have b:HT.D5 xs.length 0 none=0:=rfl
 have a:HT.D5 xs.length xs.length (some (n:Int))=min n xs.length:=by
  show(if ((n:Int))<0 then((n:Int)+(xs.length:Int)).toNat else min (n:Int).toNat xs.length)=_
  rw[wP (by omega)];rfl
 rw[b,a]
 show List.take (min n xs.length-0) xs=_
 rw[Nat.sub_zero,List.take_eq_take_iff]
 omega
theorem yn(xs:List D)(n:Nat)(h:n<=xs.length):cutD xs (some (n:Int)) none=xs.drop n:=by
 unfold cutD
 have b:HT.D5 xs.length 0 (some (n:Int))=n:=by
  show(if ((n:Int))<0 then((n:Int)+(xs.length:Int)).toNat else min (n:Int).toNat xs.length)=_
  rw[wP (by omega)]
  show min n xs.length=n
  omega
 have a:HT.D5 xs.length xs.length none=xs.length:=rfl
 rw[b,a]
 rw[RA (by rw[Rk];omega)]
theorem pS(gs:List Gd):∀(n:Nat) (o:Option Str),(ups gs n o).length<=n
 | 0,o=>by cases o<;>exact sK _
 | n+1,none=>KM _
 | n+1,some y=>by
  show(ups gs n _).length+1<=n+1
  have:=pS gs n (nE gs y)
  omega
theorem bf{b:Bd}(l:o3 b){x:Str}(q:x∈y7 b++O7 b):∀y∈j8 b x,y∈y7 b:=by
 have go:∀(n:Nat) (g:Gd),g∈b.gs->∀y∈ups b.gs n (some g.nm),y∈y7 b:=by
  intro n
  induction n with
  | zero=>intro g c y d;cases d
  | succ n p=>
   intro g c y d
   have d:y∈g.nm::ups b.gs n (nE b.gs g.nm):=d
   rcases List.mem_cons.mp d with e | e
   ·rw[e];exact List.mem_map.mpr ⟨g,c,rfl⟩
   ·rw[aD l.eV.nd c] at e
    cases h:g.un with
    | none=>
     rw[h] at e
     cases n<;>cases e
    | some z=>
     rw[h] at e
     obtain⟨dp,o⟩:=l.eV.un
     obtain⟨j,r⟩:=Qx c
     obtain⟨_,_,_,a⟩:=o j g r
     obtain⟨k,u,_,i,rfl,_⟩:=a z h
     exact p u (AC i) y e
 obtain⟨g,c,e⟩:=List.mem_map.mp (pI l q)
 unfold j8
 rw[<-e]
 exact go 8 g c
theorem yI{b:Bd}(a:o3 b):jg (b.gs.map fun g:Gd=>((.inr g.nm:Key),D.int 0))=o5 b fun _=>0:=by
 rw[kP]
 have:=R5 (k:=fun g:Gd=>g.nm) (v:=fun _:Gd=>D.int 0) (as:=b.gs) (bs:=[]) (by rw[Go];exact a.eV.nd)
 exact this
end My
namespace My
open PySem L2 L3
local macro_rules | `(tactic| walk_at "w")=>`(tactic| conv=>whnf)
local macro_rules | `(tactic| walk_at "a")=>`(tactic| first | refine⟨rfl,?_⟩ | refine⟨_,rfl,?_⟩ | refine Br.yes rfl ?_ | refine Br.no rfl ?_ | refine⟨(show(0:Int)<_ from by decide),?_⟩ | refine⟨(show R4 _ _ from⟨by decide,by decide⟩),?_⟩ | refine⟨(show bN _ _ from⟨by decide,by decide,by decide⟩),?_⟩ | refine⟨(show M3 _ _ from .inr ⟨by decide,by decide⟩),?_⟩ | refine⟨(show M3 _ _ from .inl ⟨by decide,by decide⟩),?_⟩ | refine⟨_,_,_,rfl,rfl,rfl,?_⟩ | refine⟨_,N6 _ _,?_⟩ | refine⟨_,bt _ _ _,?_⟩ | refine⟨_,_,rfl,rfl,?_⟩)
local macro_rules | `(tactic| walk_at "r")=>`(tactic| ((repeat ((conv=>whnf);(walk_at "a")));(try (conv=>whnf))))
local macro_rules | `(tactic| walk_at "n")=>`(tactic| (try dsimp only[i7,List.length,List.replicate,List.map,List.set,List.append,List.cons_append,List.nil_append,Nat.reduceAdd,Nat.reduceSub]))
theorem gf{b:Bd}{a:UE}{x:Str}(c:x∈a)(nd:a.Nodup):x9 (jk b a) (.inr x)=some (.fz ((j8 b x).map D.str)):=by
 have:=Q4 (k:=fun x:Str=>x) (v:=fun x:Str=>D.fz ((j8 b x).map D.str)) (as:=a) (by rw[List.map_id'];exact nd) c
 exact this
theorem vG{b:Bd}{a:UE}{x:Str}(c:x∉a):putD (jk b a) (.inr x) (.fz ((j8 b x).map D.str))=jk b (a++[x]):=by
 have:=dY (k:=fun x:Str=>x) (v:=fun x:Str=>D.fz ((j8 b x).map D.str)) (as:=a) (x:=x) (d:=.fz ((j8 b x).map D.str)) (by rw[List.map_id'];exact c)
 unfold jk
 rw[this,GM];rfl
theorem zF(gs:List Gd)(n:Nat):ups gs n none=[]:=by cases n<;>rfl
theorem uu{b:Bd}(a:o3 b){g:Gd}(i:g∈b.gs):j8 b g.nm=g.nm::(match g.un with | none=>[] | some y=>j8 b y):=by
 have e:g.nm∈y7 b:=List.mem_map.mpr ⟨g,i,rfl⟩
 obtain⟨dp,d,dd⟩:=vC a
 have c:=aD a.eV.nd i
 have v:j8 b g.nm=g.nm::ups b.gs 7 g.un:=by
  unfold j8
  rw[U2 a e]
  show g.nm::ups b.gs 7 (nE b.gs g.nm)=_
  rw[c]
 rw[v]
 cases p:g.un with
 | none=>rw[zF]
 | some y=>
  have l:=(dd _ e).next d a.eV.nd (c.trans p)
  have o:y∈y7 b:=by
   obtain⟨j,h,r,q,_⟩:=l
   exact List.mem_map.mpr ⟨h,AC r,q⟩
  have u:j8 b y=ups b.gs 7 (some y):=by
   unfold j8
   rw[U2 a o]
   exact cP d a.eV.nd 7 8 y l (by decide)
  show _=g.nm::j8 b y
  rw[u]
theorem wV{b:Bd}(a:o3 b){l:Ld}(c:l∈b.ls):j8 b l.nm=j8 b l.at_:=by
 obtain⟨g,d,e⟩:=a.at_ l c
 have h:l.at_∈y7 b:=List.mem_map.mpr ⟨g,d,e⟩
 unfold j8
 rw[vU a c,U2 a h]
theorem Bt{b:Bd}(l:o3 b){i:Nat}{g:Gd}(h:b.gs[i]?=some g){y:Str}(d:g.un=some y):y∈(y7 b).take i:=by
 obtain⟨dp,c⟩:=l.un
 obtain⟨_,_,_,up⟩:=c i g h
 obtain⟨j,o,e,a,rfl,_⟩:=up y d
 refine AC (i:=j) ?_
 unfold y7
 rw[QP e,wE,a];rfl
theorem oS{c:Type}{xs:List c}(nd:xs.Nodup){i:Nat}{x:c}(h:xs[i]?=some x):x∉xs.take i:=fun z=>by
 obtain⟨j,b⟩:=Qx z
 have a:=(List.getElem?_eq_some_iff.mp b).1
 rw[Op] at a
 rw[QP (by omega)] at b
 have:=(Sz (i:=j) (j:=i) (by omega) nd).mp (by rw[b,h])
 omega
theorem take_snoc{a:Type}{xs:List a}{i:Nat}{x:a}(h:xs[i]?=some x):xs.take (i+1)=xs.take i++[x]:=by rw[Qp,h];rfl
theorem cH{b:Bd}(x:Str):(j8 b x).length<=8:=pS _ 8 _
theorem zQ{T:W7}{b:Bd}{q:D}{i:Nat}{g:Gd}{e:Option D}(d:o3 b)(o:b.gs[i]?=some g)
  (z:T.nx [some q,some (.dic (jk b ((y7 b).take (i+1)))),some (gD g),e]):eU T [some q,some (.dic (jk b ((y7 b).take i))),some (gD g),e]:=by
 have l:=AC o
 have B:=d.g16
 have v:(y7 b)[i]?=some g.nm:=by unfold y7;rw[wE,o];rfl
 have nd:(y7 b).Nodup:=d.eV.nd
 have h:((y7 b).take i).Nodup:=nd.sublist (RI _ _)
 have c:=uu d l
 have a:∃k,ak (.str g.nm)=some k/\(jk b ((y7 b).take i)).length<sizeLine/\T.nx [some q,some (.dic (putD (jk b ((y7 b).take i)) k (.fz ((j8 b g.nm).map D.str)))),some (gD g),e]:=by
  refine⟨.inr g.nm,rfl,?_,?_⟩
  ·unfold jk y7
   rw[eH,Op,eH];exact i5 (by omega)
  ·rw[vG (oS nd v),<-take_snoc v]
   exact z
 walk_at "r"
 cases j:g.un with
 | none=>
  rw[j] at c
  have c:j8 b g.nm=[g.nm]:=c
  rw[c] at a
  exact⟨rfl,[.str g.nm],[],rfl,rfl,rfl,rfl,i5 (by decide),_,rfl,rfl,rfl,_,rfl,a⟩
 | some y=>
  rw[j] at c
  have c:j8 b g.nm=g.nm::j8 b y:=c
  rw[c] at a
  have x:=gf (b:=b) (Bt d o j) h
  refine⟨.inr y,rfl,?_⟩
  rw[x]
  have u:=az (j8 b y)
  have p:=az (g.nm::j8 b y)
  have:=cH (b:=b) y
  exact⟨u,[.str g.nm],(j8 b y).map D.str,rfl,rfl,rfl,u,by rw[eH];exact Re (i5 (by show 1+_<=_;omega)),_,rfl,p,p,_,rfl,a⟩
theorem BY{T:W7}{b:Bd}{q:D}{i:Nat}{l:Ld}{p:Option D}(d:o3 b)(u:b.ls[i]?=some l)
  (B:T.nx [some q,some (.dic (jk b (y7 b++(O7 b).take (i+1)))),p,some (lD l)]):eR T [some q,some (.dic (jk b (y7 b++(O7 b).take i))),p,some (lD l)]:=by
 have c:=AC u
 have E:=d.g16
 have C:=d.l24
 have j:(O7 b)[i]?=some l.nm:=by unfold O7;rw[wE,u];rfl
 have nd:=d.nd
 have nd:(y7 b++O7 b).Nodup:=nd
 obtain⟨n1,n2,v⟩:=List.nodup_append.mp nd
 have h:(y7 b++(O7 b).take i).Nodup:=nd.sublist (List.Sublist.append_left (RI _ _) _)
 obtain⟨g,y,e⟩:=d.at_ l c
 have o:l.at_∈y7 b++(O7 b).take i:=FM _ (List.mem_map.mpr ⟨g,y,e⟩)
 have x:=gf (b:=b) o h
 have a:l.nm∉y7 b++(O7 b).take i:=fun z=>by
  rcases List.mem_append.mp z with z | z
  ·exact v l.nm z l.nm (AC j) rfl
  ·exact oS n2 j z
 have r:=az (j8 b l.at_)
 refine⟨_,rfl,.inr l.at_,_,rfl,x,r,r,_,rfl,.inr l.nm,rfl,?_,?_⟩
 ·unfold jk y7 O7
  rw[eH,C2,Op,eH,eH];exact i5 (by omega)
 ·rw[<-wV d c,vG a,PP,<-take_snoc j]
  exact B
theorem EG{Q:D->Prop}{b:Bd}{x y:D}{d a:Option D}(o:o3 b)(g:yC y (b.ls.map lD))(q:Q (.dic (jk b (y7 b++O7 b)))):pw (EP Q) [some (.tup [x,y]),some (.dic (jk b (y7 b))),d,a]:=by
 rcases g with rfl | rfl
 all_goals
  refine⟨_,bt _ _ _,?_⟩
  refine .of ⟨fun i c=>∃a:Option D,c=[some (.tup [x,_]),some (.dic (jk b (y7 b++(O7 b).take i))),d,a],⟨a,by rw[TX,Do]⟩,?_,?_⟩
  ·rintro i e c j ⟨a,rfl⟩
   obtain⟨l,h,rfl⟩:=get_map j
   exact⟨rfl,BY o h ⟨_,rfl⟩⟩
  ·rintro c ⟨a,rfl⟩
   rw[eH,RA (by unfold O7;rw[eH];exact sK _)]
   exact q
theorem En(ds:List D)(Q:D->Prop)(h:aJ ds Q):BI (EP Q) (i7 4 ds):=by
 obtain⟨_,b,rfl,⟨x,y,rfl,l,j⟩,d,q⟩:=h
 refine⟨rfl,?_⟩
 rcases l with rfl | rfl
 all_goals
  refine⟨_,N6 _ _,?_⟩
  refine .of ⟨fun i a=>∃c:Option D,a=[some (.tup [_,y]),some (.dic (jk b ((y7 b).take i))),c,none],⟨none,rfl⟩,?_,?_⟩
  ·rintro i e a p ⟨c,rfl⟩
   obtain⟨g,o,rfl⟩:=get_map p
   exact⟨rfl,zQ d o ⟨_,rfl⟩⟩
  ·rintro a ⟨c,rfl⟩
   rw[eH,RA (by unfold y7;rw[eH];exact sK _)]
   exact EG d j q
def rv(b:Bd)(ls:List Ld)(y:Str):Int:=(ls.map fun l=>(((j8 b l.nm).count y:Nat):Int)*(if l.on then l.la else 0)).sum
theorem qZ{b:Bd}(d:o3 b)(y:Str):r8 b y=rv b b.ls y:=by
 have c:∀x,G5 b [] x=true:=fun x=>by
  unfold G5
  rw[RQ]
  exact fun g _=>Da (fun z=>nomatch z)
 unfold r8 O4 rv
 rw[GM,Sl,O3 (y7 b) _ fun x e=>?_,Int.zero_add]
 ·unfold O7
  rw[Qw]
  refine K4 fun l h=>?_
  show(if G5 b [] l.nm=true then _ else _)=_
  rw[wS (c _)]
  unfold nA
  rw[O2 (Ee d) h]
 ·have a:x∉b.ls.map (·.nm):=fun z=>(List.nodup_append.mp d.nd).2.2 x e x z rfl
  rw[wS (c _)]
  unfold nA
  rw[aE a,Int.mul_zero]
theorem zu{T:W7}{b:Bd}{q:D}{l:Ld}{f:Str->Int}{a:Option D}(d:o3 b)(B:l∈b.ls)
  (C:∀a,T.nx [some q,some (.dic (jk b (y7 b++O7 b))),some (.dic (o5 b fun y=>f y+(((j8 b l.nm).count y:Nat):Int)*(if l.on then l.la else 0))),some (lD l),a]) :
  eO T [some q,some (.dic (jk b (y7 b++O7 b))),some (.dic (o5 b f)),some (lD l),a]:=by
 have G:=d.g16
 have o:l.nm∈y7 b++O7 b:=wT _ (List.mem_map.mpr ⟨l,B,rfl⟩)
 have j:=bf d o
 refine⟨_,rfl,.inr l.nm,_,rfl,gf o d.nd,?_⟩
 generalize j8 b l.nm=c at *
 generalize E:jk b (y7 b++O7 b)=I
 refine .of ⟨fun n i=>∃a,i=[some q,some (.dic I),some (.dic (o5 b fun y=>f y+(((c.take n).count y:Nat):Int)*(if l.on then l.la else 0))),some (lD l),a],⟨a,?_⟩,?_,?_⟩
 ·have e:(o5 b fun y=>f y+((((c.take 0).count y:Nat):Int))*(if l.on then l.la else 0))=o5 b f:=B3 fun x _=>by
   rw[TX,List.count_nil]
   show f x+0*_=f x
   rw[Sr,SR]
  rw[e]
 ·rintro n y i v ⟨a,rfl⟩
  obtain⟨g,r,rfl⟩:=get_map v
  have p:=j g (AC r)
  refine⟨rfl,?_⟩
  refine⟨_,_,rfl,L9 d p,?_⟩
  have H:(l.la*if l.on=true then 1 else 0)=if l.on then l.la else 0:=by split<;>omega
  have e:(o5 b fun z=>if z=g then f g+(((c.take n).count g:Nat):Int)*(if l.on then l.la else 0)+(if l.on then l.la else 0) else f z+(((c.take n).count z:Nat):Int)*(if l.on then l.la else 0))=o5 b fun z=>f z+(((c.take (n+1)).count z:Nat):Int)*(if l.on then l.la else 0):=B3 fun z _=>by
   rw[List.take_succ,r,show(some g).toList=[g] from rfl,List.count_append,List.count_singleton]
   by_cases h:z=g
   ·subst h
    rw[wS rfl]
    simp[TD]
    omega
   ·rw[wP h]
    have:(g == z)=false:=by rw[beq_eq_false_iff_ne];exact fun w=>h w.symm
    simp[this]
  have u:T.nx=T.nx:=rfl
  refine⟨_,rfl,_,rfl,?_⟩
  refine⟨.inr ⟨?_,?_⟩,?_⟩
  ·split<;>decide
  ·split<;>decide
  rw[H]
  refine⟨rfl,_,rfl,by rw[cW];exact i5 (by omega),some (.str g),?_⟩
  rw[cS p,e]
  rfl
 ·rintro i ⟨a,rfl⟩
  rw[eH,QH,<-E]
  exact C a
theorem DM{Q:D->Prop}{b:Bd}{x y:D}{c a:Option D}(h:o3 b)(j:yC y (b.ls.map lD))(q:Q (.dic (o5 b (r8 b)))):qX (EP Q) [some (.tup [x,y]),some (.dic (jk b (y7 b++O7 b))),some (.dic (o5 b fun _=>0)),c,a]:=by
 rcases j with rfl | rfl
 all_goals
  refine⟨_,bt _ _ _,?_⟩
  refine .of ⟨fun i d=>∃c a:Option D,d=[some (.tup [x,_]),some (.dic (jk b (y7 b++O7 b))),some (.dic (o5 b (rv b (b.ls.take i)))),c,a],⟨c,a,rfl⟩,?_,?_⟩
  ·rintro i e d o ⟨c,a,rfl⟩
   obtain⟨l,g,rfl⟩:=get_map o
   refine⟨rfl,zu h (AC g) fun a=>⟨some (lD l),a,?_⟩⟩
   have e:(o5 b fun y=>rv b (b.ls.take i) y+(((j8 b l.nm).count y:Nat):Int)*(if l.on then l.la else 0))=o5 b (rv b (b.ls.take (i+1))):=B3 fun z _=>by
    unfold rv
    rw[Qp,g,GM,Sl]
    show _=_+(_+0)
    rw[SR]
   rw[e]
  ·rintro d ⟨c,a,rfl⟩
   have e:o5 b (rv b b.ls)=o5 b (r8 b):=B3 fun z _=>(qZ h z).symm
   rw[eH,QH,e]
   exact q
theorem FI(ds:List D)(Q:D->Prop)(h:Y4 ds Q):zE (EP Q) (i7 5 ds):=by
 obtain⟨_,b,rfl,⟨x,y,rfl,d,c⟩,a,q⟩:=h
 have i:=a.g16
 refine⟨_,b,rfl,⟨x,y,rfl,d,c⟩,a,rfl,?_⟩
 rcases d with rfl | rfl
 all_goals
  refine⟨_,N6 _ _,by rw[eH];exact i5 (by omega),?_⟩
  refine P2 (f:=fun g:Gd=>.tup [.str g.nm,.int 0]) b.gs [] (fun g j K R e=>?_) ?_
  ·walk_at "r"
   exact e
  rw[Go]
  refine .inl ⟨_,_,_,rfl,rfl,aB (f:=fun g:Gd=>.tup [.str g.nm,.int 0]) (fun g=>rfl) b.gs,dC (fun g:Gd=>g.nm) (fun _:Gd=>.int 0) b.gs,by rw[eH];exact i5 (by omega),?_⟩
  rw[yI a]
  exact⟨rfl,DM a c q⟩
theorem CZ(ds:List D)(Q:D->Prop)(h:Y9 ds Q):wL (EP Q) (i7 2 ds):=by
 obtain⟨g,n,rfl,v,q⟩:=h
 have o:=X8 g.cv
 have l:=X8 (g.cv.map fun p=>(p.1+n,p.2))
 have a:=iy g.un
 have b:y9 [.str g.nm,uD g.un,jO g.cv,.int g.de,.int g.wa]=true:=Y5 g
 refine⟨b,?_⟩
 refine⟨_,rfl,by rw[eH];exact i5 (by omega),?_⟩
 refine P2 (f:=fun p:Pr=>pr (p.1+n,p.2)) g.cv [] (fun p u K R c=>?_) ?_
 ·walk_at "r"
  exact c
 have e:([]++g.cv.map fun p:Pr=>pr (p.1+n,p.2))=(g.cv.map fun p=>(p.1+n,p.2)).map pr:=by rw[Go,Qw];rfl
 rw[e]
 refine⟨_,_,rfl,rfl,l,?_⟩
 have j:y9 [.str g.nm,uD g.un]=true:=by
  show(true&&(y1 (uD g.un)&&true))=true
  rw[a];rfl
 have i:y9 [jO (g.cv.map fun p=>(p.1+n,p.2))]=true:=by
  show(y1 (jO (g.cv.map fun p=>(p.1+n,p.2)))&&true)=true
  rw[aY];rfl
 have d:y9 [.str g.nm,uD g.un,jO (g.cv.map fun p=>(p.1+n,p.2))]=true:=by
  show(true&&(y1 (uD g.un)&&(y1 (jO (g.cv.map fun p=>(p.1+n,p.2)))&&true)))=true
  rw[a,aY];rfl
 exact⟨j,i,Re (i5 (show 2+1<=100000 by decide)),b,d,rfl,Re (i5 (show 3+2<=100000 by decide)),q⟩
theorem Up.more{xs:UH}{b w l u:Int}(h:Up b xs)(d:l∈xs)(e:∀x∈xs,x<=l)(i:1<=u)(g:u<=w):Up (b+w) (xs++[l+u]):=by
 refine⟨List.pairwise_append.mpr ⟨h.1,QT _ _,fun x a y c=>?_⟩,fun x a=>?_⟩
 ·rw[List.mem_singleton.mp c]
  have:=e x a
  omega
 ·have:=h.2 l d
  rcases List.mem_append.mp a with z | z
  ·have:=h.2 x z;omega
  ·rw[List.mem_singleton.mp z];omega
theorem Up.scale{xs:UH}{b B u:Int}(h:Up b xs)(c:1<=u)(i:b*u<=B):Up B (xs.map (·*u)):=by
 refine⟨List.pairwise_map.mpr (h.1.imp fun h=>Int.mul_lt_mul_of_pos_right h (by omega)),fun y d=>?_⟩
 obtain⟨x,e,rfl⟩:=List.mem_map.mp d
 have a:=h.2 x e
 have g:1*1<=x*u:=Int.mul_le_mul a.1 c (by decide) (by omega)
 have j:x*u<=b*u:=Os a.2 (by omega)
 exact⟨g,by omega⟩
theorem ae(xs:UH)(u:Int)(k:Nat):(xs.map (·*u)).getD k 0=xs.getD k 0*u:=by
 rw[B2,B2,wE]
 cases xs[k]? with
 | none=>exact(Sr u).symm
 | some x=>rfl
theorem getD_mem{xs:UH}{k:Nat}(h:k<xs.length):xs.getD k 0∈xs:=by
 rw[B2,iU h]
 exact Rx h
theorem mZ{u t:Int}(h:bQ u t):46*u<=10^60-1/\15*t<=10^60-1:=by
 obtain⟨d,c,b,a⟩:=h
 omega
theorem xo{Q:D->D->Prop}{c d k u t m:Int}{xs a:UH}{v:Option D}(g:bQ u t)(C:(xs.length:Int)=m)(S:(a.length:Int)=m)(U:1<=m)(T:m<=5)(o:Up 46 xs)(j:Up 15 a)
  (q:∀cv:List Pr,T9 cv->(∀p∈cv,p.1<=46*u)->(∀p∈cv,p.2<=15*t)->Q (jO cv) (feed c d k)):gM (EM Q) [some (feed c d k),some (.int u),some (.int t),some (.int m),some (nums xs),some (nums a),v]:=by
 obtain⟨J,I⟩:=mZ g
 have G:=o.scale g.1 J
 have E:=j.scale g.2.2.1 I
 refine⟨⟨by omega,by omega⟩,by rw[A2,eH,BB];exact i5 (by omega),?_⟩
 refine P2 (f:=fun(k:Nat)=>pr ((xs.map (·*u)).getD k 0,(a.map (·*t)).getD (m.toNat-1-k) 0)) (List.range m.toNat) [] (fun k b K R B=>?_) ?_
 ·have b:=List.mem_range.mp b
  have a1:P0 (xs.map D.int) (0+(k:Int))=some (.int (xs.getD k 0)):=by
   obtain⟨x,_,h,z⟩:=J8 (f:=D.int) (xs:=xs) (i:=0+(k:Int)) (by omega) (by omega)
   rw[z]
   have y:(0+(k:Int)).toNat=k:=by omega
   rw[y] at h
   rw[B2,h];rfl
  have a2:P0 (a.map D.int) (m-1-(0+(k:Int)))=some (.int (a.getD (m.toNat-1-k) 0)):=by
   obtain⟨x,_,h,z⟩:=J8 (f:=D.int) (xs:=a) (i:=m-1-(0+(k:Int))) (by omega) (by omega)
   rw[z]
   have y:(m-1-(0+(k:Int))).toNat=m.toNat-1-k:=by omega
   rw[y] at h
   rw[B2,h];rfl
  have O:=o.2 _ (getD_mem (xs:=xs) (k:=k) (by omega))
  have M:=j.2 _ (getD_mem (xs:=a) (k:=m.toNat-1-k) (by omega))
  rw[ae,ae] at B
  refine⟨rfl,Br.yes rfl ?_⟩
  refine⟨_,a1,.inl ⟨by omega,by omega⟩,_,a2,.inl ⟨by omega,by omega⟩,B⟩
 ·have H:∀l:UI,y9 (l.map fun(k:Nat)=>pr ((xs.map (·*u)).getD k 0,(a.map (·*t)).getD (m.toNat-1-k) 0))=true:=fun l=>rh fun x C=>by
   obtain⟨k,_,rfl⟩:=List.mem_map.mp C
   rfl
  refine⟨_,_,rfl,rfl,H _,?_⟩
  have e:(List.range m.toNat).map (fun(k:Nat)=>pr ((xs.map (·*u)).getD k 0,(a.map (·*t)).getD (m.toNat-1-k) 0))=(steps m.toNat (xs.map (·*u)) (a.map (·*t))).map pr:=by unfold steps;rw[Qw];rfl
  rw[Go,e]
  refine q _ (yU (by rw[eH];omega) (by rw[eH];omega) (by omega) (by omega) G E) (fun p r=>?_) fun p r=>?_
  ·obtain⟨k,b,rfl⟩:=List.mem_map.mp r
   have b:=List.mem_range.mp b
   show(xs.map (·*u)).getD k 0<=46*u
   rw[ae]
   exact Os (o.2 _ (getD_mem (by omega))).2 (by have:=g.1;omega)
  ·obtain⟨k,b,rfl⟩:=List.mem_map.mp r
   have b:=List.mem_range.mp b
   show(a.map (·*t)).getD (m.toNat-1-k) 0<=15*t
   rw[ae]
   exact Os (j.2 _ (getD_mem (by omega))).2 (by have:=g.2.2.1;omega)
theorem wW(ds:List D)(Q:D->D->Prop)(h:S0 ds Q):qT (EM Q) (i7 7 ds):=by
 obtain⟨c,d,k,u,t,rfl,k0,k1,T,q⟩:=h
 refine⟨c,d,k,5,rfl,k0,by omega,by decide,by decide,fun m d1 m0 m1=>⟨rfl,?_⟩⟩
 refine⟨c,d1,k+1,10,rfl,by omega,by omega,by decide,by decide,fun r d2 r0 r1=>⟨rfl,?_⟩⟩
 refine⟨c,d2,k+1+1,3,rfl,by omega,by omega,by decide,by decide,fun Y d3 X U=>⟨rfl,?_⟩⟩
 refine⟨⟨by omega,by omega⟩,?_⟩
 refine .of ⟨fun i B=>∃(d' a:Int) (xs b:UH) (C:Option D),B=[some (feed c d' a),some (.int u),some (.int t),some (.int (1+m)),some (nums xs),some (nums b),C]/\xs.length=i+1/\b.length=i+1/\Up (10+9*i) xs/\Up (3+3*i) b/\k<=a/\a<=k+3+2*i,
  ⟨d3,k+1+1+1,[1+r],[1+Y],none,rfl,rfl,rfl,⟨QT _ _,fun x g=>by rw[List.mem_singleton.mp g];omega⟩,⟨QT _ _,fun x g=>by rw[List.mem_singleton.mp g];omega⟩,by omega,by omega⟩,?_,?_⟩
 ·rintro i e B J ⟨d',a,xs,b,C,rfl,g,H,v,p,k2,k3⟩
  rw[A2] at J
  obtain⟨j,hj,rfl⟩:=get_map J
  have hi:i<(1+m-1).toNat:=by have:=(List.getElem?_eq_some_iff.mp hj).1;rwa [BB] at this
  obtain⟨l,lm,lx,hl⟩:=vo v (by omega)
  obtain⟨y,G,E,I⟩:=vo p (by omega)
  refine⟨rfl,rfl,_,hl,?_⟩
  refine⟨c,d',a,9,rfl,by omega,by omega,by decide,by decide,fun w d4 w0 w1=>?_⟩
  refine⟨by rw[eH];exact i5 (by omega),?_⟩
  refine⟨rfl,_,I,?_⟩
  refine⟨c,d4,a+1,3,rfl,by omega,by omega,by decide,by decide,fun o M S R=>?_⟩
  refine⟨by rw[eH];exact i5 (by omega),?_⟩
  have z:=v.more (w:=9) (u:=1+w) lm lx (by omega) (by omega)
  have O:=p.more (w:=3) (u:=1+o) G E (by omega) (by omega)
  refine⟨M,a+1+1,xs++[l+(1+w)],b++[y+(1+o)],some (.int (0+(j:Int))),?_,by simp[g],by simp[H],z.mono (by omega),O.mono (by omega),by omega,by omega⟩
  unfold nums
  rw[GM,GM]
  show _=[some (feed c M (a+1+1)),_,_,_,some (.lst (xs.map D.int++[.int (l+(1+w))])),some (.lst (b.map D.int++[.int (y+(1+o))])),_]
  rw[show l+(1+w)=l+1+w from by omega,show y+(1+o)=y+1+o from by omega]
  rfl
 ·rintro B ⟨d',a,xs,b,C,rfl,g,H,v,p,k2,k3⟩
  rw[A2,eH,BB] at g H k3 v p
  exact xo T (by omega) (by omega) (by omega) (by omega) (v.mono (by omega)) (p.mono (by omega)) fun cv c1 c2 c3=>q cv d' a c1 c2 c3 (by omega) (by omega)
theorem JD{a:List D}{p:Int}(h0:0<=p)(b:p<a.length):P0 a p=a[p.toNat]?:=by
 unfold P0 kN
 rw[wS h0,wS b];rfl
theorem DJ(xs:UE){p:Int}(b:0<=p)(d:p<=xs.length):∃un:Option Str,P0 ([D.o8]++xs.map D.str) p=some (uD un)/\(∀y,un=some y->∃j:Nat,(j:Int)+1=p/\xs[j]?=some y):=by
 rw[JD b (by rw[C2,eH];show p<((1+xs.length:Nat):Int);omega)]
 by_cases h:p=0
 ·subst h
  exact⟨none,rfl,fun y z=>nomatch z⟩
 ·obtain⟨n,e⟩:∃n,p.toNat=n+1:=⟨p.toNat-1,by omega⟩
  have c:n<xs.length:=by omega
  have a:=iU c
  refine⟨some xs[n],?_,fun z hz=>by cases hz;exact⟨n,by omega,a⟩⟩
  rw[e]
  show(xs.map D.str)[n]?=_
  rw[wE,a];rfl
structure Nr(xs:UE)(gs:List Gd)(es:UI)(u t:Int):Prop where
 k:Lb xs gs es
 lo:∀(j e:Nat),es[j]?=some e->e<=j+1
 sm:OE gs u t
theorem Nr.snoc{xs:UE}{gs:List Gd}{c:UI}{g:Gd}{u t:Int}(r:bQ u t)(h:Nr xs gs c u t)(Q:gs.length<8)(v:xs[gs.length]?=some g.nm)(un:∀y,g.un=some y->∃j:Nat,j<gs.length/\xs[j]?=some y)(x:T9 g.cv)(hd:0<=g.de)(hw:0<=g.wa)
  (c1:∀p∈g.cv,p.1<=46*u) (c2:∀p∈g.cv,p.2<=15*t) (J:g.de<=3*t) (B:g.wa<=2*t):∃q,Nr xs (gs++[g]) q u t:=by
 have mem:∀{P:Gd->Prop},(∀g∈gs,P g)->P g->∀z∈gs++[g],P z:=fun H G z hz=>by
  rcases List.mem_append.mp hz with w | w
  ·exact H z w
  ·rw[List.mem_singleton.mp w];exact G
 have b:=mZ r
 have O:=r.2.2.1
 have sm:OE (gs++[g]) u t:=⟨mem h.sm.c1 c1,mem h.sm.c2 c2,mem h.sm.de J,mem h.sm.wa B⟩
 have lo:∀e:Nat,e<=gs.length+1->∀(j l:Nat),(c++[e])[j]?=some l->l<=j+1:=fun e i j l a=>by
  by_cases E:j<c.length
  ·rw[EQ E] at a
   exact h.lo j l a
  ·have o:=(List.getElem?_eq_some_iff.mp a).1
   rw[C2,QB] at o
   have I:j=c.length:=by omega
   subst I
   rw[Qr (sK _),RY] at a
   cases a
   rw[h.k.len];exact i
 cases d:g.un with
 | none=>exact⟨c++[1],h.k.snoc (e:=1) v (sK _) (by decide) (fun _=>rfl) (fun y z=>by rw[d] at z;cases z) x ⟨hd,by omega⟩ ⟨hw,by omega⟩,lo 1 (by omega),sm⟩
 | some y=>
  obtain⟨j,a,C⟩:=un y d
  obtain⟨e,i⟩:∃e,c[j]?=some e:=⟨_,iU (by rw[h.k.len];exact a)⟩
  have:=h.lo j e i
  exact⟨c++[e+1],h.k.snoc (e:=e+1) v (by omega) (by omega) (fun z=>by rw[d] at z;cases z) (fun M z=>by rw[d] at z;cases z;exact⟨j,e,a,C,i,rfl⟩) x ⟨hd,by omega⟩ ⟨hw,by omega⟩,lo (e+1) (by omega),sm⟩
theorem tD(ds:List D)(Q:D->Prop)(h:N0 ds Q):kY (EP Q) (i7 10 ds):=by
 obtain⟨d,ns,xs,u,t,rfl,hs,x1,x8,xn,z,q⟩:=h
 have b:=mZ z
 have t1:=z.2.2.1
 refine⟨rfl,?_⟩
 refine⟨⟨by rw[eH];omega,by rw[eH];omega⟩,?_⟩
 refine .of ⟨fun i G=>∃(gs:List Gd) (Y:UI) (O M J I H:Option D),G=[some d,some (jE xs),some (.int u),some (.int t),some (.lst (gs.map gD)),O,M,J,I,H]/\gs.length=i/\Nr xs gs Y u t,
  ⟨[],[],none,none,none,none,none,rfl,rfl,⟨⟨rfl,rfl,fun j g l=>(by simp at l),(fun g l=>nomatch l),(fun g l=>nomatch l),(fun g l=>nomatch l)⟩,fun j e C=>(by simp at C),⟨(fun g l=>nomatch l),(fun g l=>nomatch l),(fun g l=>nomatch l),(fun g l=>nomatch l)⟩⟩⟩,?_,?_⟩
 ·rintro i e G C ⟨gs,Y,O,M,J,I,H,rfl,B,o⟩
  rw[A2] at C
  obtain⟨j,hj,rfl⟩:=get_map C
  have hi:i<xs.length/\j=i:=by
   obtain⟨z1,z2⟩:=List.getElem?_eq_some_iff.mp hj
   rw[BB,eH] at z1
   rw[RU] at z2
   exact⟨by omega,by omega⟩
  obtain⟨hi,rfl⟩:=hi
  obtain⟨x,_,v,R⟩:=J8 (f:=D.str) (xs:=xs) (i:=0+(j:Int)) (by omega) (by omega)
  have e0:(0+(j:Int)).toNat=j:=by omega
  rw[e0] at v
  refine⟨rfl,?_⟩
  refine⟨d,ns,2+(0+(j:Int)),rfl,hs,by omega,by omega,fun c=>⟨rfl,?_⟩⟩
  walk_at "n"
  refine⟨c,c,_,0+(j:Int)+1,rfl,by omega,by omega,by omega,by omega,fun r d1 r0 r1=>?_⟩
  refine⟨rfl,c,d1,_,3,rfl,by omega,by omega,by decide,by decide,fun w d2 w0 w1=>?_⟩
  walk_at "n"
  obtain⟨p,hp,a3⟩:=MZ r (0+(j:Int)) (t:=if decide (0<w)=true then 1 else 0) (by split<;>decide) (by split<;>decide)
  refine⟨_,hp,rfl,rfl,?_⟩
  walk_at "n"
  refine⟨c,d2,_,u,t,rfl,by omega,by omega,z,fun cv d3 k3 hc c1 c2 k30 k31=>⟨rfl,?_⟩⟩
  walk_at "n"
  refine⟨c,d3,k3,4,rfl,by omega,by omega,by decide,by decide,fun a d4 a0 a1=>⟨.inl ⟨by omega,by omega⟩,rfl,?_⟩⟩
  walk_at "n"
  obtain⟨un,T,S⟩:=DJ xs (p:=p) (by omega) (by omega)
  refine⟨rfl,_,R,rfl,?_⟩
  refine⟨rfl,az xs,?_,_,T,?_⟩
  ·rw[eH];exact Re (i5 (by show 1+_<=_;omega))
  refine⟨aY cv,rfl,c,d4,k3+1,3,rfl,by omega,by omega,by decide,by decide,fun E d5 a2 a4=>⟨.inl ⟨by omega,by omega⟩,?_⟩⟩
  refine⟨by rw[eH];exact i5 (by omega),?_⟩
  have m1:a*t<=3*t:=Os (by omega) (by omega)
  have m2:E*t<=2*t:=Os (by omega) (by omega)
  have m3:0<=a*t:=Td a0 (by omega)
  have m4:0<=E*t:=Td a2 (by omega)
  obtain⟨X,U⟩:=o.snoc z (g:=⟨x,un,cv,a*t,E*t⟩) (by omega) (by rw[B];exact v) (fun y hy=>by obtain⟨n,h1,h2⟩:=S y hy;exact⟨n,by omega,h2⟩) hc m3 m4 c1 c2 m1 m2
  refine⟨gs++[⟨x,un,cv,a*t,E*t⟩],X,some (.int (0+(j:Int))),some (feed c d5 (k3+1+1)),some (.int p),some (jO cv),some (.int (a*t)),?_,by simp[B],U⟩
  rw[GM]
  rfl
 ·rintro G ⟨gs,Y,O,M,J,I,H,rfl,B,o⟩
  rw[A2,eH,BB,eH] at B
  refine q gs ?_ o.k.un o.k.cv (fun g l=>(o.k.de g l).1) (fun g l=>(o.k.wa g l).1) o.sm
  have:=o.k.nms
  rw[this,RA (by omega)]
structure Nt(gs:List Gd)(ls:List Ld)(u t:Int):Prop where
 c4:∀l∈ls,l.cs.length<=4
 cs:∀l∈ls,∀p∈l.cs,1<=p.1/\0<=p.2
 la:∀l∈ls,0<=l.la
 at_:∀l∈ls,∃g∈gs,g.nm=l.at_
 sm:OW ls u t
theorem Nt.snoc{gs:List Gd}{ls:List Ld}{l:Ld}{u t:Int}(h:Nt gs ls u t)(c:l.cs.length<=4)(a:∀p∈l.cs,1<=p.1/\p.1<=3*t/\0<=p.2/\p.2<=11*u)(i:0<=l.la)(e:l.la<=3*u)(d:∃g∈gs,g.nm=l.at_):Nt gs (ls++[l]) u t:=by
 have mem:∀{P:Ld->Prop},(∀g∈ls,P g)->P l->∀z∈ls++[l],P z:=fun c a z hz=>by
  rcases List.mem_append.mp hz with w | w
  ·exact c z w
  ·rw[List.mem_singleton.mp w];exact a
 exact⟨mem h.c4 c,mem h.cs fun p b=>⟨(a p b).1,(a p b).2.2.1⟩,mem h.la i,mem h.at_ d,mem h.sm.la e,mem h.sm.cs fun p b=>⟨(a p b).2.1,(a p b).2.2.2⟩⟩
theorem yq(ds:List D)(Q:D->Prop)(h:R1 ds Q):qM (EP Q) (i7 11 ds):=by
 obtain⟨d,ns,xs,gs,u,t,rfl,hs,g1,g8,x8,ut,q⟩:=h
 have u1:=ut.1
 have t1:=ut.2.2.1
 refine⟨rfl,?_⟩
 refine⟨⟨by rw[eH];omega,by rw[eH];omega⟩,?_⟩
 refine .of ⟨fun i v=>∃(ls:List Ld) (S R O M b:Option D),v=[some d,some (jE xs),some (.lst (gs.map gD)),some (.int u),some (.int t),some (.lst (ls.map lD)),S,R,O,M,b]/\ls.length=i/\ls.map (·.nm)=xs.take i/\Nt gs ls u t,
  ⟨[],none,none,none,none,none,rfl,rfl,rfl,⟨(fun g l=>nomatch l),(fun g l=>nomatch l),(fun g l=>nomatch l),(fun g l=>nomatch l),(fun g l=>nomatch l),(fun g l=>nomatch l)⟩⟩,?_,?_⟩
 ·rintro i e v he ⟨ls,S,R,O,M,b,rfl,hl,J,B⟩
  rw[A2] at he
  obtain⟨j,hj,rfl⟩:=get_map he
  have hi:i<xs.length/\j=i:=by
   obtain⟨z1,z2⟩:=List.getElem?_eq_some_iff.mp hj
   rw[BB,eH] at z1
   rw[RU] at z2
   exact⟨by omega,by omega⟩
  obtain⟨hi,rfl⟩:=hi
  obtain⟨x,_,G,X⟩:=J8 (f:=D.str) (xs:=xs) (i:=0+(j:Int)) (by omega) (by omega)
  have e0:(0+(j:Int)).toNat=j:=by omega
  rw[e0] at G
  refine⟨rfl,?_⟩
  refine⟨d,ns,10+(0+(j:Int)),rfl,hs,by omega,by omega,fun c=>⟨rfl,?_⟩⟩
  refine⟨c,c,_,_,rfl,by omega,by omega,by rw[eH];omega,by rw[eH];omega,fun r d1 r0 r1=>?_⟩
  rw[eH] at r1
  obtain⟨g,l,_,a2⟩:=J8 (f:=gD) (xs:=gs) (i:=r) r0 r1
  refine⟨_,a2,_,rfl,rfl,rfl,rfl,?_⟩
  refine⟨c,d1,_,5,rfl,by omega,by omega,by decide,by decide,fun r2 d2 a5 a4=>?_⟩
  generalize hK:100*(10+(0+(j:Int)))+1+1=K0
  refine⟨⟨by omega,by omega⟩,?_⟩
  refine .of ⟨fun n v=>∃(d' o:Int) (ps:List Pr) (b:Option D),v=[some d,some (jE xs),some (.lst (gs.map gD)),some (.int u),some (.int t),some (.lst (ls.map lD)),some (.int (0+(j:Int))),some (feed c d' o),some (.str g.nm),some (.lst (ps.map pr)),b]/\ps.length=n/\(∀p∈ps,1<=p.1/\p.1<=3*t/\0<=p.2/\p.2<=11*u)/\0<=o/\o<=10000+2*n,⟨d2,K0,[],b,rfl,rfl,(fun p Y=>nomatch Y),by omega,by omega⟩,?_,?_⟩
  ·rintro n y v hy ⟨d',o,ps,b,rfl,E,C,k0,k1⟩
   have hn:n<r2.toNat:=by have:=(List.getElem?_eq_some_iff.mp hy).1;rwa [A2,eH,BB] at this
   refine⟨rfl,?_⟩
   refine⟨rfl,c,d',o,3,rfl,by omega,by omega,by decide,by decide,fun a d3 a0 a1=>⟨.inl ⟨by omega,by omega⟩,?_⟩⟩
   refine⟨c,d3,o+1,12,rfl,by omega,by omega,by decide,by decide,fun I d4 H a3=>⟨.inl ⟨by omega,by omega⟩,?_⟩⟩
   refine⟨by rw[eH];exact i5 (by omega),?_⟩
   have U:(1+a)*t<=3*t:=Os (by omega) (by omega)
   have m2:I*u<=11*u:=Os (by omega) (by omega)
   have T:1*1<=(1+a)*t:=Int.mul_le_mul (by omega) t1 (by decide) (by omega)
   have m4:0<=I*u:=Td H (by omega)
   refine⟨d4,o+1+1,ps++[((1+a)*t,I*u)],some y,?_,by simp[E],fun p Y=>?_,by omega,by omega⟩
   ·rw[GM];rfl
   ·rcases List.mem_append.mp Y with z | z
    ·exact C p z
    ·rw[List.mem_singleton.mp z];exact⟨T,U,m4,m2⟩
  ·rintro v ⟨d',o,ps,b,rfl,E,C,k0,k1⟩
   rw[A2,eH,BB] at E k1
   refine⟨rfl,_,X,rfl,rfl,_,_,rfl,rfl,X8 ps,?_⟩
   refine⟨c,d',o,4,rfl,by omega,by omega,by decide,by decide,fun a d5 a0 a1=>⟨.inl ⟨by omega,by omega⟩,?_⟩⟩
   refine⟨c,d5,o+1,4,rfl,by omega,by omega,by decide,by decide,fun I d6 H a3=>?_⟩
   refine⟨by rw[eH];exact i5 (by omega),?_⟩
   have U:a*u<=3*u:=Os (by omega) (by omega)
   have T:0<=a*u:=Td a0 (by omega)
   refine⟨ls++[⟨x,g.nm,ps,a*u,decide (0<I)⟩],some (.int (0+(j:Int))),some (feed c d6 (o+1+1)),some (.str g.nm),some (.lst (ps.map pr)),b,?_,by simp[hl],?_,B.snoc (by show ps.length<=4;omega) C T U ⟨g,l,rfl⟩⟩
   ·rw[GM];rfl
   ·rw[GM,J,Qp,G];rfl
 ·rintro v ⟨ls,S,R,O,M,b,rfl,hl,J,B⟩
  rw[A2,eH,BB,eH] at J
  exact q ls (by rw[J,RA (by omega)]) B.c4 B.cs B.la B.at_ B.sm
end My
namespace My
open PySem L2 L3
local macro_rules | `(tactic| walk_at "w")=>`(tactic| conv=>whnf)
local macro_rules | `(tactic| walk_at "a")=>`(tactic| first | refine⟨rfl,?_⟩ | refine⟨_,rfl,?_⟩ | refine Br.yes rfl ?_ | refine Br.no rfl ?_ | refine⟨(show(0:Int)<_ from by decide),?_⟩ | refine⟨(show R4 _ _ from⟨by decide,by decide⟩),?_⟩ | refine⟨(show bN _ _ from⟨by decide,by decide,by decide⟩),?_⟩ | refine⟨(show M3 _ _ from .inr ⟨by decide,by decide⟩),?_⟩ | refine⟨(show M3 _ _ from .inl ⟨by decide,by decide⟩),?_⟩ | refine⟨_,_,_,rfl,rfl,rfl,?_⟩ | refine⟨_,N6 _ _,?_⟩ | refine⟨_,bt _ _ _,?_⟩ | refine⟨_,_,rfl,rfl,?_⟩)
local macro_rules | `(tactic| walk_at "r")=>`(tactic| ((repeat ((conv=>whnf);(walk_at "a")));(try (conv=>whnf))))
theorem Ao{gs:List Gd}{dp:Nat->Nat}(l:oJ gs dp)(nd:(gs.map (·.nm)).Nodup):∀(n j:Nat) (g:Gd),gs[j]?=some g->∀y∈ups gs n (some g.nm),∃k h,k<=j/\gs[k]?=some h/\h.nm=y
 | 0,_,_,_,y,b=>by cases b
 | n+1,j,g,d,y,b=>by
  have b:y∈g.nm::ups gs n (nE gs g.nm):=b
  rcases List.mem_cons.mp b with e | e
  ·exact⟨j,g,sK _,d,e.symm⟩
  ·rw[aD nd (AC d)] at e
   cases c:g.un with
   | none=>
    rw[c] at e
    cases n<;>cases e
   | some z=>
    rw[c] at e
    obtain⟨_,_,_,a⟩:=l j g d
    obtain⟨k,q,r,i,rfl,_⟩:=a z c
    obtain⟨k2,h,u,p,o⟩:=Ao l nd n k q i y e
    exact⟨k2,h,by omega,p,o⟩
theorem Jm{gs:List Gd}(nd:(gs.map (·.nm)).Nodup){i j:Nat}{g h:Gd}(d:gs[i]?=some g)(c:gs[j]?=some h)(e:g.nm=h.nm):i=j:=by
 have a:(gs.map (·.nm))[i]?=some g.nm:=by rw[wE,d];rfl
 have l:(gs.map (·.nm))[j]?=some g.nm:=by rw[wE,c,e];rfl
 have b:i<(gs.map (·.nm)).length:=(List.getElem?_eq_some_iff.mp a).1
 exact(Sz b nd).mp (a.trans l.symm)
theorem kz{gs:List Gd}{dp:Nat->Nat}(c:oJ gs dp)(nd:(gs.map (·.nm)).Nodup):∀(n j:Nat) (g:Gd),gs[j]?=some g->(ups gs n (some g.nm)).Nodup
 | 0,_,_,_=>xL
 | n+1,j,g,d=>by
  show(g.nm::ups gs n (nE gs g.nm)).Nodup
  rw[aD nd (AC d)]
  cases i:g.un with
  | none=>
   have p:ups gs n none=[]:=by cases n<;>rfl
   rw[p];exact List.nodup_cons.mpr ⟨(fun z=>nomatch z),xL⟩
  | some z=>
   obtain⟨_,_,_,a⟩:=c j g d
   obtain⟨k,e,q,b,rfl,_⟩:=a z i
   refine List.nodup_cons.mpr ⟨fun y=>?_,kz c nd n k e b⟩
   obtain⟨k2,h,r,o,l⟩:=Ao c nd n k e b _ y
   have:=Jm nd o d l
   omega
theorem sf{b:Bd}(a:o3 b){x:Str}(d:x∈y7 b++O7 b):(j8 b x).Nodup:=by
 obtain⟨dp,c⟩:=a.eV.un
 obtain⟨g,i,e⟩:=List.mem_map.mp (pI a d)
 obtain⟨j,h⟩:=Qx i
 unfold j8
 rw[<-e]
 exact kz c a.eV.nd 8 j g h
theorem tH{b:Bd}(c:o3 b){x:Str}(a:x∈y7 b++O7 b)(y:Str):(((j8 b x).count y:Nat):Int)=if y∈j8 b x then 1 else 0:=by
 by_cases h:y∈j8 b x
 ·rw[wS h,List.Nodup.count (sf c a),wS h];rfl
 ·rw[wP h,List.count_eq_zero.mpr h];rfl
end My
namespace My
open PySem L2 L3
local macro_rules | `(tactic| walk_at "w")=>`(tactic| conv=>whnf)
local macro_rules | `(tactic| walk_at "a")=>`(tactic| first | refine⟨rfl,?_⟩ | refine⟨_,rfl,?_⟩ | refine Br.yes rfl ?_ | refine Br.no rfl ?_ | refine⟨(show(0:Int)<_ from by decide),?_⟩ | refine⟨(show R4 _ _ from⟨by decide,by decide⟩),?_⟩ | refine⟨(show bN _ _ from⟨by decide,by decide,by decide⟩),?_⟩ | refine⟨(show M3 _ _ from .inr ⟨by decide,by decide⟩),?_⟩ | refine⟨(show M3 _ _ from .inl ⟨by decide,by decide⟩),?_⟩ | refine⟨_,_,_,rfl,rfl,rfl,?_⟩ | refine⟨_,N6 _ _,?_⟩ | refine⟨_,bt _ _ _,?_⟩ | refine⟨_,_,rfl,rfl,?_⟩)
local macro_rules | `(tactic| walk_at "r")=>`(tactic| ((repeat ((conv=>whnf);(walk_at "a")));(try (conv=>whnf))))
local macro_rules | `(tactic| walk_at "n")=>`(tactic| (try dsimp only[i7,List.length,List.replicate,List.map,List.set,List.append,List.cons_append,List.nil_append,Nat.reduceAdd,Nat.reduceSub]))
theorem eW{d:Type}{f:d->Int}{c:Int}:∀{l:List d},(∀x∈l,0<=f x/\f x<=c)->0<=(l.map f).sum/\(l.map f).sum<=l.length*c
 | [],_=>⟨Sk _,by show(0:Int)<=((0:Nat):Int)*c;rw[Int.natCast_zero,Sr];exact Sk _⟩
 | x::l,h=>by
  have a:=h x lP
  have b:=eW (l:=l) fun y g=>h y (hQ _ g)
  rw[Bi,Rf,FS]
  have e:((l.length+1:Nat):Int)*c=(l.length:Int)*c+c:=by rw[Int.natCast_add,TD];simp
  rw[e]
  omega
theorem uI{b:Bd}(d:o3 b){c:Int}(i:0<=c)(g:∀l∈b.ls,l.la<=c)(y:Str):0<=r8 b y/\r8 b y<=b.ls.length*c:=by
 rw[qZ d]
 refine eW fun l a=>?_
 have h0:=d.la l a
 have h:=g l a
 have e:0<=(if l.on=true then l.la else 0)/\(if l.on=true then l.la else 0)<=c:=by split<;>omega
 rw[tH d (wT _ (List.mem_map.mpr ⟨l,a,rfl⟩))]
 split
 ·rw[Int.one_mul];exact e
 ·rw[Sr];omega
theorem T9.lift{cv:List Pr}(h:T9 cv){n B:Int}(h0:0<=n)(i:∀p∈cv,p.1<=B)(j:B+n<10^60):T9 (cv.map fun p=>(p.1+n,p.2)):=by
 obtain⟨a,b,c,d⟩:=h
 refine⟨by rw[eH];exact a,by rw[eH];exact b,fun q g=>?_,?_⟩
 ·obtain⟨p,e,rfl⟩:=List.mem_map.mp g
  have z:=c p e
  have w:=i p e
  exact⟨by show 1<=p.1+n;omega,by show p.1+n<_;omega,z.2.2.1,z.2.2.2⟩
 ·rw[RJ]
  exact d.imp fun z=>⟨by show _+n<_+n;omega,z.2⟩
theorem o3.guards{b:Bd}(a:o3 b)(f:Gd->Gd)(d:∀g,(f g).nm=g.nm)(o:∀g,(f g).un=g.un)(x:∀g∈b.gs,T9 (f g).cv)(v:∀g∈b.gs,0<=(f g).de/\(f g).de<10^60)(u:∀g∈b.gs,0<=(f g).wa/\(f g).wa<10^60):o3 ⟨b.gs.map f,b.ls⟩:=by
 have C:(b.gs.map f).map (·.nm)=b.gs.map (·.nm):=by rw[Qw];exact Sm fun g _=>d g
 have all:∀{P:Gd->Prop},(∀g∈b.gs,P (f g))->∀g∈b.gs.map f,P g:=fun h g c=>by
  obtain⟨z,hz,rfl⟩:=List.mem_map.mp c
  exact h z hz
 refine⟨by show 1<=(b.gs.map f).length;rw[eH];exact a.g1,by show(b.gs.map f).length<=16;rw[eH];exact a.g16,a.l24,by show((b.gs.map f).map (·.nm)++_).Nodup;rw[C];exact a.nd,all fun g c=>by rw[d];exact a.nmg g c,a.nml,all x,all v,all u,?_,a.cs4,a.cs,a.la,fun l r=>?_⟩
 ·obtain⟨dp,p⟩:=a.un
  refine⟨dp,fun i g c=>?_⟩
  have c:(b.gs.map f)[i]?=some g:=c
  rw[wE] at c
  obtain⟨z,hz,rfl⟩:=Option.map_eq_some_iff.mp c
  obtain⟨a1,a2,a3,a4⟩:=p i z hz
  refine⟨a1,a2,fun w=>a3 (by rw[<-o];exact w),fun y q=>?_⟩
  obtain⟨j,B,I,H,G,E⟩:=a4 y (by rw[<-o];exact q)
  exact⟨j,f B,I,by show(b.gs.map f)[j]?=_;rw[wE,H];rfl,by rw[d];exact G,E⟩
 ·obtain⟨g,c,e⟩:=a.at_ l r
  exact⟨f g,List.mem_map.mpr ⟨g,c,rfl⟩,by rw[d];exact e⟩
theorem wU(ds:List D)(Q:D->Prop)(h:R7 ds Q):nQ (EP Q) (i7 9 ds):=by
 obtain⟨d,ns,u,t,rfl,J,x,q⟩:=h
 have ub:=mZ x
 have u1:=x.1
 have u2:=x.2.1
 have t1:=x.2.2.1
 have t2:=x.2.2.2
 refine⟨d,ns,0,rfl,J,by decide,by decide,fun c=>⟨rfl,?_⟩⟩
 walk_at "n"
 refine⟨c,c,_,8,rfl,by decide,by decide,by decide,by decide,fun r d1 r0 r1=>⟨rfl,?_⟩⟩
 walk_at "n"
 refine⟨d,ns,1,rfl,J,by decide,by decide,fun c'=>?_⟩
 walk_at "n"
 refine⟨c,d1,_,9,rfl,by decide,by decide,by decide,by decide,fun r' d2 a1 a0=>?_⟩
 walk_at "n"
 refine⟨c',c',_,_,rfl,by decide,by decide,by omega,by omega,fun xs _ _ xl Y xm=>⟨rfl,?_⟩⟩
 walk_at "n"
 obtain⟨n,en⟩:∃n:Nat,1+r=(n:Int):=⟨(1+r).toNat,by omega⟩
 have n1:1<=n:=by omega
 have n8:n<=8:=by omega
 have nl:n<=xs.length:=by omega
 have im:=az xs
 have z1:cutD (xs.map D.str) none (some (1+r))=(xs.take n).map D.str:=by rw[en,DZ,List.map_take]
 have z2:cutD (xs.map D.str) (some (1+r)) none=(xs.drop n).map D.str:=by rw[en,yn _ _ (by rw[eH];exact nl),List.map_drop]
 refine⟨im,?_⟩
 rw[z1]
 refine⟨d,ns,xs.take n,u,t,rfl,J,by rw[Op];omega,by rw[Op];omega,Y.sublist (RI _ _),x,fun gs gn gu U gd gw j=>⟨rfl,?_⟩⟩
 walk_at "n"
 have gl:gs.length=n:=by
  have:=QV List.length gn
  rw[eH,Op] at this
  omega
 refine⟨im,?_⟩
 rw[z2]
 refine⟨d,ns,xs.drop n,gs,u,t,rfl,J,by omega,by omega,by rw[Rk];omega,x,fun ls M lc S O T H=>⟨rfl,?_⟩⟩
 walk_at "n"
 have ll:ls.length<=8:=by
  have:=QV List.length M
  rw[eH,Rk] at this
  omega
 have C:o3 ⟨gs,ls⟩:=by
  refine⟨by show 1<=gs.length;omega,by show gs.length<=16;omega,by show ls.length<=24;omega,?_,fun g i=>?_,fun l B=>?_,U,fun g i=>⟨gd g i,by have:=j.de g i;show g.de<_;omega⟩,fun g i=>⟨gw g i,by have:=j.wa g i;show g.wa<_;omega⟩,gu,lc,fun l B p o=>?_,fun l B=>⟨O l B,by have:=H.la l B;show l.la<_;omega⟩,T⟩
  ·show(gs.map (·.nm)++ls.map (·.nm)).Nodup
   rw[gn,M,Ta]
   exact Y
  ·exact xm _ (List.mem_of_mem_take (gn▸List.mem_map.mpr ⟨g,i,rfl⟩))
  ·exact xm _ (List.mem_of_mem_drop (M▸List.mem_map.mpr ⟨l,B,rfl⟩))
  ·have a:=S l B p o
   have b:=H.cs l B p o
   exact⟨a.1,by omega,a.2,by omega⟩
 have I:∀(X:D) (E:List Gd) (v:List (Option D)),o3 ⟨E,ls⟩->PD ⟨E,ls⟩ u t->ip (EP Q) [some d,some (.int u),some (.int t),some X,some (.int (1+r)),some (jE xs),some (.lst (E.map gD)),some (.lst (ls.map lD)),some (.dic (o5 ⟨gs,ls⟩ (r8 ⟨gs,ls⟩)))]:=fun X E _ h1 h2=>
  ⟨_,_,rfl,rfl,Fg E,_,_,rfl,rfl,DK ls,q ⟨E,ls⟩ h1 h2⟩
 refine⟨_,⟨gs,ls⟩,rfl,⟨_,_,rfl,.inr rfl,.inr rfl⟩,C,rfl,?_⟩
 walk_at "n"
 refine⟨c,d2,_,8,rfl,by decide,by decide,by decide,by decide,fun w X w0 w1=>?_⟩
 refine⟨fun e=>?_,fun e=>I _ gs [] C ⟨by show gs.length<=8;omega,ll,fun g i p o=>by have:=j.c1 g i p o;omega,j.c2,j.de,j.wa,H⟩⟩
 have G:=uI C (c:=3*u) (by omega) H.la
 have l24:(ls.length:Int)*(3*u)<=8*(3*u):=Os (by omega) (by omega)
 have G:∀y,0<=r8 ⟨gs,ls⟩ y/\r8 ⟨gs,ls⟩ y<=24*u:=fun y=>⟨(G y).1,by have h:=(G y).2;have h:r8 ⟨gs,ls⟩ y<=(ls.length:Int)*(3*u):=h;omega⟩
 refine⟨by rw[eH];exact i5 (by omega),?_⟩
 refine P2 (f:=fun g:Gd=>gD (pj g (r8 ⟨gs,ls⟩ g.nm))) gs [] (fun g i K R kk=>?_) ?_
 ·refine⟨rfl,Br.yes rfl ?_⟩
  refine⟨_,rfl,.inr g.nm,_,rfl,L9 C (List.mem_map.mpr ⟨g,i,rfl⟩),?_⟩
  exact⟨g,_,rfl,(U g i).2.1,kk⟩
 ·refine⟨rfl,?_⟩
  have e2:([]++gs.map fun g:Gd=>gD (pj g (r8 ⟨gs,ls⟩ g.nm)))=(gs.map fun g=>pj g (r8 ⟨gs,ls⟩ g.nm)).map gD:=by rw[Go,Qw];rfl
  rw[e2]
  refine I _ _ [] (C.guards (fun g=>pj g (r8 ⟨gs,ls⟩ g.nm)) (fun g=>rfl) (fun g=>rfl) (fun g i=>(U g i).lift (G g.nm).1 (j.c1 g i) (by have:=(G g.nm).2;omega)) C.de C.wa) ⟨by show(gs.map _).length<=8;rw[eH];omega,ll,fun g i p o=>?_,fun g i p o=>?_,fun g i=>?_,fun g i=>?_,H⟩
  all_goals
   obtain⟨g,hz,rfl⟩:=List.mem_map.mp i
  ·obtain⟨p,z,rfl⟩:=List.mem_map.mp o
   have a:=j.c1 g hz p z
   have b:=(G g.nm).2
   show p.1+_<=_
   omega
  ·obtain⟨p,z,rfl⟩:=List.mem_map.mp o
   exact j.c2 g hz p z
  ·exact j.de g hz
  ·exact j.wa g hz
theorem oH{b:Bd}{v:Str->Int}{i:Nat}{g:Gd}(a:b.gs[i]?=some g)(h:∀z∈b.gs.take i,¬lo z.cv<=v z.nm)(c:lo g.cv<=v g.nm):uQ (F0 b v)=.str g.nm:=by
 have e:b.gs=b.gs.take i++g::b.gs.drop (i+1):=by
  have d:=(List.getElem?_eq_some_iff.mp a).1
  have l:=List.getElem?_eq_some_iff.mp a
  obtain⟨_,j⟩:=l
  rw[<-j,<-QK d,Ta]
 unfold F0
 rw[e,List.filter_append,List.filter_eq_nil_iff.mpr fun z hz=>by rw[QN];exact h z hz,Rc,wS (Da c)]
 rfl
theorem sW{b:Bd}{v:Str->Int}(h:∀z∈b.gs,¬lo z.cv<=v z.nm):F0 b v=[]:=by
 unfold F0
 rw[List.filter_eq_nil_iff.mpr fun z hz=>by rw[QN];exact h z hz]
 rfl
theorem FZ(ds:List D)(Q:D->Prop)(h:cy ds Q):AX (EP Q) (i7 3 ds):=by
 obtain⟨b,rfl,u,q⟩:=h
 refine⟨bD b,b,rfl,⟨_,_,rfl,.inl rfl,.inl rfl⟩,u,rfl,?_⟩
 refine⟨_,N6 _ _,?_⟩
 refine .of ⟨fun i l=>∃o:Option D,l=[some (bD b),some (.dic (o5 b (r8 b))),o]/\∀z∈b.gs.take i,¬lo z.cv<=r8 b z.nm,⟨none,rfl,fun z hz=>nomatch hz⟩,?_,?_⟩
 ·rintro i e l x ⟨o,rfl,a⟩
  obtain⟨g,r,rfl⟩:=get_map x
  have c:=AC r
  have v:=u.cv g c
  obtain⟨p,ps,ep⟩:∃p ps,g.cv=p::ps:=by
   cases e:g.cv with
   | nil=>rw[e] at v;exact absurd v.1 (by decide)
   | cons p ps=>exact⟨p,ps,rfl⟩
  have j:lo g.cv=p.1:=by rw[ep];rfl
  refine⟨rfl,?_⟩
  refine⟨_,rfl,.inr g.nm,_,rfl,L9 u (List.mem_map.mpr ⟨g,c,rfl⟩),?_⟩
  refine⟨_,rfl,?_⟩
  show ∃d,P0 (g.cv.map pr) 0=some d/\_
  rw[ep]
  refine⟨pr p,N6 _ _,?_⟩
  refine⟨_,rfl,?_⟩
  refine⟨fun e=>?_,fun e=>?_⟩
  ·have e:p.1<=r8 b g.nm:=QD e
   rw[oH r a (by rw[j];exact e)] at q
   exact⟨_,rfl,rfl,q⟩
  ·have e:¬p.1<=r8 b g.nm:=Rz e
   refine⟨_,rfl,fun z hz=>?_⟩
   rw[Qp,r] at hz
   rcases List.mem_append.mp hz with w | w
   ·exact a z w
   ·rw[List.mem_singleton.mp w,j];exact e
 ·rintro l ⟨o,rfl,a⟩
  rw[eH,QH] at a
  rw[sW a] at q
  exact q
theorem lQ{b:Bd}(c:o3 b){g:Gd}(a:g∈b.gs):BW b g.nm=g:=by
 unfold BW
 rw[nc c.eV.nd a];rfl
theorem kX{b:Bd}(c:o3 b){x:Str}(d:x∈y7 b):x9 (b.gs.map fun g:Gd=>((.inr g.nm:Key),gD g)) (.inr x)=some (gD (BW b x)):=by
 obtain⟨g,a,rfl⟩:=List.mem_map.mp d
 show x9 _ (.inr g.nm)=_
 rw[lQ c a]
 exact Q4 (k:=fun g:Gd=>g.nm) (v:=gD) c.eV.nd a
theorem jZ{b:Bd}(a:o3 b):b.gs.foldl (fun acc g=>putD acc (.inr g.nm) (gD g)) []=b.gs.map fun g:Gd=>((.inr g.nm:Key),gD g):=
 R5 (k:=fun g:Gd=>g.nm) (v:=gD) (as:=b.gs) (bs:=[]) (by rw[Go];exact a.eV.nd)
theorem Kp{Q:D->Prop}{b:Bd}{x:Str}{h:Option D}(c:o3 b)(e:x∈y7 b++O7 b)(q:Q (.lst ((j8 b x).map fun y=>.tup [gD (BW b y),.int (r8 b y)]))) :
  vq (EP Q) [some (bD b),some (.str x),some (.dic (b.gs.map fun g:Gd=>(.inr g.nm,gD g))),some (.dic (o5 b (r8 b))),h]:=by
 have a:=bf c e
 have j:=cH (b:=b) x
 refine⟨bD b,b,rfl,⟨_,_,rfl,.inl rfl,.inl rfl⟩,c,?_⟩
 refine⟨.inr x,_,rfl,gf e c.nd,by rw[eH];exact i5 (by omega),?_⟩
 refine P2 (f:=fun y:Str=>.tup [gD (BW b y),.int (r8 b y)]) (j8 b x) [] (fun y d K R i=>?_) ?_
 ·refine⟨rfl,Br.yes rfl ?_⟩
  exact⟨.inr y,_,rfl,kX c (a y d),Y5 _,.inr y,_,rfl,L9 c (a y d),rfl,i⟩
 ·exact q
theorem nH{b:Bd}{i:Nat}{l:Ld}(a:b.ls[i]?=some l){x:Str}(h:∀z∈b.ls.take i,¬(z.nm=x/\z.on=false))(c:¬(l.nm=x/\l.on=false)):∀z∈b.ls.take (i+1),¬(z.nm=x/\z.on=false):=fun z hz=>by
 rw[Qp,a] at hz
 rcases List.mem_append.mp hz with w | w
 ·exact h z w
 ·rw[List.mem_singleton.mp w];exact c
theorem Gf{b:Bd}{l:Ld}(c:l∈b.ls){x:Str}(h:l.nm=x)(a:l.on=false):cR b x=true:=by
 unfold cR
 rw[Tz]
 exact⟨l,c,by rw[Da h,a];rfl⟩
theorem HS{b:Bd}{x:Str}(h:∀z∈b.ls,¬(z.nm=x/\z.on=false)):cR b x=false:=by
 unfold cR
 rw[RZ]
 intro z hz e
 rw[Fa,QN] at e
 exact h z hz ⟨e.1,by cases hz:z.on;rfl;rw[hz] at e;exact nomatch e.2⟩
theorem BU{b:Bd}{x:Str}(h:cR b x=false):jj (M8 b x)=.lst ((j8 b x).map fun y=>.tup [gD (BW b y),.int (r8 b y)]):=by
 unfold jj M8
 rw[h]
 exact QV D.lst (Qw ..)
theorem wA{b:Bd}{x:Str}(h:cR b x=true):jj (M8 b x)=.lst []:=by
 unfold jj M8
 rw[h];rfl
theorem Ja(ds:List D)(Q:D->Prop)(h:hZ ds Q):HK (EP Q) (i7 5 ds):=by
 obtain⟨b,x,rfl,c,y,q⟩:=h
 have C:=c.g16
 refine⟨_,N6 _ _,by rw[eH];exact i5 (by omega),?_⟩
 refine P2 (f:=fun g:Gd=>.tup [.str g.nm,gD g]) b.gs [] (fun g E K R u=>?_) ?_
 ·exact⟨rfl,Br.yes rfl ⟨_,rfl,rfl,Y5 g,u⟩⟩
 rw[Go]
 have v:∀g:Gd,y1 (.tup [.str g.nm,gD g])=true:=fun g=>by
  show(true&&(y1 (gD g)&&true))=true
  rw[Y5];rfl
 refine .inl ⟨_,_,_,rfl,rfl,aB v b.gs,dC (fun g:Gd=>g.nm) gD b.gs,by rw[eH];exact i5 (by omega),?_⟩
 rw[kP,jZ c]
 refine⟨rfl,?_⟩
 walk_at "n"
 refine⟨bD b,b,rfl,⟨_,_,rfl,.inl rfl,.inl rfl⟩,c,rfl,?_⟩
 walk_at "n"
 refine⟨_,bt _ _ _,?_⟩
 refine .of ⟨fun i d=>∃j:Option D,d=[some (bD b),some (.str x),some (.dic (b.gs.map fun g:Gd=>(.inr g.nm,gD g))),some (.dic (o5 b (r8 b))),j]/\∀z∈b.ls.take i,¬(z.nm=x/\z.on=false),⟨none,rfl,fun z hz=>nomatch hz⟩,?_,?_⟩
 ·rintro i e d B ⟨j,rfl,a⟩
  obtain⟨l,p,rfl⟩:=get_map B
  have o:=AC p
  refine⟨rfl,?_⟩
  refine⟨_,rfl,?_⟩
  walk_at "w"
  refine⟨fun e=>?_,fun e=>Br.no rfl ⟨_,rfl,nH p a fun z=>?_⟩⟩
  ·have e:l.nm=x:=QD e
   refine⟨_,rfl,?_⟩
   show Br (!(l.on)) _ _
   cases r:l.on with
   | true=>exact Br.no rfl ⟨_,rfl,nH p a fun z=>by rw[r] at z;exact nomatch z.2⟩
   | false=>
    rw[wA (Gf o e r)] at q
    exact Br.yes rfl q
  ·exact Rz e z.1
 ·rintro d ⟨j,rfl,a⟩
  rw[eH,QH] at a
  rw[BU (HS a)] at q
  exact Kp c y q
theorem oV(ds:List D)(Q:D->Prop)(h:J9 ds Q):gY (EP Q) (i7 2 ds):=by
 obtain⟨b,rfl,a,c,q⟩:=h
 refine⟨b,rfl,a,?_⟩
 rw[c]
 exact⟨rfl,Br.no rfl ⟨b,rfl,a,q⟩⟩
theorem Bx{b:Bd}(c:o3 b){x:Str}(d:x∈y7 b++O7 b):kn (.str x)=true:=by
 have h:nm 8 x:=by
  rcases List.mem_append.mp d with z | z
  ·obtain⟨g,a,rfl⟩:=List.mem_map.mp z
   exact c.nmg g a
  ·obtain⟨g,a,rfl⟩:=List.mem_map.mp z
   exact c.nml g a
 have h:=h.2.1
 rw[Db] at h
 exact Da (show x.cps.size<=100000 by omega)
theorem GR(ds:List D)(Q:D->Prop)(h:bZ ds Q):Df (EP Q) (i7 6 ds):=by
 obtain⟨b,x,rfl,a,i,p,q⟩:=h
 have B:=a.g16
 have r:=a.l24
 refine⟨b,.str x,rfl,a,Bx a i,.inl ⟨x,rfl,i,rfl,?_⟩⟩
 refine⟨b,rfl,a,p,rfl,?_⟩
 walk_at "n"
 refine⟨_,bt _ _ _,by rw[eH];exact i5 (by omega),?_⟩
 refine G6 (f:=fun l:Ld=>.str l.nm) (fun l=>!l.on) b.ls [] (fun l c K R k1 k2=>?_) ?_
 ·refine⟨rfl,?_⟩
  refine⟨_,rfl,?_⟩
  show Br (!(l.on)) _ _
  exact⟨fun e=>⟨_,rfl,rfl,k1 e⟩,fun e=>k2 e⟩
 have G:([]++(b.ls.filter fun l=>!l.on).map fun l:Ld=>D.str l.nm)=((b.ls.filter fun l=>!l.on).map (·.nm)).map D.str:=by rw[Go,Qw];rfl
 rw[G]
 refine⟨rfl,_,rfl,bb _,?_⟩
 rw[gv]
 have E:decide (x∈(b.ls.filter fun l=>!l.on).map (·.nm))=cR b x:=by
  by_cases h:cR b x=true
  ·rw[h]
   unfold cR at h
   obtain⟨l,c,e⟩:=List.any_eq_true.mp h
   rw[Fa,QN] at e
   exact Da (List.mem_map.mpr ⟨l,List.mem_filter.mpr ⟨c,e.2⟩,e.1⟩)
  ·rw[Bool.not_eq_true] at h
   rw[h]
   refine Fk fun z=>?_
   obtain⟨l,c,e⟩:=List.mem_map.mp z
   obtain⟨C,u⟩:=List.mem_filter.mp c
   unfold cR at h
   have:=List.any_eq_false.mp h l C
   exact this (by rw[Fa,QN];exact⟨e,u⟩)
 show Br (decide (x∈(b.ls.filter fun l=>!l.on).map (·.nm))) _ _
 rw[E]
 refine⟨fun e=>?_,fun e=>?_⟩
 ·rw[wA e] at q
  exact q
 ·rw[BU e] at q
  have d:=bf a i
  have c:=cH (b:=b) x
  refine⟨_,N6 _ _,by rw[eH];exact i5 (by omega),?_⟩
  refine ba (v:=gD) (k:=fun g:Gd=>.inr g.nm) (fun _=>true) b.gs [] (fun g H K R k1 k2=>?_) ?_
  ·exact⟨rfl,Br.yes rfl ⟨_,rfl,.inr g.nm,rfl,Y5 g,k1 rfl⟩⟩
  rw[List.filter_eq_self.mpr fun _ _=>rfl,jZ a]
  refine⟨rfl,?_⟩
  refine⟨by rw[eH];exact i5 (by omega),?_⟩
  refine P2 (f:=fun y:Str=>.tup [gD (BW b y),.int (r8 b y)]) (j8 b x) [] (fun y j K R o=>?_) ?_
  ·refine⟨rfl,Br.yes rfl ?_⟩
   exact⟨.inr y,_,rfl,kX a (d y j),Y5 _,.inr y,_,rfl,L9 a (d y j),rfl,o⟩
  ·exact q
theorem FC{a:Type}{f:a->D}{xs:List a}(h:0<xs.length):P0 (xs.map f) (-1)=some (f (xs.getLast (by intro e;rw[e] at h;exact absurd h (RD 0)))):=by
 unfold P0 kN
 have d:¬(0:Int)<=-1:=by decide
 have c:-((xs.map f).length:Int)<=-1:=by rw[eH];omega
 have b:((-1:Int)+((xs.map f).length:Int)).toNat=xs.length-1:=by rw[eH];omega
 rw[wP d,wS c,b]
 show(xs.map f)[xs.length-1]?=_
 rw[wE,List.getLast_eq_getElem,iU (by omega)]
 rfl
theorem qR.at{ps:List (Gd×Int)}(h:qR ps){i:Int}(h0:0<=i)(b:i<ps.length):∃r,ps[i.toNat]?=some r/\T9 r.1.cv/\P0 (ps.map fun r:Gd×Int=>D.tup [gD r.1,.int r.2]) i=some (.tup [gD r.1,.int r.2]):=by
 obtain⟨r,a,d,c⟩:=J8 (f:=fun r:Gd×Int=>D.tup [gD r.1,.int r.2]) (xs:=ps) (i:=i) h0 b
 exact⟨r,d,h.cv r a,c⟩
theorem Fq(ds:List D)(Q:D->Prop)(h:Z2 ds Q):Dj (EP Q) (i7 6 ds):=by
 obtain⟨ps,i,n,rfl,a,d,c,q⟩:=h
 obtain⟨r,j,b,g⟩:=a.at d c
 have q:=q r j
 refine⟨_,g,?_⟩
 refine⟨rfl,rfl,?_⟩
 walk_at "n"
 refine⟨_,rfl,by rw[eH];exact i5 (by have:=b.2.1;omega),?_⟩
 refine G6 (f:=fun p:Pr=>.int p.2) (fun p=>decide (p.1<=r.2+n)) r.1.cv [] (fun p a K R k1 k2=>?_) ?_
 ·exact⟨rfl,_,rfl,fun e=>⟨_,rfl,rfl,k1 e⟩,fun e=>k2 e⟩
 unfold ai at q
 have l5:=b.2.1
 have l:=Sh (fun p:Pr=>decide (p.1<=r.2+n)) r.1.cv
 generalize r.1.cv.filter (fun p:Pr=>decide (p.1<=r.2+n))=fs at *
 refine⟨rfl,?_⟩
 walk_at "n"
 cases fs with
 | nil=>exact Br.yes rfl q
 | cons p fs=>
  refine Br.no ?_ ?_
  ·show decide (((List.length (([]:List D)++(p::fs).map fun p:Pr=>D.int p.2):Nat):Int)=0)=false
   refine Fk fun z=>?_
   rw[Go,eH,FS] at z
   omega
  ·have z:=FC (f:=fun p:Pr=>D.int p.2) (xs:=p::fs) (by show 0<fs.length+1;omega)
   refine⟨_,z,rfl,?_⟩
   rw[List.getLast?_eq_some_getLast (by intro z;cases z)] at q
   exact q
structure JX(rs:List (Gd×Int))(cv:List Pr)(n m:Int)(ks:UH):Prop where
 nd:ks.Nodup
 mem:∀x,x∈ks ↔ x=1\/(∃r∈rs,∃s∈r.1.cv,x=s.1-r.2/\x<=m)\/∃s∈cv,x=s.1-n/\x<=m
 len:ks.length<=1+5*rs.length+cv.length
theorem JX.skip{a:List (Gd×Int)}{cv:List Pr}{n m:Int}{b:UH}{s:Pr}(h:JX a cv n m b)(c:¬s.1-n<=m):JX a (cv++[s]) n m b:=by
 refine⟨h.nd,fun x=>?_,by have:=h.len;rw[C2,QB];omega⟩
 rw[h.mem]
 refine or_congr Iff.rfl (or_congr Iff.rfl ⟨fun⟨z,hz,e⟩=>⟨z,FM _ hz,e⟩,fun⟨z,hz,e⟩=>?_⟩)
 rcases List.mem_append.mp hz with w | w
 ·exact⟨z,w,e⟩
 ·rw[List.mem_singleton.mp w] at e
  exact absurd (e.1▸e.2) c
theorem we:∀cv:List Pr,y9 (cv.map pr)=true
 | []=>rfl
 | p::cv=>by show(y1 (pr p)&&y9 (cv.map pr))=true;rw[we cv];rfl
theorem LP(ds:List D)(Q:D->Prop)(h:sZ ds Q):Mx (EP Q) (i7 2 ds):=by
 obtain⟨cv,n,rfl,a,q⟩:=h
 have l5:=a.2.1
 refine⟨by rw[eH];exact i5 (by omega),?_⟩
 refine G6 (f:=pr) (fun p=>decide (p.1<=n)) cv [] (fun p b K R k1 k2=>?_) ?_
 ·refine⟨rfl,?_⟩
  walk_at "r"
  exact⟨fun e=>⟨rfl,k1 e⟩,fun e=>k2 e⟩
 walk_at "r"
 unfold fK at q
 rw[Go,eH]
 exact q
theorem qH{n:Int}:∀{cv:List Pr},(cv.Pairwise fun p q=>p.1<q.1/\q.2<p.2)->cv.filter (fun p=>decide (p.1<=n))=cv.take (cv.filter fun p=>decide (p.1<=n)).length
 | [],_=>rfl
 | p::cv,h=>by
  cases h with
  | cons b a=>
   by_cases c:p.1<=n
   ·rw[Rc,wS (Da c),FS,List.take_succ_cons,<-qH a]
   ·have e:(p::cv).filter (fun p=>decide (p.1<=n))=[]:=List.filter_eq_nil_iff.mpr fun z hz=>by
     rw[QN]
     rcases List.mem_cons.mp hz with w | w
     ·rw[w];exact c
     ·have:=(b z w).1
      omega
    rw[e];rfl
theorem AE{cv:List Pr}(h:T9 cv)(n:Int):ai cv n=if fK cv n=0 then none else(cv[(fK cv n-1).toNat]?).map (·.2):=by
 unfold ai fK
 have e:=qH (n:=n) h.2.2.2
 have l:=Sh (fun p:Pr=>decide (p.1<=n)) cv
 generalize (cv.filter fun p=>decide (p.1<=n)).length=k at *
 rw[e,List.getLast?_eq_getElem?,Op,Nat.min_eq_left l,List.getElem?_take]
 by_cases c:k=0
 ·subst c;rfl
 ·rw[wS (by omega),wP (by omega),show((k:Int)-1).toNat=k-1 by omega]
theorem xb(ds:List D)(Q:D->Prop)(h:S3 ds Q):nP (EP Q) (i7 3 ds):=by
 obtain⟨cv,n,rfl,a,q⟩:=h
 refine⟨cv,n,rfl,a,rfl,?_⟩
 rw[AE a] at q
 have l:fK cv n<=cv.length:=by unfold fK;exact Int.ofNat_le.mpr (Sh _ _)
 have d:0<=fK cv n:=by unfold fK;exact Int.natCast_nonneg _
 walk_at "n"
 refine⟨fun e=>?_,fun e=>?_⟩
 ·have e:fK cv n=0:=QD e
  rw[wS e] at q
  exact q
 ·have e:¬fK cv n=0:=Rz e
  obtain⟨p,_,c,b⟩:=J8 (f:=pr) (xs:=cv) (i:=fK cv n-1) (by omega) (by omega)
  rw[wP e,c] at q
  exact⟨_,b,_,rfl,rfl,q⟩
def M6(ps:List (Gd×Int)):UH:=ps.flatMap fun r=>r.1.cv.map fun s=>s.1-r.2
theorem fq:∀{ps:List (Gd×Int)},(∀r∈ps,T9 r.1.cv)->(M6 ps).length<=5*ps.length
 | [],_=>KM _
 | r::ps,h=>by
  have:=fq (ps:=ps) fun r a=>h r (hQ _ a)
  have:=(h r lP).2.1
  unfold M6 at *
  rw[SA,C2,eH,FS]
  omega
theorem BN(ds:List D)(Q:D->Prop)(h:Z3 ds Q):wJ (EP Q) (i7 3 ds):=by
 obtain⟨ps,m,rfl,i,G,q⟩:=h
 suffices B:∀(a:List (Gd×Int)) (acc:UH),(∀r∈a,T9 r.1.cv)->acc.length+5*a.length<=1000->∀K:List D->Prop,K ((acc++M6 a).map D.int) ->
   gG (gT (E7 (g1 0) (E7 (g1 1) cK))) T6 (tupI (g7 (d8 0) (uC (D.int 2)))) (g1 2) T6 (p9 L3.aa (g7 (d8 2) (uC (D.int 0))) (d8 1)) [none,none,none] (a.map fun r=>D.tup [gD r.1,.int r.2]) (acc.map D.int) K by
  refine B ps [] i.cv (by rw[List.length_nil];omega) _ ?_
  refine⟨rfl,?_⟩
  rw[Go]
  walk_at "n"
  have o:=fq i.cv
  refine⟨by rw[eH];exact i5 (by omega),?_⟩
  refine G6 (F:=D.int) (f:=D.int) (fun z=>decide (z<=m)) (M6 ps) [] (fun p i K R k1 k2=>?_) ?_
  ·refine⟨rfl,?_⟩
   walk_at "r"
   exact⟨fun e=>⟨rfl,k1 e⟩,fun e=>k2 e⟩
  walk_at "r"
  have E:=Sh (fun z:Int=>decide (z<=m)) (M6 ps)
  refine⟨aB (f:=D.int) (fun _=>rfl) _,?_,?_⟩
  ·show 1+(List.map D.int _).length<=_
   rw[eH];exact Re (i5 (by omega))
  refine⟨_,1::(M6 ps).filter (fun z=>decide (z<=m)),rfl,rfl,by rw[FS];omega,fun c up mem=>q c ⟨up,fun x=>?_⟩⟩
  rw[mem,Rn,List.mem_filter,QN]
  unfold M6
  rw[List.mem_flatMap]
  refine or_congr Iff.rfl ⟨fun⟨⟨r,b,C⟩,l⟩=>?_,fun⟨r,b,z,hz,e,l⟩=>⟨⟨r,b,List.mem_map.mpr ⟨z,hz,e.symm⟩⟩,l⟩⟩
  obtain⟨z,hz,e⟩:=List.mem_map.mp C
  exact⟨r,b,z,hz,e.symm,l⟩
 intro a
 induction a with
 | nil=>intro acc _ _ K k;unfold M6 at k;rw[Tx,Do] at k;exact k
 | cons r a v=>
  intro acc u o K k
  rw[FS] at o
  have H:=(u r lP).2.1
  suffices y:∀(ss:List Pr) (acc:UH) (z:Option D),(match z with | some d=>y1 d | none=>true)=true->acc.length+ss.length<=1000->∀K:List D->Prop,K ((acc++ss.map fun s=>s.1-r.2).map D.int) ->
    BC (g1 2) T6 (p9 L3.aa (g7 (d8 2) (uC (D.int 0))) (d8 1)) (ss.map pr) [some (gD r.1),some (.int r.2),z] (acc.map D.int) K by
   refine⟨rfl,rfl,Br.yes rfl ⟨?_,?_⟩⟩
   ·show(y1 (gD r.1)&&(true&&(true&&true)))=true
    rw[Y5];rfl
   ·refine⟨_,rfl,we _,?_⟩
    refine y r.1.cv acc none rfl (by omega) _ ?_
    refine v _ (fun r b=>u r (hQ _ b)) ?_ K ?_
    ·rw[C2,eH];omega
    ·unfold M6 at k ⊢
     rw[SA,<-PP] at k
     exact k
  intro ss
  induction ss with
  | nil=>intro acc z _ _ K k;rw[SO,Do] at k;exact k
  | cons s ss g=>
   intro acc z hz j K k
   rw[FS] at j
   refine⟨rfl,?_,?_⟩
   ·show(y1 (gD r.1)&&(true&&(y1 (pr s)&&true)))=true
    rw[Y5];rfl
   ·refine Br.yes rfl ⟨by rw[eH];exact i5 (by omega),?_⟩
    have z:=g (acc++[s.1-r.2]) (some (pr s)) rfl (by rw[C2,QB];omega) K (by rw[PP];exact k)
    rw[GM] at z
    exact⟨_,rfl,rfl,z⟩
def xW(ps:List (Gd×Int))(n:Int)(j:Nat):Bool:=match ps[j]? with
 | some r=>(ai r.1.cv (r.2+n)).isSome
 | none=>false
def Dy(ps:List (Gd×Int))(n:Int)(a:Bool):Nat->Bool
 | 0=>a
 | j+1=>xW ps n j
theorem nW(r:Gd×Int)(n:Int)(a:Bool):(G3 r n a).isSome=(ai r.1.cv (r.2+n)).isSome:=by
 unfold G3
 rw[Sy]
theorem eG(n:Int):∀(ps:List (Gd×Int)) (a:Bool),(w5 n a ps).length=ps.length
 | [],_=>rfl
 | r::ps,a=>by unfold w5;rw[FS,FS,eG n ps]
theorem Q5{n:Int}:∀{ps:List (Gd×Int)} {a:Bool} {i:Nat} {r:Gd×Int},ps[i]?=some r->(w5 n a ps)[i]?=some (G3 r n (Dy ps n a i))
 | [],_,i,_,h=>by cases h
 | b::ps,a,0,r,h=>by cases h;rfl
 | b::ps,a,1,r,h=>by
  show(w5 n _ ps)[0]?=_
  rw[Q5 (i:=0) (r:=r) h];rfl
 | b::ps,a,i+2,r,h=>by
  show(w5 n _ ps)[i+1]?=_
  rw[Q5 (i:=i+1) (r:=r) h];rfl
theorem xC(ds:List D)(Q:D->Prop)(h:S1 ds Q):qN (EP Q) (i7 7 ds):=by
 obtain⟨ps,n,rfl,J,q⟩:=h
 have l16:=J.len
 refine⟨rfl,?_⟩
 refine .of ⟨fun i y=>∃o l g B:Option D,y=[some (jj ps),some (.int n),some (.lst (((w5 n false ps).take i).map S6)),o,l,g,B],⟨none,none,none,none,rfl⟩,?_,?_⟩
 ·rintro i e y he ⟨o,l,g,B,rfl⟩
  obtain⟨x,hx,rfl⟩:=L3.cX he
  obtain⟨r,H,rfl⟩:=get_map hx
  have hi:=(List.getElem?_eq_some_iff.mp H).1
  have hc:=J.cv r (AC H)
  refine⟨rfl,rfl,rfl,?_⟩
  walk_at "n"
  refine⟨_,rfl,?_⟩
  refine⟨r.1.cv,r.2+n,rfl,hc,rfl,?_⟩
  walk_at "n"
  have X:=Q5 (n:=n) (a:=false) H
  have tk:(w5 n false ps).take (i+1)=(w5 n false ps).take i++[G3 r n (Dy ps n false i)]:=by rw[Qp,X];rfl
  rw[tk]
  generalize U:(w5 n false ps).take i=S
  have a0:S.length=i:=by rw[<-U,Op,eG];omega
  have u:∀(o l g:Option D) (sp:Option Int) (T:W7),G3 r n (Dy ps n false i)=sp->(T.nx=fun y=>∃o l g B:Option D,y=[some (jj ps),some (.int n),some (.lst ((S++[sp]).map S6)),o,l,g,B]) ->
    U8 T [some (jj ps),some (.int n),some (.lst (S.map S6)),o,l,g,some (S6 sp)]:=by
   intro o l g sp T _ R
   have main:∃a b c d:Option D,[some (jj ps),some (D.int n),some (D.lst (S.map S6++[S6 sp])),o,l,g,some (S6 sp)]=[some (jj ps),some (.int n),some (.lst ((S++[sp]).map S6)),a,b,c,d]:=⟨o,l,g,_,by rw[GM];rfl⟩
   have G:U8 T [some (jj ps),some (D.int n),some (D.lst (S.map S6)),o,l,g,some (S6 sp)]:=by
    have M:(S.map S6).length<sizeLine:=by rw[eH];exact i5 (by omega)
    cases sp with
    | none=>
     refine⟨rfl,rfl,?_⟩
     refine⟨M,?_⟩
     show T.nx _
     rw[R];exact main
    | some t=>
     refine⟨rfl,rfl,?_⟩
     refine⟨M,?_⟩
     show T.nx _
     rw[R];exact main
   exact G
  cases e:ai r.1.cv (r.2+n) with
  | none=>
   have v:G3 r n (Dy ps n false i)=none:=by unfold G3;rw[e];rfl
   rw[v]
   exact⟨fun z=>(by cases z),fun _=>Br.no rfl (u _ _ _ none _ v rfl)⟩
  | some t=>
   refine⟨fun _=>?_,fun z=>(by cases z)⟩
   cases i with
   | zero=>
    have v:G3 r n (Dy ps n false 0)=some t:=by unfold G3;rw[e];rfl
    rw[v]
    exact⟨fun z=>(by cases z),fun _=>Br.no rfl (u _ _ _ (some t) _ v rfl)⟩
   | succ j=>
    obtain⟨C,E⟩:∃C,ps[j]?=some C:=⟨ps[j],iU (by omega)⟩
    have I:S[j]?=some (G3 C n (Dy ps n false j)):=by rw[<-U,List.getElem?_take,wS (Rv j),Q5 E]
    have O:(G3 C n (Dy ps n false j)).isSome=xW ps n j:=by rw[nW];unfold xW;rw[E]
    generalize G3 C n (Dy ps n false j)=pv at I O
    have Y:P0 (S.map S6) ((((0+(j+1):Nat):Int))-1)=some (S6 pv):=by
     rw[show(((0+(j+1):Nat):Int))-1=((j:Nat):Int) by omega]
     exact mQ (by rw[wE,I];rfl)
    have v:G3 r n (Dy ps n false (j+1))=some (bif pv.isSome then t+r.1.wa else t):=by unfold G3;rw[e,O];rfl
    rw[v]
    refine⟨fun _=>⟨_,Y,?_⟩,fun z=>absurd (show decide ((((0+(j+1):Nat):Int))>0)=false from z) (by rw[Da (by omega)];decide)⟩
    cases pv with
    | none=>exact Br.no rfl (u _ _ _ (some t) _ v rfl)
    | some p=>
     refine Br.yes rfl ?_
     exact⟨_,rfl,rfl,u _ _ _ (some (t+r.1.wa)) _ v rfl⟩
 ·rintro y ⟨o,l,g,B,rfl⟩
  rw[cM,eH,<-eG n ps false,QH]
  exact q
theorem oE:∀{l k:UH},l.Pairwise (·<·)->k.Pairwise (·<·)->(∀x,x∈l ↔ x∈k)->l=k
 | [],[],_,_,_=>rfl
 | [],y::k,_,_,h=>absurd ((h y).mpr lP) (by simp)
 | x::l,[],_,_,h=>absurd ((h x).mp lP) (by simp)
 | x::l,y::k,b,a,h=>by
  cases b with
  | cons a1 d=>cases a with
   | cons a2 c=>
    have e:x=y:=by
     rcases List.mem_cons.mp ((h x).mp lP) with z | z
     ·exact z
     ·rcases List.mem_cons.mp ((h y).mpr lP) with w | w
      ·exact w.symm
      ·have:=a1 y w
       have:=a2 x z
       omega
    subst e
    rw[oE d c fun z=>⟨fun hz=>?_,fun hz=>?_⟩]
    ·rcases List.mem_cons.mp ((h z).mp (hQ _ hz)) with w | w
     ·have:=a1 z hz
      omega
     ·exact w
    ·rcases List.mem_cons.mp ((h z).mpr (hQ _ hz)) with w | w
     ·have:=a2 z hz
      omega
     ·exact w
theorem nF{ps:List (Gd×Int)}{m:Int}{ls:UH}(h:xw ps m ls):ls=bF ps m:=by
 have a:∃l,xw ps m l:=⟨ls,h⟩
 unfold bF
 rw[dif_pos a]
 exact oE h.up a.choose_spec.up fun x=>by rw[h.mem,a.choose_spec.mem]
theorem W9{ps:List (Gd×Int)}{n:Int}{j:Nat}{r:Gd×Int}(h:ps[j]?=some r):M5 ps n j=ai r.1.cv (r.2+n):=by unfold M5;rw[h];rfl
theorem FP{ps:List (Gd×Int)}{n:Int}(h:0<ps.length):(w5 n false ps)[0]?=some (M5 ps n 0):=by
 obtain⟨r,a⟩:∃r,ps[0]?=some r:=⟨ps[0],iU h⟩
 rw[Q5 a,W9 a]
 unfold G3 Dy
 cases ai r.1.cv (r.2+n)<;>rfl
theorem Gb{ps:List (Gd×Int)}{n:Int}{i:Nat}(g:1<=i)(h:i<ps.length):∃b:Option Int,(w5 n false ps)[i]?=some b/\B4 ps i n=match M5 ps n 0,b with
  | some x,some y=>some (x-y+1)
  | _,_=>none:=by
 obtain⟨r,c⟩:∃r,ps[i]?=some r:=⟨ps[i],iU h⟩
 obtain⟨k,rfl⟩:∃k,i=k+1:=⟨i-1,by omega⟩
 obtain⟨e,a⟩:∃r,ps[k]?=some r:=⟨ps[k],iU (by omega)⟩
 refine⟨_,Q5 c,?_⟩
 have d:xW ps n k=(M5 ps n (k+1-1)).isSome:=by
  rw[Nat.add_sub_cancel,W9 a];unfold xW;rw[a]
 unfold B4 G3
 rw[W9 c,c]
 show _=match M5 ps n 0,Option.map (fun t=>bif xW ps n k then t+r.1.wa else t) (ai r.1.cv (r.2+n)) with
  | some x,some y=>some (x-y+1)
  | _,_=>none
 rw[d]
 cases M5 ps n 0<;>cases ai r.1.cv (r.2+n)<;>rfl
theorem gS(ds:List D)(Q:D->Prop)(h:C4 ds Q):bC (EP Q) (i7 7 ds):=by
 obtain⟨ps,i,m,rfl,C,J,E,H,q⟩:=h
 refine⟨rfl,?_⟩
 refine⟨ps,m,rfl,C,J,fun ls u=>?_⟩
 have q:Q (Dh (ls.foldl (u7 ps i) none)):=by rw[nF u];exact q
 walk_at "n"
 refine .of ⟨fun j d=>∃r p l:Option D,d=[some (jj ps),some (.int i),some (.int m),some (Dh ((ls.take j).foldl (u7 ps i) none)),r,p,l],⟨none,none,none,rfl⟩,?_,?_⟩
 ·rintro j e d I ⟨r,p,l,rfl⟩
  obtain⟨low,G,rfl⟩:=get_map I
  have M:(ls.take (j+1)).foldl (u7 ps i) none=u7 ps i ((ls.take j).foldl (u7 ps i) none) low:=by
   rw[Qp,G]
   rw[show ls.take j++(some low).toList=ls.take j++[low] from rfl,Tq];rfl
  refine⟨rfl,?_⟩
  walk_at "n"
  rw[M]
  generalize (ls.take j).foldl (u7 ps i) none=o
  refine⟨ps,low,rfl,C,rfl,?_⟩
  walk_at "n"
  obtain⟨b,O,el⟩:=Gb (n:=low) E H
  have R:=FP (n:=low) (show 0<ps.length by omega)
  have c:P0 ((w5 low false ps).map S6) 0=some (S6 (M5 ps low 0)):=mQ (j:=0) (by rw[wE,R];rfl)
  have g:P0 ((w5 low false ps).map S6) (i:Int)=some (S6 b):=mQ (by rw[wE,O];rfl)
  generalize M5 ps low 0=a at c el
  generalize (w5 low false ps).map S6=S at c g
  refine⟨_,c,?_⟩
  cases a with
  | none=>
   have e:u7 ps i o low=o:=by unfold u7;rw[el]
   rw[e]
   exact⟨fun z=>(by cases z),fun _=>Br.no rfl ⟨_,_,_,rfl⟩⟩
  | some x=>
   refine⟨fun _=>⟨_,g,?_⟩,fun z=>(by cases z)⟩
   cases b with
   | none=>
    have e:u7 ps i o low=o:=by unfold u7;rw[el]
    rw[e]
    exact Br.no rfl ⟨_,_,_,rfl⟩
   | some y=>
    refine Br.yes rfl ?_
    refine⟨_,c,_,g,rfl,?_⟩
    walk_at "n"
    cases o with
    | none=>
     have e:u7 ps i none low=some (x-y+1,low):=by unfold u7;rw[el]
     rw[e]
     exact⟨fun _=>Br.yes rfl ⟨rfl,rfl,rfl,_,_,_,rfl⟩,fun z=>(by cases z)⟩
    | some B=>
     obtain⟨k0,v⟩:=B
     have e:u7 ps i (some (k0,v)) low=if k0<x-y+1 then some (x-y+1,low) else some (k0,v):=by unfold u7;rw[el]
     rw[e]
     refine⟨fun z=>(by cases z),fun _=>⟨_,rfl,fun z=>?_,fun z=>?_⟩⟩
     ·have z:x-y+1>k0:=QD z
      rw[wS z]
      exact⟨rfl,rfl,rfl,_,_,_,rfl⟩
     ·have z:¬x-y+1>k0:=Rz z
      rw[wP z]
      exact⟨_,_,_,rfl⟩
 ·rintro d ⟨r,p,l,rfl⟩
  rw[eH,QH]
  generalize ls.foldl (u7 ps i) none=o at *
  cases o with
  | none=>exact⟨rfl,q⟩
  | some B=>exact⟨rfl,q⟩
theorem Ki(ds:List D)(Q:D->Prop)(h:ie ds Q):HC (EP Q) (i7 5 ds):=by
 obtain⟨ps,i,n,rfl,g,B,C,q⟩:=h
 obtain⟨k,rfl⟩:∃k,i=k+1:=⟨i-1,by omega⟩
 refine⟨ps,0,n,rfl,g,by decide,by omega,fun u h0=>?_⟩
 rw[<-W9 (n:=n) (j:=0) h0]
 refine⟨rfl,?_⟩
 walk_at "n"
 refine⟨ps,((k+1:Nat):Int),n,rfl,g,by omega,by omega,fun r e=>?_⟩
 rw[Qy] at e
 rw[<-W9 (n:=n) e]
 unfold B4 at q
 rw[e] at q
 rw[Nat.add_sub_cancel] at q
 refine⟨rfl,?_⟩
 walk_at "n"
 generalize M5 ps n 0=a at q ⊢
 generalize M5 ps n (k+1)=b at q ⊢
 cases a with
 | none=>exact⟨fun _=>Br.yes rfl q,fun z=>(by cases z)⟩
 | some x=>
  cases b with
  | none=>exact⟨fun z=>(by cases z),fun _=>Br.yes rfl q⟩
  | some y=>
   refine⟨fun z=>(by cases z),fun _=>Br.no rfl ?_⟩
   have q:Q (.int (x-(bif (M5 ps n k).isSome then y+r.1.wa else y)+1)):=q
   refine⟨ps,((k:Nat):Int),n,(by show[jj ps,D.int (((k+1:Nat):Int)-1),D.int n]=_;rw[show((k+1:Nat):Int)-1=((k:Nat):Int) by omega]),g,by omega,by omega,fun p d=>?_⟩
   rw[Qy] at d
   rw[<-W9 (n:=n) d]
   generalize M5 ps n k=c at q ⊢
   cases c with
   | none=>exact Br.no rfl q
   | some z=>
    obtain⟨v,l,_,o⟩:=g.at (i:=((k+1:Nat):Int)) (by omega) (by omega)
    rw[Qy,e] at l
    cases l
    exact Br.yes rfl ⟨_,o,_,rfl,_,rfl,rfl,q⟩
end My
namespace My
open PySem L2 L3
local macro_rules | `(tactic| walk_at "w")=>`(tactic| conv=>whnf)
local macro_rules | `(tactic| walk_at "a")=>`(tactic| first | refine⟨rfl,?_⟩ | refine⟨_,rfl,?_⟩ | refine Br.yes rfl ?_ | refine Br.no rfl ?_ | refine⟨(show(0:Int)<_ from by decide),?_⟩ | refine⟨(show R4 _ _ from⟨by decide,by decide⟩),?_⟩ | refine⟨(show bN _ _ from⟨by decide,by decide,by decide⟩),?_⟩ | refine⟨(show M3 _ _ from .inr ⟨by decide,by decide⟩),?_⟩ | refine⟨(show M3 _ _ from .inl ⟨by decide,by decide⟩),?_⟩ | refine⟨_,_,_,rfl,rfl,rfl,?_⟩ | refine⟨_,N6 _ _,?_⟩ | refine⟨_,bt _ _ _,?_⟩ | refine⟨_,_,rfl,rfl,?_⟩)
local macro_rules | `(tactic| walk_at "r")=>`(tactic| ((repeat ((conv=>whnf);(walk_at "a")));(try (conv=>whnf))))
local macro_rules | `(tactic| walk_at "n")=>`(tactic| (try dsimp only[i7,List.length,List.replicate,List.map,List.set,List.append,List.cons_append,List.nil_append,Nat.reduceAdd,Nat.reduceSub]))
theorem mE{b:Bd}(d:o3 b){x:Str}(i:x∈y7 b++O7 b):qR (M8 b x)/\(M8 b x).length<=8:=by
 have c:=bf d i
 have j:=cH (b:=b) x
 unfold M8
 cases cR b x with
 | true=>exact⟨⟨KM _,fun r a=>nomatch a⟩,KM _⟩
 | false=>
  refine⟨⟨?_,fun r a=>?_⟩,?_⟩
  ·show((j8 b x).map _).length<=16
   rw[eH];omega
  ·obtain⟨y,h,rfl⟩:=List.mem_map.mp a
   obtain⟨g,e,rfl⟩:=List.mem_map.mp (c y h)
   show T9 (BW b g.nm).cv
   rw[lQ d e]
   exact d.cv g e
  ·show((j8 b x).map _).length<=8
   rw[eH];exact j
theorem W4{a b:Type}{f:a->List b}{k:Nat}:∀{l:List a},(∀x∈l,(f x).length<=k)->(l.flatMap f).length<=k*l.length
 | [],_=>KM _
 | x::l,h=>by
  have e:=W4 (l:=l) fun y c=>h y (hQ _ c)
  have d:=h x lP
  rw[SA,C2,FS,Nat.mul_succ]
  omega
theorem mL(b:Bd)(x:Str)(o:Option (Int×Int))(i:Nat):(A5 b x o i).length<=1:=by
 unfold A5
 split
 ·exact sK _
 ·exact KM _
theorem nL{b:Bd}{m:Int}{x:Str}(h:(M8 b x).length<=8):(p5 b m x).length<=8:=by
 have:=W4 (f:=fun k=>A5 b x (U4 (M8 b x) (1+k) m) (1+k)) (k:=1) (l:=List.range ((M8 b x).length-1)) fun z _=>mL _ _ _ _
 rw[BB] at this
 unfold p5
 omega
theorem xU(ds:List D)(Q:D->Prop)(h:S9 ds Q):og (EP Q) (i7 7 ds):=by
 obtain⟨b,m,rfl,v,h8,S,q⟩:=h
 refine⟨rfl,?_⟩
 refine⟨b,rfl,v,?_⟩
 refine .of ⟨fun j g=>∃B y d c:Option D,g=[some (bD b),some (.int m),some (.lst (((y7 b).take j).flatMap (p5 b m))),B,y,d,c],⟨none,none,none,none,rfl⟩,?_,?_⟩
 ·rintro j e g G ⟨B,y,d,c,rfl⟩
  obtain⟨x,I,rfl⟩:=get_map G
  have C:=AC I
  have p:x∈y7 b++O7 b:=FM _ C
  obtain⟨po,pl⟩:=mE v p
  have et:((y7 b).take (j+1)).flatMap (p5 b m)=((y7 b).take j).flatMap (p5 b m)++p5 b m x:=by
   rw[Qp,I]
   rw[show(y7 b).take j++(some x).toList=(y7 b).take j++[x] from rfl,Tg,SQ]
  refine⟨rfl,?_⟩
  walk_at "n"
  rw[et]
  have u:(((y7 b).take j).flatMap (p5 b m)).length<=64:=by
   have:=W4 (f:=p5 b m) (k:=8) (l:=(y7 b).take j) fun z hz=>nL (mE v (FM _ (List.mem_of_mem_take hz))).2
   have e:(y7 b).length=b.gs.length:=eH _
   rw[Op] at this
   omega
  generalize ((y7 b).take j).flatMap (p5 b m)=acc at u
  refine⟨b,x,rfl,v,p,S,rfl,?_⟩
  walk_at "n"
  refine⟨1,((M8 b x).length:Int),by show[D.int 1,D.int ((((M8 b x).map fun r:Gd×Int=>D.tup [gD r.1,.int r.2]).length:Nat):Int)]=_;rw[eH],⟨by decide,by decide,by omega,by omega⟩,?_⟩
  rw[show(((M8 b x).length:Int)-1).toNat=(M8 b x).length-1 by omega,show fP 1 ((M8 b x).length-1)=(List.range ((M8 b x).length-1)).map (fun k:Nat=>D.int (1+(k:Int))) from rfl]
  refine .of ⟨fun k g=>∃d c:Option D,g=[some (bD b),some (.int m),some (.lst (acc++(List.range k).flatMap fun k=>A5 b x (U4 (M8 b x) (1+k) m) (1+k))),some (.str x),some (jj (M8 b x)),d,c],⟨d,c,by rw[List.range_zero,Tx,Do]⟩,?_,?_⟩
  ·rintro k e g G ⟨d,c,rfl⟩
   obtain⟨a,U,rfl⟩:=get_map G
   obtain⟨T,rfl⟩:k<(M8 b x).length-1/\a=k:=by
    obtain⟨O,M⟩:=List.getElem?_eq_some_iff.mp U
    rw[BB] at O
    rw[RU] at M
    exact⟨O,M.symm⟩
   have E:=W4 (f:=fun k=>A5 b x (U4 (M8 b x) (1+k) m) (1+k)) (k:=1) (l:=List.range a) fun z _=>mL _ _ _ _
   rw[BB] at E
   refine⟨rfl,?_⟩
   walk_at "n"
   rw[SV,Tg,SQ,<-PP]
   generalize Y:acc++(List.range a).flatMap (fun k=>A5 b x (U4 (M8 b x) (1+k) m) (1+k))=A
   have X:A.length<=100:=by rw[<-Y,C2];omega
   refine⟨M8 b x,1+a,m,by rw[show((1+a:Nat):Int)=1+(a:Int) by omega],po,pl,by omega,by omega,?_⟩
   obtain⟨r,J,_,e2⟩:=po.at (i:=1+(a:Int)) (by omega) (by omega)
   rw[show(1+(a:Int)).toNat=1+a by omega] at J
   generalize U4 (M8 b x) (1+a) m=o
   refine⟨rfl,?_⟩
   walk_at "n"
   cases o with
   | none=>
    refine Br.no rfl ?_
    rw[show A5 b x none (1+a)=[] from rfl,Do]
    exact⟨_,_,rfl⟩
   | some R=>
    obtain⟨k0,H⟩:=R
    refine Br.yes rfl ?_
    rw[show A5 b x (some (k0,H)) (1+a)=[.tup [.str x,.str r.1.nm,.int k0,.int H]] by unfold A5;rw[J]]
    refine⟨rfl,?_⟩
    walk_at "n"
    exact⟨rfl,_,e2,_,rfl,_,rfl,rfl,_,rfl,rfl,_,rfl,rfl,i5 (by omega),_,_,rfl⟩
  ·rintro g ⟨d,c,rfl⟩
   rw[eH,BB]
   exact⟨_,_,_,_,rfl⟩
 ·rintro g ⟨B,y,d,c,rfl⟩
  rw[eH,QH]
  exact q
end My
namespace My
open PySem L2 L3
local macro_rules | `(tactic| walk_at "w")=>`(tactic| conv=>whnf)
local macro_rules | `(tactic| walk_at "a")=>`(tactic| first | refine⟨rfl,?_⟩ | refine⟨_,rfl,?_⟩ | refine⟨(show(0:Int)<_ from by decide),?_⟩ | refine⟨(show R4 _ _ from⟨by decide,by decide⟩),?_⟩ | refine⟨(show bN _ _ from⟨by decide,by decide,by decide⟩),?_⟩ | refine⟨(show M3 _ _ from .inr ⟨by decide,by decide⟩),?_⟩ | refine⟨(show M3 _ _ from .inl ⟨by decide,by decide⟩),?_⟩ | refine⟨_,_,_,rfl,rfl,rfl,?_⟩ | refine⟨_,N6 _ _,?_⟩ | refine⟨_,_,rfl,rfl,?_⟩)
local macro_rules | `(tactic| walk_at "r")=>`(tactic| ((repeat ((conv=>whnf);(walk_at "a")));(try (conv=>whnf))))
theorem De(ds:List D)(Q:D->Prop)(h:Y6 ds Q):vP { nx:=fun _=>Q .o8,rt:=fun d _=>Q d } (i7 2 ds):=by
 obtain⟨d,ns,k,rfl,b,h0,q⟩:=h
 rcases b with rfl | rfl
 all_goals
  walk_at "r"
  refine⟨fun e=>?_,fun e=>q 0⟩
  have c:=QD e
  obtain⟨x,_,_,a⟩:=J8 (f:=D.int) h0 (by simpa using c)
  exact⟨_,a,rfl,q x⟩
theorem JT(ds:List D)(Q:D->Prop)(h:aM ds Q):Hb { nx:=fun _=>Q .o8,rt:=fun d _=>Q d } (i7 3 ds):=by
 obtain⟨d,ns,k,rfl,a,h0,b,q⟩:=h
 refine⟨d,ns,k,rfl,a,h0,fun c=>?_⟩
 walk_at "r"
 exact q c
theorem Ih(ds:List D)(Q:D->D->Prop)(h:y4 ds Q):Hd { nx:=fun g=>d8 0 g fun l=>Q .o8 l,rt:=fun d g=>d8 0 g fun l=>Q d l } (i7 4 ds):=by
 obtain⟨c,d,k,n,rfl,h0,u,e,i,q⟩:=h
 walk_at "r"
 refine⟨fun o=>?a,fun o=>Br.no rfl ?c⟩
 case' a=>
  walk_at "r"
  refine⟨fun j=>?t,fun j=>?b⟩
 case t=>
  walk_at "r"
  refine⟨e,?_⟩
  walk_at "r"
  refine⟨⟨e,MD i e⟩,?_⟩
  walk_at "r"
  exact q _ _ (QG _ (by omega)) (Qs _ e)
 all_goals
  walk_at "r"
  refine⟨.inl ⟨by omega,by omega⟩,?_⟩
  walk_at "r"
  have p:=QG ((c%2147483629*48271+7919*(k+1)+(k+1)*(k+1)*69621+11)%2147483647) (show(65521:Int)≠0 by decide)
  have z1:=Qs ((c%2147483629*48271+7919*(k+1)+(k+1)*(k+1)*69621+11)%2147483647) (show(0:Int)<65521 by decide)
  refine⟨.inr ⟨by omega,by omega⟩,?_⟩
  walk_at "r"
  refine⟨e,?_⟩
  walk_at "r"
  exact q _ _ (QG _ (by omega)) (Qs _ e)
end My
namespace My
open PySem L2 L3
local macro_rules | `(tactic| walk_at "w")=>`(tactic| conv=>whnf)
local macro_rules | `(tactic| walk_at "a")=>`(tactic| first | refine⟨rfl,?_⟩ | refine⟨_,rfl,?_⟩ | refine Br.yes rfl ?_ | refine Br.no rfl ?_ | refine⟨(show(0:Int)<_ from by decide),?_⟩ | refine⟨(show R4 _ _ from⟨by decide,by decide⟩),?_⟩ | refine⟨(show bN _ _ from⟨by decide,by decide,by decide⟩),?_⟩ | refine⟨(show M3 _ _ from .inr ⟨by decide,by decide⟩),?_⟩ | refine⟨(show M3 _ _ from .inl ⟨by decide,by decide⟩),?_⟩ | refine⟨_,_,_,rfl,rfl,rfl,?_⟩ | refine⟨_,N6 _ _,?_⟩ | refine⟨_,bt _ _ _,?_⟩ | refine⟨_,_,rfl,rfl,?_⟩)
local macro_rules | `(tactic| walk_at "r")=>`(tactic| ((repeat ((conv=>whnf);(walk_at "a")));(try (conv=>whnf))))
local macro_rules | `(tactic| walk_at "n")=>`(tactic| (try dsimp only[i7,List.length,List.replicate,List.map,List.set,List.append,List.cons_append,List.nil_append,Nat.reduceAdd,Nat.reduceSub]))
theorem pq(x:Int):∀l:UH,l.Pairwise (·<·)->∃k:UH,k.Pairwise (·<·)/\∀y,y∈k ↔ y=x\/y∈l
 | [],_=>⟨[x],QT _ _,fun y=>by simp⟩
 | z::l,h=>by
  cases h with
  | cons a b=>
   by_cases g:x<z
   ·refine⟨x::z::l,.cons (fun y c=>?_) (.cons a b),fun y=>by simp⟩
    rcases List.mem_cons.mp c with w | w
    ·rw[w];exact g
    ·exact Int.lt_trans g (a y w)
   ·by_cases j:x=z
    ·refine⟨z::l,.cons a b,fun y=>?_⟩
     rw[j];simp
    ·obtain⟨k,i,d⟩:=pq x l b
     refine⟨z::k,.cons (fun y c=>?_) i,fun y=>?_⟩
     ·rcases(d y).mp c with w | w
      ·rw[w];omega
      ·exact a y w
     ·rw[Rn,d,Rn]
      constructor
      ·rintro(e | e | e)
       ·exact .inr (.inl e)
       ·exact .inl e
       ·exact .inr (.inr e)
      ·rintro(e | e | e)
       ·exact .inr (.inl e)
       ·exact .inl e
       ·exact .inr (.inr e)
theorem wH:∀l:UH,∃k:UH,k.Pairwise (·<·)/\∀y,y∈k ↔ y∈l
 | []=>⟨[],.nil,fun y=>Iff.rfl⟩
 | x::l=>by
  obtain⟨k,b,a⟩:=wH l
  obtain⟨k2,c,m2⟩:=pq x k b
  exact⟨k2,c,fun y=>by rw[m2,a,Rn]⟩
theorem fW(ps:List (Gd×Int))(m:Int):xw ps m (bF ps m):=by
 obtain⟨k,d,c⟩:=wH (1::(M6 ps).filter fun z=>decide (z<=m))
 have h:xw ps m k:=⟨d,fun x=>by
  rw[c,Rn,List.mem_filter,QN]
  unfold M6
  rw[List.mem_flatMap]
  refine or_congr Iff.rfl ⟨fun⟨⟨r,a,g⟩,b⟩=>?_,fun⟨r,a,z,hz,e,b⟩=>⟨⟨r,a,List.mem_map.mpr ⟨z,hz,e.symm⟩⟩,b⟩⟩
  obtain⟨z,hz,e⟩:=List.mem_map.mp g
  exact⟨r,a,z,hz,e.symm,b⟩⟩
 rw[<-nF h]
 exact h
def eN(f:Int->Option Int)(done:UH):Option (Int×Int)->Prop
 | none=>∀n∈done,f n=none
 | some (k,l)=>l∈done/\f l=some k/\∀n∈done,∀j,f n=some j->j<k\/j=k/\l<=n
theorem yD{ps:List (Gd×Int)}{i:Nat}{done:UH}{o:Option (Int×Int)}{x:Int}(h:eN (B4 ps i) done o)(up:∀n∈done,n<x):eN (B4 ps i) (done++[x]) (u7 ps i o x):=by
 unfold u7
 cases e:B4 ps i x with
 | none=>
  cases o with
  | none=>
   intro n b
   rcases List.mem_append.mp b with z | z
   ·exact h n z
   ·rw[List.mem_singleton.mp z];exact e
  | some g=>
   obtain⟨k,l⟩:=g
   obtain⟨d,p,c⟩:=h
   refine⟨FM _ d,p,fun n b j a=>?_⟩
   rcases List.mem_append.mp b with z | z
   ·exact c n z j a
   ·rw[List.mem_singleton.mp z,e] at a;cases a
 | some k=>
  cases o with
  | none=>
   refine⟨wT _ (List.mem_singleton.mpr rfl),e,fun n b j a=>?_⟩
   rcases List.mem_append.mp b with z | z
   ·rw[show B4 ps i n=none from h n z] at a;cases a
   ·rw[List.mem_singleton.mp z] at a ⊢
    rw[e] at a;cases a
    exact .inr ⟨rfl,Sk _⟩
  | some g=>
   obtain⟨k0,q⟩:=g
   obtain⟨d,p,c⟩:=h
   show eN _ _ (if k0<k then some (k,x) else some (k0,q))
   split
   ·refine⟨wT _ (List.mem_singleton.mpr rfl),e,fun n b j a=>?_⟩
    rcases List.mem_append.mp b with z | z
    ·have:=c n z j a
     omega
    ·rw[List.mem_singleton.mp z] at a ⊢
     rw[e] at a;cases a
     exact .inr ⟨rfl,Sk _⟩
   ·refine⟨FM _ d,p,fun n b j a=>?_⟩
    rcases List.mem_append.mp b with z | z
    ·exact c n z j a
    ·have:=up q d
     rw[List.mem_singleton.mp z] at a ⊢
     rw[e] at a;cases a
     omega
theorem kQ{ps:List (Gd×Int)}{i:Nat}:∀{rest done:UH} {o:Option (Int×Int)},eN (B4 ps i) done o->(done++rest).Pairwise (·<·)->eN (B4 ps i) (done++rest) (rest.foldl (u7 ps i) o)
 | [],done,o,h,_=>by rw[Do];exact h
 | x::rest,done,o,h,up=>by
  have b:=yD (x:=x) h fun n a=>(List.pairwise_append.mp up).2.2 n a x lP
  have:=kQ (rest:=rest) b (by rw[PP];exact up)
  rw[PP] at this
  exact this
theorem GJ(ps:List (Gd×Int))(i:Nat)(m:Int):eN (B4 ps i) (bF ps m) (U4 ps i m):=by
 have:=kQ (ps:=ps) (i:=i) (rest:=bF ps m) (done:=[]) (o:=none) (fun n a=>by cases a) (fW ps m).up
 exact this
theorem xX{l:UH}{n:Int}(h:(1:Int)∈l)(r:1<=n):∃x∈l,x<=n/\∀y∈l,y<=n->y<=x:=by
 have:∀l:UH,(∃x∈l,x<=n)->∃x∈l,x<=n/\∀y∈l,y<=n->y<=x:=by
  intro l
  induction l with
  | nil=>rintro⟨x,d,_⟩;cases d
  | cons z l q=>
   rintro⟨x,d,j⟩
   by_cases g:∃x∈l,x<=n
   ·obtain⟨w,p,o,i⟩:=q g
    by_cases hz:z<=n/\w<z
    ·refine⟨z,lP,hz.1,fun y b a=>?_⟩
     rcases List.mem_cons.mp b with e | e
     ·omega
     ·have:=i y e a;omega
    ·refine⟨w,hQ _ p,o,fun y b a=>?_⟩
     rcases List.mem_cons.mp b with e | e
     ·subst e;omega
     ·exact i y e a
   ·have c:x=z:=by
     rcases List.mem_cons.mp d with e | e
     ·exact e
     ·exact absurd ⟨x,e,j⟩ g
    refine⟨z,lP,c▸j,fun y b a=>?_⟩
    rcases List.mem_cons.mp b with e | e
    ·omega
    ·exact absurd ⟨y,e,a⟩ g
 exact this l ⟨1,h,r⟩
theorem rb{ps:List (Gd×Int)}{i:Nat}{m n:Int}(h:1<=n)(l:n<=m):∃x∈bF ps m,x<=n/\B4 ps i n=B4 ps i x:=by
 have L:=fW ps m
 obtain⟨x,d,b,a⟩:=xX ((L.mem 1).mpr (.inl rfl)) h
 refine⟨x,d,b,?_⟩
 have c:∀j,M5 ps n j=M5 ps x j:=fun j=>by
  unfold M5
  cases e:ps[j]? with
  | none=>rfl
  | some r=>
   show ai r.1.cv (r.2+n)=ai r.1.cv (r.2+x)
   unfold ai
   congr 2
   refine List.filter_congr fun s g=>decide_eq_decide.mpr ⟨fun z=>?_,fun z=>by omega⟩
   have:=a (s.1-r.2) ((L.mem _).mpr (.inr ⟨r,AC e,s,g,rfl,by omega⟩)) (by omega)
   omega
 unfold B4
 rw[c,c,c]
def nz(ps:List (Gd×Int))(i:Nat)(n:Int):D:=.tup [S6 (B4 ps i n),.int (0-n)]
def Nw(ps:List (Gd×Int))(i:Nat)(n:Int):Bool:=(B4 ps i n).isSome
def aO(ps:List (Gd×Int))(i:Nat)(n:Int):Option (Int×Int):=(B4 ps i n).map fun k=>(k,0-n)
theorem nD(ps:List (Gd×Int))(i:Nat):∀ns:UH,(ns.filter (Nw ps i)).map (nz ps i)=(ns.filterMap (aO ps i)).map GZ
 | []=>rfl
 | n::ns=>by
  have a:=nD ps i ns
  rw[Rc,QZ]
  unfold Nw aO at *
  cases e:B4 ps i n with
  | none=>exact a
  | some k=>
   show nz ps i n::_=GZ (k,0-n)::_
   rw[a]
   congr 1
   unfold nz GZ
   rw[e];rfl
theorem ze{ps:List (Gd×Int)}{i:Nat}{m:Int}(H:1<=m)(c:∀x∈bF ps m,1<=x){ns:UH}(a:∀n,n∈ns ↔ 1<=n/\n<=m) :
  (U4 ps i m=none->ns.filterMap (aO ps i)=[]) /\
  (∀k l,U4 ps i m=some (k,l)->ns.filterMap (aO ps i)≠[]/\∀x∈ns.filterMap (aO ps i),(∀y∈ns.filterMap (aO ps i),EW y x=false)->x=(k,0-l)):=by
 have B:=GJ ps i m
 have b:∀x∈bF ps m,x<=m:=fun x d=>by
  rcases((fW ps m).mem x).mp d with e | ⟨_,_,_,_,_,e⟩<;>omega
 refine⟨fun e=>?_,fun k l e=>?_⟩
 ·rw[e] at B
  refine List.filterMap_eq_nil_iff.mpr fun n g=>?_
  obtain⟨o,j⟩:=(a n).mp g
  obtain⟨x,d,_,h⟩:=rb (ps:=ps) (i:=i) o j
  unfold aO
  rw[h,show B4 ps i x=none from B x d];rfl
 ·rw[e] at B
  obtain⟨p,G,E⟩:=B
  have mem:(k,0-l)∈ns.filterMap (aO ps i):=List.mem_filterMap.mpr ⟨l,(a l).mpr ⟨c l p,b l p⟩,by unfold aO;rw[G];rfl⟩
  refine⟨List.ne_nil_of_mem mem,fun x d r=>?_⟩
  obtain⟨n,g,u⟩:=List.mem_filterMap.mp d
  obtain⟨o,j⟩:=(a n).mp g
  obtain⟨k1,C,rfl⟩:=Option.map_eq_some_iff.mp (show(B4 ps i n).map (fun k=>(k,0-n))=some x from u)
  obtain⟨z,hz,q,h⟩:=rb (ps:=ps) (i:=i) o j
  have c1:=E z hz k1 (by rw[<-h];exact C)
  have c2:¬(k>k1\/k=k1/\0-l>0-n):=Rz (r _ mem)
  have v:k1=k:=by omega
  have el:n=l:=by omega
  rw[v,el]
end My
namespace My
open PySem L2 L3
theorem LB{B:Nat}:∀{xs:List D},(∀x∈xs,(pyd x).weight<=B)->PyData.weightAll (P8 xs)<=xs.length*(B+1)
 | [],_=>by simp[P8,PyData.weightAll]
 | x::xs,h=>by
  have c:=h x lP
  have b:=LB fun y a=>h y (hQ x a)
  simp only[P8,PyData.weightAll,FS]
  rw[Nat.add_mul]
  omega
theorem JI{B:Nat}:∀{xs:List D},(∀x∈xs,(pyd x).depth<=B)->PyData.depthAll (P8 xs)<=B
 | [],_=>by simp[P8,PyData.depthAll]
 | x::xs,h=>by
  have c:=h x lP
  have b:=JI fun y a=>h y (hQ x a)
  simp only[P8,PyData.depthAll]
  omega
theorem LS:∀{xs:List D},(∀x∈xs,Y7 x=true)->jv xs=true
 | [],_=>rfl
 | x::xs,h=>by
  simp only[jv,Fa]
  exact⟨h x lP,LS fun y a=>h y (hQ x a)⟩
structure P5(d:D)(w n:Nat):Prop where
 s:Y7 d=true
 w:(pyd d).weight<=w
 n:(pyd d).depth<=n
theorem P5.ok{d:D}{w n:Nat}(h:P5 d w n)(hw:w<=100000)(a:n<=50):FH d:=⟨h.s,Qv h.w hw,Qv h.n a⟩
theorem P5.mono{d:D}{w n a b:Nat}(h:P5 d w n)(hw:w<=a)(c:n<=b):P5 d a b:=⟨h.s,Qv h.w hw,Qv h.n c⟩
theorem P5.tup{xs:List D}{w n m:Nat}(h:∀x∈xs,P5 x w n)(b:xs.length<=m):P5 (.tup xs) (m*(w+1)) (n+1):=
 ⟨LS fun x a=>(h x a).s,Qv (LB fun x a=>(h x a).w) (Nat.mul_le_mul_right _ b),Nat.succ_le_succ (JI fun x a=>(h x a).n)⟩
theorem P5.int{n:Int}(h:num n):P5 (.int n) 201 0:=by
 refine⟨?_,?_,sK _⟩
 ·show decide _=true
  refine Da (Gc (m:=10^60) ?_ (by decide +kernel))
  have:=h.1
  have:=h.2
  omega
 ·show(if n == 0 then 0 else n.natAbs.log2+1)<=201
  split
  ·omega
  ·rename_i e
   have e:n.natAbs≠0:=by simpa using e
   have:n.natAbs.log2<200:=(Nat.log2_lt e).mpr (Gc (m:=10^60) (by have:=h.1;have:=h.2;omega) (by decide +kernel))
   omega
theorem P5.str{x:Str}{k:Nat}(h:x.length<=k)(b:∀c∈cs x,c<1000):P5 (.str x) k 0:=by
 refine⟨?_,h,sK _⟩
 show(x.cps.toList.all fun c=>decide (c<16^8))=true
 rw[RQ]
 exact fun c a=>Da (Gc (b c a) (by decide +kernel))
theorem P5.nm{x:Str}(h:nm 8 x):P5 (.str x) 8 0:=P5.str (Ig h) fun c a=>by have:=h.2.2 c a;omega
theorem P5.o8:P5 .o8 8 0:=⟨rfl,KM _,sK _⟩
theorem P5.bl{b:Bool}:P5 (.bl b) 8 0:=⟨rfl,KM _,sK _⟩
theorem P5.jO{ps:List Pr}(h:Cz ps):P5 (jO ps) 2025 2:=by
 refine P5.mono (P5.tup (w:=404) (n:=1) (m:=5) (fun x a=>?_) (by rw[eH];exact h.1)) (by decide) (by decide)
 obtain⟨p,b,rfl⟩:=List.mem_map.mp a
 refine P5.mono (P5.tup (w:=201) (n:=0) (m:=2) (fun x a=>?_) (sK _)) (by decide) (by decide)
 rcases List.mem_cons.mp a with rfl | a
 ·exact P5.int (h.2 p b).1
 ·cases List.mem_singleton.mp a
  exact P5.int (h.2 p b).2
theorem Pu{a b c d e:D}{w n k:Nat}(l:P5 a 8 0)(j:P5 b 8 0)(i:P5 c w n)(h:P5 d 201 0)(g:P5 e k 0):P5 (.tup [a,b,c,d,e]) (w+k+222) (n+1):=by
 refine⟨?_,?_,?_⟩
 ·show(Y7 a&&(Y7 b&&(Y7 c&&(Y7 d&&(Y7 e&&true)))))=true
  rw[l.s,j.s,i.s,h.s,g.s];rfl
 ·show(pyd a).weight+1+((pyd b).weight+1+((pyd c).weight+1+((pyd d).weight+1+((pyd e).weight+1+0))))<=_
  have:=l.w
  have:=j.w
  have:=i.w
  have:=h.w
  have:=g.w
  omega
 ·show max (pyd a).depth (max (pyd b).depth (max (pyd c).depth (max (pyd d).depth (max (pyd e).depth 0))))+1<=_
  have:=l.n
  have:=j.n
  have:=i.n
  have:=h.n
  have:=g.n
  omega
theorem GT.Y7{g:Gd}(h:GT g):P5 (gD g) 2448 3:=by
 refine Pu (P5.nm h.nm) ?_ (P5.jO h.cv) (P5.int h.de) (P5.int h.wa)
 cases e:g.un with
 | none=>exact P5.o8
 | some y=>exact P5.nm (h.un y e)
theorem LT.Y7{l:Ld}(h:LT l):P5 (lD l) 2255 3:=Pu (P5.nm h.nm) (P5.nm h.at_) (P5.jO h.cs) (P5.int h.la) P5.bl
theorem o3.show{b:Bd}(h:o3 b):FH (bD b):=by
 have e:P5 (.tup (b.gs.map gD)) (16*2449) 4:=P5.tup (fun x a=>by obtain⟨g,c,rfl⟩:=List.mem_map.mp a;exact(h.gt g c).Y7) (by rw[eH];exact h.g16)
 have d:P5 (.tup (b.ls.map lD)) (24*2256) 4:=P5.tup (fun x a=>by obtain⟨g,c,rfl⟩:=List.mem_map.mp a;exact(h.lt g c).Y7) (by rw[eH];exact h.l24)
 refine⟨?_,?_,?_⟩
 ·show(Y7 (.tup (b.gs.map gD))&&(Y7 (.tup (b.ls.map lD))&&true))=true
  rw[e.s,d.s];rfl
 ·show(pyd (.tup (b.gs.map gD))).weight+1+((pyd (.tup (b.ls.map lD))).weight+1+0)<=_
  have:=e.w
  have:=d.w
  omega
 ·show max (pyd (.tup (b.gs.map gD))).depth (max (pyd (.tup (b.ls.map lD))).depth 0)+1<=_
  have:=e.n
  have:=d.n
  omega
local macro_rules | `(tactic| walk_at "w")=>`(tactic| conv=>whnf)
local macro_rules | `(tactic| walk_at "a")=>`(tactic| first | refine⟨rfl,?_⟩ | refine⟨_,rfl,?_⟩ | refine Br.yes rfl ?_ | refine Br.no rfl ?_ | refine⟨(show(0:Int)<_ from by decide),?_⟩ | refine⟨(show R4 _ _ from⟨by decide,by decide⟩),?_⟩ | refine⟨(show bN _ _ from⟨by decide,by decide,by decide⟩),?_⟩ | refine⟨(show M3 _ _ from .inr ⟨by decide,by decide⟩),?_⟩ | refine⟨(show M3 _ _ from .inl ⟨by decide,by decide⟩),?_⟩ | refine⟨_,_,_,rfl,rfl,rfl,?_⟩ | refine⟨_,N6 _ _,?_⟩ | refine⟨_,bt _ _ _,?_⟩ | refine⟨_,_,rfl,rfl,?_⟩)
local macro_rules | `(tactic| walk_at "r")=>`(tactic| ((repeat ((conv=>whnf);(walk_at "a")));(try (conv=>whnf))))
local macro_rules | `(tactic| walk_at "n")=>`(tactic| (try dsimp only[i7,List.length,List.replicate,List.map,List.set,List.append,List.cons_append,List.nil_append,Nat.reduceAdd,Nat.reduceSub]))
theorem xN{b:Bd}(i:o3 b){x:Str}(q:x∈y7 b++O7 b)(v:F0 b (r8 b)=[]){m:Int}(B:1<=m):∀n∈bF (M8 b x) m,1<=n:=fun n o=>by
 rcases((fW _ m).mem n).mp o with e | ⟨r,c,s,a,e,_⟩
 ·omega
 ·obtain⟨y,d,rfl⟩:∃y∈j8 b x,r=(BW b y,r8 b y):=by
   unfold M8 at c
   cases l:cR b x with
   | true=>rw[l] at c;cases c
   | false=>
    rw[l] at c
    obtain⟨y,d,e⟩:=List.mem_map.mp c
    exact⟨y,d,e.symm⟩
  obtain⟨g,h,rfl⟩:=List.mem_map.mp (bf i q y d)
  rw[lQ i h] at a
  have o:¬lo g.cv<=r8 b g.nm:=fun z=>by
   have:g.nm∈F0 b (r8 b):=List.mem_map.mpr ⟨g,List.mem_filter.mpr ⟨h,Da z⟩,rfl⟩
   rw[v] at this;cases this
  have C:lo g.cv<=s.1:=by
   have u:=i.cv g h
   cases e:g.cv with
   | nil=>rw[e] at a;cases a
   | cons p ps=>
    rw[e] at a
    have j:=u.2.2.2
    rw[e] at j
    show p.1<=s.1
    rcases List.mem_cons.mp a with w | w
    ·rw[w];exact Sk _
    ·exact Int.le_of_lt ((List.pairwise_cons.mp j).1 s w).1
  have e:n=s.1-r8 b g.nm:=e
  omega
theorem CD{b:Bd}{x:Str}{o:Option (Int×Int)}{i:Nat}{d:D}(h:d∈A5 b x o i):∃y k l,d=.tup [.str x,.str y,.int k,.int l]:=by
 unfold A5 at h
 split at h
 ·exact⟨_,_,_,List.mem_singleton.mp h⟩
 ·cases h
theorem dP{b:Bd}{x:Str}{m:Int}{d:D}(h:d∈p5 b m x):∃y k l,d=.tup [.str x,.str y,.int k,.int l]:=by
 obtain⟨k,_,a⟩:=List.mem_flatMap.mp h
 exact CD a
def rowOf(x:Str):D->Bool
 | .tup (.str y::_)=>decide (y=x)
 | _=>false
theorem eZ{b:Bd}{m:Int}(x:Str):∀{l:UE},l.Nodup->(l.flatMap (p5 b m)).filter (rowOf x)=if x∈l then p5 b m x else[]
 | [],_=>rfl
 | y::l,nd=>by
  obtain⟨g,a⟩:=List.nodup_cons.mp nd
  rw[SA,List.filter_append,eZ x a]
  by_cases e:y=x
  ·subst e
   rw[wP g,wS lP,Do,List.filter_eq_self.mpr fun d hd=>by obtain⟨_,_,_,rfl⟩:=dP hd;exact Da rfl]
  ·rw[List.filter_eq_nil_iff.mpr fun d hd=>by obtain⟨_,_,_,rfl⟩:=dP hd;rw[show rowOf x _=decide (y=x) from rfl,Fk e];exact tL,Go]
   by_cases c:x∈l
   ·rw[wS c,wS (hQ _ c)]
   ·rw[wP c,wP fun z=>(List.mem_cons.mp z).elim (fun w=>e w.symm) c]
theorem EK(ds:List D)(Q:D->Prop)(h:cb ds Q):zq (EP Q) (i7 8 ds):=by
 obtain⟨b,x,m,rfl,G,hx,ha,J,m2,q⟩:=h
 have c:x∈y7 b++O7 b:=FM _ hx
 obtain⟨po,pl⟩:=mE G c
 have T:=xN G c ha J
 refine⟨b,x,rfl,G,c,rfl,?_⟩
 walk_at "n"
 refine⟨rfl,?_⟩
 walk_at "n"
 refine⟨1,((M8 b x).length:Int),by show[D.int 1,D.int ((((M8 b x).map fun r:Gd×Int=>D.tup [gD r.1,.int r.2]).length:Nat):Int)]=_;rw[eH],⟨by decide,by decide,by omega,by omega⟩,?_⟩
 rw[show(((M8 b x).length:Int)-1).toNat=(M8 b x).length-1 by omega,show fP 1 ((M8 b x).length-1)=(List.range ((M8 b x).length-1)).map (fun k:Nat=>D.int (1+(k:Int))) from rfl]
 refine .of ⟨fun k y=>∃E C B:Option D,y=[some (bD b),some (.str x),some (.int m),some (jj (M8 b x)),some (.lst ((List.range k).flatMap fun k=>A5 b x (U4 (M8 b x) (1+k) m) (1+k))),E,C,B],⟨none,none,none,by rw[List.range_zero,Tx]⟩,?_,?_⟩
 ·rintro k e y he ⟨E,C,B,rfl⟩
  obtain⟨a,hk,rfl⟩:=get_map he
  obtain⟨a1,rfl⟩:k<(M8 b x).length-1/\a=k:=by
   obtain⟨I,H⟩:=List.getElem?_eq_some_iff.mp hk
   rw[BB] at I
   rw[RU] at H
   exact⟨I,H.symm⟩
  have p:=W4 (f:=fun k=>A5 b x (U4 (M8 b x) (1+k) m) (1+k)) (k:=1) (l:=List.range a) fun z _=>mL _ _ _ _
  rw[BB] at p
  refine⟨rfl,?_⟩
  walk_at "n"
  rw[SV,Tg,SQ]
  generalize (List.range a).flatMap (fun k=>A5 b x (U4 (M8 b x) (1+k) m) (1+k))=A at p
  have a0:((m.toNat:Nat):Int)=m:=by omega
  refine⟨1,m+1,rfl,⟨by decide,by decide,by omega,by omega⟩,?_⟩
  rw[show(m+1-1).toNat=m.toNat by omega,show fP 1 m.toNat=((List.range m.toNat).map fun k:Nat=>1+(k:Int)).map D.int by rw[Qw];rfl]
  generalize g:(List.range m.toNat).map (fun k:Nat=>1+(k:Int))=ns
  have S:ns.length<=1000:=by rw[<-g,eH,BB];omega
  have mem:∀n,n∈ns ↔ 1<=n/\n<=m:=fun n=>by
   rw[<-g,List.mem_map]
   refine⟨fun⟨j,hj,e⟩=>?_,fun⟨I,H⟩=>⟨(n-1).toNat,List.mem_range.mpr (by omega),by omega⟩⟩
   have:=List.mem_range.mp hj
   omega
  refine⟨by rw[eH];exact i5 (by omega),?_⟩
  refine P2 (F:=D.int) (f:=nz (M8 b x) (1+a)) ns [] (fun n hn K R k1=>?_) ?_
  ·refine⟨rfl,?_⟩
   refine Br.yes rfl ?_
   exact⟨M8 b x,1+a,n,by show[jj (M8 b x),D.int (1+(a:Int)),D.int n]=_;rw[show((1+a:Nat):Int)=1+(a:Int) by omega],po,by omega,by omega,k1⟩
  refine⟨rfl,?_⟩
  walk_at "n"
  refine⟨by rw[eH];exact i5 (by omega),?_⟩
  refine G6 (F:=nz (M8 b x) (1+a)) (f:=nz (M8 b x) (1+a)) (Nw (M8 b x) (1+a)) ns [] (fun n hn K R k1 k2=>?_) ?_
  ·refine⟨rfl,?_⟩
   unfold Nw at k1 k2
   refine⟨_,N6 _ _,?_⟩
   have Y:y1 (nz (M8 b x) (1+a) n)=true:=by unfold nz;cases B4 (M8 b x) (1+a) n<;>rfl
   generalize B4 (M8 b x) (1+a) n=o at k1 k2
   cases o with
   | none=>exact Br.no rfl (k2 rfl)
   | some k=>exact Br.yes rfl ⟨Y,k1 rfl⟩
  refine⟨rfl,?_⟩
  walk_at "n"
  rw[nD]
  obtain⟨v,u⟩:=ze (ps:=M8 b x) (i:=1+a) J T mem
  have U:(ns.filterMap (aO (M8 b x) (1+a))).length<=ns.length:=List.length_filterMap_le _ _
  generalize ns.filterMap (aO (M8 b x) (1+a))=P at v u U
  obtain⟨r,M,_,e2⟩:=po.at (i:=1+(a:Int)) (by omega) (by omega)
  rw[show(1+(a:Int)).toNat=1+a by omega] at M
  generalize U4 (M8 b x) (1+a) m=o at v u ⊢
  cases o with
  | none=>
   rw[v rfl,show A5 b x none (1+a)=[] from rfl,Do]
   exact Br.no rfl ⟨_,_,_,rfl⟩
  | some X=>
   obtain⟨k0,d⟩:=X
   obtain⟨f3,O⟩:=u k0 d rfl
   rw[show A5 b x (some (k0,d)) (1+a)=[.tup [.str x,.str r.1.nm,.int k0,.int d]] by unfold A5;rw[M]]
   have hP:0<P.length:=List.length_pos_iff.mpr f3
   refine Br.yes (Da (by rw[eH];omega)) ?_
   refine⟨.lst (P.map GZ),P,rfl,rfl,hP,fun z hz hy=>?_⟩
   rw[O z hz hy]
   clear v u O
   generalize hw:0-d=w
   obtain rfl:d=0-w:=by omega
   refine⟨rfl,?_⟩
   walk_at "n"
   exact⟨rfl,rfl,_,e2,_,rfl,_,rfl,rfl,_,rfl,rfl,_,rfl,i5 (by omega),_,_,_,rfl⟩
 ·rintro y ⟨E,C,B,rfl⟩
  rw[eH,BB]
  exact q
theorem pG{n:Nat}{x:Str}(h:nm n x):PyData.strOk x=true:=by
 unfold PyData.strOk
 rw[<-Array.all_toList,RQ]
 exact fun c a=>Da (by have:=h.2.2 c a;omega)
theorem IV{b:Bd}(e:o3 b){x:Str}(i:x∈y7 b++O7 b){r:Gd×Int}(a:r∈M8 b x):r.1∈b.gs:=by
 unfold M8 at a
 cases c:cR b x with
 | true=>rw[c] at a;cases a
 | false=>
  rw[c] at a
  obtain⟨y,h,rfl⟩:=List.mem_map.mp a
  obtain⟨g,d,rfl⟩:=List.mem_map.mp (bf e i y h)
  show BW b g.nm∈b.gs
  rw[lQ e d];exact d
theorem CM{b:Bd}(i:o3 b){x:Str}(o:x∈y7 b){m:Int}:BO (.lst (p5 b m x)):=by
 have q:PyData.strOk x=true:=by
  obtain⟨g,v,rfl⟩:=List.mem_map.mp o
  exact pG (i.nmg g v)
 have a:∀d∈p5 b m x,∃y k l,d=.tup [.str x,.str y,.int k,.int l]/\PyData.strOk y=true:=fun d hd=>by
  obtain⟨j,_,e⟩:=List.mem_flatMap.mp hd
  unfold A5 at e
  split at e
  ·rename_i k l r _ u
   exact⟨_,_,_,List.mem_singleton.mp e,pG (i.nmg _ (IV i (FM _ o) (AC u)))⟩
  ·cases e
 generalize p5 b m x=c at a
 refine⟨?_,?_,?_⟩
 ·show jC c=true
  induction c with
  | nil=>rfl
  | cons d c h=>
   obtain⟨y,k,l,rfl,_⟩:=a d lP
   rw[jC,h fun d hd=>a d (hQ _ hd)];rfl
 ·show PyData.canLay0 (.list (P8 c))=true
  simp only[PyData.canLay0]
  induction c with
  | nil=>simp[P8,PyData.canLayAll0]
  | cons d c h=>
   obtain⟨y,k,l,rfl,p⟩:=a d lP
   simp only[P8,pyd,PyData.canLayAll0,PyData.canLay0,q,p,h fun d hd=>a d (hQ _ hd),Bool.and_self]
 ·refine Qv (Nat.succ_le_succ (JI (B:=1) fun d hd=>?_)) (by decide)
  obtain⟨y,k,l,rfl,_⟩:=a d hd
  simp[pyd,P8,PyData.depth,PyData.depthAll]
theorem ER(ds:List D)(Q:D->Prop)(h:bX ds Q):Af (EP Q) (i7 5 ds):=by
 obtain⟨d,ns,rfl,B,Y,q⟩:=h
 refine⟨d,ns,1,1,rfl,B,⟨by decide,by decide,by decide,by decide⟩,fun b o E=>⟨rfl,?_⟩⟩
 walk_at "n"
 refine⟨b,rfl,o,?_⟩
 cases C:F0 b (r8 b) with
 | cons x xs=>exact Br.yes rfl q
 | nil=>
  refine Br.no rfl ?_
  refine⟨d,ns,18,rfl,B,by decide,by decide,fun c=>⟨rfl,?_⟩⟩
  walk_at "n"
  have g8:=E.g8
  have gp:=o.g1
  refine⟨_,N6 _ _,?_⟩
  refine⟨_,N6 _ _,?_⟩
  refine⟨_,N6 _ _,?_⟩
  refine⟨c,c,100*18,_,rfl,by decide,by decide,?_,?_,fun r d' U p=>?_⟩
  ·show(0:Int)<if (((b.gs.map gD).length:Nat):Int)<3 then(((b.gs.map gD).length:Nat):Int) else 3
   rw[eH];split<;>omega
  ·show(if (((b.gs.map gD).length:Nat):Int)<3 then(((b.gs.map gD).length:Nat):Int) else 3)<=10^70
   rw[eH];split<;>omega
  have p:r<if (((b.gs.map gD).length:Nat):Int)<3 then(((b.gs.map gD).length:Nat):Int) else 3:=p
  rw[eH] at p ⊢
  have p:r<b.gs.length:=by split at p<;>omega
  obtain⟨g,S,_,T⟩:=J8 (f:=gD) (xs:=b.gs) (i:=(b.gs.length:Int)-1-r) (by omega) (by omega)
  refine⟨_,T,_,rfl,rfl,rfl,?_⟩
  walk_at "n"
  have j:g.nm∈y7 b:=List.mem_map.mpr ⟨g,S,rfl⟩
  refine⟨c,d',100*18+1,40,rfl,by decide,by decide,by decide,by decide,fun J d2 I H=>⟨rfl,?_⟩⟩
  walk_at "n"
  generalize X:1+J=m
  have M:1<=m:=by omega
  have m2:m<=1000:=by omega
  refine⟨b,m,rfl,o,g8,C,?_⟩
  have nd:(y7 b).Nodup:=(List.nodup_append.mp o.nd).1
  have G:((y7 b).flatMap (p5 b m)).length<=64:=by
   have:=W4 (f:=p5 b m) (k:=8) (l:=y7 b) fun z hz=>nL (mE o (FM _ hz)).2
   have e:(y7 b).length=b.gs.length:=eH _
   omega
  have v:∀d∈(y7 b).flatMap (p5 b m),∃x y k l,d=.tup [.str x,.str y,.int k,.int l]:=fun d hd=>by
   obtain⟨x,_,O⟩:=List.mem_flatMap.mp hd
   exact⟨x,dP O⟩
  have u:=eZ (b:=b) (m:=m) g.nm nd
  rw[wS j] at u
  generalize (y7 b).flatMap (p5 b m)=a at G v u
  refine⟨i5 (by omega),?_⟩
  show mV _ _ _ _ a [] _
  rw[<-List.map_id a]
  refine G6 (F:=id) (f:=id) (rowOf g.nm) a [] (fun z hz K R k1 k2=>?_) ?_
  ·obtain⟨x,y,k,l,rfl⟩:=v z hz
   refine⟨rfl,?_⟩
   refine⟨_,rfl,?_⟩
   refine⟨fun e=>⟨rfl,k1 e⟩,fun e=>k2 e⟩
  rw[Go,u,List.map_id]
  refine⟨b,g.nm,m,rfl,o,j,C,M,m2,?_⟩
  have ok:=CM o j (m:=m)
  refine⟨ok,ok,?_⟩
  rw[show PyData.eqv (pyd (.lst (p5 b m g.nm))) (pyd (.lst (p5 b m g.nm)))=true from PySem.SeqAt.eqv_refl _ ok.2.1]
  exact q
end My
namespace My
open PySem L2 L3
local macro_rules | `(tactic| walk_at "l")=>`(tactic| (intro _ _ h;repeat (first | exact QV List.length h.1 | obtain⟨_,h⟩:=h)))
def vB(K:UP):Sp:=fun vs H Q _=>∃(a:Addr) (ns:UH),vs=[.ref a]/\L1 K H a (ns.map V.int)/\ns.length<=63/\∀b,Q (.bl true) b
theorem N1{K:UP}{H:Hp}:∀ns:UH,j7 K H (ns.map V.int) (ns.map D.int) []
 | []=>.nil
 | n::ns=>j7.cons (A:=[]) (B:=[]) .int (N1 ns)
theorem Jx{K:UP}(vs:List V)(H:Hp)(Q:VK)(E:XK)(h:vB K vs H Q E):D1 K bX vs H Q E:=by
 obtain⟨a,ns,rfl,g,c,k⟩:=h
 have b:∀(d:D) (A:UD),Jk d ns->Rep K H (.ref a) d A->D1 K bX [.ref a] H Q E:=fun d A hd r=>
  ⟨[d],A++[],fun r=>r=.bl true,.cons r .nil,⟨d,ns,rfl,hd,c,rfl⟩,fun r v i B e _ rv _ _=>by
   subst e
   cases Z0 rv
   exact k i⟩
 rcases g with(h | ⟨o,h⟩) | h
 ·exact b _ _ (.inr rfl) (.lst h (N1 ns))
 ·exact b _ _ (.inl rfl) (.frz (.inl ⟨o,h⟩) (N1 ns))
 ·exact b _ _ (.inl rfl) (.frz (.inr h) (N1 ns))
theorem sX:D6 S2 1:=by walk_at "l"
theorem KG:D6 sZ 2:=by walk_at "l"
theorem tq:D6 S3 2:=by walk_at "l"
theorem sR:D6 O8 1:=by walk_at "l"
theorem qA:D6 K5 1:=by walk_at "l"
theorem rO:D6 S5 1:=by walk_at "l"
theorem nS:D6 O0 2:=by walk_at "l"
theorem sk:D6 R6 2:=by walk_at "l"
theorem qQ:D6 N8 2:=by walk_at "l"
theorem Az:D6 cm 2:=by walk_at "l"
theorem EO:∀ds Q W,eX ds Q W->ds.length=2:=fun _ _ _ ⟨_,_,e,_⟩=>QV List.length e
theorem mF:D6 K3 2:=by walk_at "l"
theorem oY:D6 N2 3:=by walk_at "l"
theorem Ai:D6 cD 3:=by walk_at "l"
theorem Ej:D6 eQ 1:=by walk_at "l"
theorem zA:D6 bJ 2:=by walk_at "l"
theorem Ab:D6 cu 1:=by walk_at "l"
theorem lZ:D6 J9 1:=by walk_at "l"
theorem zi:D6 bZ 2:=by walk_at "l"
theorem yk:D6 Z3 2:=by walk_at "l"
theorem uB:D6 S1 2:=by walk_at "l"
theorem fB:D6 C4 3:=by walk_at "l"
theorem se:D6 S9 2:=by walk_at "l"
theorem yK:D6 Y6 2:=by walk_at "l"
theorem FF:D6 aM 2:=by walk_at "l"
theorem DQ:KZ y4 2:=by walk_at "l"
theorem CS:KZ bV 2:=by walk_at "l"
theorem Dm:D6 aJ 1:=by walk_at "l"
theorem rY:KZ S0 3:=by walk_at "l"
theorem yp:D6 Y9 2:=by walk_at "l"
theorem AN:D6 Y4 1:=by walk_at "l"
theorem qh:D6 N0 4:=by walk_at "l"
theorem tJ:D6 R1 5:=by walk_at "l"
theorem um:D6 R7 3:=by walk_at "l"
theorem DX:D6 hZ 2:=by walk_at "l"
theorem zS:D6 cy 1:=by walk_at "l"
theorem AU:D6 Z2 3:=by walk_at "l"
theorem Fx:D6 ie 3:=by walk_at "l"
theorem zw:D6 cb 3:=by walk_at "l"
theorem Ba:D6 bX 1:=by walk_at "l"
theorem all_mk {l:PySem.W.OpenLaw} {w:World} {K:UP} {h:Heap} {mg:UK} {fa f1 f2 f3 f4 f5 f6 f7 f8 f9 d4 d3 d2 d1 d0 cr cn ck cj ci ch cf ce cd cc ca c0 bv bn bm bi bg b0 ap ao an am al ad ac fi:Addr} (X:K.In h) (G:h.Ns mainGlobals mg) (hfa:mg "law"=some (.ref fa))
  {od1 an1 od2 an2 od3 an3 od4 an4 od5 an5 od6 an6 od7 an7 od8 an8 zz an9 lj v3 li v2 lg v1 lf v0 ld uy lc ux lb ut l0 ul kx uk kw ui kv uh kt ue ks ud kr uc kl ub kk ua k0 u8 js u1 jp u0 j3 tz j2 tx j1 tv j0 tt ix ts iv tp iu to it tn io tl im ti il th ik fc:Option Addr} {xm xl xi x8 x7 x4 x2 x1 x0 h9 h8 h7 h6 h5 h4 h3 h2 h1 h0 gy gx gw gu gp gm gl gk gj gi gc g5 g3 g2 g0 fy fx fv ft fp fo:Array (UQ)} {oc1 kV1 dc1 zv tg ct1 oc2 kV2 dc2 zs te ct2 oc3 kV3 Nu z0 td ct3 oc4 kV4 dc4 ys tc ct4 oc5 kV5 dc5 yl tb ct5 oc6 kV6 dc6 y6 ta ct6 oc7 kV7 dc7 y5 t8 ct7 oc8 kV8 dc8 y2 t7 ct8 oc9 kV9 dc9 y0 t6 ct9 nf q0 ru ii fb t5 nb py rs ih f0 t4 na px rr ig ez t3 n8 pu rp id ey t2 n7 pp ro i2 ew t1 n6 pm rn i1 ev t0 n5 pi rm i0 et sy n4 ph rl hz es sx n3 pb rk hy eq sw n0 pa rj hx ep so my p2 ri hw eo sn mx p1 rf hv en sl mv p0 re hu em sj mu ox rd ht ek sg mt ov rc hs ej sc ms op r9 hr ei sb mo ol r7 hq eg s9 ml oe r6 hp ef s8 me od r5 ho ee s7 md oc r4 hn ed s6 mc o2 r3 hm ec s5 mb o1 r2 hk eb s4 ma o0 r1 hj ea s3 m0 ny r0 hi e8 s2 ly nw qz hh e4 s1 lx nv qy hg e3 s0 lw np qs hf e2 rz lv nn qq he e1 ry ln nl qn hc e0 rx lm nk qd hb dz rw ll dv dx ds S dy:Value}
  (a1:PySem.W.nsIn K mainGlobals "least_of"=some (some (.ref f1)))
  (l1:K.lookup f1=some ⟨oc1,od1,.func (PySem.W.fnOf "least_of" "least_of" (j5 X7) (i6 X7) (e5 X7) .none kV1 dc1 zv an1 tg ct1),xm⟩) (c1:PySem.W.codeIn K tg "least_of"=true) (k1:PySem.W.keepIn K (.ref f1)=true)
  (a2:PySem.W.nsIn K mainGlobals "met"=some (some (.ref f2)))
  (l2:K.lookup f2=some ⟨oc2,od2,.func (PySem.W.fnOf "met" "met" (j5 uW) (i6 uW) (e5 uW) .none kV2 dc2 zs an2 te ct2),xl⟩) (c2:PySem.W.codeIn K te "met"=true) (k2:PySem.W.keepIn K (.ref f2)=true)
  (a3:PySem.W.nsIn K mainGlobals "turns_at"=some (some (.ref f3)))
  (l3:K.lookup f3=some ⟨oc3,od3,.func (PySem.W.fnOf "turns_at" "turns_at" (j5 X3) (i6 X3) (e5 X3) .none kV3 Nu z0 an3 td ct3),xi⟩) (c3:PySem.W.codeIn K td "turns_at"=true) (k3:PySem.W.keepIn K (.ref f3)=true)
  (a4:PySem.W.nsIn K mainGlobals "names_of"=some (some (.ref f4)))
  (l4:K.lookup f4=some ⟨oc4,od4,.func (PySem.W.fnOf "names_of" "names_of" (j5 S8) (i6 S8) (e5 S8) .none kV4 dc4 ys an4 tc ct4),x8⟩) (c4:PySem.W.codeIn K tc "names_of"=true) (k4:PySem.W.keepIn K (.ref f4)=true)
  (a5:PySem.W.nsIn K mainGlobals "guards_of"=some (some (.ref f5)))
  (l5:K.lookup f5=some ⟨oc5,od5,.func (PySem.W.fnOf "guards_of" "guards_of" (j5 Q8) (i6 Q8) (e5 Q8) .none kV5 dc5 yl an5 tb ct5),x7⟩) (c5:PySem.W.codeIn K tb "guards_of"=true) (k5:PySem.W.keepIn K (.ref f5)=true)
  (a6:PySem.W.nsIn K mainGlobals "loads_of"=some (some (.ref f6)))
  (l6:K.lookup f6=some ⟨oc6,od6,.func (PySem.W.fnOf "loads_of" "loads_of" (j5 V6) (i6 V6) (e5 V6) .none kV6 dc6 y6 an6 ta ct6),x4⟩) (c6:PySem.W.codeIn K ta "loads_of"=true) (k6:PySem.W.keepIn K (.ref f6)=true)
  (a7:PySem.W.nsIn K mainGlobals "has_guard"=some (some (.ref f7)))
  (l7:K.lookup f7=some ⟨oc7,od7,.func (PySem.W.fnOf "has_guard" "has_guard" (j5 R0) (i6 R0) (e5 R0) .none kV7 dc7 y5 an7 t8 ct7),x2⟩) (c7:PySem.W.codeIn K t8 "has_guard"=true) (k7:PySem.W.keepIn K (.ref f7)=true)
  (a8:PySem.W.nsIn K mainGlobals "has_load"=some (some (.ref f8)))
  (l8:K.lookup f8=some ⟨oc8,od8,.func (PySem.W.fnOf "has_load" "has_load" (j5 X1) (i6 X1) (e5 X1) .none kV8 dc8 y2 an8 t7 ct8),x1⟩) (c8:PySem.W.codeIn K t7 "has_load"=true) (k8:PySem.W.keepIn K (.ref f8)=true)
  (a9:PySem.W.nsIn K mainGlobals "has_place"=some (some (.ref f9)))
  (l9:K.lookup f9=some ⟨oc9,zz,.func (PySem.W.fnOf "has_place" "has_place" (j5 Q9) (i6 Q9) (e5 Q9) .none kV9 dc9 y0 an9 t6 ct9),x0⟩) (c9:PySem.W.codeIn K t6 "has_place"=true) (k9:PySem.W.keepIn K (.ref f9)=true)
  (a10:PySem.W.nsIn K mainGlobals "climb"=some (some (.ref d4)))
  (l10:K.lookup d4=some ⟨nf,lj,.func (PySem.W.fnOf "climb" "climb" (j5 cA) (i6 cA) (e5 cA) .none q0 ru ii v3 fb t5),h9⟩) (c10:PySem.W.codeIn K fb "climb"=true) (k10:PySem.W.keepIn K (.ref d4)=true)
  (a11:PySem.W.nsIn K mainGlobals "over"=some (some (.ref d3)))
  (l11:K.lookup d3=some ⟨nb,li,.func (PySem.W.fnOf "over" "over" (j5 gP) (i6 gP) (e5 gP) .none py rs ih v2 f0 t4),h8⟩) (c11:PySem.W.codeIn K f0 "over"=true) (k11:PySem.W.keepIn K (.ref d3)=true)
  (a12:PySem.W.nsIn K mainGlobals "fed_guards"=some (some (.ref d2)))
  (l12:K.lookup d2=some ⟨na,lg,.func (PySem.W.fnOf "fed_guards" "fed_guards" (j5 N3) (i6 N3) (e5 N3) .none px rr ig v1 ez t3),h7⟩) (c12:PySem.W.codeIn K ez "fed_guards"=true) (k12:PySem.W.keepIn K (.ref d2)=true)
  (a13:PySem.W.nsIn K mainGlobals "draws_fed"=some (some (.ref d1)))
  (l13:K.lookup d1=some ⟨n8,lf,.func (PySem.W.fnOf "draws_fed" "draws_fed" (j5 N4) (i6 N4) (e5 N4) .none pu rp id v0 ey t2),h6⟩) (c13:PySem.W.codeIn K ey "draws_fed"=true) (k13:PySem.W.keepIn K (.ref d1)=true)
  (a14:PySem.W.nsIn K mainGlobals "draws"=some (some (.ref d0)))
  (l14:K.lookup d0=some ⟨n7,ld,.func (PySem.W.fnOf "draws" "draws" (j5 dI) (i6 dI) (e5 dI) .none pp ro i2 uy ew t1),h5⟩) (c14:PySem.W.codeIn K ew "draws"=true) (k14:PySem.W.keepIn K (.ref d0)=true)
  (a15:PySem.W.nsIn K mainGlobals "rest"=some (some (.ref cr)))
  (l15:K.lookup cr=some ⟨n6,lc,.func (PySem.W.fnOf "rest" "rest" (j5 gX) (i6 gX) (e5 gX) .none pm rn i1 ux ev t0),h4⟩) (c15:PySem.W.codeIn K ev "rest"=true) (k15:PySem.W.keepIn K (.ref cr)=true)
  (a16:PySem.W.nsIn K mainGlobals "awake"=some (some (.ref cn)))
  (l16:K.lookup cn=some ⟨n5,lb,.func (PySem.W.fnOf "awake" "awake" (j5 cw) (i6 cw) (e5 cw) .none pi rm i0 ut et sy),h3⟩) (c16:PySem.W.codeIn K et "awake"=true) (k16:PySem.W.keepIn K (.ref cn)=true)
  (a17:PySem.W.nsIn K mainGlobals "loud"=some (some (.ref ck)))
  (l17:K.lookup ck=some ⟨n4,l0,.func (PySem.W.fnOf "loud" "loud" (j5 dQ) (i6 dQ) (e5 dQ) .none ph rl hz ul es sx),h2⟩) (c17:PySem.W.codeIn K es "loud"=true) (k17:PySem.W.keepIn K (.ref ck)=true)
  (a18:PySem.W.nsIn K mainGlobals "quiet_rest"=some (some (.ref cj)))
  (l18:K.lookup cj=some ⟨n3,kx,.func (PySem.W.fnOf "quiet_rest" "quiet_rest" (j5 M9) (i6 M9) (e5 M9) .none pb rk hy uk eq sw),h1⟩) (c18:PySem.W.codeIn K eq "quiet_rest"=true) (k18:PySem.W.keepIn K (.ref cj)=true)
  (a19:PySem.W.nsIn K mainGlobals "way_of"=some (some (.ref ci)))
  (l19:K.lookup ci=some ⟨n0,kw,.func (PySem.W.fnOf "way_of" "way_of" (j5 Z9) (i6 Z9) (e5 Z9) .none pa rj hx ui ep so),h0⟩) (c19:PySem.W.codeIn K ep "way_of"=true) (k19:PySem.W.keepIn K (.ref ci)=true)
  (a20:PySem.W.nsIn K mainGlobals "lows_of"=some (some (.ref ch)))
  (l20:K.lookup ch=some ⟨my,kv,.func (PySem.W.fnOf "lows_of" "lows_of" (j5 U5) (i6 U5) (e5 U5) .none p2 ri hw uh eo sn),gy⟩) (c20:PySem.W.codeIn K eo "lows_of"=true) (k20:PySem.W.keepIn K (.ref ch)=true)
  (a21:PySem.W.nsIn K mainGlobals "spans_of"=some (some (.ref cf)))
  (l21:K.lookup cf=some ⟨mx,kt,.func (PySem.W.fnOf "spans_of" "spans_of" (j5 W6) (i6 W6) (e5 W6) .none p1 rf hv ue en sl),gx⟩) (c21:PySem.W.codeIn K en "spans_of"=true) (k21:PySem.W.keepIn K (.ref cf)=true)
  (a22:PySem.W.nsIn K mainGlobals "greatest_lack"=some (some (.ref ce)))
  (l22:K.lookup ce=some ⟨mv,ks,.func (PySem.W.fnOf "greatest_lack" "greatest_lack" (j5 D0) (i6 D0) (e5 D0) .none p0 re hu ud em sj),gw⟩) (c22:PySem.W.codeIn K em "greatest_lack"=true) (k22:PySem.W.keepIn K (.ref ce)=true)
  (a23:PySem.W.nsIn K mainGlobals "pairs_of"=some (some (.ref cd)))
  (l23:K.lookup cd=some ⟨mu,kr,.func (PySem.W.fnOf "pairs_of" "pairs_of" (j5 W2) (i6 W2) (e5 W2) .none ox rd ht uc ek sg),gu⟩) (c23:PySem.W.codeIn K ek "pairs_of"=true) (k23:PySem.W.keepIn K (.ref cd)=true)
  (a24:PySem.W.nsIn K mainGlobals "_law_cell_at"=some (some (.ref cc)))
  (l24:K.lookup cc=some ⟨mt,kl,.func (PySem.W.fnOf "_law_cell_at" "_law_cell_at" (j5 aW) (i6 aW) (e5 aW) .none ov rc hs ub ej sc),gp⟩) (c24:PySem.W.codeIn K ej "_law_cell_at"=true) (k24:PySem.W.keepIn K (.ref cc)=true)
  (a25:PySem.W.nsIn K mainGlobals "_law_feed"=some (some (.ref ca)))
  (l25:K.lookup ca=some ⟨ms,kk,.func (PySem.W.fnOf "_law_feed" "_law_feed" (j5 lA) (i6 lA) (e5 lA) .none op r9 hr ua ei sb),gm⟩) (c25:PySem.W.codeIn K ei "_law_feed"=true) (k25:PySem.W.keepIn K (.ref ca)=true)
  (a26:PySem.W.nsIn K mainGlobals "_law_take"=some (some (.ref c0)))
  (l26:K.lookup c0=some ⟨mo,k0,.func (PySem.W.fnOf "_law_take" "_law_take" (j5 lq) (i6 lq) (e5 lq) .none ol r7 hq u8 eg s9),gl⟩) (c26:PySem.W.codeIn K eg "_law_take"=true) (k26:PySem.W.keepIn K (.ref c0)=true)
  (a27:PySem.W.nsIn K mainGlobals "_law_names"=some (some (.ref bv)))
  (l27:K.lookup bv=some ⟨ml,js,.func (PySem.W.fnOf "_law_names" "_law_names" (j5 Z1) (i6 Z1) (e5 Z1) .none oe r6 hp u1 ef s8),gk⟩) (c27:PySem.W.codeIn K ef "_law_names"=true) (k27:PySem.W.keepIn K (.ref bv)=true)
  (a28:PySem.W.nsIn K mainGlobals "_law_overs"=some (some (.ref bn)))
  (l28:K.lookup bn=some ⟨me,jp,.func (PySem.W.fnOf "_law_overs" "_law_overs" (j5 eD) (i6 eD) (e5 eD) .none od r5 ho u0 ee s7),gj⟩) (c28:PySem.W.codeIn K ee "_law_overs"=true) (k28:PySem.W.keepIn K (.ref bn)=true)
  (a29:PySem.W.nsIn K mainGlobals "_law_small_curve"=some (some (.ref bm)))
  (l29:K.lookup bm=some ⟨md,j3,.func (PySem.W.fnOf "_law_small_curve" "_law_small_curve" (j5 T3) (i6 T3) (e5 T3) .none oc r4 hn tz ed s6),gi⟩) (c29:PySem.W.codeIn K ed "_law_small_curve"=true) (k29:PySem.W.keepIn K (.ref bm)=true)
  (a30:PySem.W.nsIn K mainGlobals "_law_lifted"=some (some (.ref bi)))
  (l30:K.lookup bi=some ⟨mc,j2,.func (PySem.W.fnOf "_law_lifted" "_law_lifted" (j5 Z5) (i6 Z5) (e5 Z5) .none o2 r3 hm tx ec s5),gc⟩) (c30:PySem.W.codeIn K ec "_law_lifted"=true) (k30:PySem.W.keepIn K (.ref bi)=true)
  (a31:PySem.W.nsIn K mainGlobals "_law_rest"=some (some (.ref bg)))
  (l31:K.lookup bg=some ⟨mb,j1,.func (PySem.W.fnOf "_law_rest" "_law_rest" (j5 bO) (i6 bO) (e5 bO) .none o1 r2 hk tv eb s4),g5⟩) (c31:PySem.W.codeIn K eb "_law_rest"=true) (k31:PySem.W.keepIn K (.ref bg)=true)
  (a32:PySem.W.nsIn K mainGlobals "_law_small_guards"=some (some (.ref b0)))
  (l32:K.lookup b0=some ⟨ma,j0,.func (PySem.W.fnOf "_law_small_guards" "_law_small_guards" (j5 Q7) (i6 Q7) (e5 Q7) .none o0 r1 hj tt ea s3),g3⟩) (c32:PySem.W.codeIn K ea "_law_small_guards"=true) (k32:PySem.W.keepIn K (.ref b0)=true)
  (a33:PySem.W.nsIn K mainGlobals "_law_small_loads"=some (some (.ref ap)))
  (l33:K.lookup ap=some ⟨m0,ix,.func (PySem.W.fnOf "_law_small_loads" "_law_small_loads" (j5 V7) (i6 V7) (e5 V7) .none ny r0 hi ts e8 s2),g2⟩) (c33:PySem.W.codeIn K e8 "_law_small_loads"=true) (k33:PySem.W.keepIn K (.ref ap)=true)
  (a34:PySem.W.nsIn K mainGlobals "_law_small_board"=some (some (.ref ao)))
  (l34:K.lookup ao=some ⟨ly,iv,.func (PySem.W.fnOf "_law_small_board" "_law_small_board" (j5 T4) (i6 T4) (e5 T4) .none nw qz hh tp e4 s1),g0⟩) (c34:PySem.W.codeIn K e4 "_law_small_board"=true) (k34:PySem.W.keepIn K (.ref ao)=true)
  (a35:PySem.W.nsIn K mainGlobals "_law_path"=some (some (.ref an)))
  (l35:K.lookup an=some ⟨lx,iu,.func (PySem.W.fnOf "_law_path" "_law_path" (j5 fw) (i6 fw) (e5 fw) .none nv qy hg to e3 s0),fy⟩) (c35:PySem.W.codeIn K e3 "_law_path"=true) (k35:PySem.W.keepIn K (.ref an)=true)
  (a36:PySem.W.nsIn K mainGlobals "_law_loud"=some (some (.ref am)))
  (l36:K.lookup am=some ⟨lw,it,.func (PySem.W.fnOf "_law_loud" "_law_loud" (j5 eh) (i6 eh) (e5 eh) .none np qs hf tn e2 rz),fx⟩) (c36:PySem.W.codeIn K e2 "_law_loud"=true) (k36:PySem.W.keepIn K (.ref am)=true)
  (a37:PySem.W.nsIn K mainGlobals "_law_turns"=some (some (.ref al)))
  (l37:K.lookup al=some ⟨lv,io,.func (PySem.W.fnOf "_law_turns" "_law_turns" (j5 cF) (i6 cF) (e5 cF) .none nn qq he tl e1 ry),fv⟩) (c37:PySem.W.codeIn K e1 "_law_turns"=true) (k37:PySem.W.keepIn K (.ref al)=true)
  (a38:PySem.W.nsIn K mainGlobals "_law_lack"=some (some (.ref ad)))
  (l38:K.lookup ad=some ⟨ln,im,.func (PySem.W.fnOf "_law_lack" "_law_lack" (j5 kM) (i6 kM) (e5 kM) .none nl qn hc ti e0 rx),ft⟩) (c38:PySem.W.codeIn K e0 "_law_lack"=true) (k38:PySem.W.keepIn K (.ref ad)=true)
  (a39:PySem.W.nsIn K mainGlobals "_law_due"=some (some (.ref ac)))
  (l39:K.lookup ac=some ⟨lm,il,.func (PySem.W.fnOf "_law_due" "_law_due" (j5 av) (i6 av) (e5 av) .none nk qd hb th dz rw),fp⟩) (c39:PySem.W.codeIn K dz "_law_due"=true) (k39:PySem.W.keepIn K (.ref ac)=true)
  (a40:PySem.W.nsIn K mainGlobals "law"=some (some (.ref fi)))
  (l40:K.lookup fi=some ⟨ll,ik,.func (PySem.W.fnOf "law" "law" (j5 V2) (i6 V2) (e5 V2) .none dv dx ds fc S dy),fo⟩) (c40:PySem.W.codeIn K S "law"=true) (k40:PySem.W.keepIn K (.ref fi)=true)
  {i:Addr}
  (xaNoPlace:PySem.W.nsIn K mainGlobals "NoPlace"=some (some (.ref i)))
  (xeNoPlace:PySem.W.excIn K i [.type "ValueError",.type "Exception",.type "BaseException",.type "object"] "ValueError.__new__"=true)
  (z1:PySem.W.nsIn K mainGlobals "len"=some none)
  (z2:PySem.W.nsIn K mainGlobals "isinstance"=some none)
  (z3:PySem.W.nsIn K mainGlobals "str"=some none)
  (z4:PySem.W.nsIn K mainGlobals "set"=some none)
  (z5:PySem.W.nsIn K mainGlobals "reversed"=some none)
  (z6:PySem.W.nsIn K mainGlobals "sorted"=some none)
  (z7:PySem.W.nsIn K mainGlobals "enumerate"=some none)
  (z8:PySem.W.nsIn K mainGlobals "range"=some none)
  (z9:PySem.W.nsIn K mainGlobals "int"=some none)
  (z10:PySem.W.nsIn K mainGlobals "list"=some none)
  (z11:PySem.W.nsIn K mainGlobals "tuple"=some none)
  (z12:PySem.W.nsIn K mainGlobals "dict"=some none)
  (z13:PySem.W.nsIn K mainGlobals "max"=some none)
  (z14:PySem.W.nsIn K mainGlobals "min"=some none) :
  ∃fd:FuncData,(∀(s:Shared) (v:Value),BindsTo s fd ⟨[v],[]⟩ [("_law_script",v)])/\∀base:Heap,K.In base->base.Ns mainGlobals mg->u6 l.prog w K mg base P6 8 fa fd ["_law_script"] (vB K):=by
 have e:=hfa.symm.trans (Ch X G a40)
 cases e
 have F1:=o4 (st:=X7) l1 c1 k1
 have b1:=F1.binds (ps:=["curve"]) fun _ _ _ _ _ _ a b=>match a,b with | [_],_=>rfl
 have m1:=Ch X G a1
 have F2:=o4 (st:=uW) l2 c2 k2
 have b2:=F2.binds (ps:=["curve","draw"]) fun _ _ _ _ _ _ a b=>match a,b with | [_,_],_=>rfl
 have m2:=Ch X G a2
 have F3:=o4 (st:=X3) l3 c3 k3
 have b3:=F3.binds (ps:=["curve","draw"]) fun _ _ _ _ _ _ a b=>match a,b with | [_,_],_=>rfl
 have m3:=Ch X G a3
 have F4:=o4 (st:=S8) l4 c4 k4
 have b4:=F4.binds (ps:=["rows"]) fun _ _ _ _ _ _ a b=>match a,b with | [_],_=>rfl
 have m4:=Ch X G a4
 have F5:=o4 (st:=Q8) l5 c5 k5
 have b5:=F5.binds (ps:=["board"]) fun _ _ _ _ _ _ a b=>match a,b with | [_],_=>rfl
 have m5:=Ch X G a5
 have F6:=o4 (st:=V6) l6 c6 k6
 have b6:=F6.binds (ps:=["board"]) fun _ _ _ _ _ _ a b=>match a,b with | [_],_=>rfl
 have m6:=Ch X G a6
 have F7:=o4 (st:=R0) l7 c7 k7
 have b7:=F7.binds (ps:=["board","thing"]) fun _ _ _ _ _ _ a b=>match a,b with | [_,_],_=>rfl
 have m7:=Ch X G a7
 have F8:=o4 (st:=X1) l8 c8 k8
 have b8:=F8.binds (ps:=["board","thing"]) fun _ _ _ _ _ _ a b=>match a,b with | [_,_],_=>rfl
 have m8:=Ch X G a8
 have F9:=o4 (st:=Q9) l9 c9 k9
 have b9:=F9.binds (ps:=["board","thing"]) fun _ _ _ _ _ _ a b=>match a,b with | [_,_],_=>rfl
 have m9:=Ch X G a9
 have ws:=o4 (st:=cA) l10 c10 k10
 have b10:=ws.binds (ps:=["guards","name"]) fun _ _ _ _ _ _ a b=>match a,b with | [_,_],_=>rfl
 have m10:=Ch X G a10
 have wr:=o4 (st:=gP) l11 c11 k11
 have b11:=wr.binds (ps:=["board","place"]) fun _ _ _ _ _ _ a b=>match a,b with | [_,_],_=>rfl
 have m11:=Ch X G a11
 have wp:=o4 (st:=N3) l12 c12 k12
 have b12:=wp.binds (ps:=["board","opened"]) fun _ _ _ _ _ _ a b=>match a,b with | [_,_],_=>rfl
 have m12:=Ch X G a12
 have wn:=o4 (st:=N4) l13 c13 k13
 have b13:=wn.binds (ps:=["board","lit","pulls"]) fun _ _ _ _ _ _ a b=>match a,b with | [_,_,_],_=>rfl
 have m13:=Ch X G a13
 have wl:=o4 (st:=dI) l14 c14 k14
 have b14:=wl.binds (ps:=["board","opened","pulls"]) fun _ _ _ _ _ _ a b=>match a,b with | [_,_,_],_=>rfl
 have m14:=Ch X G a14
 have wk:=o4 (st:=gX) l15 c15 k15
 have b15:=wk.binds (ps:=["board"]) fun _ _ _ _ _ _ a b=>match a,b with | [_],_=>rfl
 have m15:=Ch X G a15
 have wi:=o4 (st:=cw) l16 c16 k16
 have b16:=wi.binds (ps:=["board","found"]) fun _ _ _ _ _ _ a b=>match a,b with | [_,_],_=>rfl
 have m16:=Ch X G a16
 have wh:=o4 (st:=dQ) l17 c17 k17
 have b17:=wh.binds (ps:=["board"]) fun _ _ _ _ _ _ a b=>match a,b with | [_],_=>rfl
 have m17:=Ch X G a17
 have wf:=o4 (st:=M9) l18 c18 k18
 have b18:=wf.binds (ps:=["board"]) fun _ _ _ _ _ _ a b=>match a,b with | [_],_=>rfl
 have m18:=Ch X G a18
 have w9:=o4 (st:=Z9) l19 c19 k19
 have b19:=w9.binds (ps:=["board","place"]) fun _ _ _ _ _ _ a b=>match a,b with | [_,_],_=>rfl
 have m19:=Ch X G a19
 have w7:=o4 (st:=U5) l20 c20 k20
 have b20:=w7.binds (ps:=["way","most"]) fun _ _ _ _ _ _ a b=>match a,b with | [_,_],_=>rfl
 have m20:=Ch X G a20
 have w4:=o4 (st:=W6) l21 c21 k21
 have b21:=w4.binds (ps:=["way","greatness"]) fun _ _ _ _ _ _ a b=>match a,b with | [_,_],_=>rfl
 have m21:=Ch X G a21
 have w3:=o4 (st:=D0) l22 c22 k22
 have b22:=w3.binds (ps:=["way","at","most"]) fun _ _ _ _ _ _ a b=>match a,b with | [_,_,_],_=>rfl
 have m22:=Ch X G a22
 have w2:=o4 (st:=W2) l23 c23 k23
 have b23:=w2.binds (ps:=["board","most"]) fun _ _ _ _ _ _ a b=>match a,b with | [_,_],_=>rfl
 have m23:=Ch X G a23
 have w1:=o4 (st:=aW) l24 c24 k24
 have b24:=w1.binds (ps:=["_law_script","_law_k"]) fun _ _ _ _ _ _ a b=>match a,b with | [_,_],_=>rfl
 have m24:=Ch X G a24
 have w0:=o4 (st:=lA) l25 c25 k25
 have b25:=w0.binds (ps:=["_law_script","_law_k"]) fun _ _ _ _ _ _ a b=>match a,b with | [_,_],_=>rfl
 have m25:=Ch X G a25
 have vy:=o4 (st:=lq) l26 c26 k26
 have b26:=vy.binds (ps:=["_law_feed_here","_law_many"]) fun _ _ _ _ _ _ a b=>match a,b with | [_,_],_=>rfl
 have m26:=Ch X G a26
 have vx:=o4 (st:=Z1) l27 c27 k27
 have b27:=vx.binds (ps:=["_law_feed_here","_law_many"]) fun _ _ _ _ _ _ a b=>match a,b with | [_,_],_=>rfl
 have m27:=Ch X G a27
 have vv:=o4 (st:=eD) l28 c28 k28
 have b28:=vv.binds (ps:=["_law_board"]) fun _ _ _ _ _ _ a b=>match a,b with | [_],_=>rfl
 have m28:=Ch X G a28
 have vu:=o4 (st:=T3) l29 c29 k29
 have b29:=vu.binds (ps:=["_law_feed_here","_law_unit","_law_time"]) fun _ _ _ _ _ _ a b=>match a,b with | [_,_,_],_=>rfl
 have m29:=Ch X G a29
 have vr:=o4 (st:=Z5) l30 c30 k30
 have b30:=vr.binds (ps:=["_law_guard","_law_more"]) fun _ _ _ _ _ _ a b=>match a,b with | [_,_],_=>rfl
 have m30:=Ch X G a30
 have vp:=o4 (st:=bO) l31 c31 k31
 have b31:=vp.binds (ps:=["_law_board"]) fun _ _ _ _ _ _ a b=>match a,b with | [_],_=>rfl
 have m31:=Ch X G a31
 have vl:=o4 (st:=Q7) l32 c32 k32
 have b32:=vl.binds (ps:=["_law_script","_law_names_here","_law_unit","_law_time"]) fun _ _ _ _ _ _ a b=>match a,b with | [_,_,_,_],_=>rfl
 have m32:=Ch X G a32
 have vk:=o4 (st:=V7) l33 c33 k33
 have b33:=vk.binds (ps:=["_law_script","_law_names_here","_law_guards","_law_unit","_law_time"]) fun _ _ _ _ _ _ a b=>match a,b with | [_,_,_,_,_],_=>rfl
 have m33:=Ch X G a33
 have v9:=o4 (st:=T4) l34 c34 k34
 have b34:=v9.binds (ps:=["_law_script","_law_unit","_law_time"]) fun _ _ _ _ _ _ a b=>match a,b with | [_,_,_],_=>rfl
 have m34:=Ch X G a34
 have v8:=o4 (st:=fw) l35 c35 k35
 have b35:=v8.binds (ps:=["_law_board","_law_place"]) fun _ _ _ _ _ _ a b=>match a,b with | [_,_],_=>rfl
 have m35:=Ch X G a35
 have v7:=o4 (st:=eh) l36 c36 k36
 have b36:=v7.binds (ps:=["_law_board"]) fun _ _ _ _ _ _ a b=>match a,b with | [_],_=>rfl
 have m36:=Ch X G a36
 have v6:=o4 (st:=cF) l37 c37 k37
 have b37:=v6.binds (ps:=["_law_path_here","_law_at","_law_greatness"]) fun _ _ _ _ _ _ a b=>match a,b with | [_,_,_],_=>rfl
 have m37:=Ch X G a37
 have v5:=o4 (st:=kM) l38 c38 k38
 have b38:=v5.binds (ps:=["_law_path_here","_law_at","_law_greatness"]) fun _ _ _ _ _ _ a b=>match a,b with | [_,_,_],_=>rfl
 have m38:=Ch X G a38
 have v4:=o4 (st:=av) l39 c39 k39
 have b39:=v4.binds (ps:=["_law_board","_law_lower","_law_most"]) fun _ _ _ _ _ _ a b=>match a,b with | [_,_,_],_=>rfl
 have m39:=Ch X G a39
 have F40:=o4 (st:=V2) l40 c40 k40
 have q1:=P3 X G z1
 have q2:=P3 X G z2
 have q3:=P3 X G z3
 have q4:=P3 X G z4
 have q5:=P3 X G z5
 have q6:=P3 X G z6
 have q7:=P3 X G z7
 have q8:=P3 X G z8
 have q9:=P3 X G z9
 have xz:=P3 X G z10
 have ab:=P3 X G z11
 have ha:=P3 X G z12
 have xs:=P3 X G z13
 have xn:=P3 X G z14
 have fe:=Ch X G xaNoPlace
 refine⟨PySem.W.fnOf "law" "law" (j5 V2) (i6 V2) (e5 V2) .none dv dx ds fc S dy,fun s v=>.of_eq rfl,fun base KB GB=>?_⟩
 have Q:oD l.prog w K mg base f1 _:=⟨ym F1 sX yr,m1,k1,b1⟩
 have ww:Mv l.prog w K mg base f2 _:=⟨MI F2 q1 KG LP,m2,k2,b2⟩
 have C:qL l.prog w K mg base f3 _:=⟨xM F3 ww tq xb,m3,k3,b3⟩
 have j:gL l.prog w K mg base f4 _:=⟨xV F4 sR yw,m4,k4,b4⟩
 have d:dD l.prog w K mg base f5 _:=⟨sD F5 j qA rS,m5,k5,b5⟩
 have O:nK l.prog w K mg base f6 _:=⟨xA F6 j rO xr,m6,k6,b6⟩
 have y:ku l.prog w K mg base f7 _:=⟨rM F7 d q2 q3 nS tw,m7,k7,b7⟩
 have R:oj l.prog w K mg base f8 _:=⟨wO F8 O q2 q3 sk yz,m8,k8,b8⟩
 have x:kR l.prog w K mg base f9 _:=⟨tV F9 y R qQ rW,m9,k9,b9⟩
 have dl:Bc l.prog w K mg base d4 _:=⟨DP ws Az Gx,m10,k10,b10⟩
 have fk:IE l.prog w K mg base "over" 5 ["board","place"] (MX K mg eX) d3 _:=⟨JM wr x dl (PySem.W.Na KB GB xaNoPlace xeNoPlace) EO Jc,m11,k11,b11⟩
 have r:iI l.prog w K mg base d2 _:=⟨nu wp q4 mF oQ,m12,k12,b12⟩
 have z:lB l.prog w K mg base d1 _:=⟨rP wn q5 oY rQ,m13,k13,b13⟩
 have dk:Ay l.prog w K mg base d0 _:=⟨FU wl r z Ai Fi,m14,k14,b14⟩
 have T:Ar l.prog w K mg base cr _:=⟨KJ wk dk Ej Kk,m15,k15,b15⟩
 have dr:zx l.prog w K mg base cn _:=⟨Eh wi Q zA Ga,m16,k16,b16⟩
 have db:Cd l.prog w K mg base ck _:=⟨FY wh T dr Ab GA,m17,k17,b17⟩
 have q:gC l.prog w K mg base cj _:=⟨nG wf T db lZ oV,m18,k18,b18⟩
 have d5:yV l.prog w K mg base ci _:=⟨DW w9 fk q zi GR,m19,k19,b19⟩
 have U:vW l.prog w K mg base ch _:=⟨yT w7 q4 q6 yk BN,m20,k20,b20⟩
 have E:qV l.prog w K mg base cf _:=⟨yJ w4 C q7 uB xC,m21,k21,b21⟩
 have g:bx l.prog w K mg base ce _:=⟨iN w3 U E fB gS,m22,k22,b22⟩
 have M:rD l.prog w K mg base cd _:=⟨ya w2 d d5 g q1 q8 se xU,m23,k23,b23⟩
 have a0:vY l.prog w K mg base cc _:=⟨AK w1 q1 yK De,m24,k24,b24⟩
 have p:qJ l.prog w K mg base ca _:=⟨Kh w0 a0 FF JT,m25,k25,b25⟩
 have c:ia l.prog w K mg base c0 _:=⟨HW vy DQ Ih,m26,k26,b26⟩
 have d7:Bp l.prog w K mg base bv _:=⟨Ec vx c q9 xz q8 CS DO,m27,k27,b27⟩
 have B:uX l.prog w K mg base bn _:=⟨Eg vv Dm En,m28,k28,b28⟩
 have I:nX l.prog w K mg base bm _:=⟨xK vu c q8 ab rY wW,m29,k29,b29⟩
 have Y:vi l.prog w K mg base bi _:=⟨zW vr ab yp CZ,m30,k30,b30⟩
 have o:mB l.prog w K mg base bg _:=⟨DN vp B ha q9 AN FI,m31,k31,b31⟩
 have u:jS l.prog w K mg base b0 _:=⟨sv vl p c I q9 q1 q8 qh tD,m32,k32,b32⟩
 have H:pL l.prog w K mg base ap _:=⟨xZ vk p c q1 q8 ab tJ yq,m33,k33,b33⟩
 have J:pW l.prog w K mg base ao _:=⟨xx v9 p c d7 Y o u H ab um wU,m34,k34,b34⟩
 have fj:Hj l.prog w K mg base an _:=⟨KA v8 B o ha DX Ja,m35,k35,b35⟩
 have da:Ct l.prog w K mg base am _:=⟨Ez v7 o zS FZ,m36,k36,b36⟩
 have d6:Au l.prog w K mg base al _:=⟨Gs v6 q1 AU Fq,m37,k37,b37⟩
 have fl:Hx l.prog w K mg base ad _:=⟨JC v5 d6 Fx Ki,m38,k38,b38⟩
 have dd:Cj l.prog w K mg base ac _:=⟨GD v4 fj fl q1 xs q8 zw EK,m39,k39,b39⟩
 exact(DT F40 M p c J da dd q1 xn Ba ER).imp Jx
theorem walk{l:PySem.W.OpenLaw}{q:Program}{loose:UE}{XP:(UK)->Heap->Prop}{YP:World->Heap->Prop}{d:DefRec}{K:Params->UP}(hn:l.most=some 63)(hdf:d.params.defaults=[])
  (hY:∀(w:World) (h:Heap),YP w h->(K w.params).In h)
  (F:∀(w:World) (mg:UK) (fa:Addr) (h:Heap),(K w.params).In h->h.Ns mainGlobals mg->mg d.name=some (.ref fa) ->
   ∃fd:FuncData,(∀(s:Shared) (u:Value),BindsTo s fd ⟨[u],[]⟩ [("_law_script",u)])/\∀base:Heap,(K w.params).In base->base.Ns mainGlobals mg->u6 l.prog w (K w.params) mg base P6 8 fa fd ["_law_script"] (vB (K w.params))) :
  PySem.W.WalkO q loose XP YP l.row.toRowW d [] (fun f vs=>PySem.call f vs):=
 L2.El (n:=63) (k:=8) (x:="_law_script") (CX:=fun _=>P6) (sp:=fun w=>vB (K w.params)) hn (by decide) hdf ⟨rfl,by decide,by decide,rfl⟩ hY F (fun _ _ a ns hl _ hS=>⟨a,ns,rfl,hS,hl,fun _=>rfl⟩) fun _ _ _ _ _ z=>z
end My
end
open PySem PySem.W PyProof.Rows
set_option maxRecDepth 100000 in
set_option maxHeartbeats 0 in
theorem PySem.Challenge.cw_fuseboard_k49_pairs_by_each_greatness_holds : PySem.Challenge.rw_fuseboard_k49_pairs_by_each_greatness.Holds := by
 w_on;o_law;k_head;(case hw=>w_witness2)
 k_fill
 refine My.walk (l:=PySem.Challenge.rw_fuseboard_k49_pairs_by_each_greatness) rfl rfl (fun w h Y=>PySem.W.kIn_of Y) ?F
 case F=>
  intro w mg fa h KX G hmg
  refine' My.all_mk KX G hmg ?a1 ?l1 ?c1 ?k1 ?a2 ?l2 ?c2 ?k2 ?a3 ?l3 ?c3 ?k3 ?a4 ?l4 ?c4 ?k4 ?a5 ?l5 ?c5 ?k5 ?a6 ?l6 ?c6 ?k6 ?a7 ?l7 ?c7 ?k7 ?a8 ?l8 ?c8 ?k8 ?a9 ?l9 ?c9 ?k9 ?a10 ?l10 ?c10 ?k10 ?a11 ?l11 ?c11 ?k11 ?a12 ?l12 ?c12 ?k12 ?a13 ?l13 ?c13 ?k13 ?a14 ?l14 ?c14 ?k14 ?a15 ?l15 ?c15 ?k15 ?a16 ?l16 ?c16 ?k16 ?a17 ?l17 ?c17 ?k17 ?a18 ?l18 ?c18 ?k18 ?a19 ?l19 ?c19 ?k19 ?a20 ?l20 ?c20 ?k20 ?a21 ?l21 ?c21 ?k21 ?a22 ?l22 ?c22 ?k22 ?a23 ?l23 ?c23 ?k23 ?a24 ?l24 ?c24 ?k24 ?a25 ?l25 ?c25 ?k25 ?a26 ?l26 ?c26 ?k26 ?a27 ?l27 ?c27 ?k27 ?a28 ?l28 ?c28 ?k28 ?a29 ?l29 ?c29 ?k29 ?a30 ?l30 ?c30 ?k30 ?a31 ?l31 ?c31 ?k31 ?a32 ?l32 ?c32 ?k32 ?a33 ?l33 ?c33 ?k33 ?a34 ?l34 ?c34 ?k34 ?a35 ?l35 ?c35 ?k35 ?a36 ?l36 ?c36 ?k36 ?a37 ?l37 ?c37 ?k37 ?a38 ?l38 ?c38 ?k38 ?a39 ?l39 ?c39 ?k39 ?a40 ?l40 ?c40 ?k40 ?xaNoPlace ?xeNoPlace ?z1 ?z2 ?z3 ?z4 ?z5 ?z6 ?z7 ?z8 ?z9 ?z10 ?z11 ?z12 ?z13 ?z14
  (case a1|l1|c1|k1|a2|l2|c2|k2|a3|l3|c3|k3|a4|l4|c4|k4|a5|l5|c5|k5|a6|l6|c6|k6|a7|l7|c7|k7|a8|l8|c8|k8|a9|l9|c9|k9|a10|l10|c10|k10|a11|l11|c11|k11|a12|l12|c12|k12|a13|l13|c13|k13|a14|l14|c14|k14|a15|l15|c15|k15|a16|l16|c16|k16|a17|l17|c17|k17|a18|l18|c18|k18|a19|l19|c19|k19|a20|l20|c20|k20|a21|l21|c21|k21|a22|l22|c22|k22|a23|l23|c23|k23|a24|l24|c24|k24|a25|l25|c25|k25|a26|l26|c26|k26|a27|l27|c27|k27|a28|l28|c28|k28|a29|l29|c29|k29|a30|l30|c30|k30|a31|l31|c31|k31|a32|l32|c32|k32|a33|l33|c33|k33|a34|l34|c34|k34|a35|l35|c35|k35|a36|l36|c36|k36|a37|l37|c37|k37|a38|l38|c38|k38|a39|l39|c39|k39|a40|l40|c40|k40|xaNoPlace=>k_is)
  (case xeNoPlace=>first | kernel_rfl | k_qdec | decide +kernel)
  (case z1|z2|z3|z4|z5|z6|z7|z8|z9|z10|z11|z12|z13|z14=>k_is)
#print axioms PySem.Challenge.cw_fuseboard_k49_pairs_by_each_greatness_holds
