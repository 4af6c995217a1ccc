import PyProof.Rows.All
import Wide.All
import OpenK.AllK
import Wide.FinOn
import Lean
import PyProof.EqAt
import PyProof.EqKinds
import PyProof.TupleCall
import PyProof.NeKinds
import PyProof.WalksEnum
import PyProof.EnumMake
import PyProof.ZipIter
import PyProof.Draws
import PyProof.DictIter
import PyProof.DictWalks
import PyProof.Rows.DictUnroll
import PyProof.DictCompW
import PyProof.ReprRoads
import PyProof.ReprLen
import PyProof.P3Eq
import PyProof.Rows.FStr
import PyProof.Rows.StrSplitAre
import PyProof.Rows.StrItems
import PyProof.Rows.FStrParts
import KE.KIntText
import PyProof.StrWalks
import PyProof.MeetsStr
import PyProof.StationsW
import PyProof.Rows.TopTwo
import PyProof.RulesAs
import PyProof.RulesDel
import PyProof.ExcArgs
import OpenK.KOwn
import KE.KRevIter
import PyProof.Rows.StrLen
import PyProof.SliceStr2
import PyProof.StrBlockI
import KE.KDictOf
import PyProof.AttrMissSeq
import KE.KRevSl
import PyProof.Rows.SetFrom
import PyProof.WalksMore
import PyProof.SetRoads
import KE.KEqDict
import PyProof.Rows.SumAny
import PyProof.InstStore
import PyProof.InstStoreFacts
import KE.KDictList
import PyProof.Rows.SortWalk
import PyProof.SetKind
import PyProof.MinMaxWalk
import PyProof.Rows.ReprOcc
import PyProof.StrLawsTight
import PySem.Challenge.RW_fuseboard_k55_delays_of_the_board_have_n
set_option Elab.async false
set_option linter.all false
set_option genSizeOf false
set_option genSizeOfSpec false
set_option maxRecDepth 100000
abbrev YA:=List (PySem.Addr×PySem.Obj)
abbrev YB:=List (Option Nat)
abbrev YC:=List (PySem.Str×PySem.Addr)
abbrev YD:=List (PySem.Str×PySem.Value)
abbrev YE:=List PySem.Addr
abbrev YF:=List PySem.Str
abbrev YG:=List PySem.Value
abbrev YH:=List PySem.Expr
abbrev YI:=List Int
abbrev YJ:=List Nat
abbrev YK:=Array PySem.Value
abbrev YL:=PySem.Str->Option PySem.Value
abbrev YM:=List PySem.Stmt
abbrev YN:=PySem.Value->PySem.Shared->Prop
abbrev YO:=Nat->List PySem.Addr
abbrev YQ:=PySem.W.Frag
abbrev YR:=Option PySem.Value
abbrev YS:=Option Nat
abbrev dL:=@List.length_map
abbrev eH:=@PySem.wpAny_bind
abbrev hD:=@PySem.Heap.get?_push_of_some
abbrev hE:=@PySem.wpAny_pure
abbrev hH:=@List.mem_cons_of_mem
abbrev hQ:=@List.mem_cons_self
abbrev nA:=@List.getElem?_eq_getElem
abbrev oT:=@Nat.le_refl
abbrev sg:=@Classical.choose_spec
abbrev sj:=@List.getElem?_map
abbrev sw:=@List.mem_append_right
abbrev sK:=@Bool.false_ne_true
abbrev tt:=@List.mem_of_getElem?
abbrev tz:=@if_neg
abbrev t4:=@if_pos
abbrev t5:=@List.nodup_nil
abbrev t6:=@PySem.Heap.get?_push_size
abbrev t7:=@List.size_toArray
abbrev t8:=@List.map_cons
abbrev t9:=@PySem.Heap.lt_size
abbrev ud:=@List.append_nil
abbrev ue:=@List.getD_eq_getElem?_getD
abbrev uk:=@List.length_append
abbrev ux:=@List.length_range
abbrev uy:=@decide_eq_true
abbrev u0:=@Array.length_toList
abbrev u8:=@Nat.ne_of_lt
abbrev va:=@List.nil_append
abbrev vb:=@List.map_append
abbrev vc:=@Bool.and_eq_true
abbrev vr:=@List.mem_append_left
abbrev vu:=@List.map_map
abbrev vv:=@PySem.PassesOwn.never
abbrev vy:=@PySem.wpAny_newObj_type
abbrev v1:=@Nat.le_of_ble_eq_true
abbrev v2:=@List.getElem?_append_left
abbrev v3:=@Nat.lt_of_lt_of_le
abbrev v4:=@List.length_take
abbrev v5:=@decide_eq_false
abbrev v6:=@List.append_assoc
abbrev v7:=@List.getElem?_set_self
abbrev v8:=@Int.mul_le_mul_of_nonneg_right
abbrev v9:=@Nat.zero_le
abbrev wf:=@List.length_cons
abbrev wh:=@Option.some.inj
abbrev wl:=@List.take_add_one
abbrev wn:=@Array.getElem?_eq_getElem
abbrev wr:=@List.getElem?_set_ne
abbrev ww:=@List.getElem?_cons_succ
abbrev wE:=@PySem.wpAny_mono
abbrev wP:=@List.take_length
abbrev wS:=@List.find?_cons
abbrev wT:=@PySem.Obj.data_mapFields
abbrev xi:=@List.getElem?_of_mem
abbrev xz:=@PySem.F.plainAttrs_list
abbrev xL:=@PySem.W.mg_none_of
abbrev x0:=@Array.getD_eq_getD_getElem?
abbrev z0:=@of_decide_eq_true
abbrev At:=@Int.emod_lt_of_pos
abbrev AC:=@Nat.le_trans
abbrev AT:=@List.drop_eq_getElem_cons
abbrev A1:=@PySem.Heap.get?_update_self
abbrev Bi:=@List.lookup_cons
abbrev BB:=@PySem.wpAny_holding
abbrev Ch:=@PySem.wpAny_call_entry
abbrev C2:=@List.length_singleton
abbrev Da:=@PyProof.Rows.F.plain_set_update_loop
abbrev Db:=@List.getElem?_append_right
abbrev Do:=@PySem.Heap.SameBut.update
abbrev EQ:=@PySem.wpAny_callSpecial?_slot
abbrev Fa:=@Int.emod_nonneg
abbrev Fk:=@PySem.Around.under_plainId
abbrev FB:=@List.getElem?_take_of_lt
abbrev FM:=@List.length_reverse
abbrev FS:=@Int.toNat_natCast
abbrev Gc:=@PyProof.Rows.boot_tuple
abbrev Go:=@PyProof.Rows.slot_tuple_getitem
abbrev GM:=@congrArg
abbrev Ix:=@List.length_set
abbrev IN:=@Ne.symm
abbrev IR:=@Nat.le_of_lt
abbrev KF:=@PySem.Heap.size_push
abbrev KM:=@decide_eq_true_eq
abbrev No:=@PySem.W.kia_one
abbrev NE:=@PySem.builtinLookup_eq_fast
abbrev On:=@List.pairwise_singleton
abbrev Op:=@PySem.codeAny_builtin
abbrev Os:=@List.mem_cons
abbrev OV:=@Nat.lt_succ_of_lt
abbrev Ps:=@List.replicate_succ
abbrev Pv:=@List.map_congr_left
abbrev PP:=@PySem.wpAny_standAt
abbrev P3:=@List.mem_or_eq_of_mem_set
abbrev Re:=@List.filter_cons
abbrev Rl:=@List.sum_cons
abbrev Rs:=@PySem.boot_len
abbrev Sc:=@PySem.Obj.isFreed_of_fields
abbrev SC:=@PySem.sizeLine_eq
abbrev SL:=@PySem.isSubtype_type
abbrev SZ:=@PyProof.Rows.F.entry_set_update_loop
abbrev Tk:=@List.sublist_cons_self
abbrev Tl:=@List.length_drop
abbrev TD:=@PySem.F.slot_dict_get
abbrev TW:=@List.getElem?_eq_none
abbrev T0:=@Array.getElem?_toList
abbrev Uf:=@PySem.Heap.get?_update_other
abbrev UF:=@List.foldl_cons
abbrev UV:=@PySem.wpAny_setField
abbrev VP:=@List.getElem?_inj
abbrev VQ:=@Int.le_refl
abbrev VR:=@List.any_cons
abbrev VS:=@PySem.typeLookup_type
abbrev VT:=@PySem.mem_of_lookup
abbrev VU:=@PySem.wpAny_setState_of
abbrev VV:=@PySem.wpAny_of_eq
abbrev VW:=@PySem.wpAny_field
abbrev VX:=@List.getElem_mem
abbrev VY:=@PySem.wpAny_comprehension_free
abbrev VZ:=@PySem.plainId_quiet
abbrev Wa:=@Sum.inr.inj
abbrev Wb:=@of_decide_eq_false
abbrev Wc:=@Nat.le_of_eq
abbrev Wd:=@List.take_of_length_le
abbrev We:=@List.all_cons
abbrev Wf:=@List.take_append_drop
abbrev Wg:=@List.length_replicate
abbrev Wh:=@PyProof.Rows.callWith_type1
abbrev Wi:=@List.take_sublist
abbrev Wj:=@List.pairwise_map
abbrev Wk:=@List.foldl_append
abbrev Wl:=@List.flatten_cons
abbrev Wm:=@List.Sublist.refl
abbrev Wn:=@PySem.wpAny_passesOwn
abbrev Wo:=@Nat.lt_succ_self
abbrev Wp:=@List.not_mem_nil
abbrev Wq:=@List.map_reverse
abbrev Wr:=@List.drop_length
abbrev Ws:=@List.all_eq_true
abbrev Wt:=@List.mem_of_find?_eq_some
abbrev Wu:=@List.filterMap_cons
abbrev Wv:=@Nat.not_lt_zero
abbrev Ww:=@Bool.false_eq_true
abbrev Wx:=@PySem.F.args_dict_get_3
abbrev Wy:=@PySem.wpAny_setEntries_of
abbrev Wz:=@PySem.wpAny_attempt
abbrev WA:=@PySem.F.entry_dict_get
abbrev WB:=@Nat.ne_of_gt
abbrev WC:=@List.reverse_cons
abbrev WD:=@List.flatMap_cons
abbrev WE:=@List.any_eq_false
abbrev WF:=@Int.mul_nonneg
abbrev WG:=@Array.getElem?_eq_none
abbrev WH:=@PySem.wpAny_specialOf
abbrev WI:=@PySem.wpAny_rule
abbrev WJ:=@PySem.wpAny_Call_Name_kw
abbrev WK:=@PySem.tupleKind_room_in1
abbrev WL:=@PySem.Calls.spliced_cons
abbrev WM:=@PyProof.Rows.boot_max
abbrev WN:=@Nat.lt_irrefl
abbrev WO:=@PySem.wpAny_typeOf
abbrev WP:=@PySem.wpAny_truthy_bool
abbrev WQ:=@PySem.wpAny_pyIter_list
abbrev WR:=@List.sum_append
abbrev WS:=@List.getElem_of_mem
abbrev WT:=@PySem.wpAny_isInstance
abbrev WU:=@Nat.sub_self
abbrev WV:=@Int.zero_mul
abbrev WW:=@if_false
abbrev WX:=@Nat.lt_of_le_of_lt
abbrev WY:=@List.getElem_range
abbrev WZ:=@List.sublist_append_right
abbrev W1:=@Option.isSome_map
abbrev Xa:=@PySem.codeAny_mono
abbrev Xb:=@PySem.F.args_tuple_add_2
abbrev Xc:=@List.sublist_append_left
abbrev Xd:=@PySem.F.entry_tuple_add
abbrev Xe:=@Nat.zero_lt_succ
abbrev Xf:=@List.nil_sublist
abbrev Xg:=@if_true
abbrev Xh:=@PySem.F.slot_tuple_add
abbrev Xi:=@List.map_nil
abbrev Xj:=@List.flatMap_singleton
abbrev Xk:=@Int.add_zero
abbrev Xl:=@PySem.wpAny_assign_Name
abbrev Xm:=@PySem.Obj.cls_mapFields
abbrev Xn:=@Bool.or_eq_true
abbrev Xo:=@Bool.eq_iff_iff
abbrev Xp:=@PyProof.Rows.boot_int
abbrev Xq:=@List.length_filter_le
abbrev Xr:=@List.getElem?_reverse
abbrev Xs:=@PySem.wpAny_askSetting
abbrev Xt:=@List.find?_map
abbrev Xu:=@PySem.meets_dict_get_default
abbrev Xv:=@List.getElem?_range
abbrev Xw:=@List.flatMap_append
abbrev Xx:=@PySem.Calls.callWith_builtin
abbrev Xy:=@PySem.wpAny_execs_nil
abbrev Xz:=@PySem.codeAny_of_tree
abbrev XA:=@PySem.exec_Assign_Name_used
abbrev XB:=@PySem.wpAny_runValue
abbrev XC:=@PySem.wpAny_newFunctionEnv
abbrev XD:=@PySem.wpAny_fieldsOf
abbrev XE:=@or_false
abbrev XF:=@String.splitOnAux
abbrev XG:=@List.map_id'
abbrev XH:=@List.ext_getElem?
abbrev XI:=@List.any_map
abbrev XJ:=@Int.le_trans
abbrev XM:=@Iff.rfl
abbrev XO:=@PySem.Calls.evalArgs_plain
abbrev XQ:=@Nat.succ_le_succ
abbrev XR:=@Nat.le_of_not_lt
abbrev XT:=@List.any_eq_true
abbrev XU:=@PySem.signature?_of
abbrev XV:=@PySem.evalPart_none
abbrev XW:=@PySem.Paired.length
abbrev XX:=@Nat.le_succ
abbrev XY:=@Int.add_mul
abbrev XZ:=@PySem.wpAny_pyIter_tuple
abbrev Ya:=@PyProof.Rows.boot_isinstance
abbrev Yb:=@List.range_succ
abbrev Yc:=@List.of_mem_zip
abbrev Yd:=@List.mem_append
abbrev Ye:=@PySem.Heap.IsSliceOf.new
abbrev Yf:=@PySem.wpAny_setEpoch_of
abbrev Yg:=@PySem.wpAny_sequenceKey
abbrev Yh:=@PySem.wpAny_pyIter_slot
abbrev Yi:=@or_congr
abbrev Yj:=@PySem.concat_meets
abbrev Yk:=@PySem.codeAny_loop
abbrev Yl:=@PySem.call_meetsIn
abbrev Ym:=@PyProof.Rows.boot_reversed
abbrev Yn:=@List.length_eraseIdx_of_lt
abbrev Yo:=@Int.mul_le_mul
abbrev Yp:=@PySem.Calls.spliced_nil
abbrev Yq:=@Bool.false_and
noncomputable section
namespace PySem.W.Fast
def tw16244174807644530113:=()
def tw10998100121990512626:=()
def tw9204135539310337335:=()
def tw7162817517085924373:=()
def tw10657267293443219440:=()
def tw4290745395647512036:=()
def tw17066484376648279421:=()
def tw8504899545464035568:=()
def tw12267650585862512458:=()
def tw9528493753424534132:=()
def tw1742686178619099841:=()
def tw9327083094267231394:=()
def tw9005516605613195272:=()
def tw10762126278003680448:=()
def tw2275824842904633116:=()
def tw13648343256531516262:=()
def tw1462219983648811440:=()
def tw12974661124020818459:=()
def tw5075195485880547108:=()
def tw8410928097967679146:=()
def tw5809104273917384800:=()
def tw6360918499771870539:=()
def tw17324305783793082939:=()
def tw12031275432189977402:=()
def tw13896759743784640688:=()
def tw7854551063966996422:=()
def tw7029890945810830350:=()
def tw5051867007253193551:=()
def tw15055690405370801770:=()
def tw12589297789616449177:=()
def tw7993056767688226672:=()
def tw3271834223688593117:=()
def tw4423688444481190811:=()
def tw11496190193211040670:=()
def tw9937279422174149278:=()
def tw12260990517382096589:=()
def tw16289500887344147242:=()
def tw16062024518176662017:=()
def tw9455804496633038308:=()
def tw17965395494274770435:=()
def tw16527641652345771876:=()
def tw17291366398901650382:=()
def tw372515721792785671:=()
def tw1121400300158734237:=()
def tw10332069637880103807:=()
def tw11565216194022637006:=()
def tw4179918997655096416:=()
def tw1731064319461576991:=()
def tw377087606732201564:=()
def tw9121087538073246252:=()
def tw13532444369032718958:=()
def tw15085909984335312254:=()
def tw8934197152580832734:=()
def tw17097015495322080295:=()
def tw5694301071590280923:=()
def tw17684833129525375166:=()
def tw3473575273283506143:=()
def tw2662104285023158236:=()
def tw11762271508813943637:=()
def tw15341046203309177006:=()
def tw4995510985307076425:=()
def tw6751515793010831654:=()
def tw3572936119544592846:=()
def tw9123594001683537773:=()
def tw16080982497839023672:=()
def tw8928100431494559141:=()
def tw5516552720606115215:=()
def tw16273587471709266629:=()
def tw15103227904252921692:=()
def tw9928680336607746811:=()
def tw4407313304282139405:=()
def tw1519892705314984065:=()
def tw4057235192222282451:=()
def tw2957875920146547322:=()
def tw10505300365647081726:=()
def tw1297768446596938068:=()
def tw8042313554689443212:=()
def tw10251319052779894582:=()
def tw7670289902013508953:=()
def tw1078163336828586648:=()
def tw12110843760115638821:=()
def tw12563298528890993686:=()
def tw17449449435390552435:=()
def tw7641235432167019144:=()
def tw8996002873298519830:=()
def tw7443762939448346722:=()
def tw11578628290598241791:=()
def tw18049162422347149553:=()
def tw9571618947299090391:=()
def tw348516878109905600:=()
def tw10409890360079297330:=()
def tw743766621860201784:=()
def tw5305944959616229189:=()
def tw8692089220867915273:=()
def tw149258523698219373:=()
def tw11581428467123426889:=()
def tw6093568464065065244:=()
def tw16860644037767024369:=()
def tw8237737868115981254:=()
def tw4320350470667845884:=()
def tw9389372946328685799:=()
def tw5574345218377061477:=()
def tw18355068886981651460:=()
def tw13547760866752800595:=()
def tw446548319571515376:=()
def tw3903285883328982708:=()
def tw9103284277867731495:=()
def tw1342714112120907521:=()
def tw8768966500391107635:=()
def tw8068653623118865484:=()
def tw2757949557800657815:=()
def tw8752196788923123842:=()
def tw11254579708077794676:=()
def tw6737517290080044564:=()
def tw1813537927407463800:=()
def tw13231422667081745084:=()
def tw10043517495024978239:=()
def tw2592390160607431014:=()
def tw2775393512712133782:=()
def tw585078071999673514:=()
def tw11900917546725748558:=()
def tw1927464651696041019:=()
def tw12542567436721881670:=()
def tw11111418691338918594:=()
def tw15230525335903896429:=()
def tw15499161913877607577:=()
def tw8617343873188135845:=()
def tw2981077843815399138:=()
def tw951487733425837358:=()
def tw7583368625314381767:=()
def tw2139683108652116010:=()
def tw3753912905851272351:=()
def tw16787398712977715787:=()
def tw16861580975085943666:=()
def tw13033126045655253973:=()
def tw15497998332118037058:=()
def tw8362150856652648884:=()
def tw13150276373311779921:=()
def tw9376902965173077167:=()
def tw12668729213852178839:=()
def tw8835932660821550983:=()
def tw2948244741272237392:=()
def tw9671014319828730897:=()
def tw4767506360388378168:=()
def tw7390623759608768412:=()
def tw15700484239906056431:=()
def tw10939739215090259719:=()
def tw7133906620056355183:=()
def tw10192749689885443548:=()
def tw928309614644919246:=()
def tw90006204858028736:=()
def tw15845430519982134059:=()
def tw2915402590778767681:=()
def tw16939104977722555183:=()
def tw8077503504563887230:=()
def tw118236599205257964:=()
def tw918466656169697591:=()
def tw1577499565790139226:=()
def tw1992465654846829832:=()
def tw6113931545079281126:=()
def tw11365952908326896001:=()
def tw8229909418378166366:=()
def tw12630181704743217519:=()
def tw16375215935750655538:=()
def tw15597868439600183654:=()
def tw11372688649234349895:=()
def tw9121354807142185017:=()
def tw1896345374728919786:=()
def tw9012882318118432078:=()
def tw835636048853685837:=()
def tw4205807780623236252:=()
def tw7428696202542535770:=()
def tw10366318050780352920:=()
def tw2116104595776473624:=()
def tw10476859006595935250:=()
def tw17225418572090811127:=()
def tw15627733342883969229:=()
def tw4319647099698312742:=()
def tw11124361061788555478:=()
def tw6778853502511307993:=()
def tw7053685324580992103:=()
def tw11115227011503275931:=()
def tw12649920567930512869:=()
def tw17566394271511420249:=()
def tw9223670124596910020:=()
def tw12037751068503145312:=()
def tw11658595533558730771:=()
def tw5521870787618683792:=()
def tw851070186763608016:=()
def tw16599605826669405622:=()
def tw11787258690733714767:=()
def tw630756540795813876:=()
def tw3211418604918805185:=()
def tw9309194173321972279:=()
def tw12734952654568348853:=()
def tw11332826927722768722:=()
def tw10157455017527034890:=()
def tw1293863735278278690:=()
def tw11100701941943729071:=()
def tw12075679862789455671:=()
def tw7167927271153699722:=()
def tw502451575648256404:=()
def tw2492008766318604590:=()
def tw7215139728469398398:=()
def tw3640878912961080884:=()
def tw7170503365723410970:=()
def tw16639161147646875399:=()
def tw14022074014174464611:=()
def tw4477185592937335248:=()
def tw1975969175793364805:=()
def tw8789061750769501735:=()
def tw12700430314146318300:=()
def tw6752688855478859256:=()
def tw8832441425971266113:=()
def tw9534173652861743496:=()
def tw6015400573540940261:=()
def tw13954950761218760219:=()
def tw6408908459859960226:=()
def tw3980242143640969650:=()
def tw8457679801948866980:=()
def tw13098477632013373510:=()
def tw9497418040220562014:=()
def tw13361576693883001522:=()
def tw14725527916633474025:=()
def tw16214827423633435983:=()
def tw5286290158918285309:=()
def tw5665988164619778883:=()
def tw16523407680158501896:=()
def tw6214131413286903201:=()
def tw9086867974023764954:=()
def tw15707792209190548359:=()
def tw12640137457722413264:=()
def tw1580915133189206060:=()
def tw6820158524216662562:=()
def tw14903986064667657128:=()
def tw14516761556907015702:=()
def tw5934989804660098561:=()
def tw5072596466661301308:=()
def tw16789893229947086582:=()
def tw5285161054868514347:=()
def tw12355958111969309991:=()
def tw9461024017952118965:=()
def tw3544323904182826334:=()
def tw16883006556375726799:=()
def tw4002735456519588338:=()
def tw426623824638578920:=()
def tw9161548233853502042:=()
def tw6595341484455564539:=()
def tw13434114212881746831:=()
def tw6327876177409261766:=()
def tw9536818854195147988:=()
def tw7843164621574799495:=()
def tw16946840841140486671:=()
def tw10472686847503298565:=()
def tw11065884873866147157:=()
def tw14217989524375817389:=()
def tw17381468087888360400:=()
def tw1801837209717423937:=()
def tw628796728272929553:=()
def tw17456743786361238382:=()
def tw13133095357632307815:=()
def tw10688406517452785063:=()
def tw7822926596336675590:=()
def tw14363751192254549849:=()
def tw14605533955475896954:=()
def tw16198712892678750975:=()
def tw14916639420879110851:=()
def tw8881241807718653744:=()
def tw3507721620715956211:=()
def tw6734267994203045221:=()
def tw9204141323981860963:=()
def tw5987181163623979461:=()
def tw258209312772256603:=()
def tw4241633808120355309:=()
def tw16454680325308170677:=()
def tw11263389848425003408:=()
def tw8092053551914599985:=()
def tw8890567544487137411:=()
def tw9034303677748254744:=()
def tw10146803091149225242:=()
def tw6119903279181579946:=()
def tw1010128011343117006:=()
def tw2694366731594206822:=()
def tw7231526120651409115:=()
def tw1999577758216188631:=()
def tw17373518708314756143:=()
def tw15984983273764802085:=()
def tw1667308406124377682:=()
def tw16747203917766638622:=()
def tw6582099103710169409:=()
def tw356724596804012100:=()
def tw17858804118015668032:=()
def tw14734917824119586484:=()
def tw18379059744662115833:=()
def tw15227768585482974282:=()
def tw16941173125793413679:=()
def tw12799274145786225086:=()
def tw12813176614366953429:=()
def tw9101082291403483675:=()
def tw17720027037374265462:=()
def tw10706035211155068729:=()
def tw6975624549216270701:=()
def tw7267730087199354407:=()
def tw16527644633847174178:=()
def tw16887839140368191037:=()
def tw2579712947280840486:=()
def tw14711790274012641933:=()
def tw15932598414738398657:=()
def tw3216747678406977569:=()
def tw4796365617736770368:=()
def tw690087452567896672:=()
def tw7206201402259559262:=()
def tw15969023762641388200:=()
def tw17244821196913613845:=()
def tw13759098665807756112:=()
def tw16005290283792291099:=()
def tw8352914580637701862:=()
def tw2594363701245696665:=()
def tw15881223026072478066:=()
def tw7893829717347524583:=()
def tw10255638932823306620:=()
def tw14693895564894660642:=()
def tw6742306619340133080:=()
def tw14870194300406269491:=()
def tw2854567694640647413:=()
def tw2751789429627698369:=()
def tw8019345809526864671:=()
def tw13719965332653862067:=()
def tw2332347838478246908:=()
def tw8864183911230085778:=()
def tw16239574694146015673:=()
def tw8474040426565233543:=()
def tw10318123127837190983:=()
def tw15596744262012797611:=()
def tw18290963764747463050:=()
def tw11713313404017424887:=()
def tw9909111946979761244:=()
def tw17287317029688449676:=()
def tw18440108268864895072:=()
def tw16604133556214275186:=()
def tw13717195471460204675:=()
def tw1430328148831213865:=()
def tw9627072535638270865:=()
def tw9187880964811127468:=()
def tw13897785076517483748:=()
def tw2685299175557793383:=()
def tw17987177584152365940:=()
def tw16793156549049054465:=()
def tw11970454505627309625:=()
def tw1986680827982156611:=()
def tw4553346387596855073:=()
def tw11409573340888104571:=()
def tw6172673356730949668:=()
def tw11094468211685992321:=()
def tw16915662455465130795:=()
def tw4702471985827720764:=()
def tw6771342046040712773:=()
def tw232997882933646294:=()
def tw385260687106635130:=()
end PySem.W.Fast
namespace L2
open PySem PySem.Spec PyProof.Rows
abbrev Key:=Sum Int Str
def bb:Key->Value->Bool
 | .inl k,v=>Value.isInt k v
 | .inr x,v=>Value.isStrOf x v
def SG(w:World):Key->Int
 | .inl k=>hashInt k
 | .inr x=>hashStr w x
theorem o7:∀{k:Key} {v:Value},bb k v=true->(∃i t,k=Sum.inl i/\v=Value.int i t)\/(∃x t,k=Sum.inr x/\v=Value.str x t)
 | .inl i,v,h=>by
  obtain⟨t,e⟩:=Value.isInt_shape   h;exact .inl ⟨i,t,rfl,e⟩
 | .inr x,v,h=>by
  obtain⟨t,e⟩:=Value.isStrOf_shape   h;exact .inr ⟨x,t,rfl,e⟩
theorem nr(i:Int)(t:Tok):bb (.inl i) (.int i t)=true:=by simp[bb,Value.isInt]
theorem Aw(x:Str)(t:Tok):bb (.inr x) (.str x t)=true:=by simp[bb,Value.isStrOf]
theorem Nz(a b:Int):decide ((Sum.inl a:Key)=Sum.inl b)=(a == b):=by
 by_cases e:a=b
 ·subst e;simp
 ·have h:¬(Sum.inl a:Key)=Sum.inl b:=λq=>e (Sum.inl.inj q);rw[v5 h];exact(beq_eq_false_iff_ne.mpr e).symm
theorem Of(a b:Str):decide ((Sum.inr a:Key)=Sum.inr b)=decide (a=b):=by
 by_cases e:a=b
 ·simp
 ·have h:¬(Sum.inr a:Key)=Sum.inr b:=λq=>e (Wa q);rw[v5 h,v5 e]
theorem MS(a:Int)(b:Str):decide ((Sum.inl a:Key)=Sum.inr b)=false:=v5 (λq=>nomatch q)
theorem Ng(a:Str)(b:Int):decide ((Sum.inr a:Key)=Sum.inl b)=false:=v5 (λq=>nomatch q)
def l3(prog:Program)(w:World):PySem.KeyKind prog w Key where
 is:=bb
 hash:=SG w
 inj:=λv a b o g=>by
  rcases o7 o with⟨i,t,rfl,rfl⟩ | ⟨x,t,rfl,rfl⟩
  ·rcases o7 g with⟨j,u,rfl,e⟩ | ⟨y,u,rfl,e⟩
   ·injection e with c _;rw[c]
   ·exact nomatch e
  ·rcases o7 g with⟨j,u,rfl,e⟩ | ⟨y,u,rfl,e⟩
   ·exact nomatch e
   ·injection e with c _;rw[c]
 byValue:=λk v h=>by
  rcases o7 h with⟨i,t,rfl,rfl⟩ | ⟨x,t,rfl,rfl⟩<;>rfl
 pyHash:=λd h=>by
  rcases o7 d with⟨i,t,rfl,rfl⟩ | ⟨x,t,rfl,rfl⟩
  ·exact wpAny_pyHash_int h
  ·exact wpAny_pyHash_str h
 eqBool:=λl d h=>by
  rcases o7 l with⟨i,t,rfl,rfl⟩ | ⟨x,t,rfl,rfl⟩
  ·rcases o7 d with⟨j,u,rfl,rfl⟩ | ⟨y,u,rfl,rfl⟩
   ·rw[Nz] at h;exact wpAny_eqBool_int h
   ·exact SeqAt.EqAt.int_str i t y u _ _ _ _ h
  ·rcases o7 d with⟨j,u,rfl,rfl⟩ | ⟨y,u,rfl,rfl⟩
   ·exact SeqAt.EqAt.str_int x t j u _ _ _ _ h
   ·rw[Of] at h;exact wpAny_eqBool_str h
 «strs»:=λk x t v h=>by
  rcases o7 h with⟨i,u,rfl,e⟩ | ⟨y,u,rfl,e⟩
  ·exact nomatch e
  ·injection e with c _
   subst c;cases v<;>rfl
theorem tU(prog:Program)(w:World)(i:Int)(t:Tok):(l3 prog w).is (.inl i) (.int i t)=true:=nr i t
theorem tq(prog:Program)(w:World)(x:Str)(t:Tok):(l3 prog w).is (.inr x) (.str x t)=true:=Aw x t
theorem uo{E:YN}(h:Q 0xFCA86420 { s with toks:=s.toks+1 }):wpAny (model prog w) A (pyHash .none) Q E s:=by
 have a:s.TypeIs .none "NoneType":=rfl;refine eH ?_;refine hE (eH (WH a F.slot_NoneType_hash.lookup ?_));refine eH (WH a F.slot_NoneType_hash.lookup ?_);refine eH (wpAny_callSpecialIfBoundUnlessNone?_slot a F.slot_NoneType_hash
  (Ch F.slot_NoneType_hash a F.entry_NoneType_hash
   (wpAny_ret_mkInt ?_) (F.args_NoneType_hash_1 _)))
 show wpAny _ _ (if (decide (-2^63<=0xFCA86420)&&decide ((0xFCA86420:Int)<2^63))=true then _ else _) Q E _;exact hE h
abbrev L5:=Option Key
def iX:L5->Value->Bool
 | some k,v=>bb k v
 | none,v=>v == .none
def QM(w:World):L5->Int
 | some k=>SG w k
 | none=>0xFCA86420
theorem B8(h:iX none v=true):v=.none:=eq_of_beq h
def bw(prog:Program)(w:World):PySem.KeyKind prog w L5 where
 is:=iX
 hash:=QM w
 inj:=λv a b o l=>by
  cases a with
  | none=>
   cases b with
   | none=>rfl
   | some k=>
    have e:=B8 o;subst e;rcases o7 l with⟨i,t,rfl,e⟩ | ⟨x,t,rfl,e⟩<;>cases e
  | some k=>
   cases b with
   | none=>
    have e:=B8 l;subst e;rcases o7 o with⟨i,t,rfl,e⟩ | ⟨x,t,rfl,e⟩<;>cases e
   | some d=>rw[(l3 prog w).inj v k d o l]
 byValue:=λk v h=>by
  cases k with
  | none=>rw[B8 h];rfl
  | some k=>exact(l3 prog w).byValue k v h
 pyHash:=λ{A E s k v Q} c h=>by
  cases k with
  | none=>rw[B8 c];exact uo h
  | some k=>exact(l3 prog w).pyHash c h
 eqBool:=λ{A E s a b u v Q} j c h=>by
  cases a with
  | none=>
   have e:=B8 j;subst e
   cases b with
   | none=>
    have e:=B8 c;subst e;exact SeqAt.EqAt.same _ _ _ _ _ (by simpa using h)
   | some k=>
    have g:Q false s:=by simpa using h
    rcases o7 c with⟨i,t,rfl,rfl⟩ | ⟨x,t,rfl,rfl⟩
    ·exact SeqAt.EqAt.none_int i t _ _ _ _ g
    ·exact SeqAt.EqAt.none_str x t _ _ _ _ g
  | some k=>
   cases b with
   | none=>
    have e:=B8 c;subst e;have g:Q false s:=by simpa using h
    rcases o7 j with⟨i,t,rfl,rfl⟩ | ⟨x,t,rfl,rfl⟩
    ·exact SeqAt.EqAt.int_none i t _ _ _ _ g
    ·exact SeqAt.EqAt.str_none x t _ _ _ _ g
   | some d=>
    refine(l3 prog w).eqBool j c ?_
    have e:decide ((some k:L5)=some d)=decide (k=d):=by
     by_cases e:k=d
     ·subst e;simp
     ·rw[v5 e,v5 λq=>e (wh q)]
    rwa [e] at h
 «strs»:=λk x t v h=>by
  cases k with
  | none=>cases B8 h
  | some k=>exact(l3 prog w).strs k x t v h
inductive V where
 | p3 | bl (b:Bool) | int (i:Int) | str (x:Str) | byt (b:Array UInt8) | flt (b:UInt64) | ref (a:Addr) | ty (n:String)
 deriving DecidableEq
def RelV:V->Value->Prop
 | .p3,u=>u=Value.none
 | .bl b,u=>u=Value.bool b
 | .int i,u=>∃t,u=Value.int i t
 | .str x,u=>∃t,u=Value.str x t
 | .byt b,u=>∃t,u=Value.bytes b t
 | .flt b,u=>∃t,u=Value.float b t
 | .ref a,u=>u=Value.ref a
 | .ty n,u=>u=Value.type n
abbrev Vals:List V->YG->Prop:=Paired RelV
theorem Vals.length(r:Vals xs a):xs.length=a.length:=XW r
theorem Vals.get:∀{xs:List V} {a:YG} {i:Nat} {x:V},Vals xs a->xs[i]?=some x->∃u,a[i]?=some u/\RelV x u
 | _,_,_,_,.nil,e=>by simp at e
 | _,_,0,_,.cons r _,e=>by simp at e;subst e;exact⟨_,rfl,r⟩
 | _,_,i+1,x,.cons _ t,e=>by
  obtain⟨u,c,b⟩:=Vals.get   t (by simpa using e);exact⟨u,by simpa using c,b⟩
theorem Vals.set(r:RelV x u):∀{xs:List V} {a:YG} (i:Nat),Vals xs a->Vals (xs.set i x) (a.set i u)
 | _,_,_,.nil=>.nil
 | _,_,0,.cons _ t=>.cons r t
 | _,_,i+1,.cons q t=>.cons q (Vals.set r i t)
theorem Vals.append:∀{xs a:List V} {c b:YG},Vals xs c->Vals a b->Vals (xs++a) (c++b)
 | _,_,_,_,.nil,s=>s
 | _,_,_,_,.cons r t,s=>.cons r (Vals.append t s)
theorem Vals.take:∀{xs:List V} {a:YG} (n:Nat),Vals xs a->Vals (xs.take n) (a.take n)
 | _,_,0,_=>.nil
 | _,_,_+1,.nil=>.nil
 | _,_,n+1,.cons r t=>.cons r (Vals.take n t)
theorem Vals.drop:∀{xs:List V} {a:YG} (n:Nat),Vals xs a->Vals (xs.drop n) (a.drop n)
 | _,_,0,r=>r
 | _,_,_+1,.nil=>.nil
 | _,_,n+1,.cons _ t=>Vals.drop n t
def dA:Option V->YR->Prop
 | some v,some u=>RelV v u
 | none,none=>True
 | _,_=>False
def KV:List (a×V)->List (a×Value)->Prop:=Paired λ(p:a×V) (q:a×Value)=>p.1=q.1/\RelV p.2 q.2
def kV:Key->V
 | .inl i=>.int i
 | .inr x=>.str x
inductive HO where
 /-- a list -/
 | lst (xs:List V)
 /-- a tuple (never changes) -/
 | tup (xs:List V)
 /-- a dict whose keys are ints and texts;one whose keys are tuples of ints and texts (the empty one is both) -/
 | dK (kvs:List (Key×V)) | dE (kvs:List (Key×V)) (ep:Nat) | dN (kvs:List (L5×V)) | dT (kvs:List (List Key×V))
 /-- a set of ints: its members,its size -/
 | set (S:Key->Bool) (n:Nat)
 /-- an instance of the class at C,its dict at dx,its attributes -/
 | ins (C dx:Addr) (fs:List (Str×V))
 /-- the dict of the instance at x -/
 | own (x:Addr)
 /-- the dict of an exception -/
 | xd (fs:List (Str×V))
 /-- a bound method,f of x -/
 | met (f x:Addr)
 /-- a range object lo,lo+1,.. below hi -/
 | rng (lo hi:Int)
 /-- a thing that is known to the object (the script;a dict while a loop walks it): read,never written while it is so -/
 | frz (o:Obj) (u:HO)
 /-- a code object's table -/
 | tbl (ps:YK)
 /-- any other thing,by what is true of its one object (a def of one's own: SetO a S n:=HO.ext fun h=>..) -/
 | ext (φ:Heap->Prop)
abbrev Hp:=Addr->Option HO
def upd(H:Hp)(a:Addr)(o:HO):Hp:=λb=>if b=a then some o else H b
theorem c8:upd H a o a=some o:=by unfold upd;rw[t4 rfl]
theorem i4(h:b≠a):upd H a o b=H b:=by unfold upd;rw[tz h]
theorem bF:upd (upd H a o) a u=upd H a u:=by
 funext b;unfold upd;split<;>rfl
theorem sJ{H:Hp}(h:H a=some o)(h':H b=some u)(d:o≠u):a≠b:=by
 intro e;subst e;rw[h] at h';exact d (wh h')
theorem p9{H:Hp}(h:H a=some o)(h':H b=none):a≠b:=by
 intro e;subst e;rw[h] at h';cases h'
section
variable(P:Program)(w:World)
def p8(H:Hp)(h:Heap)(a:Addr):HO->Prop
 | .lst d=>d.length<=sizeLine/\∃(c:YG) (n:Nat),Vals d c/\h.get? a=some { cls:=.type "list",data:=.seq c.toArray n }
 | .tup d=>d.length<=sizeLine/\∃c:YG,Vals d c/\IsTup h a c.toArray
 | .dK b=>b.length<=sizeLine/\(a == sysModules)=false/\∃vs,KV b vs/\h.DictOf (l3 P w) a vs
 | .dE b j=>b.length<=sizeLine/\(a == sysModules)=false/\∃vs,KV b vs/\h.DictAt (l3 P w) a vs j
 | .dN b=>b.length<=sizeLine/\(a == sysModules)=false/\∃vs,KV b vs/\h.DictOf (bw P w) a vs
 | .dT b=>b.length<=sizeLine/\(a == sysModules)=false/\∃d:List (List Key×Addr×Value),
   Paired (λ(p:List Key×V) (q:List Key×Addr×Value)=>p.1=q.1/\H q.2.1=some (.tup (p.1.map kV))/\RelV p.2 q.2.2) b d /\
   ∃o y j,h.get? a=some o/\o.ExactDict/\o.data=.dict y j/\y.toList=d.map (entryOfKey (tupleKind (l3 P w)))/\(d.map (·.1)).Nodup
 | .set S n=>h.SetOf (l3 P w) a S n
 | .ins C g fs=>H g=some (.own a)/\fs.length<=1000/\g≠a/\h.get? a=some (PySem.W.instObj C g) /\
   ∃e,h.Ns1 g e/\(∀f,dA (fs.lookup f) (e f))/\PySem.Within e (fs.map (·.1))
 | .own _=>∃o,h.get? a=some o
 | .xd fs=>∃e,h.Ns1 a e/\∀f,dA (fs.lookup f) (e f)
 | .rng lo z=>∃t u v,h.get? a=some { cls:=.type "range",data:=.fields #[.int lo t,.int z u,.int 1 v] }
 | .frz o u=>h.get? a=some o/\p8 H h a u
 | .tbl ps=>h.get? a=some { cls:=.none,data:=.fields ps }
 | .met f x=>h.get? a=some (PySem.W.methodObj (.ref f) (.ref x))
 | .ext i=>i h/\(∃o,h.get? a=some o)/\∀r l,i r->(∀o,r.get? a=some o->l.get? a=some o)->i l
def bX(H:Hp)(h:Heap):Prop:=∀a o,H a=some o->p8 P w H h a o
end
section
variable{P:Program}{w:World}{H H':Hp}{h h':Heap}{a:Addr}{o:HO}
theorem p8.lt(x:p8 P w H h a o):a<h.objs.size:=by
 cases o with
 | lst c=>obtain⟨_,_,_,_,e⟩:=x;exact t9 e
 | tup c=>obtain⟨_,_,_,p⟩:=x;exact p.lt
 | dK b=>obtain⟨_,_,_,_,o,_,_,e,_⟩:=x;exact t9 e
 | dE b i=>obtain⟨_,_,_,_,o,_,e,_⟩:=x;exact t9 e
 | dN b=>obtain⟨_,_,_,_,o,_,_,e,_⟩:=x;exact t9 e
 | dT b=>obtain⟨_,_,_,_,o,_,_,e,_⟩:=x;exact t9 e
 | set S n=>obtain⟨o,_,_,_,e,_⟩:=x;exact t9 e
 | ins C j fs=>obtain⟨_,_,_,e,_⟩:=x;exact t9 e
 | own y=>obtain⟨_,e⟩:=x;exact t9 e
 | xd fs=>obtain⟨_,⟨_,_,_,e,_⟩,_⟩:=x;exact t9 e
 | rng lo g=>obtain⟨_,_,_,e⟩:=x;exact t9 e
 | frz ob u=>obtain⟨e,_⟩:=x;exact t9 e
 | tbl ps=>exact t9 (x)
 | met f y=>exact t9 (x)
 | ext d=>obtain⟨_,⟨_,e⟩,_⟩:=x;exact t9 e
theorem Paired.Nc:∀{d:List g} {c:List e},Paired F d c->(∀a b,F a b->G a b)->Paired G d c
 | _,_,.nil,_=>.nil
 | _,_,.cons r t,f=>.cons (f _ _ r) (Paired.Nc t f)
theorem p8.fV(x:p8 P w H h a o)(k:∀b u,(b=a\/H b=some (.own a))->h.get? b=some u->h'.get? b=some u)
  (J:∀b,H b=some (.own a)->H' b=some (.own a)) (I:∀b xs,H b=some (.tup xs)->H' b=some (.tup xs)):p8 P w H' h' a o:=by
 induction o with
 | lst xs=>obtain⟨z,l,n,r,e⟩:=x;exact⟨z,l,n,r,k _ _ (.inl rfl) e⟩
 | tup xs=>obtain⟨z,l,r,ob,e,c⟩:=x;exact⟨z,l,r,ob,k _ _ (.inl rfl) e,c⟩
 | dK j=>obtain⟨z,y,vs,r,ob,g,i,e,c⟩:=x;exact⟨z,y,vs,r,ob,g,i,k _ _ (.inl rfl) e,c⟩
 | dN j=>obtain⟨z,y,vs,r,ob,g,i,e,c⟩:=x;exact⟨z,y,vs,r,ob,g,i,k _ _ (.inl rfl) e,c⟩
 | dE j i=>obtain⟨z,y,vs,r,ob,g,e,c⟩:=x;exact⟨z,y,vs,r,ob,g,k _ _ (.inl rfl) e,c⟩
 | dT j=>
  obtain⟨z,y,xs,r,ob,g,i,e,c⟩:=x;exact⟨z,y,xs,Paired.Nc r λp q z=>⟨z.1,I _ _ z.2.1,z.2.2⟩,ob,g,i,k _ _ (.inl rfl) e,c⟩
 | set S n=>obtain⟨ob,g,i,t,e,c⟩:=x;exact⟨ob,g,i,t,k _ _ (.inl rfl) e,c⟩
 | ins C R fs=>
  obtain⟨d,z,ne,e,E,⟨B,g,i,M,c⟩,r⟩:=x;exact⟨J _ d,z,ne,k _ _ (.inl rfl) e,E,⟨B,g,i,k _ _ (.inr d) M,c⟩,r⟩
 | own y=>obtain⟨ob,e⟩:=x;exact⟨ob,k _ _ (.inl rfl) e⟩
 | xd fs=>obtain⟨E,⟨B,g,i,e,c⟩,r⟩:=x;exact⟨E,⟨B,g,i,k _ _ (.inl rfl) e,c⟩,r⟩
 | rng lo Q=>obtain⟨t,u,v,e⟩:=x;exact⟨t,u,v,k _ _ (.inl rfl) e⟩
 | frz ob u G=>obtain⟨e,q⟩:=x;exact⟨k _ _ (.inl rfl) e,G q⟩
 | tbl ps=>
  have e:=x;exact k a _ (.inl rfl) e
 | met f y=>
  have e:=x;exact k a _ (.inl rfl) e
 | ext O=>obtain⟨p,⟨o,e⟩,st⟩:=x;exact⟨st _ _ p λo q=>k _ _ (.inl rfl) q,⟨o,k _ _ (.inl rfl) e⟩,st⟩
theorem bX.lt(x:bX P w H h)(e:H a=some o):a<h.objs.size:=(x a o e).lt
theorem bX.fresh(x:bX P w H h)(e:h.objs.size<=a):H a=none:=by
 cases q:H a with
 | none=>rfl
 | some u=>exact absurd (v3 (x.lt q) e) (WN _)
theorem bX.kept(x:bX P w H h)(k:∀b u,h.get? b=some u->h'.get? b=some u):bX P w H h':=λa o e=>
 (x a o e).fV (λb u _ q=>k b u q) (λ_ q=>q) λ_ _ q=>q
theorem bX.laid(x:bX P w H h)(k:∀b u,h.get? b=some u->h'.get? b=some u)(i:h.objs.size<=a)(new:p8 P w (upd H a o) h' a o):bX P w (upd H a o) h':=λb u e=>by
 have d:=x.fresh i
 by_cases g:b=a
 ·subst g;rw[c8] at e;cases e;exact new
 ·rw[i4 g] at e;exact(x b u e).fV (λc v _ q=>k c v q) (λc q=>by rwa[i4 (p9 q d)]) λc j q=>by rwa[i4 (p9 q d)]
end
def Dd(H:Hp)(a:Addr)(kvs:List (Key×V)):Prop:=H a=some (.dK kvs)\/∃b,H a=some (.dE kvs b)
theorem Dd.ok(r:Dd H a kvs)(x:bX P w H h):p8 P w H h a (.dK kvs):=by
 rcases r with r | ⟨c,r⟩
 ·exact x a _ r
 ·obtain⟨z,y,vs,b,d⟩:=(x a _ r)
  exact⟨z,y,vs,b,d.dictOf⟩
def Rd(H:Hp)(a:Addr)(u:HO):Prop:=H a=some u\/∃o,H a=some (.frz o u)
theorem Rd.of(h:H a=some u):Rd H a u:=.inl h
theorem Rd.ok(r:Rd H a u)(x:bX P w H h):p8 P w H h a u:=by
 rcases r with r | ⟨o,r⟩
 ·exact x a u r
 ·obtain⟨_,q⟩:=x a _ r;exact q
def eX:Option HO->Prop
 | some (.lst _)=>True
 | some (.dK _)=>True
 | some (.dE _ _)=>True
 | some (.dN _)=>True
 | some (.dT _)=>True
 | some (.set _ _)=>True
 | some (.ins _ _ _)=>True
 | some (.ext _)=>True
 | _=>False
theorem Dd.mut(r:Dd H a kvs):eX (H a):=by
 rcases r with r | ⟨b,r⟩<;>(rw[r];exact True.intro)
section
variable{P:Program}{w:World}{H:Hp}{h h':Heap}{x e:Addr}{o':HO}
theorem bX.write(ok:bX P w H h)(j:eX (H x))(C:e=x\/H e=some (.own x))(k:∀b u,b≠e->h.get? b=some u->h'.get? b=some u)(p:∃u,h'.get? e=some u)
  (new:p8 P w (upd H x o') h' x o'):bX P w (upd H x o') h':=λb u q=>by
 have d:∀c y,H c=some (.own y)->c≠x:=λc y r z=>by subst z;rwa[r] at j
 have g:∀c i,H c=some (.tup i)->c≠x:=λc i r z=>by subst z;rwa[r] at j
 by_cases o:b=x
 ·subst o;rw[c8] at q;cases q;exact new
 ·rw[i4 o] at q
  by_cases a:b=e
  ·have B:H b=some (.own x):=by
    rcases C with z | z
    ·exact absurd (a.trans z) o
    ·rwa[a]
   rw[q] at B;cases B;obtain⟨v,E⟩:=p;exact⟨v,by rwa[a]⟩
  ·refine(ok b u q).fV (λc v l r=>k c v ?_ r) (λc r=>by rwa[i4 (d c b r)]) λc i r=>by rwa[i4 (g c i r)]
   rcases l with rfl | l
   ·exact a
   ·rintro rfl;rcases C with z | z
    ·exact d c b l z
    ·rw[l] at z;cases z;exact o rfl
end
structure Un(fs ex:YE)(H H':Hp)(h h':Heap):Prop where
 keep:∀b o,h.get? b=some o->H b=none->b∉fs->b∉ex->h'.get? b=some o
 slot:∀b o,h.get? b=some o->H b=none->b∈fs->b∉ex->∃sl,h'.get? b=some { o with slots:=sl }
 free:∀b o,h.get? b=some o->H b=none->b∉ex->H' b=none
 there:∀b o,h.get? b=some o->b∉ex->∃o',h'.get? b=some o'
 T3:∀b xs,H b=some (.tup xs)->H' b=some (.tup xs)
 frzs:∀b o u,H b=some (.frz o u)->H' b=some (.frz o u)
 tbls:∀b ps,H b=some (.tbl ps)->∃more,H' b=some (.tbl (ps++more))
section
variable{fs fs' ex ex':YE}{H H1 H2:Hp}{h h1 h2 h':Heap}{a x e:Addr}{o:HO}
theorem Un.any(u:Un fs ex H H1 h h1)(q:h.get? b=some ob)(n:H b=none)(c:b∉ex):∃g,h1.get? b=some { ob with slots:=g }:=by
 by_cases d:b∈fs
 ·exact u.slot b ob q n d c
 ·exact⟨ob.slots,u.keep b ob q n d c⟩
theorem Un.trans(a:Un fs ex H H1 h h1)(b:Un fs ex H1 H2 h1 h2):Un fs ex H H2 h h2 where
 keep:=λc ob q n j d=>b.keep c ob (a.keep c ob q n j d) (a.free c ob q n d) j d
 slot:=λc ob q n j d=>by
  obtain⟨v,g⟩:=a.slot c ob q n j d;obtain⟨l,r⟩:=b.slot c _ g (a.free c ob q n d) j d;exact⟨l,r⟩
 free:=λc ob q n d=>by
  obtain⟨p,g⟩:=a.there c ob q d;exact b.free c p g (a.free c ob q n d) d
 there:=λc ob q d=>by
  obtain⟨p,g⟩:=a.there c ob q d;exact b.there c p g d
 T3:=λc i q=>b.T3 c i (a.T3 c i q)
 frzs:=λc ob i q=>b.frzs c ob i (a.frzs c ob i q)
 tbls:=λc ps q=>by
  obtain⟨u,g⟩:=a.tbls c ps q;obtain⟨m2,r⟩:=b.tbls c _ g;exact⟨u++m2,by rw[r,Array.append_assoc]⟩
theorem Un.kept(k:∀b u,h.get? b=some u->h'.get? b=some u):Un fs ex H H h h':=
 ⟨λb ob q _ _ _=>k b ob q,λb ob q _ _ _=>⟨ob.slots,k b ob q⟩,λ_ _ _ n _=>n,λb ob q _=>⟨ob,k b ob q⟩,λ_ _ q=>q,λ_ _ _ q=>q,λ_ ps q=>⟨#[],by rw[q];simp⟩⟩
theorem Un.refl:Un fs ex H H h h:=Un.kept λ_ _ q=>q
theorem Un.laid(k:∀b u,h.get? b=some u->h'.get? b=some u)(g:h.objs.size<=a)(c:H a=none):Un fs ex H (upd H a o) h h' where
 keep:=λb u q _ _ _=>k b u q
 slot:=λb u q _ _ _=>⟨u.slots,k b u q⟩
 free:=λb u q n _=>by rwa[i4 (u8 (v3 (t9 q) g))]
 there:=λb u q _=>⟨u,k b u q⟩
 T3:=λb d q=>by rwa[i4 (p9 q c)]
 frzs:=λb u d q=>by rwa[i4 (p9 q c)]
 tbls:=λb ps q=>⟨#[],by rw[i4 (p9 q c),q];simp⟩
theorem Un.write(d:eX (H x))(v:e=x\/H e=some (.own x))(k:∀b u,b≠e->h.get? b=some u->h'.get? b=some u)(i:∃u,h'.get? e=some u):Un fs ex H (upd H x o) h h':=by
 have j:∀b,H b=none->b≠x:=λb n z=>by subst z;rwa[n] at d
 have l:∀b,H b=none->b≠e:=λb n z=>by
  subst z;rcases v with r | r
  ·exact j b n r
  ·rw[n] at r;cases r
 have g:∀b u,H b=some u->¬eX (some u)->b≠x:=λb u q nm z=>by subst z;rw[q] at d;exact nm d
 refine⟨λb u q n _ _=>k b u (l b n) q,λb u q n _ _=>⟨u.slots,k b u (l b n) q⟩,λb u q n _=>by rwa[i4 (j b n)],λb u q _=>?_,
  λb p q=>by rwa[i4 (g b _ q λz=>z)],λb u p q=>by rwa[i4 (g b _ q λz=>z)],λb ps q=>⟨#[],by rw[i4 (g b _ q λz=>z),q];simp⟩⟩
 by_cases c:b=e
 ·subst c;exact i
 ·exact⟨u,k b u c q⟩
theorem Un.mono(u:Un fs ex H H1 h h1)(g:∀b∈fs,b∈fs')(d:∀b∈ex,b∈ex'):Un fs' ex' H H1 h h1:=
 ⟨λb ob q n i c=>u.keep b ob q n (λz=>i (g b z)) λz=>c (d b z),λ_ _ q n _ c=>u.any q n λz=>c (d _ z),λb ob q n c=>u.free b ob q n λz=>c (d b z),λb ob q c=>u.there b ob q λz=>c (d b z),u.T3,u.frzs,u.tbls⟩
end
def eY(h:Heap)(H:Hp):YE:=(List.range h.objs.size).filter λa=>(H a).isSome
def oS(h:Heap)(H:Hp):Heap:=PySem.W.hideAll h (eY h H)
theorem Bm(h:Heap)(H:Hp):(oS h H).objs.size=h.objs.size:=PySem.W.hideAll_size _ _
theorem FK(e:h.get? b=some o)(n:H b=none):(oS h H).get? b=some o:=
 PySem.W.hideAll_get _ e λa=>by
  have q:=(List.mem_filter.mp a).2;rw[n] at q;simp at q
theorem JJ(e:(oS h H).get? b=some o):h.get? b=some o/\H b=none:=by
 have a:=PySem.W.of_hideAll (eY h H) e;refine⟨a,?_⟩
 cases q:H b with
 | none=>rfl
 | some x=>
  have c:b∈eY h H:=List.mem_filter.mpr ⟨List.mem_range.mpr (t9 a),by simp[q]⟩;have z:(oS h H).get? b=none:=PySem.W.hideAll_none (eY h H) c;rw[z] at e;cases e
structure Mod(K:YQ)(mg:YL)(base:Heap):Prop where
 kin:K.In base
 glob:base.Ns mainGlobals mg
 blt:∃mb,base.Ns builtinsNs mb/\∀x:Str,x ≠ "__name__"->mb x=bootBuiltins x
 nolimit:base.NoLimit
structure Cx where
 prog:Program
 w:World
 K:YQ
 mg:Str->YR
 base:Heap
 A:Around
 N:YF
 s₀:Shared
 H₀:Hp
 env:Env
 outer:List Env
 stack:List Env
 ex:YE
 fn:Str->Bool
 calm:Bool
 pn:YA
 xe:Value->Shared->Prop
def wR(l:List Env):YE:=l.filterMap (·.frame)
abbrev Cx.fs(X:Cx):YE:=wR X.outer
def Qu(a:Scope)(x:Str):Prop:=a.names.lookup x=some .local\/a.names.lookup x=some .cell\/a.names.lookup x=some .free
def Loc(a:Scope)(x:Str):Prop:=a.names.lookup x=some .local\/a.names.lookup x=some .cell
def Look(env:Env)(h:Heap)(m:YL)(x:Str)(u:Value):Prop:=
 (env.kindOf x=some .local/\m x=some u)\/((env.kindOf x=some .cell\/env.kindOf x=some .free)/\∃c,env.cells.lookup x=some c/\h.IsCell c (some u))
structure Cx.Ok(X:Cx):Prop where
 mod:Mod X.K X.mg X.base
 kind:X.env.scope.kind=.function
 glob:X.env.globals=mainGlobals
 blt:X.env.builtins=builtinsNs
 above:X.s₀.heap.objs.size<=X.env.locals
 inj:∀x y c,X.env.cells.lookup x=some c->X.env.cells.lookup y=some c->x=y
 has:∀x,(X.env.kindOf x=some .cell\/X.env.kindOf x=some .free)->∃c,X.env.cells.lookup x=some c
 cab:∀x c,X.fn x=true->X.env.cells.lookup x=some c->X.s₀.heap.objs.size<=c
 hd:X.calm=true->X.A.handled=none
 frames:X.A.frames=some X.stack
 stk:X.stack=X.outer\/(X.stack=X.env::X.outer/\X.env.frame=some X.env.locals)
 exf:∀b∈X.ex,b≠X.env.locals/\∀x c,X.env.cells.lookup x=some c->c≠b
 bs:∀b o,X.base.get? b=some o->X.s₀.heap.get? b=some o/\X.H₀ b=none
 bsz:X.base.objs.size<=X.s₀.heap.objs.size
 noex:∀b o,X.base.get? b=some o->b∉X.ex
 exfs:∀b∈X.ex,b∉X.fs
 gU:X.s₀.heap.FunFrames X.base X.outer
 frf:∀b∈X.fs,X.H₀ b=none
structure Inv(X:Cx)(pins:YA)(σ:List (Option V))(H:Hp)(s:Shared):Prop where
 ok:X.Ok
 os:s.os=X.s₀.os
 bare:AllBare s.gens
 base:Un X.fs X.ex X.H₀ H X.s₀.heap s.heap
 loc:∃m,s.heap.Ns X.env.locals m/\∀(i:Nat) (x:Str) (v:V),X.N[i]?=some x->σ[i]?=some (some v)->Qu X.env.scope x->∃u,RelV v u/\Look X.env s.heap m x u
 cell:∀x c,X.env.cells.lookup x=some c->∃v,s.heap.IsCell c v
 free:H X.env.locals=none
 freeC:∀x c,X.env.cells.lookup x=some c->H c=none
 pin:∀p∈X.pn++pins,s.heap.get? p.1=some p.2/\H p.1=none/\p.1≠X.env.locals/\p.1∉X.fs/\∀v,p.2.data≠.cell v
 hok:bX X.prog X.w H s.heap
 len:σ.length=X.N.length
section
variable{X:Cx}{pins:YA}{σ:List (Option V)}{H H':Hp}{s:Shared}{h':Heap}
theorem Cx.Ok.Uy(ok:X.Ok)(e:X.base.get? b=some o):b∉X.fs:=λa=>by
 have:=(ok.gU.mem a).1;rw[e] at this;cases this
theorem Inv.bs(I:Inv X pins σ H s):∀b o,X.base.get? b=some o->s.heap.get? b=some o/\H b=none:=λb o e=>
 ⟨I.base.keep b o (I.ok.bs b o e).1 (I.ok.bs b o e).2 (I.ok.Uy e) (I.ok.noex b o e),I.base.free b o (I.ok.bs b o e).1 (I.ok.bs b o e).2 (I.ok.noex b o e)⟩
theorem Inv.bk(I:Inv X pins σ H s):∀b o,X.base.get? b=some o->s.heap.get? b=some o:=λb o e=>(I.bs b o e).1
theorem Inv.mod(I:Inv X pins σ H s):Mod X.K X.mg X.base:=I.ok.mod
theorem Inv.su(I:Inv X pins σ H s):X.K.In s.heap:=I.ok.mod.kin.keeps I.bk
theorem Inv.lt(I:Inv X pins σ H s):X.env.locals<s.heap.objs.size:=let ⟨_,a,_⟩:=I.loc;a.lt
theorem Inv.sz(I:Inv X pins σ H s):X.s₀.heap.objs.size<=s.heap.objs.size:=AC I.ok.above (IR I.lt)
theorem Inv.UL(I:Inv X pins σ H s){a:Addr}(h:s.heap.objs.size<=a):a∉X.fs:=λc=>by
 obtain⟨_,o,b,_⟩:=I.ok.gU.mem c;exact absurd (v3 (t9 b) (AC I.sz h)) (WN _)
theorem Inv.Pw(I:Inv X pins σ H s):∀x c,X.env.cells.lookup x=some c->c≠X.env.locals:=λx c e z=>by
 obtain⟨v,o,d,hd⟩:=I.cell x c e;obtain⟨m,⟨g,h,i,a,b,_⟩,_⟩:=I.loc;rw[z,a] at d;cases d;rw[b] at hd;cases hd
theorem Inv.gU(I:Inv X pins σ H s):s.heap.FunFrames X.base X.outer:=by
 have all:∀(l:List Env),(∀b∈wR l,b∈X.fs)->X.s₀.heap.FunFrames X.base l->s.heap.FunFrames X.base l:=by
  intro l
  induction l with
  | nil=>intro _ _;trivial
  | cons env r h=>
   intro g q;obtain⟨u,⟨L,o,a,p,j,hd⟩,i⟩:=q;have d:=g L (by unfold wR;rw[Wu,a];exact hQ);obtain⟨v,e⟩:=I.base.slot L o j (I.ok.frf L d) d λz=>I.ok.exfs L z d;exact⟨u,⟨L,_,a,p,e,hd⟩,h (λb c=>g b (by unfold wR;rw[Wu,a];exact hH _ c)) i⟩
 exact all X.outer (λ_ c=>c) I.ok.gU
theorem Inv.stack(I:Inv X pins σ H s):s.heap.FunFrames X.base X.stack:=by
 rcases I.ok.stk with e | ⟨e,b⟩
 ·rw[e];exact I.gU
 ·rw[e];obtain⟨m,a,_⟩:=I.loc;exact .cons (by rw[I.ok.kind];decide) b a (Heap.get?_none_of_le (AC I.ok.bsz I.ok.above)) I.gU
theorem Inv.vi(I:Inv X pins σ H s):∀b∈wR X.stack,b∈X.env.locals::X.fs:=λb a=>by
 rcases I.ok.stk with e | ⟨e,c⟩
 ·rw[e] at a;exact hH _ a
 ·rw[e] at a;unfold wR at a;rwa[Wu,c] at a
theorem Inv.zO(I:Inv X pins σ H s):∀b∈wR X.stack,H b=none:=λb a=>by
 rcases List.mem_cons.mp (I.vi b a) with e | a
 ·rw[e];exact I.free
 ·obtain⟨_,o,c,_⟩:=I.ok.gU.mem a;exact I.base.free b o c (I.ok.frf b a) λz=>I.ok.exfs b z a
theorem Inv.step{ch:YE}(I:Inv X pins σ H s)
  (h:∀b∈ch,(b∈X.ex\/X.s₀.heap.objs.size<=b)/\b≠X.env.locals/\(∀x c,X.env.cells.lookup x=some c->c≠b)/\∀p∈X.pn++pins,p.1≠b)
  (keep:∀b o,b≠X.env.locals->b∉X.fs->b∉ch->s.heap.get? b=some o->H b=none->h'.get? b=some o)
  (slot:∀b o,b≠X.env.locals->b∈X.fs->b∉ch->s.heap.get? b=some o->H b=none->∃Q,h'.get? b=some { o with slots:=Q }) (free:∀b o,b∉ch->s.heap.get? b=some o->H b=none->H' b=none)
  (there:∀b o,b∉ch->s.heap.get? b=some o->∃G,h'.get? b=some G)
  (T3:∀b xs,H b=some (.tup xs)->H' b=some (.tup xs)) (frzs:∀b o u,H b=some (.frz o u)->H' b=some (.frz o u)) (tbls:∀b ps,H b=some (.tbl ps)->∃more,H' b=some (.tbl (ps++more)))
  (ns:∀m,s.heap.Ns X.env.locals m->h'.Ns X.env.locals m) (hok:bX X.prog X.w H' h') (hg:AllBare g') :
  Inv X pins σ H' { s with heap:=h',gens:=g',drawn:=d',toks:=t' }:=by
 have J:∀b o,X.s₀.heap.get? b=some o->b≠X.env.locals:=λb o e=>u8 (v3 (t9 e) I.ok.above)
 have y:∀b o,X.s₀.heap.get? b=some o->b∉X.ex->b∉ch:=λb o e a C=>by
  rcases(h b C).1 with z | z
  ·exact a z
  ·exact absurd (v3 (t9 e) z) (WN _)
 have j:∀x c,X.env.cells.lookup x=some c->∀v,s.heap.IsCell c v->h'.IsCell c v:=λx c e v ⟨o,E,hd⟩=>by
  have g:=λz=>(h c z).2.2.1 x c e rfl
  by_cases T:c∈X.fs
  ·obtain⟨Q,q⟩:=slot c o (I.Pw x c e) T g E (I.freeC x c e);exact⟨_,q,hd⟩
  ·exact⟨o,keep c o (I.Pw x c e) T g E (I.freeC x c e),hd⟩
 refine⟨I.ok,I.os,hg,⟨λb o e n C a=>(keep b o (J b o e) C (y b o e a) (I.base.keep b o e n C a) (I.base.free b o e n a)),λb o e n C a=>?_,λb o e n a=>?_,λb o e a=>?_,λb xs e=>T3 b xs (I.base.T3 b xs e),λb o xs e=>frzs b o xs (I.base.frzs b o xs e),λb ps e=>?_⟩,?_,λx c e=>?_,?_,λx c e=>?_,λp S=>?_,hok,I.len⟩
 ·obtain⟨Q,B⟩:=I.base.slot b o e n C a;obtain⟨O,M⟩:=slot b _ (J b o e) C (y b o e a) B (I.base.free b o e n a);exact⟨O,M⟩
 ·obtain⟨G,B⟩:=I.base.there b o e a;exact free b G (y b o e a) B (I.base.free b o e n a)
 ·obtain⟨G,B⟩:=I.base.there b o e a;exact there b G (y b o e a) B
 ·obtain⟨U,B⟩:=I.base.tbls b ps e;obtain⟨m2,M⟩:=tbls b _ B;exact⟨U++m2,by rw[M,Array.append_assoc]⟩
 ·obtain⟨m,Y,hl⟩:=I.loc;refine⟨m,ns m Y,λi x v B M e3=>?_⟩;obtain⟨u,r,l⟩:=hl i x v B M e3;refine⟨u,r,?_⟩;rcases l with l | ⟨k,c,e,z⟩
  ·exact .inl l
  ·exact .inr ⟨k,c,e,j x c e _ z⟩
 ·obtain⟨v,z⟩:=I.cell x c e;exact⟨v,j x c e v z⟩
 ·obtain⟨m,⟨o,_,_,E,_⟩,_⟩:=I.loc;exact free _ o (λz=>(h _ z).2.1 rfl) E I.free
 ·obtain⟨v,o,E,hd⟩:=I.cell x c e;exact free c o (λz=>(h c z).2.2.1 x c e rfl) E (I.freeC x c e)
 ·obtain⟨e,n,ne,R,d⟩:=I.pin p S;have g:=λz=>(h p.1 z).2.2.2 p S rfl;exact⟨keep p.1 p.2 ne R g e n,free p.1 p.2 g e n,ne,R,d⟩
theorem Inv.un(I:Inv X pins σ H s)(u:Un X.fs [] H H' s.heap h')(hok:bX X.prog X.w H' h'):Inv X pins σ H' { s with heap:=h',toks:=t' }:=by
 obtain⟨m,⟨o,x,y,h,r⟩,_⟩:=id I.loc;obtain⟨p,l⟩:=u.any h I.free (by simp)
 exact I.step   (ch:=[]) (λ_ z=>nomatch z) (λb o _ c _ e n=>u.keep b o e n c (by simp)) (λb o _ c _ e n=>u.slot b o e n c (by simp)) (λb o _ e n=>u.free b o e n (by simp)) (λb o _ e=>u.there b o e (by simp)) u.T3 u.frzs u.tbls (λv j=>by
  obtain⟨q,d,g,a,i⟩:=j;rw[h] at a;cases a;exact⟨_,d,g,l,i⟩) hok I.bare
theorem Inv.call(I:Inv X pins σ H s)(u:Un (wR X.stack) ch H H' s.heap h')(hok:bX X.prog X.w H' h')(y:AllBare g')
  (g:∀b∈ch,(b∈X.ex\/X.s₀.heap.objs.size<=b)/\b≠X.env.locals/\(∀x c,X.env.cells.lookup x=some c->c≠b)/\∀p∈X.pn++pins,p.1≠b) :
  Inv X pins σ H' { s with heap:=h',gens:=g',drawn:=d',toks:=t' }:=by
 obtain⟨m,⟨o,J,M,l,r⟩,_⟩:=id I.loc;obtain⟨C,h⟩:=u.any l I.free λz=>(g _ z).2.1 rfl
 exact I.step  g (λb o h B a e n=>u.keep b o e n (λz=>(List.mem_cons.mp (I.vi b z)).elim h B) a) (λb o _ _ a e n=>u.any e n a) (λb o a e n=>u.free b o e n a) (λb o a e=>u.there b o e a) u.T3 u.frzs u.tbls (λG v=>by
  obtain⟨E,i,j,d,q⟩:=v;rw[l] at d;cases d;exact⟨_,i,j,h,q⟩) hok y
theorem Inv.turned(I:Inv X pins σ H s)(k:∀b o,b≠it->s.heap.get? b=some o->h'.get? b=some o)(i:H it=none)(g:it≠X.env.locals)
  (C:it∈X.ex\/X.s₀.heap.objs.size<=it) (B:∀x c,X.env.cells.lookup x=some c->c≠it) (y:∀p∈X.pn++pins,p.1≠it):Inv X pins σ H { s with heap:=h',toks:=t' }:=by
 have d:∀b u,H b=some u->b≠it:=λb u e z=>by rw[z,i] at e;cases e
 refine I.step   (ch:=[it]) (λb l=>?_) (λb o _ _ a e _=>k b o (λz=>a (by simp[z])) e) (λb o _ _ a e _=>⟨o.slots,k b o (λz=>a (by simp[z])) e⟩) (λ_ _ _ _ n=>n)
  (λb o a e=>⟨o,k b o (λz=>a (by simp[z])) e⟩) (λ_ _ e=>e) (λ_ _ _ e=>e) (λb ps e=>⟨#[],by rw[e];simp⟩) (λm j=>?_) (λb u e=>?_) I.bare
 ·have e:=by simpa using l
  subst e;exact⟨C,g,B,y⟩
 ·obtain⟨o,E,G,h,r⟩:=j;exact⟨o,E,G,k _ o (IN g) h,r⟩
 ·refine(I.hok b u e).fV (λc v a q=>k c v ?_ q) (λ_ q=>q) λ_ _ q=>q;rcases a with z | z
  ·rw[z];exact d b u e
  ·exact d c _ z
theorem Inv.tok(I:Inv X pins σ H s)(t:Nat):Inv X pins σ H { s with toks:=t }:=I.un   Un.refl I.hok
theorem Inv.kept(I:Inv X pins σ H s)(k:∀b u,s.heap.get? b=some u->h'.get? b=some u):Inv X pins σ H { s with heap:=h',toks:=t' }:=I.un (Un.kept k) (I.hok.kept k)
theorem Inv.laid{a:Addr}(I:Inv X pins σ H s)(k:∀b u,s.heap.get? b=some u->h'.get? b=some u)(c:s.heap.objs.size<=a)(new:p8 X.prog X.w (upd H a o) h' a o) :
  Inv X pins σ (upd H a o) { s with heap:=h',toks:=t' }:=I.un (Un.laid k c (I.hok.fresh c)) (I.hok.laid k c new)
theorem Inv.write(I:Inv X pins σ H s)(c:eX (H x))(d:e=x\/H e=some (.own x))(k:∀b u,b≠e->s.heap.get? b=some u->h'.get? b=some u)(a:∃u,h'.get? e=some u)
  (new:p8 X.prog X.w (upd H x o) h' x o):Inv X pins σ (upd H x o) { s with heap:=h',toks:=t' }:=I.un (Un.write c d k a) (I.hok.write c d k a new)
theorem Inv.zF(I:Inv X pins σ H s)(h:∀p∈a,s.heap.get? p.1=some p.2/\H p.1=none/\p.1≠X.env.locals/\p.1∉X.fs/\∀v,p.2.data≠.cell v):Inv X a σ H s:=
 ⟨I.ok,I.os,I.bare,I.base,I.loc,I.cell,I.free,I.freeC,λp b=>(List.mem_append.mp b).elim (λz=>I.pin p (vr _ z)) (h p),I.hok,I.len⟩
theorem sf{N:YF}(c:N.Nodup){i j:Nat}(a:N[i]?=some x)(b:N[j]?=some x):i=j:=by
 obtain⟨h,e⟩:=List.getElem?_eq_some_iff.mp a;obtain⟨g,d⟩:=List.getElem?_eq_some_iff.mp b;exact(List.getElem_inj c).mp (e.trans d.symm)
theorem bJ{E:YN}(I:Inv X pins σ H s)(hN:X.N.Nodup)(hi:X.N[i]?=some x)(G:Loc X.env.scope x)(r:RelV v u)
  (h:∀s',Inv X pins (σ.set i (some v)) H s'->(∃a,Heap.SameBut a s.heap s'.heap/\(a=X.env.locals\/X.env.cells.lookup x=some a))->Q () s') (hf:X.fn x=true\/X.env.scope.names.lookup x=some .local:=by first | exact .inl rfl | exact .inr rfl | assumption):wpAny M A (storeName X.env x u) Q E s:=by
 obtain⟨m,hn,hl⟩:=id I.loc;have a2:(X.env.scope.kind == .class||(X.env.scope.kind == .module&&X.env.locals != X.env.globals))=false:=by rw[I.ok.kind];rfl
 have S:i<σ.length:=by rw[I.len];exact(List.getElem?_eq_some_iff.mp hi).1
 have Pw:=I.Pw
 have l:∀{a:Addr} {h':Heap},(∃o,s.heap.get? a=some o/\H a=none)->Heap.SameBut a s.heap h'->bX X.prog X.w H h':=λ{a h'} ha g b ob e=>by
  obtain⟨_,_,J⟩:=ha;refine(I.hok b ob e).fV (λc w' C q=>(g.2 c ?_).trans q) (λ_ q=>q) λ_ _ q=>q;rintro rfl;rcases C with rfl | C
  ·rw[J] at e;cases e
  ·rw[J] at C;cases C
 rcases G with R | R
 ·refine wpAny_storeName_local R hn (λh' ab g=>?_) a2;obtain⟨oL,_,_,a5,_⟩:=id hn;refine h _ ⟨I.ok,I.os,I.bare,⟨λb o e n Y G=>((g.2 b (u8 (v3 (t9 e) I.ok.above))).trans (I.base.keep b o e n Y G)),λb o e n Y G=>?_,I.base.free,λb o e G=>?_,I.base.T3,I.base.frzs,I.base.tbls⟩,⟨_,ab,λj y v' B O e3=>?_⟩,λy c e=>?_,I.free,I.freeC,λp hp=>?_,l ⟨oL,a5,I.free⟩ g,by simpa using I.len⟩ ⟨_,g,.inl rfl⟩
  ·obtain⟨sl,B⟩:=I.base.slot b o e n Y G;exact⟨sl,(g.2 b (u8 (v3 (t9 e) I.ok.above))).trans B⟩
  ·obtain⟨o',B⟩:=I.base.there b o e G;exact⟨o',(g.2 b (u8 (v3 (t9 e) I.ok.above))).trans B⟩
  ·by_cases T:j=i
   ·subst T;rw[hi] at B;cases B;rw[v7 S] at O;cases O;exact⟨u,r,.inl ⟨R,by simp⟩⟩
   ·rw[wr (IN T)] at O;obtain⟨u',r',q⟩:=hl j y v' B O e3;refine⟨u',r',?_⟩;rcases q with⟨k,e⟩ | ⟨k,c,e,z⟩
    ·refine .inl ⟨k,?_⟩;have:y≠x:=λe=>T (sf hN B (e▸hi));simp[this,e]
    ·exact .inr ⟨k,c,e,z.sameBut g (Pw y c e)⟩
  ·obtain⟨w',z⟩:=I.cell y c e;exact⟨w',z.sameBut g (Pw y c e)⟩
  ·obtain⟨e,n,ne,nf,d⟩:=I.pin p hp;exact⟨(g.2 p.1 ne).trans e,n,ne,nf,d⟩
 ·have U:X.fn x=true:=by
   rcases hf with z | z
   ·exact z
   ·rw[z] at R;cases R
  obtain⟨c,C⟩:=I.ok.has x (.inl R);obtain⟨w',z⟩:=I.cell x c C;refine wpAny_storeName_cell I.ok.kind R C z (λh' a4 g=>?_);obtain⟨oc,a1,a0⟩:=id z;refine h { s with heap:=h' } ⟨I.ok,I.os,I.bare,⟨λb o e n Y G=>((g.2 b (u8 (v3 (t9 e) (I.ok.cab x c U C)))).trans (I.base.keep b o e n Y G)),λb o e n Y G=>?_,I.base.free,λb o e G=>?_,I.base.T3,I.base.frzs,I.base.tbls⟩,⟨m,hn.sameBut g (IN (Pw x c C)),λj y v' B O e3=>?_⟩,λy c' e=>?_,I.free,I.freeC,λp hp=>?_,l ⟨oc,a1,I.freeC x c C⟩ g,by simpa using I.len⟩ ⟨c,g,.inr C⟩
  ·obtain⟨sl,B⟩:=I.base.slot b o e n Y G;exact⟨sl,(g.2 b (u8 (v3 (t9 e) (I.ok.cab x c U C)))).trans B⟩
  ·obtain⟨o',B⟩:=I.base.there b o e G;exact⟨o',(g.2 b (u8 (v3 (t9 e) (I.ok.cab x c U C)))).trans B⟩
  ·by_cases T:j=i
   ·subst T;rw[hi] at B;cases B;rw[v7 S] at O;cases O;exact⟨u,r,.inr ⟨.inl R,c,C,a4⟩⟩
   ·rw[wr (IN T)] at O;obtain⟨u',r',q⟩:=hl j y v' B O e3;refine⟨u',r',?_⟩;rcases q with q | ⟨k,c',e,z'⟩
    ·exact .inl q
    ·refine .inr ⟨k,c',e,z'.sameBut g ?_⟩;rintro rfl;exact T (sf hN B (I.ok.inj _ _ _ e C▸hi))
  ·by_cases a3:c'=c
   ·subst a3;exact⟨_,a4⟩
   ·obtain⟨w2,z2⟩:=I.cell y c' e;exact⟨w2,z2.sameBut g a3⟩
  ·obtain⟨e,n,ne,nf,d⟩:=I.pin p hp;refine⟨(g.2 p.1 ?_).trans e,n,ne,nf,d⟩;intro q;rw[q,a1] at e;have q':=wh e;exact d w' (by rwa[<-q'])
theorem bc{E:YN}(I:Inv X pins σ H s)(e:X.N.Nodup)(c:X.N[i]?=some x)(b:Loc X.env.scope x)(r:RelV v u)
  (h:∀a,Inv X pins (σ.set i (some v)) H a->Q () a) (d:X.fn x=true\/X.env.scope.names.lookup x=some .local:=by first | exact .inl rfl | exact .inr rfl | assumption):wpAny M A (storeName X.env x u) Q E s:=
 bJ I e c b r (λa g _=>h a g) d
theorem Inv.GG(I:Inv X pins σ H s)(i:a.os=s.os)(u:Un (wR X.stack) ch H H' s.heap a.heap)(hok:bX X.prog X.w H' a.heap)(j:AllBare a.gens)
  (d:∀b∈ch,(b∈X.ex\/X.s₀.heap.objs.size<=b)/\b≠X.env.locals/\(∀x c,X.env.cells.lookup x=some c->c≠b)/\∀p∈X.pn++pins,p.1≠b):Inv X pins σ H' a:=by
 obtain⟨h',l,o,g,h⟩:=a;have e:=i;subst e;exact I.call    u hok j d
end
abbrev XK:=Value->Option Addr->Hp->Prop
abbrev St:=List (Option V)
abbrev VK:=V->Hp->Prop
abbrev TE:=St->Hp->VK->Prop
abbrev TT:=St->Hp->(Bool->Hp->Prop)->Prop
abbrev TA:=St->Hp->(List V->Hp->Prop)->Prop
structure Ends where
 nx:St->Hp->Prop
 rt:VK
 bk:St->Hp->Prop:=λ_ _=>False
 ct:St->Hp->Prop:=λ_ _=>False
abbrev TS:=Ends->St->Hp->Prop
def EP(X:Cx)(pins:YA)(σ:St)(Q:VK)(u:Value)(b:Shared):Prop:=∃v a,Inv X pins σ a b/\RelV v u/\Q v a
def TP(X:Cx)(pins:YA)(σ:St)(Q:Bool->Hp->Prop)(b:Bool)(c:Shared):Prop:=∃a,Inv X pins σ a c/\Q b a
def AP(X:Cx)(pins:YA)(σ:St)(Q:List V->Hp->Prop)(b:YG)(c:Shared):Prop:=∃vs a,Inv X pins σ a c/\Vals vs b/\Q vs a
def SP(X:Cx)(pins:YA)(D:Ends)(f:Flow)(c:Shared):Prop:=
 match f with
 | .next=>∃a b,Inv X pins a b c/\D.nx a b
 | .brk=>∃a b,Inv X pins a b c/\D.bk a b
 | .cont=>∃a b,Inv X pins a b c/\D.ct a b
 | .ret u=>∃v a b,Inv X pins a b c/\RelV v u/\D.rt v b
structure PE(X:Cx)(e:Expr)(t:TE) : Prop where
 of ::
 run :
 ∀(pins:YA) (s:Shared) (σ:St) (H:Hp) (Q:VK),Inv X pins σ H s->t σ H Q->wpAny (model X.prog X.w) X.A (eval e X.env) (EP X pins σ Q) X.xe s
instance {X:Cx} {e:Expr} {t:TE} : CoeFun (PE X e t) λ_=>
 ∀(pins:YA) (s:Shared) (σ:St) (H:Hp) (Q:VK),Inv X pins σ H s->t σ H Q->wpAny (model X.prog X.w) X.A (eval e X.env) (EP X pins σ Q) X.xe s:=⟨PE.run⟩
structure PT(X:Cx)(e:Expr)(t:TT) : Prop where
 of ::
 run :
 ∀(pins:YA) (s:Shared) (σ:St) (H:Hp) (Q:Bool->Hp->Prop),Inv X pins σ H s->t σ H Q->wpAny (model X.prog X.w) X.A (isTrue e X.env (eval e X.env)) (TP X pins σ Q) X.xe s
instance {X:Cx} {e:Expr} {t:TT} : CoeFun (PT X e t) λ_=>
 ∀(pins:YA) (s:Shared) (σ:St) (H:Hp) (Q:Bool->Hp->Prop),Inv X pins σ H s->t σ H Q->wpAny (model X.prog X.w) X.A (isTrue e X.env (eval e X.env)) (TP X pins σ Q) X.xe s:=⟨PT.run⟩
structure PW(X:Cx)(e:Expr)(t:TT) : Prop where
 of ::
 run :
 ∀(whole:Sem Value) (pins:YA) (s:Shared) (σ:St) (H:Hp) (Q:Bool->Hp->Prop),Inv X pins σ H s->t σ H Q->wpAny (model X.prog X.w) X.A (isTrue e X.env whole) (TP X pins σ Q) X.xe s
instance {X:Cx} {e:Expr} {t:TT} : CoeFun (PW X e t) λ_=>
 ∀(whole:Sem Value) (pins:YA) (s:Shared) (σ:St) (H:Hp) (Q:Bool->Hp->Prop),Inv X pins σ H s->t σ H Q->wpAny (model X.prog X.w) X.A (isTrue e X.env whole) (TP X pins σ Q) X.xe s:=⟨PW.run⟩
theorem PW.pt(h:PW X e t):PT X e t:=.of (h _)
structure PA(X:Cx)(es:YH)(t:TA) : Prop where
 of ::
 run :
 ∀(pos:Pos) (pins:YA) (s:Shared) (σ:St) (H:Hp) (Q:List V->Hp->Prop),Inv X pins σ H s->t σ H Q->wpAny (model X.prog X.w) X.A (spliced (backTo pos (starEach es X.env))) (AP X pins σ Q) X.xe s
instance {X:Cx} {es:YH} {t:TA} : CoeFun (PA X es t) λ_=>
 ∀(pos:Pos) (pins:YA) (s:Shared) (σ:St) (H:Hp) (Q:List V->Hp->Prop),Inv X pins σ H s->t σ H Q->wpAny (model X.prog X.w) X.A (spliced (backTo pos (starEach es X.env))) (AP X pins σ Q) X.xe s:=⟨PA.run⟩
structure PS(X:Cx)(st:Stmt)(t:TS) : Prop where
 of ::
 run :
 ∀(pins:YA) (s:Shared) (σ:St) (H:Hp) (D:Ends),Inv X pins σ H s->t D σ H->wpAny (model X.prog X.w) X.A (exec st X.env) (SP X pins D) X.xe s
instance {X:Cx} {st:Stmt} {t:TS} : CoeFun (PS X st t) λ_=>
 ∀(pins:YA) (s:Shared) (σ:St) (H:Hp) (D:Ends),Inv X pins σ H s->t D σ H->wpAny (model X.prog X.w) X.A (exec st X.env) (SP X pins D) X.xe s:=⟨PS.run⟩
structure rQ(X:Cx)(st:YM)(t:TS) : Prop where
 of ::
 run :
 ∀(pins:YA) (s:Shared) (σ:St) (H:Hp) (D:Ends),Inv X pins σ H s->t D σ H->wpAny (model X.prog X.w) X.A (execs st X.env) (SP X pins D) X.xe s
instance {X:Cx} {st:YM} {t:TS} : CoeFun (rQ X st t) λ_=>
 ∀(pins:YA) (s:Shared) (σ:St) (H:Hp) (D:Ends),Inv X pins σ H s->t D σ H->wpAny (model X.prog X.w) X.A (execs st X.env) (SP X pins D) X.xe s:=⟨rQ.run⟩
theorem x4{M:Model}{A:Around}{E:YN}{s:Shared}(h:wpAny M A t Q E s)(d:∀a s,Q a s->c a s):wpAny M A t c E s:=wE h d λ_ _ x=>x
section
variable{X:Cx}
def eI(i:Nat):TE:=λa H Q=>∃v,a[i]?=some (some v)/\Q v H
def tC(v:V):TE:=λ_ H Q=>Q v H
theorem PY   {j:Pos} (E:X.N[i]?=some x) (y:Qu X.env.scope x) (hd:(x == ("__debug__" : Str))=false:=by decide) (o:(x == ("__classdict__" : Str))=false:=by decide):PE X (.Name x j) (eI i):=by
 refine .of ?_;intro g s q H Q I h;obtain⟨v,e,h⟩:=h;obtain⟨m,z,C⟩:=I.loc;obtain⟨u,r,l⟩:=C i x v E e y;have d:EP X g q Q u s:=⟨v,H,I,r,h⟩
 rcases l with⟨b,B⟩ | ⟨b,c,p,a⟩
 ·exact wpAny_Name (wpAny_loadName_local I.ok.kind b z B d) hd
 ·rcases b with b | b
  ·exact wpAny_Name (wpAny_loadName_cell I.ok.kind b p a d) hd
  ·exact wpAny_Name (wpAny_loadName_free I.ok.kind b p a d o) hd
theorem Pc:PE X (.Constant (.int i) j a) (tC (.int i)):=.of <| λ_ _ _ H _ I h=>wpAny_Constant_int ⟨.int i,H,I.tok _,⟨_,rfl⟩,h⟩
theorem RC:PE X (.Constant (.bool b) j a) (tC (.bl b)):=.of <| λ_ _ _ H _ I h=>Constant_bool ⟨.bl b,H,I,rfl,h⟩
theorem Oj:PE X (.Constant .none j a) (tC .p3):=.of <| λ_ _ _ H _ I h=>Constant_none ⟨.p3,H,I,rfl,h⟩
theorem Qe:PE X (.Constant (.str x) j a) (tC (.str x)):=.of <| λ_ _ _ H _ I h=>Calls.Constant_str ⟨.str x,H,I.tok _,⟨_,rfl⟩,h⟩
def Gl(X:Cx)(x:Str):Prop:=X.env.kindOf x=some .globalImplicit
theorem KL{E:YN}{σ:St}{Q:YN}(I:Inv X pins σ H s)(c:Gl X x)(b:X.mg x=some u)(h:Q u s)
  (hd:(x == ("__debug__" : Str))=false:=by decide):wpAny (model X.prog X.w) X.A (eval (.Name x a) X.env) Q E s:=
 Calls.Name_function_global I.ok.kind c (Calls.loadGlobal_global (by rw[I.ok.glob];exact I.mod.glob.keeps I.bk) b h) hd
theorem bu{E:YN}{σ:St}{a:Pos}{Q:YN}(I:Inv X pins σ H s)(e:Gl X x)(d:X.mg x=none)(b:bootBuiltins x=some u)(h:Q u s)
  (c:x ≠ "__name__":=by decide) (hd:(x == ("__debug__" : Str))=false:=by decide):wpAny (model X.prog X.w) X.A (eval (.Name x a) X.env) Q E s:=by
 obtain⟨j,i,g⟩:=I.mod.blt;exact Calls.Name_function_global I.ok.kind e (Calls.loadGlobal_builtin (by rw[I.ok.glob];exact I.mod.glob.keeps I.bk) d (by rw[I.ok.blt];exact i.keeps I.bk) ((g x c).trans b) h) hd
theorem yI    {a:Pos} (e:Gl X x) (d:X.mg x=none) (b:bootBuiltins x=some u) (r:RelV v u) (c:x ≠ "__name__":=by decide) (hd:(x == ("__debug__" : Str))=false:=by decide):PE X (.Name x a) (tC v):=.of <| 
 λ_ _ _ H _ I h=>bu I e d b ⟨v,H,I,r,h⟩ c hd
variable{a b:Expr}{ta tb:TE}{pos:Pos}
variable{tA tB':TT}{rest:YH}
def Ue(t u:TT):TT:=λd H Q=>t d H λc e=>if c=true then u d e Q else Q false e
def Vw(t u:TT):TT:=λd H Q=>t d H λc e=>if c=true then Q true e else u d e Q
def TF(t:TT):TT:=λd H Q=>t d H λc e=>Q (!c) e
theorem KZ(i:PT X a tA):PW X (.BoolOp .And [a] pos) tA:=by
 refine .of ?_;intro j d s g H Q I h;refine isTrue_and (x4 (i d s g H Q I h) λc l e=>?_)
 cases c with
 | true=>exact isTrue_and_nil e
 | false=>exact e
theorem Og(i:PT X a tA):PW X (.BoolOp .Or [a] pos) tA:=by
 refine .of ?_;intro j d s g H Q I h;refine isTrue_or (x4 (i d s g H Q I h) λc l e=>?_)
 cases c with
 | false=>exact isTrue_or_nil e
 | true=>exact e
theorem ND(q:PT X a tA)(p:PW X (.BoolOp .And (b::rest) pos) tB'):PW X (.BoolOp .And (a::b::rest) pos) (Ue tA tB'):=by
 refine .of ?_;intro l d s e H Q I h;refine isTrue_and (x4 (q d s e H _ I h) λc o ⟨j,i,g⟩=>?_)
 cases c with
 | true=>exact p l d o e j Q i g
 | false=>exact⟨j,i,g⟩
theorem Rt(q:PT X a tA)(p:PW X (.BoolOp .Or (b::rest) pos) tB'):PW X (.BoolOp .Or (a::b::rest) pos) (Vw tA tB'):=by
 refine .of ?_;intro l d s e H Q I h;refine isTrue_or (x4 (q d s e H _ I h) λc o ⟨j,i,g⟩=>?_)
 cases c with
 | true=>exact⟨j,i,g⟩
 | false=>exact p l d o e j Q i g
theorem Od(g:PT X a tA):PT X (.UnaryOp .Not a pos) (TF tA):=by
 refine .of ?_;intro d s e H Q I h;exact isTrue_not (g d s e H (λc i=>Q (!c) i) I h)
def Rk(ta tb:TE):TE:=λd H Q=>ta d H λx e=>∃c,x=.bl c/\if c=true then tb d e Q else Q (.bl false) e
def TQ(ta tb:TE):TE:=λd H Q=>ta d H λx e=>∃c,x=.bl c/\if c=true then Q (.bl true) e else tb d e Q
theorem OM(h:PE X a t):PE X (.BoolOp e [a] pos) t:=.of <| λc s d H Q I hw=>BoolOp_one (h c s d H Q I hw)
theorem NW(q:PE X a ta)(p:PE X (.BoolOp .And (b::rest) pos) tb):PE X (.BoolOp .And (a::b::rest) pos) (Rk ta tb):=by
 refine .of ?_;intro d s g H Q I h;refine BoolOp_and (x4 (q d s g H _ I h) λv l ⟨x,j,i,o,e⟩=>?_);obtain⟨c,rfl,e⟩:=e;cases o;refine WP ?_
 cases c with
 | true=>exact p d l g j Q i e
 | false=>exact⟨.bl false,j,i,rfl,e⟩
theorem QR(q:PE X a ta)(p:PE X (.BoolOp .Or (b::rest) pos) tb):PE X (.BoolOp .Or (a::b::rest) pos) (TQ ta tb):=by
 refine .of ?_;intro d s g H Q I h;refine BoolOp_or (x4 (q d s g H _ I h) λv l ⟨x,j,i,o,e⟩=>?_);obtain⟨c,rfl,e⟩:=e;cases o;refine WP ?_
 cases c with
 | false=>exact p d l g j Q i e
 | true=>exact⟨.bl true,j,i,rfl,e⟩
def VH(t:TT)(ta tb:TE):TE:=λd H Q=>t d H λc e=>if c=true then ta d e Q else tb d e Q
theorem GA(p:PT X c tA)(r:PE X a ta)(q:PE X b tb):PE X (.IfExp c a b pos) (VH tA ta tb):=by
 refine .of ?_;intro e s g H Q I h;refine wpAny_IfExp (x4 (p e s g H _ I h) λd i ⟨o,l,j⟩=>?_)
 cases d with
 | true=>exact r e i g o Q l j
 | false=>exact q e i g o Q l j
end
def G3(K:YQ)(H:Hp)(a:Addr)(xs:List V):Prop:=
 Rd H a (.lst xs) \/
  ∃(o:Obj) (b:YK) (n:Nat),K.lookup a=some o/\o.cls=.type "list" /\ o.dict=none/\o.data=.seq b n/\b.size<=sizeLine/\Vals xs b.toList
def R6(K:YQ)(H:Hp)(a:Addr)(xs:List V):Prop:=
 Rd H a (.tup xs) \/
  ∃(o:Obj) (b:YK) (n:Nat),K.lookup a=some o/\o.cls=.type "tuple" /\ o.data=.seq b n/\b.size<=sizeLine/\Vals xs b.toList
def TJ:Value->Option V
 | .none=>some .p3
 | .bool b=>some (.bl b)
 | .int i _=>some (.int i)
 | .str x _=>some (.str x)
 | .bytes b _=>some (.byt b)
 | .float b _=>some (.flt b)
 | .ref a=>some (.ref a)
 | .type n=>some (.ty n)
 | _=>none
theorem RelV.abs(r:RelV x u):TJ u=some x:=by
 cases x with
 | p3=>cases r;rfl
 | bl _=>cases r;rfl
 | int _=>obtain⟨t,rfl⟩:=r;rfl
 | str _=>obtain⟨t,rfl⟩:=r;rfl
 | byt _=>obtain⟨t,rfl⟩:=r;rfl
 | flt _=>obtain⟨t,rfl⟩:=r;rfl
 | ref _=>cases r;rfl
 | ty _=>cases r;rfl
theorem RelV.inj(r:RelV x u)(q:RelV y u):x=y:=wh (r.abs.symm.trans q.abs)
theorem Vals.inj:∀{xs a:List V} {b:YG},Vals xs b->Vals a b->xs=a
 | _,_,_,.nil,.nil=>rfl
 | _,_,_,.cons r t,.cons d c=>by rw[r.inj d,Vals.inj t c]
section
variable{X:Cx}{pins:YA}{σ:St}{H:Hp}{s:Shared}{a:Addr}{xs ys:List V}
theorem G3.of{K:YQ}(h:H a=some (.lst xs)):G3 K H a xs:=.inl (.inl h)
theorem R6.of{K:YQ}(h:H a=some (.tup xs)):R6 K H a xs:=.inl (.inl h)
theorem Inv.list(I:Inv X pins σ H s)(h:G3 X.K H a xs):∃its:YG,Vals xs its/\PlainL s.heap a its.toArray/\xs.length<=sizeLine:=by
 rcases h with h | ⟨o,its,n,c,d,hd,b,g,r⟩
 ·obtain⟨z,its,n,r,e⟩:=h.ok I.hok;exact⟨its,r,⟨_,n,e,rfl,rfl,rfl⟩,z⟩
 ·refine⟨its.toList,r,⟨o,n,I.su a o c,d,hd,by simpa using b⟩,?_⟩;have e:=r.length;simp[] at e;omega
theorem Inv.tuple(I:Inv X pins σ H s)(h:R6 X.K H a xs):∃its:YG,Vals xs its/\IsTup s.heap a its.toArray/\xs.length<=sizeLine:=by
 rcases h with h | ⟨o,its,n,c,d,b,g,r⟩
 ·obtain⟨z,its,r,p⟩:=h.ok I.hok;exact⟨its,r,p,z⟩
 ·refine⟨its.toList,r,⟨o,I.su a o c,d,n,by simpa using b⟩,?_⟩;have e:=r.length;simp[] at e;omega
theorem Inv.ky(I:Inv X pins σ H s)(h:G3 X.K H a xs)(h':G3 X.K H a ys):xs=ys:=by
 obtain⟨c,r,⟨o,n,e,_,_,d⟩,_⟩:=I.list h;obtain⟨b,j,⟨l,p,g,_,_,i⟩,_⟩:=I.list h';rw[e] at g;cases g;rw[d] at i
 injection i with d1 _
 have:=by simpa using congrArg Array.toList d1
 subst this;exact r.inj j
theorem Inv.nG(I:Inv X pins σ H s)(h:R6 X.K H a xs)(h':R6 X.K H a ys):xs=ys:=by
 obtain⟨c,r,⟨o,e,_,n,d⟩,_⟩:=I.tuple h;obtain⟨b,j,⟨l,g,_,p,i⟩,_⟩:=I.tuple h';rw[e] at g;cases g;rw[d] at i
 injection i with d1 _
 have:=by simpa using congrArg Array.toList d1
 subst this;exact r.inj j
end
abbrev Cx.mn(X:Cx)(E:YN):Cx:={ X with xe:=E }
abbrev Cx.Qr(X:Cx):Cx:=X.mn λ_ _=>False
theorem Cx.Ok.mn{X:Cx}(ok:X.Ok)(E:YN):(X.mn E).Ok:=
 ⟨ok.mod,ok.kind,ok.glob,ok.blt,ok.above,ok.inj,ok.has,ok.cab,ok.hd,ok.frames,ok.stk,ok.exf,ok.bs,ok.bsz,ok.noex,ok.exfs,ok.gU,ok.frf⟩
theorem Cx.Ok.aT{X:Cx}(ok:(X.mn E).Ok):X.Ok:=
 ⟨ok.mod,ok.kind,ok.glob,ok.blt,ok.above,ok.inj,ok.has,ok.cab,ok.hd,ok.frames,ok.stk,ok.exf,ok.bs,ok.bsz,ok.noex,ok.exfs,ok.gU,ok.frf⟩
section
variable{X:Cx}{pins:YA}{σ:St}{H:Hp}{s:Shared}{E:YN}
theorem Inv.mn(I:Inv X pins σ H s)(E:YN):Inv (X.mn E) pins σ H s:=⟨I.ok.mn E,I.os,I.bare,I.base,I.loc,I.cell,I.free,I.freeC,I.pin,I.hok,I.len⟩
theorem Inv.aT(I:Inv (X.mn E) pins σ H s):Inv X pins σ H s:=⟨I.ok.aT,I.os,I.bare,I.base,I.loc,I.cell,I.free,I.freeC,I.pin,I.hok,I.len⟩
theorem SP.aT(h:SP (X.mn E) pins D f c):SP X pins D f c:=by
 cases f with
 | next=>obtain⟨a,b,I,q⟩:=h;exact⟨a,b,I.aT,q⟩
 | brk=>obtain⟨a,b,I,q⟩:=h;exact⟨a,b,I.aT,q⟩
 | cont=>obtain⟨a,b,I,q⟩:=h;exact⟨a,b,I.aT,q⟩
 | ret u=>obtain⟨v,a,b,I,r,q⟩:=h;exact⟨v,a,b,I.aT,r,q⟩
theorem rQ.Qr{st:YM}(h:rQ X.Qr st t):rQ X st t:=.of <| λpins s σ H D I hw=>
 wE (h pins s σ H D (I.mn _) hw) (λ_ _ q=>q.aT) λ_ _ z=>False.elim z
end
section
variable{X:Cx}{st:Stmt}{rest:YM}{t u:TS}{e:Expr}{te:TE}{pos:Pos}
def SU:TS:=λD a H=>D.nx a H
def UB(t u:TS):TS:=λD a H=>t { D with nx:=u D } a H
theorem Km:rQ X [] SU:=.of <| λ_ _ a H _ I h=>Xy ⟨a,H,I,h⟩
theorem Em(i:PS X st t)(g:rQ X rest u):rQ X (st::rest) (UB t u):=by
 refine .of ?_;intro a s c H D I h;refine wpAny_execs_cons (x4 (i a s c H { D with nx:=u D } I h) λf d q=>?_)
 cases f with
 | next=>
  obtain⟨b,l,j,q⟩:=q;exact g a d b l D j q
 | ret v=>exact q
 | brk=>exact q
 | cont=>exact q
theorem II(c:PS X st t):rQ X [st] t:=by
 refine .of ?_;intro a s b H D I h;refine wpAny_execs_cons (x4 (c a s b H D I h) λf d q=>?_)
 cases f with
 | next=>exact Xy q
 | ret v=>exact q
 | brk=>exact q
 | cont=>exact q
theorem Inv.quiet{σ:St}(I:Inv X pins σ H s):interactive X.env=false:=by simp[interactive,I.ok.kind]
def QC(te:TE):TS:=λD a H=>te a H λ_ b=>D.nx a b
theorem KP(g:PE X e te)(d:swapsWith e none pos.line X.env=pure false:=by rfl):PS X (.Expr e pos) (QC te):=by
 refine .of ?_;intro a s b H D I h;exact wpAny_Expr_any (x4 (g a s b H _ I h) λv l ⟨x,j,i,o,c⟩=>⟨b,j,i,c⟩) I.quiet d
def US(te:TE):TS:=λD a H=>te a H D.rt
theorem oO(g:PE X e te):PS X (.Return (some e) pos) (US te):=by
 refine .of ?_;intro a s b H D I h;exact wpAny_Return_some (x4 (g a s b H _ I h) λv l ⟨x,j,i,c,d⟩=>⟨x,b,j,i,c,d⟩)
def TH(c:TT)(t u:TS):TS:=λD a H=>c a H λb d=>if b=true then t D a d else u D a d
theorem Sq(q:PT X c tc)(v:rQ X a t)(r:rQ X b u):PS X (.If c a b pos) (TH tc t u):=by
 refine .of ?_;intro g s i H D I h;refine wpAny_If (x4 (q g s i H _ I h) λd j ⟨p,o,l⟩=>?_)
 cases d with
 | true=>exact v g j i p D o l
 | false=>exact r g j i p D o l
def Oq:TS:=λ_ _ _=>False
theorem Dp:PS X st Oq:=.of <| λ_ _ _ _ _ _ h=>h.elim
end
abbrev TG:=V->St->Hp->(St->Hp->Prop)->Prop
abbrev Lq:=List V->St->Hp->(St->Hp->Prop)->Prop
structure PG(X:Cx)(target:Expr)(t:TG) : Prop where
 of ::
 run :
 ∀(pins:YA) (s:Shared) (σ:St) (H:Hp) (v:V) (u:Value) (Q:St->Hp->Prop),Inv X pins σ H s->RelV v u->t v σ H Q ->
  wpAny (model X.prog X.w) X.A (assign target X.env u) (λ_ s'=>∃σ' H',Inv X pins σ' H' s'/\Q σ' H') X.xe s
instance {X:Cx} {target:Expr} {t:TG} : CoeFun (PG X target t) λ_=>
 ∀(pins:YA) (s:Shared) (σ:St) (H:Hp) (v:V) (u:Value) (Q:St->Hp->Prop),Inv X pins σ H s->RelV v u->t v σ H Q ->
  wpAny (model X.prog X.w) X.A (assign target X.env u) (λ_ s'=>∃σ' H',Inv X pins σ' H' s'/\Q σ' H') X.xe s:=⟨PG.run⟩
structure HS(X:Cx)(ts:YH)(t:Lq) : Prop where
 of ::
 run :
 ∀(pins:YA) (s:Shared) (σ:St) (H:Hp) (vs:List V) (us:YG) (Q:St->Hp->Prop),Inv X pins σ H s->Vals vs us->t vs σ H Q ->
  wpAny (model X.prog X.w) X.A (assignInOrder ((assignEach ts X.env).map (·.2)) us) (λ_ s'=>∃σ' H',Inv X pins σ' H' s'/\Q σ' H') X.xe s
instance {X:Cx} {ts:YH} {t:Lq} : CoeFun (HS X ts t) λ_=>
 ∀(pins:YA) (s:Shared) (σ:St) (H:Hp) (vs:List V) (us:YG) (Q:St->Hp->Prop),Inv X pins σ H s->Vals vs us->t vs σ H Q ->
  wpAny (model X.prog X.w) X.A (assignInOrder ((assignEach ts X.env).map (·.2)) us) (λ_ s'=>∃σ' H',Inv X pins σ' H' s'/\Q σ' H') X.xe s:=⟨HS.run⟩
abbrev Ql:=V->V->V->Hp->(Hp->Prop)->Prop
def Sy(X:Cx)(t:Ql):Prop:=
 ∀(a:YA) (s:Shared) (b:St) (H:Hp) (o i v:V) (c d u:Value) (Q:Hp->Prop),Inv X a b H s->RelV o c->RelV i d->RelV v u->t o i v H Q ->
  wpAny (model X.prog X.w) X.A (setItem c d u) (λ_ g=>∃e,Inv X a b e g/\Q e) X.xe s
abbrev Tt:=V->V->Hp->VK->Prop
def UU(X:Cx)(c:Operator)(t:Tt):Prop:=
 ∀(a:YA) (s:Shared) (b:St) (H:Hp) (x y:V) (v u:Value) (Q:VK),Inv X a b H s->RelV x v->RelV y u->t x y H Q ->
  wpAny (model X.prog X.w) X.A (inplaceOp c v u) (EP X a b Q) X.xe s
section
variable{X:Cx}{pos:Pos}
def dt(i:Nat):TG:=λv a H Q=>Q (a.set i (some v)) H
theorem dq(e:X.N.Nodup)(c:X.N[i]?=some x)(b:Loc X.env.scope x)(d:X.fn x=true\/X.env.scope.names.lookup x=some .local:=by first | exact .inl rfl | exact .inr rfl | assumption):PG X (.Name x pos) (dt i):=by
 refine .of ?_;intro a s j H v u Q I r h;exact Xl (bc I e c b r (λl g=>⟨_,H,g,h⟩) d)
def QP:Lq:=λvs a H Q=>vs=[]/\Q a H
def yH(t:TG)(u:Lq):Lq:=λvs b H Q=>∃v r,vs=v::r/\t v b H λa c=>u r a c Q
theorem zI:HS X [] QP:=by
 refine .of ?_;intro a s b H vs c Q I r h;obtain⟨e,h⟩:=h;subst e;cases r;exact assignInOrder_nil ⟨b,H,I,h⟩
theorem eF(p:PG X e t)(o:HS X b u)
  (l:(assignEach (e::b) X.env).map (·.2)=assign e X.env::(assignEach b X.env).map (·.2):=by rfl):HS X (e::b) (yH t u):=by
 refine .of ?_;intro a s d H vs B Q I r h;obtain⟨v,z,q,h⟩:=h;subst q
 cases r with
 | cons r i=>
  rw[l];exact assignInOrder_cons (x4 (p a s d H _ _ _ I r h) λ_ g ⟨c,y,x,j⟩=>o a g c y _ _ Q x i j)
def Qb(K:YQ)(n:Nat)(t:Lq):TG:=λv c H Q=>∃a b,v=.ref a/\R6 K H a b/\b.length=n/\t b c H Q
theorem W0{k:Nat}(B:X.calm=true)(h:HS X d t)
  (y:(assignEach d X.env).length=n:=by rfl) (g:(assignEach d X.env).findIdx? (·.1)=none:=by rfl):PG X (.Tuple d k pos) (Qb X.K n t):=by
 refine .of ?_;intro c s i H v u Q I r hw;obtain⟨a,j,E,x,z,hw⟩:=hw;subst E;cases r;obtain⟨l,rv,q,J⟩:=I.tuple x;refine assign_Tuple_tuple (I.ok.hd B) q (by simp[y,<-z,rv.length]) g λC p=>?_;have G:=I.kept (t':=s.toks) λb o e=>p b o (u8 (t9 e)) e;exact h c _ i H j _ Q G (by simpa using rv) hw
def Z6(b c:TE)(t:Ql):TG:=λv a H Q=>b a H λo g=>c a g λi e=>t o i v e λd=>Q a d
theorem iK(G:PE X o e)(J:PE X i g)(E:Sy X t)
  (M:∀v,assign (.Subscript o i pos) X.env v=(do
   let b <-holding [v] (eval o X.env)
   let c <-holding [v,b] (eval i X.env)
   standAt pos
   holding [v,b,c] (setItem b c v)
   release [v,b,c] []):=by intro _;rfl):PG X (.Subscript o i pos) (Z6 e g t):=by
 refine .of ?_;intro a s d H v u Q I r h;exact eH (BB (x4 (G a s d H _ I h) λb l ⟨x,Y,S,q,C⟩=>eH (BB (x4 (J a l d Y _ S C) λc j ⟨y,U,R,p,B⟩=>eH (PP (eH (BB (x4 (E a j d U x y v b c u _ R q p r B) λ_ s3 ⟨T,O,z⟩=>wpAny_release ⟨d,T,O,z⟩))))))))
def oU(te:TE)(g:TG):TS:=λD a H=>te a H λx b=>g x a b D.nx
theorem ak(p:PE X e te)(o:PG X b g)(l:swapsWithSole [b] e pos.line X.env=pure false:=by rfl)(hw:swappedStores [b] e X.env=pure none:=by rfl)
  (r:(assignEach [b] X.env).map (·.2)=[assign b X.env]:=by rfl):PS X (.Assign [b] e pos) (oU te g):=by
 refine .of ?_;intro a s c H D I h;refine wpAny_Assign_stores (x4 (p a s c H _ I h) λv d ⟨x,y,u,i,j⟩=>?_) l hw;rw[r];exact x4 (o a d c y x v _ u i j) λ_ z q=>q
theorem Dy(r:X.N.Nodup)(o:X.N[i]?=some x)(j:Loc X.env.scope x)(q:PE X e te)(l:swapsWith e (some (.Name x a)) pos.line X.env=pure false:=by rfl)(p:X.fn x=true\/X.env.scope.names.lookup x=some .local:=by first | exact .inl rfl | exact .inr rfl | assumption) :
  PS X (.Assign [.Name x a] e pos) (oU te (dt i)):=by
 refine .of ?_;intro b s c H D I h;exact wpAny_Assign_Name (x4 (q b s c H _ I h) λv E ⟨y,B,z,d,g⟩=>bc z r o j d (λC u=>⟨_,B,u,g⟩) p) l
def UE(i j:Nat)(b:TA):TS:=λD a H=>b a H λvs c=>∃v w,vs=[v,w]/\D.nx ((a.set i (some v)).set j (some w)) c
theorem OU(hc:X.calm=true)(T:X.N.Nodup)(hi:X.N[i]?=some x)(hj:X.N[j]?=some y)(M:i≠j)
  (S:X.env.scope.names.lookup x=some .local) (R:X.env.scope.names.lookup y=some .local) (ha:PA X [a,b] Q)
  (hw:swappedStores [.Tuple [.Name x C,.Name y B] E pt] (.Tuple [a,b] G d) X.env=pure (some [x,y]))
  (hs:swapsWithSole [.Tuple [.Name x C,.Name y B] E pt] (.Tuple [a,b] G d) pos.line X.env=pure false:=by rfl) :
  PS X (.Assign [.Tuple [.Name x C,.Name y B] E pt] (.Tuple [a,b] G d) pos) (UE i j Q):=by
 refine .of ?_;intro c s O H D I h;refine eH (PP ?_);refine eH (hE ?_);refine eH (Tuple_ (x4 (ha _ c s O H _ I h) λus r ⟨vs,Y,I1,r1,z⟩=>?_));obtain⟨v,w,e1,z⟩:=z;subst e1
 obtain⟨l,u2,rfl,rv,u⟩:∃l u2,us=[l,u2]/\RelV v l/\RelV w u2:=by
  cases r1 with
  | cons p q=>
   cases q with
   | cons p' q'=>
    cases q';exact⟨_,_,rfl,p,p'⟩
 refine vy ?_ (by show 2<=sizeLine;decide);have I2:Inv X c O Y { r with heap:=r.heap.push { cls:=.type "tuple",data:=.seq [l,u2].toArray } }:=I1.kept  λb o e=>hD _ e;rw[hw];refine eH (hE ?_);refine eH (WI (eH (unpackItems_tuple (items:=#[l,u2]) (I.ok.hd hc) (IsTup.new r.heap _) λh' J=>?_)));have I3:=I2.kept  (t':=r.toks) λb o e=>J b o (u8 (t9 e)) e;refine eH (assignInOrder_cons (wpAny_bindName (bc I3 T hj (.inl R) u (λs2 I4=>assignInOrder_cons (wpAny_bindName (bc I4 T hi (.inl S) rv (λs3 U=>assignInOrder_nil (hE ?_)) (.inr S)))) (.inr R))));rw[List.set_comm _ _ (IN M)] at U;exact⟨_,Y,U,z⟩
def QU(i:Nat)(te:TE)(b:Tt):TS:=λD a H=>∃x,a[i]?=some (some x)/\te a H λy d=>b x y d λz c=>D.nx (a.set i (some z)) c
theorem OH(hN:X.N.Nodup)(G:X.N[i]?=some x)(B:Loc X.env.scope x)(he:PE X e te)(S:UU X q E)(hf:X.fn x=true\/X.env.scope.names.lookup x=some .local:=by first | exact .inl rfl | exact .inr rfl | assumption) :
  PS X (.AugAssign (.Name x o) q e pos) (QU i te E):=by
 refine .of ?_;intro a s C H D I h;obtain⟨v,e1,h⟩:=h;obtain⟨m,T,Y⟩:=I.loc;have p:Qu X.env.scope x:=by rcases B with k | k;exact .inl k;exact .inr (.inl k)
 obtain⟨u,r,l⟩:=Y i x v G e1 p;refine wpAny_AugAssign_Name ?_
 have go:wpAny (model X.prog X.w) X.A (eval e X.env) (λw j=>wpAny (model X.prog X.w) X.A (inplaceOp q u w) (λr g=>wpAny (model X.prog X.w) X.A (storeName X.env x r) (λ_=>SP X a D .next) X.xe g) X.xe j) X.xe s:=by
  exact x4 (he a s C H _ I h) λw J ⟨y,H1,I1,O,R⟩=>x4 (S a J C H1 v y u w _ I1 r O R) λz s2 ⟨zv,H2,I2,M,Q⟩=>bc I2 hN G B M (λs3 I3=>⟨_,H2,I3,Q⟩) hf
 rcases l with⟨b,U⟩ | ⟨b,c,hc,d⟩
 ·exact wpAny_loadName_local I.ok.kind b T U go
 ·rcases b with b | b
  ·exact wpAny_loadName_cell I.ok.kind b hc d go
  ·rcases B with k | k
   ·have:X.env.scope.names.lookup x=some .free:=b;rw[k] at this;cases this
   ·have:X.env.scope.names.lookup x=some .free:=b;rw[k] at this;cases this
def Vh(f:Int->Int->Int):Tt:=λx y H Q=>∃i j,x=.int i/\y=.int j/\Q (.int (f i j)) H
theorem FX:UU X .Add (Vh λi j=>i+j):=by
 intro a s g H x y v u Q I c b h;obtain⟨i,j,e,d,q⟩:=h;subst e;subst d;obtain⟨t,rfl⟩:=c;obtain⟨l,rfl⟩:=b;exact iadd_int ⟨.int _,H,I.tok _,⟨_,rfl⟩,q⟩
def Nh(c:TT)(i:TS):TS:=λD a H=>∃W:Nat->St->Hp->Prop,(∃m,W m a H)/\∀m a H,W m a H ->
 c a H λb g=>if b=true then ∃N:St->Hp->Prop,(∀d h,N d h->∃e,e<m/\W e d h)/\i { D with nx:=N,ct:=N,bk:=D.nx } a g else D.nx a g
theorem HC(z:PassesOwn (model X.prog X.w) X.A X.env X.xe)(Y:PT X c tc)(hb:rQ X body y):PS X (.While c body [] pos) (Nh tc y):=by
 refine .of ?_;intro d s M H D I h;obtain⟨W,⟨U,Q⟩,i⟩:=h;refine wpAny_While (codeAny_whileLoop (λn T=>∃g J,Inv X d g J T/\W n g J) ?_ U ⟨M,H,I,Q⟩);rintro n S ⟨e,G,I1,O⟩;refine Wn z (x4 (Y d S e G _ I1 (i n e G O)) λb R ⟨E,C,o⟩=>?_)
 cases b with
 | true=>
  obtain⟨N,B,o⟩:=o;refine Wn z (x4 (hb d R e E _ C o) λf s3 l=>?_)
  cases f with
  | next=>
   obtain⟨a,j,x,q⟩:=l;obtain⟨r,u,p⟩:=B a j q;exact⟨r,u,a,j,x,p⟩
  | cont=>
   obtain⟨a,j,x,q⟩:=l;obtain⟨r,u,p⟩:=B a j q;exact⟨r,u,a,j,x,p⟩
  | brk=>exact l
  | ret v=>exact l
 | false=>
  exact Xy ⟨e,E,C,o⟩
end
structure It where
 go:Nat->Hp->Prop
 yld:Nat->Hp->V->Hp->Prop
 stop:Nat->Hp->Prop
def N0(X:Cx)(pins:YA)(H:Hp)(b:Addr):Prop:=
 H b=none/\b≠X.env.locals/\b∉X.fs/\(b∈X.ex\/X.s₀.heap.objs.size<=b)/\(∀x c,X.env.cells.lookup x=some c->c≠b)/\∀p∈X.pn++pins,p.1≠b
theorem Inv.eW{σ:St}{b:Addr}(I:Inv X pins σ H s)(a:s.heap.objs.size<=b)(h:d b=none):N0 X pins d b:=by
 refine⟨h,WB (v3 I.lt a),I.UL a,.inr (AC I.sz a),λx c e z=>?_,λp g z=>absurd (v3 (t9 (I.pin p g).1) (by rwa[z])) (WN _)⟩
 ·obtain⟨v,q⟩:=I.cell x c e;exact absurd (v3 q.lt (by rwa[z])) (WN _)
structure Turn(P:Program)(w:World)(K:YQ)(tg:Expr)(J:It)(fp:YE)(it:Addr)(tn:Nat->Heap->Prop):Prop where
 mem:it∈fp
 obj:∀i h,tn i h->∀b∈fp,∃o,h.get? b=some o/\∀v,o.data≠.cell v
 keep:∀i h h',tn i h->(∀b∈fp,∀o,h.get? b=some o->h'.get? b=some o)->tn i h'
 item:∀(X:Cx),X.prog=P->X.w=w->X.K=K->X.calm=true->∀(i:Nat) (pins:YA) (s:Shared) (σ:St) (H:Hp) (E:YN),Inv X pins σ H s->(∀b∈fp,N0 X pins H b)->tn i s.heap->J.go i H ->
  wpAny (model P w) X.A (pyNext (.ref it)) (λr s1=>∃u,r=some u /\
   wpAny (model P w) X.A (letOwnedTupleGo tg (.ref it) u) (λ_ s2=>∃x H',Inv X pins σ H' s2/\RelV x u/\J.yld i H x H'/\tn (i+1) s2.heap/\∀b∈fp,H' b=none) E s1) E s
 done:∀(X:Cx),X.prog=P->X.w=w->X.K=K->X.calm=true->∀(i:Nat) (pins:YA) (s:Shared) (σ:St) (H:Hp) (E:YN),Inv X pins σ H s->(∀b∈fp,N0 X pins H b)->tn i s.heap->J.stop i H ->
  wpAny (model P w) X.A (pyNext (.ref it)) (λr s1=>r=none/\Inv X pins σ H s1) E s
 self:∀(A:Around) (i:Nat) (s:Shared) (Q:YN) (E:YN),tn i s.heap->Q (.ref it) s->wpAny (model P w) A (pyIter (.ref it)) Q E s
abbrev TI:=St->Hp->(It->Hp->Prop)->Prop
def UD(X:Cx)(pins:YA)(σ:St)(i:Expr)(R:It->Hp->Prop)(a:Value)(e:Shared):Prop:=
 ∃(g:Addr) (h:YE) (d:Nat->Heap->Prop) (J:It) (c:Hp),a=.ref g/\Inv X pins σ c e/\Turn X.prog X.w X.K i J h g d/\d 0 e.heap/\(∀b∈h,N0 X pins c b)/\R J c
structure PI(X:Cx)(tg iter:Expr)(wi:TI) : Prop where
 of ::
 run :
 ∀(pins:YA) (s:Shared) (σ:St) (H:Hp) (R:It->Hp->Prop),Inv X pins σ H s->wi σ H R ->
  wpAny (model X.prog X.w) X.A (eval iter X.env) (λv s1=>wpAny (model X.prog X.w) X.A (pyIter v) (UD X pins σ tg R) X.xe s1) X.xe s
instance {X:Cx} {tg iter:Expr} {wi:TI} : CoeFun (PI X tg iter wi) λ_=>
 ∀(pins:YA) (s:Shared) (σ:St) (H:Hp) (R:It->Hp->Prop),Inv X pins σ H s->wi σ H R ->
  wpAny (model X.prog X.w) X.A (eval iter X.env) (λv s1=>wpAny (model X.prog X.w) X.A (pyIter v) (UD X pins σ tg R) X.xe s1) X.xe s:=⟨PI.run⟩
theorem og{E:YN}{vs:YK}(c:s.heap.get? it=some o)(e:o.cls=.type n)(hd:o.data=.fields vs)
    (d:["enumerate","zip","dict_itemiterator","dict_reverseitemiterator","odict_iterator","itertools.zip_longest","itertools.pairwise"].contains n=false) (a:Q () s):wpAny M A (letOwnedTupleGo b (.ref it) u) Q E s:=by
  cases b<;>first
    | exact hE a
    | (cases u<;>first
        | exact hE a
        | (refine eH (wpAny_load c ?_)
           rw[e,hd];show wpAny M A (if (["enumerate","zip","dict_itemiterator","dict_reverseitemiterator","odict_iterator","itertools.zip_longest","itertools.pairwise"].contains n&&vs[0]? == some (rawInt _))=true then _ else _) Q E s;rw[tz (by intro h;rw[d] at h;cases h)];exact hE a))
def Tv(K:YQ)(a:Addr):It:=
 ⟨λi H=>∃b x,G3 K H a b/\b[i]?=some x,λi H x c=>c=H/\∀b,G3 K H a b->b[i]?=some x,λi H=>∃b,G3 K H a b/\b.length<=i⟩
def SY(K:YQ)(a:Addr):It:=
 ⟨λi H=>∃b x,R6 K H a b/\b[i]?=some x,λi H x c=>c=H/\∀b,R6 K H a b->b[i]?=some x,λi H=>∃b,R6 K H a b/\b.length<=i⟩
def RD(lo:Int)(n:Nat):It:=⟨λi _=>i<n,λi H x a=>a=H/\x=.int (lo+i),λi _=>n<=i⟩
theorem BC{K:YQ}(a it:Addr):Turn P w K tg (Tv K a) [it] it (λi h=>h.IsListIter it a i) where
 mem:=by simp
 obj:=λi h st b j=>by
  have e:=by simpa using j
  subst e;obtain⟨o,e,c,d⟩:=st;exact⟨o,e,λv z=>by rw[d] at z;cases z⟩
 keep:=λi h y st k=>st.at λo e=>k it (by simp) o e
 item:=by
  intro X J hw M Y i g s U H E I r st G;subst J hw M;obtain⟨xs,x,q,C⟩:=G;obtain⟨B,rv,p,hz⟩:=I.list q;obtain⟨u,hu,ru⟩:=rv.get C;obtain⟨T,S,f2,R,Q,O⟩:=r it (by simp);refine wpAny_pyNext_list_item st p.isList  (by simpa using hu) λy l sb=>?_;have I1:=I.turned (t':=s.toks) (λb o j e=>(sb.2 b j).trans e) T S R Q O;obtain⟨o,e,c,d⟩:=id l;exact⟨u,rfl,og  e c d (by decide) ⟨x,H,I1,ru,⟨rfl,λys hy=>by rwa[I.ky hy q]⟩,l,λb j=>(r b j).1⟩⟩
 done:=by
  intro X J hw M Y i g s U H E I r st G;subst J hw M;obtain⟨xs,q,C⟩:=G;obtain⟨B,rv,p,hz⟩:=I.list q;obtain⟨T,S,f2,R,Q,O⟩:=r it (by simp);have hl:=rv.length;exact wpAny_pyNext_list_end (I.ok.hd Y) st p.isList (by simp;omega) λy eb=>⟨rfl,I.turned  (λb o j e=>eb b o j e) T S R Q O⟩
 self:=λ_ _ _ _ _ st h=>wpAny_pyIter_listiter st h
theorem iS{K:YQ}(a it:Addr):Turn P w K tg (SY K a) [it] it (λi h=>h.IsTupleIter it a i) where
 mem:=by simp
 obj:=λi h st b l=>by
  have e:=by simpa using l
  subst e;obtain⟨o,e,c,d⟩:=st;exact⟨o,e,λv z=>by rw[d] at z;cases z⟩
 keep:=λi h B st k=>st.at λo e=>k it (by simp) o e
 item:=by
  intro X J hw M Y i g s U H E I y st G;subst J hw M;obtain⟨xs,x,r,C⟩:=G;obtain⟨j,rv,p,hz⟩:=I.tuple r;obtain⟨u,hu,ru⟩:=rv.get C;obtain⟨T,S,f2,R,Q,O⟩:=y it (by simp);refine wpAny_pyNext_tuple_item st (p)  (by simpa using hu) λB q sb=>?_;have I1:=I.turned (t':=s.toks) (λb o l e=>(sb.2 b l).trans e) T S R Q O;obtain⟨o,e,c,d⟩:=id q;exact⟨u,rfl,og  e c d (by decide) ⟨x,H,I1,ru,⟨rfl,λys hy=>by rwa[I.nG hy r]⟩,q,λb l=>(y b l).1⟩⟩
 done:=by
  intro X J hw M Y i g s U H E I y st G;subst J hw M;obtain⟨xs,r,C⟩:=G;obtain⟨j,rv,p,hz⟩:=I.tuple r;obtain⟨T,S,f2,R,Q,O⟩:=y it (by simp);have hl:=rv.length;exact wpAny_pyNext_tuple_end (I.ok.hd Y) st (p) (by simp;omega) λB eb=>⟨rfl,I.turned  (λb o l e=>eb b o l e) T S R Q O⟩
 self:=λ_ _ _ _ _ st h=>wpAny_pyIter_tupleiter st h
theorem vt{K:YQ}(it:Addr)(lo:Int)(n:Nat):Turn P w K M (RD lo n) [it] it (λi h=>IsRangeIter h it (lo+(i:Nat)*1) ((n:Int)-(i:Nat)) 1) where
 mem:=by simp
 obj:=λi h st b c=>by
  have e:=by simpa using c
  subst e
  exact⟨_,st,λv z=>by
   have J:=z;cases J⟩
 keep:=λi h j st k=>k it (by simp) _ st
 item:=by
  intro X q hw r p i a s G H E I g st l;subst q hw r;obtain⟨C,B,R,y,x,u⟩:=g it (by simp);have W:=Walks.range (prog:=X.prog) (w:=X.w) (I.ok.hd p) it lo 1 n;refine W.item i s _ _ l st λv j tk Q d O=>?_;obtain⟨t,rfl⟩:=Q;have T:Inv X a G H { s with heap:=j,toks:=tk }:=I.turned (λb o c e=>O b o (by simpa using c) e) C B y x u;refine⟨_,rfl,og   d rfl rfl (by decide) ⟨.int (lo+i),H,T,⟨t,?_⟩,⟨rfl,rfl⟩,d,λb c=>(g b c).1⟩⟩;rw[Int.mul_one]
 done:=by
  intro X q hw r p i a s G H E I g st l;obtain⟨C,B,R,y,x,u⟩:=g it (by simp);exact wpAny_pyNext_range_end (I.ok.hd p) st (by have:n<=i:=l;omega) λj S=>⟨rfl,I.turned  (λb o c e=>S b o c e) C B y x u⟩
 self:=λ_ _ _ _ _ st h=>wpAny_pyIter_rangeiter st h
section
variable{X:Cx}{tg:Expr}
def Uz(K:YQ)(e:TE):TI:=λc H R=>e c H λx b=>∃a,x=.ref a/\(∃d,R6 K b a d)/\R (SY K a) b
theorem Np(B:PE X l j):PI X tg l (Uz X.K j):=by
 refine .of ?_;intro d s r H R I h;refine x4 (B d s r H _ I h) λv c ⟨x,E,g,u,y⟩=>?_;obtain⟨a,e,⟨G,z⟩,q⟩:=y;subst e;cases u;obtain⟨i,rv,p,J⟩:=g.tuple z;refine XZ (p) (⟨c.heap.objs.size,[c.heap.objs.size],_,_,E,rfl,g.kept  λb o e=>hD _ e,iS a _,⟨_,t6 _ rfl,rfl,rfl⟩,λb C=>?_,q⟩);have e:=by simpa using C
 subst e;exact g.eW (oT _) (g.hok.fresh (oT _))
theorem qf{σ:St}{E:YN}{lo a:Int}(I:Inv X pins σ H s)(j:-(2^62)<=lo)(i:lo<2^62)(h:-(2^62)<=a)(g:a<2^62)
  (q:R (RD lo (a-lo).toNat) H):wpAny (model X.prog X.w) X.A (pyIter (.ref s.heap.objs.size)) (UD X pins σ tg R) E { s with heap:=s.heap.push { cls:=.type "range",data:=.fields #[.int lo t,.int a u,.int 1 v] },toks:=tk }:=by
 refine wpAny_pyIter_range (IsRange.new ..) (small_one j i h g) ?_;have c:Inv X pins σ H { s with heap:=s.heap.push { cls:=.type "range",data:=.fields #[.int lo t,.int a u,.int 1 v] },toks:=tk }:=I.kept λb o e=>hD _ e
 refine⟨(s.heap.push { cls:=.type "range",data:=.fields #[.int lo t,.int a u,.int 1 v] }).objs.size,[(s.heap.push { cls:=.type "range",data:=.fields #[.int lo t,.int a u,.int 1 v] }).objs.size],_,_,H,rfl,
  c.kept  λb o e=>hD _ e,vt _ lo (a-lo).toNat,?_,λb d=>?_,q⟩
 ·have p:lo+((0:Nat))*1=lo:=by simp
  have l:(((a-lo).toNat))-((0:Nat))=Builtin.Range.rangeSize lo a 1:=by rw[rangeSize_one];split<;>omega
  rw[p,l];exact t6 _ rfl
 ·have e:b=(s.heap.push { cls:=.type "range",data:=.fields #[.int lo t,.int a u,.int 1 v] }).objs.size:=by simpa using d
  subst e;exact c.eW (oT _) (c.hok.fresh (oT _))
def EK(b:TA):TI:=λa H R=>b a H λvs c=>∃j:Int,vs=[.int j]/\-(2^62)<=j/\j<2^62/\R (RD 0 j.toNat) c
def MB(b:TA):TI:=λa H R=>b a H λvs c=>∃i j:Int,vs=[.int i,.int j]/\(-(2^62)<=i/\i<2^62/\-(2^62)<=j/\j<2^62)/\R (RD i (j-i).toNat) c
theorem K6    (y:Gl X "range") (x:X.mg "range"=none) (z:PA X [a] g) (v:starEach [a] X.env=[(false,eval a X.env)]:=by rfl):PI X tg (.Call (.Name "range" p) [a] [] b) (EK g):=by
 refine .of ?_;intro c s i H R I h;refine Call_ (bu I y x boot_range (Wh (x4 (z b c s i H _ I h) λC E ⟨vs,G,B,o,d⟩=>?_) v rfl));obtain⟨j,e,d,u,q⟩:=d;subst e
 cases o with
 | cons r l=>
  cases l;obtain⟨t,rfl⟩:=r;exact call_range_1 (qf B (by omega) (by omega) d u (by simpa using q))
theorem Ab   {p c:Pos} (J:Gl X "range") (G:X.mg "range"=none) (M:PA X [a,b] u) (E:starEach [a,b] X.env=[(false,eval a X.env),(false,eval b X.env)]:=by rfl) (g:starEach [b] X.env=[(false,eval b X.env)]:=by rfl) :
  PI X tg (.Call (.Name "range" p) [a,b] [] c) (MB u):=by
 refine .of ?_;intro d s v H R I h;refine Call_ (bu I J G boot_range (Wh (x4 (M c d s v H _ I h) λQ T ⟨vs,U,O,x,o⟩=>?_) (by rw[E,g]) (by rw[g];rfl)));obtain⟨i,j,e,⟨o,C,B,z⟩,q⟩:=o;subst e
 cases x with
 | cons r l=>
  cases l with
  | cons y l=>
   cases l;obtain⟨t,rfl⟩:=r;obtain⟨S,rfl⟩:=y;exact call_range_2 (qf O o C B z q)
def Ru(h:TI)(g:TG)(j:TS):TS:=λD a H=>h a H λJ o=>∃W:Nat->Nat->St->Hp->Prop,(∃m,W 0 m a o)/\∀i m a H,W i m a H ->
 (J.stop i H/\D.nx a H)\/(J.go i H/\∃N:St->Hp->Prop,(∀b c,N b c->∃e,e<m/\W (i+1) e b c)/\∀x c,J.yld i H x c->g x a c λd l=>j { D with nx:=N,ct:=N,bk:=D.nx } d l)
def aR(a:YE)(h:Heap):YA:=a.filterMap λb=>(h.get? b).map λo=>(b,o)
theorem C3(c:b∈a)(e:h.get? b=some o):(b,o)∈aR a h:=List.mem_filterMap.mpr ⟨b,c,by rw[e];rfl⟩
theorem Bl(c:p∈aR a h):p.1∈a/\h.get? p.1=some p.2:=by
 obtain⟨b,d,e⟩:=List.mem_filterMap.mp c
 cases q:h.get? b with
 | none=>rw[q] at e;cases e
 | some o=>
  rw[q] at e;have g:=wh e;subst g;exact⟨d,q⟩
theorem Inv.pinned{σ:St}(I:Inv X pins σ H s)(j:∀b∈a,N0 X pins H b)(i:∀b∈a,∃o,s.heap.get? b=some o/\∀v,o.data≠.cell v):Inv X (pins++aR a s.heap) σ H s:=
 I.zF λp h=>(List.mem_append.mp h).elim (λz=>I.pin p (sw _ z)) λz=>by
  obtain⟨c,e⟩:=Bl z;obtain⟨r,q,l,_⟩:=j p.1 c;obtain⟨o,g,d⟩:=i p.1 c;rw[e] at g;cases g;exact⟨e,r,q,l,d⟩
theorem Inv.S5{σ:St}(I:Inv X (pins++pl) σ H s):Inv X pins σ H s:=I.zF λp a=>I.pin p (sw _ (vr _ a))
theorem y4(R:PassesOwn (model X.prog X.w) X.A X.env X.xe)(hc:X.calm=true)(hi:PI X tg q wi)(hg:PG X tg g)(y:rQ X body tb)
  (hs:∀x,foldedSetIterable q X.env x=pure x:=by intro _;rfl):PS X (.For tg q body [] a2) (Ru wi g tb):=by
 refine .of ?_;intro c s σ H D I h;refine wpAny_For (x4 (hi c s σ H _ I h) λv s1 h1=>x4 h1 λa5 s2 h2=>?_) hs;obtain⟨it,U,tn,J,H2,e,I2,T,a1,f2,W,⟨m0,w0⟩,M⟩:=h2;subst e;have p:∀{C:Hp},(∀b∈U,C b=none)->∀b∈U,N0 X c C b:=λhn b y=>⟨hn b y,(f2 b y).2⟩
 refine codeAny_forLoop_any (λn s'=>∃i l C,Inv X c l C s'/\tn i s'.heap/\(∀b∈U,C b=none)/\W i n l C) ?_ m0 ⟨0,σ,H2,I2,a1,λb y=>(f2 b y).1,w0⟩;rintro n s3 ⟨i,j,Y,I3,O,S,w3⟩;rcases M i n j Y w3 with⟨stop,qn⟩ | ⟨go,N,hN,step⟩
 ·refine Wn R (x4 (T.done X rfl rfl rfl hc i c s3 j Y X.xe I3 (p S) O stop) λr s4 ⟨hr,I4⟩=>?_);subst hr;exact Xy ⟨j,Y,I4,qn⟩
 ·refine Wn R (x4 (T.item X rfl rfl rfl hc i c s3 j Y X.xe I3 (p S) O go) λr s4 ⟨u,hr,h4⟩=>?_);subst hr;refine Wn R (x4 h4 λ_ s5 ⟨x,H5,I5,r5,y5,G,a3⟩=>?_);have a4:=I5.pinned (p a3) (T.obj _ _ G);refine Wn R (x4 (hg _ s5 j H5 x u _ a4 r5 (step x H5 y5)) λ_ s6 ⟨a0,H6,I6,q6⟩=>Wn R (x4 (y _ s6 a0 H6 _ I6 q6) λf s7 E=>?_))
  have again:∀{a:St} {B:Hp},Inv X (c++aR U s5.heap) a B s7->N a B->∃m,m<n/\∃i l C,Inv X c l C s7/\tn i s7.heap/\(∀b∈U,C b=none)/\W i m l C:=λ{a B} z Q=>by
   obtain⟨m',hm,w7⟩:=hN a B Q;refine⟨m',hm,i+1,a,B,z.S5,T.keep _ _ _ G λb y o e=>(z.pin (b,o) (sw _ (sw _ (C3 y e)))).1,λb y=>?_,w7⟩;obtain⟨o,e,d⟩:=T.obj _ _ G b y;exact(z.pin (b,o) (sw _ (sw _ (C3 y e)))).2.1
  cases f with
  | next=>obtain⟨a,B,z,Q⟩:=E;exact again z Q
  | cont=>obtain⟨a,B,z,Q⟩:=E;exact again z Q
  | brk=>obtain⟨a,B,z,E⟩:=E;exact⟨a,B,z.S5,E⟩
  | ret v=>obtain⟨x7,a,B,z,r7,E⟩:=E;exact⟨x7,a,B,z.S5,r7,E⟩
end
abbrev R2:=V->V->Hp->VK->Prop
def O1(X:Cx)(f:Value->Value->Sem Value)(r:R2):Prop:=
 ∀(a:YA) (s:Shared) (b:St) (H:Hp) (x y:V) (v u:Value) (Q:VK),Inv X a b H s->RelV x v->RelV y u->r x y H Q ->
  wpAny (model X.prog X.w) X.A (f v u) (EP X a b Q) X.xe s
def UN(X:Cx)(f:Value->Sem Value)(r:V->Hp->VK->Prop):Prop:=
 ∀(a:YA) (s:Shared) (b:St) (H:Hp) (x:V) (v:Value) (Q:VK),Inv X a b H s->RelV x v->r x H Q ->
  wpAny (model X.prog X.w) X.A (f v) (EP X a b Q) X.xe s
def J1(X:Cx)(f:Value)(r:List V->Hp->VK->Prop):Prop:=
 ∀(a:YA) (s:Shared) (b:St) (H:Hp) (c:List V) (d:YG) (Q:VK),Inv X a b H s->Vals c d->r c H Q ->
  wpAny (model X.prog X.w) X.A (call f d) (EP X a b Q) X.xe s
def TN(X:Cx)(r:V->Hp->(Bool->Hp->Prop)->Prop):Prop:=
 ∀(a:YA) (s:Shared) (b:St) (H:Hp) (x:V) (v:Value) (Q:Bool->Hp->Prop),Inv X a b H s->RelV x v->r x H Q ->
  wpAny (model X.prog X.w) X.A (truthy v) (TP X a b Q) X.xe s
def Qo(r:R2)(c b:TE):TE:=λa H Q=>c a H λx e=>b a e λy d=>r x y d Q
def VG(r:V->Hp->VK->Prop)(b:TE):TE:=λa H Q=>b a H λx c=>r x c Q
def rI(C:Int->Int->Prop)(g:Int->Int->V):R2:=λx y H Q=>∃i j,x=.int i/\y=.int j/\C i j/\Q (g i j) H
def Cq(g:Int->Int->V):R2:=λx y H Q=>∃i j,x=.int i/\y=.int j/\Q (g i j) H
def rU(g:Int->V):V->Hp->VK->Prop:=λx H Q=>∃i,x=.int i/\Q (g i) H
section
variable{X:Cx}{a b c:Expr}{ta tb tc:TE}{pos:Pos}
theorem Qi(C:PE X a ta)(B:PE X b tb){σ:St}{R:V->V->Hp->Prop}(I:Inv X pins σ H s)
  (h:ta σ H λx j=>tb σ j λy d=>R x y d) {Q:YN} {f:Value->Value->Sem Value}
  (z:∀v u i x y d,Inv X pins σ d i->RelV x v->RelV y u->R x y d->wpAny (model X.prog X.w) X.A (f v u) Q X.xe i) :
  wpAny (model X.prog X.w) X.A (eval a X.env) (λv g=>wpAny (model X.prog X.w) X.A (eval b X.env) (λu e=>wpAny (model X.prog X.w) X.A (f v u) Q X.xe e) X.xe g) X.xe s:=x4 (C pins s σ H _ I h) λv l ⟨x,j,G,p,r⟩=>x4 (B pins l σ j _ G r) λu i ⟨y,d,E,o,q⟩=>z v u i x y d E p o q
theorem LU(o:O1 X (binaryOp e) r)(z:PE X a ta)(p:PE X b tb):PE X (.BinOp a e b pos) (Qo r ta tb):=by
 refine .of ?_;intro d s g H Q I h;exact wpAny_BinOp (Qi z p I h λv u i x y C B l j q=>o d i g C x y v u Q B l j q)
theorem Sh(o:UN X (unaryOp g) r)(p:PE X a ta):PE X (.UnaryOp g a pos) (VG r ta):=by
 refine .of ?_;intro d s e H Q I h;exact UnaryOp_ (x4 (p d s e H _ I h) λv i ⟨x,u,q,j,l⟩=>o d i e u x v Q q j l)
theorem Tn{g:Int->Int->Int}
  (rule:∀(i j:Int) (t u:Tok) (s:Shared) (Q:YN) (E:YN),C i j->Q (.int (g i j) s.toks) { s with toks:=s.toks+1 }->wpAny (model X.prog X.w) X.A (f (.int i t) (.int j u)) Q E s) :
  O1 X f (rI C λi j=>.int (g i j)):=by
 intro d s r H x y v u Q I o l h;obtain⟨i,j,rfl,rfl,p,q⟩:=h;obtain⟨t,rfl⟩:=o;obtain⟨e,rfl⟩:=l;exact rule i j t e s _ _ p ⟨.int (g i j),H,I.tok _,⟨_,rfl⟩,q⟩
theorem Qy{g:Int->Int->Int}
  (rule:∀(i j:Int) (t u:Tok) (s:Shared) (Q:YN) (E:YN),Q (.int (g i j) s.toks) { s with toks:=s.toks+1 }->wpAny (model X.prog X.w) X.A (f (.int i t) (.int j u)) Q E s) :
  O1 X f (Cq λi j=>.int (g i j)):=by
 intro d s p H x y v u Q I o l h;obtain⟨i,j,rfl,rfl,q⟩:=h;obtain⟨t,rfl⟩:=o;obtain⟨e,rfl⟩:=l;exact rule i j t e s _ _ ⟨.int (g i j),H,I.tok _,⟨_,rfl⟩,q⟩
theorem HY{g:Int->Int->Bool}
  (rule:∀(i j:Int) (t u:Tok) (s:Shared) (Q:YN) (E:YN),Q (.bool (g i j)) s->wpAny (model X.prog X.w) X.A (f (.int i t) (.int j u)) Q E s) :
  O1 X f (Cq λi j=>.bl (g i j)):=by
 intro d s p H x y v u Q I o l h;obtain⟨i,j,rfl,rfl,q⟩:=h;obtain⟨t,rfl⟩:=o;obtain⟨e,rfl⟩:=l;exact rule i j t e s _ _ ⟨.bl (g i j),H,I,rfl,q⟩
def aV(i j:Int):Prop:=0<=j/\j<=1000000/\i.natAbs<2^64
def N7(i j:Int):Prop:=(-(2^64)<i/\i<2^64)\/(-(2^64)<j/\j<2^64)
theorem N7.ok(h:N7 i j):IntMulOk i j:=by
 rcases h with⟨e,d⟩ | ⟨e,d⟩
 ·exact .of_left (intBits_le_64 e d)
 ·exact .of_right (intBits_le_64 e d)
theorem Nq:O1 X (binaryOp .Add) (Cq λi j=>.int (i+j)):=Qy λ_ _ _ _ _ _ _ q=>add_int q
theorem OB:O1 X (binaryOp .Sub) (Cq λi j=>.int (i-j)):=Qy λ_ _ _ _ _ _ _ q=>sub_int q
theorem MY:O1 X (binaryOp .Mult) (rI N7 λi j=>.int (i*j)):=Tn λ_ _ _ _ _ _ _ d q=>mul_int q d.ok
theorem ES:O1 X (binaryOp .Mod) (rI (λ_ j=>0<j) λi j=>.int (i%j)):=Tn λi j _ _ _ _ _ d q=>mod_int' (by omega) (by rwa[Int.fmod_eq_emod_of_nonneg i (by omega)])
theorem Na:O1 X (binaryOp .Pow) (rI aV λi j=>.int (i^j.toNat)):=Tn λ_ _ _ _ _ _ _ d q=>pow_int_small d.1 d.2.1 d.2.2 q
theorem Vz{g:Int->Int}
  (rule:∀(i:Int) (t:Tok) (s:Shared) (Q:YN) (E:YN),Q (.int (g i) s.toks) { s with toks:=s.toks+1 }->wpAny (model X.prog X.w) X.A (f (.int i t)) Q E s) :
  UN X f (rU λi=>.int (g i)):=by
 intro d s j H x v Q I e h;obtain⟨i,rfl,q⟩:=h;obtain⟨t,rfl⟩:=e;exact rule i t s _ _ ⟨.int (g i),H,I.tok _,⟨_,rfl⟩,q⟩
theorem Nw:UN X (unaryOp .USub) (rU λi=>.int (-i)):=Vz λ_ _ _ _ _ q=>neg_int q
end
def OC:V->V->Bool
 | .p3,.p3=>true | .p3,.int _=>true | .int _,.p3=>true | .p3,.bl _=>true | .bl _,.p3=>true | .p3,.str _=>true | .str _,.p3=>true
 | .int _,.int _=>true | .bl _,.bl _=>true | .str _,.str _=>true | .byt _,.byt _=>true
 | .int _,.str _=>true | .str _,.int _=>true | .bl _,.str _=>true | .str _,.bl _=>true
 | _,_=>false
def Va:R2:=λx y H Q=>OC x y=true/\Q (.bl (decide (x=y))) H
def Vs:R2:=λx y H Q=>OC x y=true/\Q (.bl (!decide (x=y))) H
theorem zp:decide (V.int i=V.int j)=(i == j):=by
 rw[Xo];simp
theorem Ew:decide (V.bl i=V.bl j)=(i == j):=by
 rw[Xo];simp
theorem zq:decide (V.str i=V.str j)=(i == j):=by
 rw[Xo];simp
theorem yy:decide (V.byt i=V.byt j)=(i.toList == j.toList):=by
 rw[Xo];cases i;cases j;simp
section
variable{X:Cx}{a b c:Expr}{ta tb tc:TE}{pos:Pos}
theorem p6{σ:St}(I:Inv X pins σ H s)(q:Q (.bl k) H)(e:k=d):EP X pins σ Q (.bool d) s:=by
 subst e;exact⟨.bl k,H,I,rfl,q⟩
theorem MD:O1 X (compareOp .Eq) Va:=by
 intro o s p H x y v u Q I l d h;obtain⟨g,q⟩:=h
 cases x with
 | p3=>
  cases l
  cases y with
  | p3=>cases d;exact PySem.EqNone.eq_none_none (p6 I q (by simp))
  | bl j=>cases d;exact PySem.EqNone.eq_none_bool (p6 I q (by simp))
  | int j=>obtain⟨e,rfl⟩:=d;exact PySem.EqNone.eq_none_int (p6 I q (by simp))
  | str j=>obtain⟨e,rfl⟩:=d;exact PySem.EqNone.eq_none_str (p6 I q (by simp))
  | _=>exact absurd (g) sK
 | bl i=>
  cases l
  cases y with
  | p3=>cases d;exact PySem.EqNone.eq_bool_none (p6 I q (by simp))
  | bl j=>cases d;exact eq_bool (p6 I q Ew)
  | str j=>obtain⟨e,rfl⟩:=d;exact PySem.EqMixed.eq_bool_str (p6 I q (by simp))
  | _=>exact absurd (g) sK
 | int i=>
  obtain⟨t,rfl⟩:=l
  cases y with
  | p3=>cases d;exact PySem.EqNone.eq_int_none (p6 I q (by simp))
  | int j=>obtain⟨e,rfl⟩:=d;exact eq_int (p6 I q zp)
  | str j=>obtain⟨e,rfl⟩:=d;exact PySem.EqMixed.eq_int_str (p6 I q (by simp))
  | _=>exact absurd (g) sK
 | str i=>
  obtain⟨t,rfl⟩:=l
  cases y with
  | p3=>cases d;exact PySem.EqNone.eq_str_none (p6 I q (by simp))
  | bl j=>cases d;exact PySem.EqMixed.eq_str_bool (p6 I q (by simp))
  | int j=>obtain⟨e,rfl⟩:=d;exact PySem.EqMixed.eq_str_int (p6 I q (by simp))
  | str j=>obtain⟨e,rfl⟩:=d;exact eq_str (p6 I q zq)
  | _=>exact absurd (g) sK
 | byt i=>
  obtain⟨t,rfl⟩:=l
  cases y with
  | byt j=>obtain⟨e,rfl⟩:=d;exact PySem.W.eq_bytes (p6 I q yy)
  | _=>exact absurd (g) sK
 | _=>cases y<;>exact absurd (show false=true from g) sK
theorem Qz:O1 X (compareOp .NotEq) Vs:=by
 intro o s p H x y v u Q I l d h;obtain⟨g,q⟩:=h
 cases x with
 | p3=>
  cases l
  cases y with
  | p3=>cases d;exact PySem.EqNone.ne_none_none (p6 I q (by simp))
  | bl j=>cases d;exact PySem.EqNone.ne_none_bool (p6 I q (by simp))
  | int j=>obtain⟨e,rfl⟩:=d;exact PySem.EqNone.ne_none_int (p6 I q (by simp))
  | str j=>obtain⟨e,rfl⟩:=d;exact PySem.EqNone.ne_none_str (p6 I q (by simp))
  | _=>exact absurd (g) sK
 | bl i=>
  cases l
  cases y with
  | p3=>cases d;exact PySem.EqNone.ne_bool_none (p6 I q (by simp))
  | bl j=>cases d;exact ne_bool (p6 I q (GM not Ew))
  | str j=>obtain⟨e,rfl⟩:=d;exact PySem.EqMixed.ne_bool_str (p6 I q (by simp))
  | _=>exact absurd (g) sK
 | int i=>
  obtain⟨t,rfl⟩:=l
  cases y with
  | p3=>cases d;exact PySem.EqNone.ne_int_none (p6 I q (by simp))
  | int j=>obtain⟨e,rfl⟩:=d;exact ne_int (p6 I q (GM not zp))
  | str j=>obtain⟨e,rfl⟩:=d;exact PySem.EqMixed.ne_int_str (p6 I q (by simp))
  | _=>exact absurd (g) sK
 | str i=>
  obtain⟨t,rfl⟩:=l
  cases y with
  | p3=>cases d;exact PySem.EqNone.ne_str_none (p6 I q (by simp))
  | bl j=>cases d;exact PySem.EqMixed.ne_str_bool (p6 I q (by simp))
  | int j=>obtain⟨e,rfl⟩:=d;exact PySem.EqMixed.ne_str_int (p6 I q (by simp))
  | str j=>obtain⟨e,rfl⟩:=d;exact ne_str (p6 I q (GM not zq))
  | _=>exact absurd (g) sK
 | byt i=>
  obtain⟨t,rfl⟩:=l
  cases y with
  | byt j=>obtain⟨e,rfl⟩:=d;exact PySem.W.ne_bytes (p6 I q (GM not yy))
  | _=>exact absurd (g) sK
 | _=>cases y<;>exact absurd (show false=true from g) sK
theorem MG:O1 X (compareOp .Lt) (Cq λi j=>.bl (decide (i<j))):=HY λ_ _ _ _ _ _ _ q=>lt_int q
theorem RN:O1 X (compareOp .LtE) (Cq λi j=>.bl (decide (i<=j))):=HY λ_ _ _ _ _ _ _ q=>le_int q
theorem Ga:O1 X (compareOp .Gt) (Cq λi j=>.bl (decide (j<i))):=HY λ_ _ _ _ _ _ _ q=>gt_int q
theorem Sn:O1 X (compareOp .GtE) (Cq λi j=>.bl (decide (j<=i))):=HY λ_ _ _ _ _ _ _ q=>ge_int q
theorem AN:O1 X (compareOp .In) (λx y H Q=>∃i j,x=.str i/\y=.str j/\Q (.bl (!(Builtin.Str.occurrences j i 0 j.length 1).isEmpty)) H):=by
 intro d s l H x y v u Q I g e h;obtain⟨i,j,rfl,rfl,q⟩:=h;obtain⟨t,rfl⟩:=g;obtain⟨o,rfl⟩:=e;exact in_str (p6 I q rfl)
theorem CZ:O1 X (compareOp .Is) (λx y H Q=>y=.p3/\Q (.bl (decide (x=.p3))) H):=by
 intro e s i H x y v u Q I d g h;obtain⟨rfl,q⟩:=h;cases g;refine is_none_gen (p6 I q ?_)
 cases x<;>first
  | (cases d;rfl)
  | (obtain⟨t,rfl⟩:=d;rfl)
theorem IL:O1 X (compareOp .IsNot) (λx y H Q=>y=.p3/\Q (.bl (!decide (x=.p3))) H):=by
 intro e s i H x y v u Q I d g h;obtain⟨rfl,q⟩:=h;cases g;refine isnot_none_gen (p6 I q ?_)
 cases x<;>first
  | (cases d;rfl)
  | (obtain⟨t,rfl⟩:=d;rfl)
theorem oF:O1 X (compareOp .NotIn) (λx y H Q=>∃i j,x=.str i/\y=.str j/\Q (.bl (!(!(Builtin.Str.occurrences j i 0 j.length 1).isEmpty))) H):=by
 intro d s l H x y v u Q I g e h;obtain⟨i,j,rfl,rfl,q⟩:=h;obtain⟨t,rfl⟩:=g;obtain⟨o,rfl⟩:=e;exact notIn_str (p6 I q rfl)
theorem O1.or(h:O1 X f r)(h':O1 X f j):O1 X f (λx y H Q=>r x y H Q\/j x y H Q):=by
 intro d s e H x y v u Q I i g q;rcases q with q | q
 ·exact h d s e H x y v u Q I i g q
 ·exact h' d s e H x y v u Q I i g q
theorem j9(b:Expr)(h:d≠.In:=by decide)(e:d≠.NotIn:=by decide):behindInMarks d b=false:=by
 have i:(d == CmpOp.In)=false:=by cases d<;>first | rfl | exact absurd rfl h
 have g:(d == CmpOp.NotIn)=false:=by cases d<;>first | rfl | exact absurd rfl e
 cases b<;>simp[behindInMarks,i,g]
theorem yp(o:O1 X (compareOp e) r)(B:PE X a ta)(z:PE X b tb)(p:behindInMarks e b=false):PE X (.Compare a [e] [b] pos) (Qo r ta tb):=by
 refine .of ?_;intro d s g H Q I h;exact wpAny_Compare1 (Qi B z I h λv u i x y E C l j q=>o d i g E x y v u Q C l j q) p
def QT(t:TE):TT:=λd H Q=>t d H λx e=>∃k,x=.bl k/\Q k e
theorem zJ(G:O1 X (compareOp i) r)(O:PE X a ta)(M:PE X b tb)(J:behindInMarks i b=false):PT X (.Compare a [i] [b] pos) (QT (Qo r ta tb)):=by
 refine .of ?_;intro d s g H Q I h
 refine wpAny_isTrue_Compare1 (x4 (O d s g H _ I h) λv l ⟨x,H1,T,q,E⟩=>x4 (M d l g H1 _ T E) λu j ⟨y,Y,S,p,C⟩=>
  x4 (G d j g Y x y v u _ S q p C) λc s3 ⟨z,U,R,o,k,e,B⟩=>?_) J
 subst e;cases o;exact WP ⟨U,R,B⟩
def QY(K:YQ)(x:V)(H:Hp)(k:Bool):Prop:=
 match x with
 | .p3=>k=false
 | .bl b=>k=b
 | .int i=>k=(i != 0)
 | .str y=>y.length<=sizeLine/\k=((y.length:Int) != 0)
 | .byt y=>y.size<=sizeLine/\k=((y.size:Int) != 0)
 | .ref p=>(∃d,G3 K H p d/\k=!d.isEmpty)\/(∃d,R6 K H p d/\k=!d.isEmpty)\/∃e,Dd H p e/\k=!e.isEmpty
 | _=>False
theorem wo(r:KV kvs vs):(!vs.isEmpty)=!kvs.isEmpty:=by
 cases r<;>rfl
theorem jw(r:Vals xs its):(!its.toArray.isEmpty)=!xs.isEmpty:=by
 cases r<;>simp
theorem fG:(sizeLine:Nat)<2^63:=by decide
theorem NR:TN X (λx H Q=>∃k,QY X.K x H k/\Q k H):=by
 intro B s J H x v Q I o h;obtain⟨k,e,q⟩:=h;have M:=SC
 cases x with
 | p3=>
  cases o;have d:=e;subst d;exact truthy_none ⟨H,I,q⟩
 | bl b=>
  cases o;have d:k=b:=e;subst d;exact WP ⟨H,I,q⟩
 | int i=>
  obtain⟨t,rfl⟩:=o;have d:k=(i != 0):=e;subst d;exact PySem.P.truthy_int ⟨H,I,q⟩
 | str y=>
  obtain⟨t,rfl⟩:=o;obtain⟨E,d⟩:y.length<=sizeLine/\k=((y.length:Int) != 0):=e;subst d;exact PySem.P.truthy_str (by omega) ⟨H,I.tok _,q⟩
 | byt y=>
  obtain⟨t,rfl⟩:=o;obtain⟨E,d⟩:y.size<=sizeLine/\k=((y.size:Int) != 0):=e;subst d;exact PySem.W.truthy_bytes (by omega) ⟨H,I.tok _,q⟩
 | ref p=>
  cases o;have d:(∃l,G3 X.K H p l/\k=!l.isEmpty)\/(∃l,R6 X.K H p l/\k=!l.isEmpty)\/∃g,Dd H p g/\k=!g.isEmpty:=e;rcases d with⟨l,u,d⟩ | ⟨l,u,d⟩ | ⟨g,u,d⟩
  ·subst d;obtain⟨z,r,pl,C⟩:=I.list u;have j:=r.length;exact wpAny_truthy_list pl.isList (by simp only[t7];omega) ⟨H,I.tok _,by rw[jw r];exact q⟩
  ·subst d;obtain⟨z,r,pl,C⟩:=I.tuple u;have j:=r.length;exact truthy_tuple pl (by simp only[t7];omega) ⟨H,I.tok _,by rw[jw r];exact q⟩
  ·subst d;obtain⟨C,G,vs,r,m⟩:g.length<=sizeLine/\(p == sysModules)=false/\∃vs,KV g vs/\s.heap.DictOf (l3 X.prog X.w) p vs:=(show p8 X.prog X.w H s.heap p (.dK g) from u.ok I.hok)
   have j:g.length=vs.length:=XW r;exact wpAny_truthy_dict G m (by omega) ⟨H,I.tok _,by rw[wo r];exact q⟩
 | _=>exact(show False from e).elim
theorem El(p:PE X a ta)(o:∀d,isTrue a X.env d=(do let v <-d;standAt a.pos;holding [v] (truthy v))) :
  PT X a (λσ H Q=>ta σ H λx g=>∃k,QY X.K x g k/\Q k g):=by
 refine .of ?_;intro e s σ H Q I h;exact isTrue_plain (x4 (p e s σ H _ I h) λv i ⟨x,r,q,j,l⟩=>NR e i σ r x v Q q j l) (o _)
theorem vn:O1 X (binaryOp .Add) (λx y H Q=>∃i j,x=.str i/\y=.str j/\i.length+j.length<=sizeLine/\Q (.str (i++j)) H):=by
 intro d s p H x y v u Q I l g h;obtain⟨i,j,rfl,rfl,o,q⟩:=h;obtain⟨t,rfl⟩:=l;obtain⟨e,rfl⟩:=g;exact add_str (λe tk=>⟨.str (i++j),H,I.tok _,⟨_,rfl⟩,q⟩) o
theorem vals1(r:Vals [x] d):∃u,d=[u]/\RelV x u:=by
 cases r with
 | cons g e=>cases e;exact⟨_,rfl,g⟩
theorem vals2(r:Vals [x,y] e):∃u d,e=[u,d]/\RelV x u/\RelV y d:=by
 cases r with
 | cons j i=>
  cases i with
  | cons h g=>cases g;exact⟨_,_,rfl,j,h⟩
theorem bH(g:X.calm=true):J1 X (.builtin "max") (λxs H Q=>∃i j,xs=[.int i,.int j]/\Q (.int (if j>i then j else i)) H):=by
 intro e s l H xs p Q I r h;obtain⟨i,j,rfl,q⟩:=h;obtain⟨u,o,rfl,⟨t,rfl⟩,⟨v,rfl⟩⟩:=vals2 r;refine max_two_ints (I.ok.hd g) λx tk k=>⟨_,H,I.kept k,?_,q⟩
 by_cases d:j>i
 ·rw[t4 d,t4 d];exact⟨_,rfl⟩
 ·rw[tz d,tz d];exact⟨_,rfl⟩
theorem AK:J1 X (.type "int") (λxs H Q=>(∃i,xs=[.int i]/\Q (.int i) H)\/∃k,xs=[.bl k]/\Q (.int (if k then 1 else 0)) H):=by
 intro d s g H xs j Q I r h;rcases h with⟨i,rfl,q⟩ | ⟨k,rfl,q⟩
 ·obtain⟨u,rfl,t,rfl⟩:=vals1 r;exact call_int_int ⟨.int i,H,I,⟨_,rfl⟩,q⟩
 ·obtain⟨u,rfl,e⟩:=vals1 r;cases e;exact call_int_bool ⟨.int (if k then 1 else 0),H,I.tok _,⟨_,rfl⟩,q⟩
def Ov(K:YQ)(x:V)(H:Hp)(n:Nat):Prop:=
 match x with
 | .str y=>y.length<=sizeLine/\n=y.length
 | .byt y=>y.size<=sizeLine/\n=y.size
 | .ref p=>(∃d,G3 K H p d/\n=d.length)\/∃d,R6 K H p d/\n=d.length
 | _=>False
theorem J7:J1 X (.builtin "len") (λxs H Q=>∃x n,xs=[x]/\Ov X.K x H n/\Q (.int n) H):=by
 intro v s C H xs E Q I r h;obtain⟨x,n,rfl,e,q⟩:=h;obtain⟨u,rfl,i⟩:=vals1 r;have G:=SC
 cases x with
 | str y=>
  obtain⟨t,rfl⟩:=i;obtain⟨B,g⟩:y.length<=sizeLine/\n=y.length:=e;subst g;exact len_str (by omega) ⟨.int _,H,I.tok _,⟨_,rfl⟩,q⟩
 | byt y=>
  obtain⟨t,rfl⟩:=i;obtain⟨B,g⟩:y.size<=sizeLine/\n=y.size:=e;subst g;exact PySem.W.len_bytes (by omega) ⟨.int _,H,I.tok _,⟨_,rfl⟩,q⟩
 | ref p=>
  cases i;have g:=e;rcases g with⟨xs,o,g⟩ | ⟨xs,o,g⟩
  ·subst g;obtain⟨l,j,pl,z⟩:=I.list o;have d:=j.length;exact Calls.call_len_list pl.isList (by simp[];omega) ⟨.int xs.length,H,I.tok _,⟨_,by simp only[t7];rw[d]⟩,q⟩
  ·subst g;obtain⟨l,j,pl,z⟩:=I.tuple o;have d:=j.length;exact len_tuple pl (by simp[];omega) ⟨.int xs.length,H,I.tok _,⟨_,by simp only[t7];rw[d]⟩,q⟩
 | _=>exact(e).elim
end
structure Kj(h:Heap)(x dx C:Addr)(mA:YL):Prop where
 obj:h.get? x=some (PySem.W.instObj C dx)
 ns:h.Ns1 dx mA
 ne:dx≠x
theorem Am{h:Heap}{d:YL}(n:h.Ns1 i d):∃c,h.get? i=some c/\∀name,PySem.W.lookIn name c=some (d name):=by
 obtain⟨o,g,v,l,hd,r,_,p⟩:=n;refine⟨o,l,λname=>?_⟩;have e:=p name;unfold nsFind findBy at e;rw[<-Array.find?_toList] at e;unfold PySem.W.lookIn;rw[hd];dsimp only;split
 ·rename_i y q
  rw[q] at e;exact GM some e
 ·rename_i q
  rw[q] at e
  have a:g.toList.any (·.refKey)=false:=by
   rw[WE];intro y j;obtain⟨z,t,b⟩:=r y (Array.mem_toList_iff.mp j);simp[DictEntry.refKey,b]
  have u:¬g.toList.any (·.refKey)=true:=by rw[a];exact sK
  rw[tz u];exact GM some e
theorem Kj.look(I:Kj h x c C b):∃a,PySem.W.InstAt h x (PySem.W.instObj C c) C (some a)/\∀name,PySem.W.lookIn name a=some (b name):=
 let ⟨a,d,e⟩:=Am I.ns
 ⟨a,⟨I.obj,rfl,rfl,d⟩,e⟩
section
variable{prog:Program}{w:World}{A:Around}{E:YN}{s:Shared}{K:YQ}{x dx C f:Addr}{mA:YL}{name:Str}{v:Value}
theorem get_map{Q:YN}(X:K.In s.heap)(I:Kj s.heap x dx C mA)(g:PySem.W.plainGet K C name=true)(e:PySem.W.hasDictIn K C=true)
  (i:PySem.W.findIn K (.ref C) name=some none) (c:mA name=some v) (b:PySem.W.handedIn v=true) (h:Q v { s with toks:=s.toks+1 }) :
  wpAny (model prog w) A (getAttr (.ref x) name a) Q E s:=by
 obtain⟨j,J,d⟩:=I.look;exact PySem.W.get_value X J (PySem.W.plainGet_of g).1 (PySem.W.findObj_own e i rfl (by rw[d,c])) b h
end
theorem dA.some_of(r:dA (some v) o):∃u,o=some u/\RelV v u:=by
 cases o with
 | none=>exact(r).elim
 | some u=>exact⟨u,rfl,r⟩
section
variable{P:Program}{w:World}{H H':Hp}{h h':Heap}{a C dx:Addr}{fs fs':List (Str×V)}
theorem Kl(hok:bX P w H h)(e:H a=some (.ins C dx fs)):∃b,Kj h a dx C b/\(∀f,dA (fs.lookup f) (b f))/\PySem.Within b (fs.map (·.1))/\fs.length<=1000/\H dx=some (.own a):=by
 obtain⟨d,z,ne,ob,b,n,r,q⟩:=(hok a _ e)
 exact⟨b,⟨ob,n,ne⟩,r,q,z,d⟩
end
structure Ur(K:YQ)(C:Addr):Prop where
 pg:PySem.W.plainGet K C Str.empty=true
 hd:PySem.W.hasDictIn K C=true
 po:PySem.W.plainOver K C=true
 sa:PySem.W.findIn K (.ref C) "__setattr__"=some (some (.builtin "object.__setattr__"))
theorem Ur.get{K:YQ}(c:Ur K C)(f:Str):PySem.W.plainGet K C f=true:=c.pg
section
variable{X:Cx}{pins:YA}{σ:St}{H:Hp}{s:Shared}{a C dx:Addr}{fs:List (Str×V)}{f:Str}{v:V}{A:Around}{E:YN}
end
def UP(X:Cx)(d:Operator)(c:V->V->Hp->VK->Prop):Prop:=
 ∀(a:YA) (s:Shared) (b:St) (H:Hp) (x y:V) (u v:Value) (Q:VK),Inv X a b H s->RelV x u->RelV y v->c x y H Q->wpAny (model X.prog X.w) X.A (inplaceOp d u v) (EP X a b Q) X.xe s
section
variable{X:Cx}{o e value:Expr}{f:Str}{pos pos' tpos:Pos}{ta tv:TE}
end
section
variable{X:Cx}{pins:YA}{σ:St}{H:Hp}{s:Shared}{A:Around}{E Q:YN}{c:Value}{b:Bool}
inductive cG(K:YQ)(H:Hp):V->Value->Prop where
 | p3:cG K H .p3 (.type "NoneType")
 | bl (x:Bool):cG K H (.bl x) (.type "bool")
 | int (i:Int):cG K H (.int i) (.type "int")
 | str (x:Str):cG K H (.str x) (.type "str")
 | flt (x:UInt64):cG K H (.flt x) (.type "float")
 | lst {a:Addr} {xs:List V} (e:H a=some (.lst xs)):cG K H (.ref a) (.type "list")
 | frz {a:Addr} {o:Obj} {xs:List V} (e:H a=some (.frz o (.lst xs))):cG K H (.ref a) (.type "list")
 | tup {a:Addr} {xs:List V} (e:H a=some (.tup xs)):cG K H (.ref a) (.type "tuple")
 | dK {a:Addr} {kvs:List (Key×V)} (e:Dd H a kvs):cG K H (.ref a) (.type "dict")
 | dT {a:Addr} {kvs:List (List Key×V)} (e:H a=some (.dT kvs)):cG K H (.ref a) (.type "dict")
 | ins {a C dx:Addr} {fs:List (Str×V)} (e:H a=some (.ins C dx fs)) (cl:Ur K C) (ha:PySem.W.findIn K (.ref C) "__class__"=some (some (.builtin "object.__class__")))
   (hn:PySem.W.specialIn K (.builtin "object.__class__") "__get__"=some (some (.builtin "getset_descriptor.__get__"))) (htk:PySem.W.takesIn K (.builtin "object.__class__")=some true)
   (hm:PySem.W.mroIn K C (.type "object")=some true):cG K H (.ref a) (.ref C)
theorem Ag(I:Inv X pins σ H s)(d:RelV x u)(ty:cG X.K H x t)(e:PySem.W.kitOne X.K t c=some b)(h:∀tk,Q (.bool b) { s with toks:=tk }) :
  wpAny (model X.prog X.w) A (call (.builtin "isinstance") [u,c]) Q E s:=by
 cases ty with
 | p3=>cases(d);exact No PySem.W.kitx_none I.su True.intro e (λz=>nomatch z) h
 | bl y=>cases(d);exact No PySem.W.kitx_bool I.su True.intro e (λz=>nomatch z) h
 | int i=>obtain⟨t,q⟩:=(d);cases q;exact No PySem.W.kitx_int I.su True.intro e (λz=>nomatch z) h
 | str y=>obtain⟨t,q⟩:=(d);cases q;exact No PySem.W.kitx_str I.su True.intro e (λz=>nomatch z) h
 | flt y=>obtain⟨t,q⟩:=(d);cases q;exact No PySem.W.kitx_float I.su True.intro e (λz=>nomatch z) h
 | @lst a r g=>
  cases(d);obtain⟨_,_,n,_,j⟩:=(I.hok a _ g)
  exact No PySem.W.kitx_list I.su ⟨_,j,rfl⟩ e (λz=>nomatch z) h
 | @frz a ob r g=>
  cases(d);obtain⟨_,_,_,n,_,j⟩:=(I.hok a _ g)
  exact No PySem.W.kitx_list I.su ⟨_,j,rfl⟩ e (λz=>nomatch z) h
 | @tup a r g=>
  cases(d);obtain⟨_,_,_,p⟩:=(I.hok a _ g)
  obtain⟨o,j,v,_⟩:=p;exact No PySem.W.kitx_tuple I.su ⟨o,j,v⟩ e (λz=>nomatch z) h
 | @dK a l g=>
  cases(d);obtain⟨_,_,vs,_,p⟩:=(g.ok I.hok)
  obtain⟨o,S,T,j,v,_⟩:=p;exact No PySem.W.kitx_dict I.su ⟨o,j,v.1⟩ e (λz=>nomatch z) h
 | @dT a l g=>
  cases(d);obtain⟨_,_,r,_,o,S,T,j,v,_⟩:=(I.hok a _ g)
  exact No PySem.W.kitx_dict I.su ⟨o,j,v.1⟩ e (λz=>nomatch z) h
 | @ins a C dx fs g cl R G B M=>
  cases(d);obtain⟨Y,O,_⟩:=Kl I.hok g;obtain⟨U,J,_⟩:=O.look;exact No (PySem.W.kitx_own (cl.get _) cl.hd R G B M) I.su J e (λz=>nomatch z) h
end
structure K8(k:Nat)(A:Around):Prop where
 hd:A.handled=none
 dp:A.depth+3*k+5<recursionLimit
 un:A.units+16*k+200<cLine
 gd:A.guards=some []
theorem K8.mono(r:K8 k A)(h:j<=k):K8 j A:=⟨r.hd,by have:=r.dp;omega,by have:=r.un;omega,r.gd⟩
theorem K8.deeper(r:K8 (k+1) A)(env:Env):K8 k (A.deeper env):=
 ⟨r.hd,by have:=r.dp;show A.depth+1+3*k+5<_;omega,by have:=r.un;show A.units+3+16*k+200<_;omega,r.gd⟩
theorem K8.depth(r:K8 k A):A.depth<recursionLimit:=by have:=r.dp;omega
theorem K8.units(r:K8 k A):A.units+64<cLine:=by have:=r.un;omega
def UK:TA:=λ_ H Q=>Q [] H
def Mw(c:TE)(tr:TA):TA:=λa H Q=>c a H λx e=>tr a e λb d=>Q (x::b) d
section
variable{X:Cx}{e:Expr}{es:YH}{te:TE}{t:TA}{pos:Pos}
theorem L8:PA X [] UK:=.of <| λ_ _ _ _ H Q I h=>Yp ⟨[],H,I,.nil,h⟩
theorem yQ(q:PE X e te)(p:PA X es t)(o:starEach (e::es) X.env=(false,eval e X.env)::starEach es X.env:=by rfl):PA X (e::es) (Mw te t):=by
 refine .of ?_;intro pos a s b H Q I h;rw[o];exact WL (x4 (q a s b H _ I h) λu d ⟨x,z,v,i,l⟩=>x4 (p pos a d b z _ v l) λB C ⟨c,y,r,g,j⟩=>⟨x::c,y,r,.cons i g,j⟩)
def Um(t:TA):TE:=λc H Q=>t c H λa b=>a.length<=sizeLine/\∀p,b p=none->Q (.ref p) (upd b p (.tup a))
def TX(t:TA):TE:=λc H Q=>t c H λa b=>a.length<=sizeLine/\∀p,b p=none->Q (.ref p) (upd b p (.lst a))
theorem oJ(h:PA X es t):PE X (.Tuple es l pos) (Um t):=by
 refine .of ?_;intro a s i H Q I p;refine wpAny_Tuple_spliced (x4 (h pos a s i H _ I p) λo c ⟨j,g,d,r,z,q⟩=>⟨by rwa[<-r.length],?_⟩);have v:=d.hok.fresh (oT _);exact⟨.ref c.heap.objs.size,upd g c.heap.objs.size (.tup j),d.laid  (λb u e=>hD _ e) (oT _) (⟨z,o,r,⟨_,t6 _ rfl,rfl,_,rfl⟩⟩),rfl,q _ v⟩
theorem HE(h:PA X es t):PE X (.List es pos) (TX t):=by
 refine .of ?_;intro a s i H Q I o;refine wpAny_List_spliced (x4 (h pos a s i H _ I o) λl c ⟨j,g,d,r,z,q⟩=>⟨by rwa[<-r.length],?_⟩);have p:=d.hok.fresh (oT _);exact⟨.ref c.heap.objs.size,upd g c.heap.objs.size (.lst j),d.laid  (λb u e=>hD _ e) (oT _) ⟨z,l,0,r,t6 _ rfl⟩,rfl,q _ p⟩
end
abbrev Sp:=List V->Hp->VK->XK->Prop
abbrev BQ:=List Env->Hp->Shared->XK->Value->Shared->Prop
structure IE(P:Program)(w:World)(K:YQ)(mg:YL)(base:Heap)(A:Around)(outer:List Env)(s:Shared)(H:Hp):Prop where
 frames:A.frames=some outer
 mod:Mod K mg base
 bs:∀b o,base.get? b=some o->s.heap.get? b=some o/\H b=none
 bsz:base.objs.size<=s.heap.objs.size
 gU:s.heap.FunFrames base outer
 frf:∀b∈wR outer,H b=none
 hok:bX P w H s.heap
 bare:AllBare s.gens
def CE(outer:List Env)(P:Program)(w:World)(H:Hp)(s:Shared)(Q:VK)(u:Value)(a:Shared):Prop:=
 ∃v b,a.os=s.os/\AllBare a.gens/\Un (wR outer) [] H b s.heap a.heap/\bX P w b a.heap/\RelV v u/\Q v b
def CR(CX:BQ)(outer:List Env)(P:Program)(w:World)(H:Hp)(s:Shared)(Q:VK)(E:XK)(r:Result)(a:Shared):Prop:=
 match r with
 | .ok (.ret u)=>CE outer P w H s Q u a
 | .ok _=>False
 | .error e=>CX outer H s E e a
structure u3(P:Program)(w:World)(K:YQ)(mg:YL)(base:Heap)(CX:BQ)(k:Nat)(f:Addr)(fd:FuncData)(ps:YF)(sp:Sp):Prop where
 len:∀vs H Q E,sp vs H Q E->vs.length=ps.length
 run:∀(A:Around) (outer:List Env) (s:Shared) (H:Hp) (args:Args) (us:YG) (vs:List V) (Q:VK) (E:XK),K8 k A->IE P w K mg base A outer s H->BindsTo s fd args (ps.zip us)->Vals vs us->sp vs H Q E ->
  codeAny (model P w) A (.call (.ref f) args) (CR CX outer P w H s Q E) s
theorem u3.mono{K:YQ}(F:u3 P w K mg base CX j f b ps sp)(h:j<=k) :
  u3 P w K mg base CX k f b ps sp:=⟨F.len,λA outer s H a c vs Q E d=>F.run A outer s H a c vs Q E (d.mono h)⟩
theorem u3.imp{K:YQ}(F:u3 P w K mg base CX k f c ps sp)
  (h:∀vs H Q E,a vs H Q E->sp vs H Q E):u3 P w K mg base CX k f c ps a:=
 ⟨λvs H Q E q=>F.len vs H Q E (h _ _ _ _ q),λA outer s H b d vs Q E i j l e g=>F.run A outer s H b d vs Q E i j l e (h _ _ _ _ g)⟩
section
variable{X:Cx}{pins:YA}{σ:St}{H:Hp}{s s':Shared}
theorem Inv.UG(I:Inv X pins σ H s):IE X.prog X.w X.K X.mg X.base X.A X.stack s H:=
 ⟨I.ok.frames,I.ok.mod,I.bs,AC I.ok.bsz I.sz,I.stack,I.zO,I.hok,I.bare⟩
theorem Inv.after(I:Inv X pins σ H s)(h:CE X.stack X.prog X.w H s Q u s'):EP X pins σ Q u s':=by
 obtain⟨v,e,os,bare,un,hok,r,q⟩:=h;obtain⟨c,g,d,t,a⟩:=s';obtain rfl:a=s.os:=os;exact⟨v,e,I.call      un hok bare (λb z=>absurd z (by simp)),r,q⟩
end
def RO(sp:Sp)(a:List V)(E:XK)(t:TA):TE:=λb H Q=>t b H λvs c=>sp (vs++a) c Q E
def Binds(K:YQ)(b:FuncData)(ps:YF)(ds:YG):Prop:=
 ∀(s:Shared) (a:YG),K.In s.heap->(a++ds).length=ps.length->BindsTo s b ⟨a,[]⟩ (ps.zip (a++ds))
theorem Binds.all{K:YQ}(h:∀a:YG,a.length=ps.length->bindArgs c ⟨a,[]⟩=pure (ps.zip a)):Binds K c ps []:=λs a _ b=>by
 rw[ud] at b ⊢;exact .of_eq (h a b)
def Passes(CX:BQ)(X:Cx)(E:XK):Prop:=∀(a:YA) (c:St) (H:Hp) (s:Shared) (e:Value) (b:Shared),Inv X a c H s->CX X.stack H s E e b->X.xe e b
section
variable{X:Cx}{CX:BQ}{k:Nat}{f C:Addr}{fd:FuncData}{ps:YF}{sp:Sp}{dvs:List V}{ds:YG}{E:XK}{x m:Str}{p pos apos:Pos}{e o:Expr}{es:YH}{ta:TE}{t:TA}
theorem Oc{σ:St}(F:u3 X.prog X.w X.K X.mg X.base CX k f fd ps sp)(i:K8 k X.A)(l:Binds X.K fd ps ds)(hd:Vals dvs ds)(g:Passes CX X E)
  (I:Inv X pins σ H s) (r:Vals vs a) (h:sp (vs++dvs) H Q E):wpAny (model X.prog X.w) X.A (call (.ref f) a) (EP X pins σ Q) X.xe s:=by
 have c:=r.append hd;have j:(a++ds).length=ps.length:=by rw[<-c.length];exact F.len _ _ _ _ h
 refine wpAny_call (Xa (F.run X.A X.stack s H ⟨a,[]⟩ (a++ds) (vs++dvs) Q E i I.UG (l s a I.su j) c h) λr d b=>?_)
 cases r with
 | error e=>exact g pins σ H s e d I b
 | ok q=>
  cases q with
  | ret u=>exact I.after b
  | next=>exact False.elim b
  | brk=>exact False.elim b
  | cont=>exact False.elim b
theorem iB(F:u3 X.prog X.w X.K X.mg X.base CX k f fd ps sp)(j:K8 k X.A)(v:Gl X x)(l:X.mg x=some (.ref f))(u:PySem.W.keepIn X.K (.ref f)=true)(z:Binds X.K fd ps ds)(hd:Vals dvs ds)(i:Passes CX X E)
  (B:PA X (e::es) t) (c:(x == ("__debug__" : Str))=false:=by decide) (y:starEach (e::es) X.env=(false,eval e X.env)::starEach es X.env:=by rfl) (b:(backTo pos (starEach es X.env)).any (·.1)=false:=by rfl) :
  PE X (.Call (.Name x p) (e::es) [] pos) (RO sp dvs E t):=by
 refine .of ?_;intro a s g H Q I h;exact WJ (KL I v l (PySem.W.callWith_K  I.ok.mod.kin u (x4 (B pos a s g H _ I h) λG J ⟨vs,M,d,r,q⟩=>⟨d.su,Oc F j z hd i d r q⟩) y b) c)
end
section
variable{X:Cx}{CX:BQ}{k:Nat}{f C:Addr}{fd:FuncData}{ps ks:YF}{sp:Sp}{E:XK}{x m:Str}{p pos apos kpos:Pos}{e o:Expr}{es:YH}{kws:List Keyword}{te ta:TE}{t tk:TA}{nm:Option Str}
variable{g:YG->YG->YG}{gV:List V->List V->List V}
end
structure i5(N P:YF)(sc:Scope):Prop where
 kind:sc.kind=.function
 co:sc.isCoroutine=false
 gen:sc.isGenerator=false
 nd:N.Nodup
 pre:N.take P.length=P
 par:∀x∈P,sc.names.lookup x=some .local\/sc.names.lookup x=some .cell
 nofree:∀y∈sc.names,y.2≠.free
theorem nX{kindOf:Str->Option NameKind}:∀{binds:YD} {m:YL},(∀v,(x,v)∉binds)->bindL kindOf binds m x=m x
 | [],_,_=>rfl
 | (n,v)::r,m,h=>by
  unfold bindL;rw[nX λw hw=>h w (hH _ hw)];split
  ·have:x≠n:=by rintro rfl;exact h v hQ
   simp[this]
  ·rfl
theorem nL{kindOf:Str->Option NameKind}:∀{binds:YD} {m:YL},(∀v,(x,v)∉binds)->bindC kindOf binds m x=m x
 | [],_,_=>rfl
 | (n,v)::r,m,h=>by
  unfold bindC;rw[nL λw hw=>h w (hH _ hw)];split
  ·rfl
  ·have:x≠n:=by rintro rfl;exact h v hQ
   simp[this]
theorem nU{kindOf:Str->Option NameKind}{x:Str}{v:Value}:∀{P:YF} {vs:YG} {i:Nat} {m:YL},P.Nodup->P[i]?=some x->vs[i]?=some v->kindOf x=some .local ->
  bindL kindOf (P.zip vs) m x=some v
 | [],_,_,_,_,h,_,_=>by simp at h
 | _::_,[],_,_,_,_,h,_=>by simp at h
 | p::P,w::vs,0,m,nd,b,a,c=>by
  simp at b a;subst b;subst a;show bindL kindOf ((p,w)::P.zip vs) m p=_;unfold bindL;rw[nX λv d=>(List.nodup_cons.mp nd).1 (Yc d).1,t4 c];simp
 | p::P,w::vs,i+1,m,nd,b,a,c=>by
  unfold bindL;exact nU  (List.nodup_cons.mp nd).2 (by simpa using b) (by simpa using a) c
theorem ot{kindOf:Str->Option NameKind}{x:Str}{v:Value}:∀{P:YF} {vs:YG} {i:Nat} {m:YL},P.Nodup->P[i]?=some x->vs[i]?=some v->kindOf x≠some .local ->
  bindC kindOf (P.zip vs) m x=some v
 | [],_,_,_,_,h,_,_=>by simp at h
 | _::_,[],_,_,_,_,h,_=>by simp at h
 | p::P,w::vs,0,m,nd,b,a,c=>by
  simp at b a;subst b;subst a;show bindC kindOf ((p,w)::P.zip vs) m p=_;unfold bindC;rw[nL λv d=>(List.nodup_cons.mp nd).1 (Yc d).1,tz c];simp
 | p::P,w::vs,i+1,m,nd,b,a,c=>by
  unfold bindC;exact ot  (List.nodup_cons.mp nd).2 (by simpa using b) (by simpa using a) c
def start(N:YF)(vs:List V):St:=vs.map some++List.replicate (N.length-vs.length) none
def rK(CX:BQ)(P:Program)(w:World)(K:YQ)(mg:YL)(base:Heap)(N:YF)(a:Str)(scope:Scope)(f:Addr)(c:Value)(A:Around)(outer:List Env)(s:Shared)(H:Hp)(E:XK):Cx where
 prog:=P
 w:=w
 K:=K
 mg:=mg
 base:=base
 A:=A.deeper (envOfC a scope s.heap.objs.size f c)
 N:=N
 s₀:=s
 H₀:=H
 env:=envOfC a scope s.heap.objs.size f c
 outer:=outer
 stack:=envOfC a scope s.heap.objs.size f c::outer
 ex:=[]
 calm:=true
 fn:=λ_=>true
 pn:=[]
 xe:=λe d=>wpAny (model P w) (A.deeper (envOfC a scope s.heap.objs.size f c)) (leaving (envOfC a scope s.heap.objs.size f c) e) (λ_ b=>CX outer H s E e b) (λg b=>CX outer H s E g b) d
theorem qU{a:Scope}(h:a.names.lookup x=some .cell):∃c,(cellsFrom n a.names []).lookup x=some c:=by
 have q:=PySem.W.cellsFrom_some a.names n [] (.inl h);exact Option.isSome_iff_exists.mp q
theorem Ay{K:YQ}
  (S:i5 N ps scope) (hd:A.handled=none) (j:IE P w K mg base A outer s H) (X:vs.length=ps.length) (r:Vals vs M)
  (x:InCallC s s.heap.objs.size (bindL (envOfC d scope s.heap.objs.size f J).kindOf (ps.zip M) λ_=>none) (cellsFrom (s.heap.objs.size+1) scope.names []) (bindC (envOfC d scope s.heap.objs.size f J).kindOf (ps.zip M) λ_=>none) O) :
  Inv (rK CX P w K mg base N d scope f J A outer s H E) [] (start N vs) H O:=by
 have T:=by have:=GM List.length S.pre;rw[v4] at this;omega
 obtain⟨I,tk,rfl,R⟩:=x.done;have l:∀b,b∉(rK CX P w K mg base N d scope f J A outer s H E).ex:=λb z=>absurd (show b∈([]) from z) (by simp)
 refine⟨⟨j.mod,S.kind,rfl,rfl,oT _,λy z c I g=>(name_of_addr x.apart (VT I) (VT g)),λy o=>?_,λy c _ h=>(IR (x.above y c (VT h))),λ_=>hd,Around.frames_deeper j.frames,.inr ⟨rfl,rfl⟩,λb z=>absurd z (l b),j.bs,j.bsz,λb _ _=>l b,λb z=>absurd z (l b),j.gU,j.frf⟩,
  rfl,j.bare,Un.kept R,⟨_,x.toInCall.ns,λi y v I g Y=>?_⟩,λy c h=>⟨_,x.cell y c h⟩,j.hok.fresh (oT _),λy c h=>(j.hok.fresh (IR (x.above y c (VT h)))),λp C=>absurd (show p∈([]) from C) (by simp),j.hok.kept R,?_⟩
 ·rcases o with o | o
  ·exact qU o
  ·exact absurd rfl (S.nofree _ (VT o))
 ·have G:i<vs.length:=by
   unfold start at g
   by_cases G:i<vs.length
   ·exact G
   ·rw[Db (by simpa using G)] at g;rw[List.getElem?_replicate] at g;split at g<;>cases g
  have U:vs[i]?=some v:=by
   unfold start at g;rw[v2 (by simpa using G),sj] at g
   cases e:vs[i]? with
   | none=>rw[e] at g;cases g
   | some a=>rw[e] at g;cases g;rfl
  obtain⟨u,Q,rv⟩:=r.get U
  have C:ps[i]?=some y:=by
   rwa[<-S.pre,FB (by omega)]
  have B:ps.Nodup:=by rw[<-S.pre];exact S.nd.sublist (Wi _ _)
  refine⟨u,rv,?_⟩;rcases S.par y (tt C) with k | k
  ·exact .inl ⟨k,nU B C Q k⟩
  ·obtain⟨c,e⟩:=qU (n:=s.heap.objs.size+1) k;refine .inr ⟨.inl k,c,e,?_⟩;have q:=x.cell y c e;rw[ot B C Q (by show scope.names.lookup y≠_;rw[k];decide)] at q;exact q
 ·unfold start;show _=N.length;rw[uk,dL,Wg];omega
theorem SM{K:YQ}{body:YM}{X kV B U c ct oc:Value}
  {G:Array (YR)}   (lk:K.lookup f=some ⟨oc,od,.func (PySem.W.fnOf name a params body scope X kV B U an c ct),G⟩) (R:PySem.W.codeIn K c a=true) (S:i5 N ps scope)
  (len:∀vs H Q E,sp vs H Q E->vs.length=ps.length)
  (i:∀(A:Around) (outer:List Env) (s:Shared) (H:Hp) (vs:List V) (Q:VK) (E:XK),K8 k (A.deeper (envOfC a scope s.heap.objs.size f c))->sp vs H Q E ->
   ∃t,rQ (rK CX P w K mg base N a scope f c A outer s H E) body t/\t { nx:=λ_ g=>Q .p3 g,rt:=Q } (start N vs) H) :
  u3 P w K mg base CX (k+1) f (PySem.W.fnOf name a params body scope X kV B U an c ct) ps sp:=by
 refine⟨len,λA outer s H Y us vs Q E O z hb r l=>?_⟩;have hl:=len _ _ _ _ l;have KX:=z.mod.kin.keeps λb o e=>(z.bs b o e).1;have M:=z.mod.nolimit.keeps λb o e=>(z.bs b o e).1
 have h:∀y∈ps.zip us,scope.names.lookup y.1=some .local\/(scope.names.lookup y.1=some .cell/\((cellsFrom (s.heap.objs.size+1) scope.names []).lookup y.1).isSome=true):=λ⟨n,v⟩ hy=>by
  rcases S.par n (Yc hy).1 with q | q
  ·exact .inl q
  ·exact .inr ⟨q,PySem.W.cellsFrom_some _ _ _ (.inl q)⟩
 refine codeAny_call_function O.depth (KX _ _ lk) rfl S.co S.gen rfl (PySem.W.codeRec_of KX R) (hb _ _ _ _ (wpAny_newFunctionEnv_cells S.kind h λenv he T x=>?_));subst he;refine⟨M.keeps x.toInCall.keep,codeAny_func ?_⟩;obtain⟨t,ht,hq⟩:=i A outer s H vs Q E (O.deeper _) l;have I:Inv (rK CX P w K mg base N a scope f c A outer s H E) [] (start N vs) H T:=Ay S O.hd z hl r x;refine wE (ht [] T (start N vs) H _ I hq) (λfl C j=>?_) λe C j=>j
 have p:∀{d:St} {g:Hp} {v:V} {u:Value},Inv (rK CX P w K mg base N a scope f c A outer s H E) [] d g C->RelV v u->Q v g->CE outer P w H s Q u C:=
  λ{d g v u} J rv q=>⟨v,g,J.os,J.bare,J.base,J.hok,rv,q⟩
 cases fl with
 | ret u=>
  obtain⟨v,d,g,J,rv,q⟩:=j;exact p J rv q
 | next=>
  obtain⟨d,g,J,q⟩:=j;exact p (v:=V.p3)  J rfl q
 | brk=>
  obtain⟨_,_,_,q⟩:=j;exact False.elim q
 | cont=>
  obtain⟨_,_,_,q⟩:=j;exact False.elim q
section
variable{X:Cx}{x:Str}{p pos:Pos}{e:Expr}{es:YH}{t:TA}{id T:String}{r:List V->Hp->VK->Prop}
def SV(r:List V->Hp->VK->Prop)(t:TA):TE:=λa H Q=>t a H λvs b=>r vs b Q
theorem iJ (z:J1 X (.builtin id) r) (v:Gl X x) (u:X.mg x=none) (o:bootBuiltins x=some (.builtin id)) (B:PA X (e::es) t) (q:x ≠ "__name__":=by decide) (c:(x == ("__debug__" : Str))=false:=by decide)
  (y:starEach (e::es) X.env=(false,eval e X.env)::starEach es X.env:=by rfl) (b:(backTo pos (starEach es X.env)).any (·.1)=false:=by rfl):PE X (.Call (.Name x p) (e::es) [] pos) (SV r t):=by
 refine .of ?_;intro a s d H Q I h;exact WJ (bu I v u o (PyProof.Rows.callWith_builtin1 (x4 (B pos a s d H _ I h) λg i ⟨vs,E,C,j,l⟩=>z a i d E vs g Q C j l) y b) q c)
theorem fM (z:J1 X (.type T) r) (v:Gl X x) (u:X.mg x=none) (o:bootBuiltins x=some (.type T)) (B:PA X (e::es) t) (q:x ≠ "__name__":=by decide) (c:(x == ("__debug__" : Str))=false:=by decide)
  (y:starEach (e::es) X.env=(false,eval e X.env)::starEach es X.env:=by rfl) (b:(backTo pos (starEach es X.env)).any (·.1)=false:=by rfl):PE X (.Call (.Name x p) (e::es) [] pos) (SV r t):=by
 refine .of ?_;intro a s d H Q I h;exact WJ (bu I v u o (Wh (x4 (B pos a s d H _ I h) λg i ⟨vs,E,C,j,l⟩=>z a i d E vs g Q C j l) y b) q c)
end
end L2
namespace HT
open PySem PyProof.Rows
section
open PySem.SeqAt
open PySem.AutoSeq1 (wpAny_loadPart')
open PySem.MeetsSeq PySem.MeetsSeq2 PySem.MeetsSeq3
end
section
variable{prog:Program}{w:World}{A:Around}{E:YN}{s:Shared}
theorem Iw{vs a:YG}{Q:YN}(v:IsTup s.heap t vs.toArray)(x:IsTup s.heap b a.toArray)(o:vs≠[])
  (z:a=[]->Q (.ref t) s) (y:a≠[]->Q (.ref s.heap.objs.size) { s with heap:=s.heap.push { cls:=.type "tuple",data:=.seq (vs++a).toArray } })
  (hsz:vs.length+a.length<=sizeLine):wpAny (model prog w) A (binaryOp .Add (.ref t) (.ref b)) Q E s:=by
 obtain⟨⟨B,q,r,l⟩,j,p,n,hd⟩:=id v;obtain⟨⟨u,i,data2,d⟩,c,h,n2,g⟩:=id x;subst p hd h g;have e:vs.toArray++a.toArray=(vs++a).toArray:=by simp
 by_cases hw:a=[]
 ·exact Yj ⟨_,j,rfl⟩ ⟨_,c,rfl⟩ noFill_tuple_add seq_tuple_add Xh Xd (Xb _ _)
   (tuple_addW1 t b vs.toArray a.toArray n n2 q i l d (by simpa using o) (by simp[hw])) ⟨j,c,z hw⟩
 ·refine Yj ⟨_,j,rfl⟩ ⟨_,c,rfl⟩ noFill_tuple_add seq_tuple_add Xh Xd (Xb _ _)
   (tuple_addW2 t b vs.toArray a.toArray n n2 q i l d (by simpa using o) (by simpa using hw) (by rwa[])) ⟨j,c,?_⟩
  rw[e];exact y hw
def D9(n d:Nat):Option Int->Nat
 | none=>d
 | some v=>if v<0 then(v+(n:Int)).toNat else min v.toNat n
theorem Pl(n d:Nat)(hd:d<=n)(o:Option Int):D9 n d o<=n:=by
 cases o with
 | none=>exact hd
 | some v=>
  show(if v<0 then(v+n).toNat else min v.toNat n)<=n
  by_cases a:v<0
  ·rw[t4 a];omega
  ·rw[tz a];exact Nat.min_le_right _ _
theorem yA(v:Int)(n d:Nat):(if v<0 then max (v+(n:Int)) 0 else min v (n:Int))=((D9 n d (some v):Nat):Int):=by
 show(if v<0 then max (v+n) 0 else min v n)=(((if v<0 then(v+n).toNat else min v.toNat n)))
 by_cases a:v<0
 ·simp only[t4 a];omega
 ·simp[tz a];omega
theorem vL(lo a:Option Int)(n:Nat):Builtin.Slice.sliceAdjust lo a 1 (n:Int)=(((D9 n 0 lo:Nat):Int),((D9 n n a:Nat):Int)):=by
 have b:=by omega
 unfold Builtin.Slice.sliceAdjust;refine Prod.ext ?_ ?_
 ·cases lo with
  | none=>rfl
  | some v=>exact yA v n 0
 ·cases a with
  | none=>rfl
  | some v=>exact yA v n n
theorem xy(i j:Nat):Builtin.Slice.slicePlaces (i:Int) (j:Int) 1=j-i:=by
 unfold Builtin.Slice.slicePlaces;have a:=by omega
 split<;>omega
theorem T8(p:IsPart v o)(h:Q o s):wpAny (model prog w) A (Builtin.Slice.slicePartIndex v) Q E s:=by
 cases p with
 | none=>exact slicePart_none h
 | int i t=>exact slicePart_int h
theorem X0{lo b:Option Int}{Q:Int×Int×Nat->Shared->Prop}(j:s.heap.IsSliceOf g e d .none)(pl:IsPart e lo)(i:IsPart d b)
  (h:Q (((D9 n 0 lo:Nat):Int),1,D9 n n b-D9 n 0 lo) s):wpAny (model prog w) A (Builtin.Slice.sliceApplied (.ref g) (pure (n:Int))) Q E s:=by
 obtain⟨os,a,l,c⟩:=id j;refine eH (eH (VW a c  rfl (eH (VW a c  rfl (eH (VW a c  rfl (hE (eH (slicePart_none ?_)))))))));refine eH (T8 pl (eH (T8 i (eH (hE ?_)))));show wpAny _ _ (match Builtin.Slice.sliceAdjust lo b 1 n with | (lo,b)=>pure (lo,(1:Int),Builtin.Slice.slicePlaces lo b 1)) _ _ s;rw[vL lo b n];show wpAny _ _ (pure (((D9 n 0 lo):Int),1,Builtin.Slice.slicePlaces ((D9 n 0 lo)) ((D9 n n b)) 1)) _ _ s;rw[xy];exact hE h
theorem Ee(xs:YK)(i k:Nat):((List.range k).filterMap λ(m:Nat)=>xs[((i:Int)+(m:Int)*1).toNat]?).toArray=((xs.toList.drop i).take k).toArray:=by
 have e:(λ(m:Nat)=>xs[(i+(m:Int)*1).toNat]?)=λm=>xs[i+m]?:=by
  funext m
  have:(i+(m:Int)*1).toNat=i+m:=by omega
  rw[this]
 rw[e];have:=pick_run xs i k;rw[List.filterMap_map] at this;have a:((λx=>xs[x]?)∘λx=>i+x)=λm=>xs[i+m]?:=rfl;rw[a] at this;rw[this]
theorem eK{items:YK}{lo b:Option Int}{Q:YN}(c:IsTup s.heap t items)(p:s.heap.IsSliceOf d o l .none)(pl:IsPart o lo)(r:IsPart l b)
  (hw:¬(D9 items.size 0 lo=0/\D9 items.size items.size b=items.size))
  (h:Q (.ref s.heap.objs.size) { s with heap:=s.heap.push { cls:=.type "tuple",data:=.seq ((items.toList.drop (D9 items.size 0 lo)).take (D9 items.size items.size b-D9 items.size 0 lo)).toArray } })
  (hsz:items.size<=sizeLine):wpAny (model prog w) A (getItem (.ref t) (.ref d)) Q E s:=by
 have a:=by
  show((items.toList.drop (D9 items.size 0 lo)).take (D9 items.size items.size b-D9 items.size 0 lo)).toArray.size<=sizeLine;rw[t7,v4,Tl,u0];omega
 obtain⟨os,e,i,u⟩:=id p;have j:s.TypeIs (.ref d) "slice":=⟨os,e,i⟩
 unfold getItem
 try with_reducible refine BB ?_
 refine eH (Yg c.typeIs (by decide) (eH (EQ  c.typeIs Go
  (Ch Go c.typeIs entry_tuple_getitem ?_ (args_tuple_getitem _ _)))))
 show wpAny _ _ (Builtin.Tuple.tupleItemsOf (.ref t) >>= _) _ _ s;refine eH (tupleItemsOf_ c (eH (WO j ?_)));refine eH (X0 p pl r ?_)
 have g:¬((((D9 items.size 0 lo):Int) == 0&&(1:Int) == 1&&(D9 items.size items.size b-D9 items.size 0 lo) == items.size)=true):=by
  intro q;rw[vc,vc] at q;have x:((D9 items.size 0 lo:Nat):Int)=0:=eq_of_beq q.1.1;have v:D9 items.size items.size b-D9 items.size 0 lo=items.size:=eq_of_beq q.2;exact hw ⟨by omega,by omega⟩
 show wpAny _ _ (if (((D9 items.size 0 lo:Nat):Int) == 0&&(1:Int) == 1&&(D9 items.size items.size b-D9 items.size 0 lo) == items.size)=true then _ else _) _ _ s;rw[tz g,Ee]
 first
  | exact eH (m:=Builtin.Tuple.tupleExact _) (vy (hE ⟨_,rfl,hE h⟩) a)
  | exact eH (m:=Builtin.Tuple.tupleExact _) (vy (eH (hE (hE ⟨_,rfl,hE h⟩))) a)
  | exact eH (eH (m:=Builtin.Tuple.tupleExact _) (vy (hE (hE ⟨_,rfl,hE h⟩)) a))
  | exact eH (eH (m:=Builtin.Tuple.tupleExact _) (vy (hE ⟨_,rfl,hE h⟩) a))
end
end HT
namespace L2
open PySem PySem.Spec PyProof.Rows
abbrev TO:=St->Hp->(Option Int->Hp->Prop)->Prop
structure PO(X:Cx)(e:Option Expr)(t:TO) : Prop where
 of ::
 run :
 ∀(pins:YA) (s:Shared) (σ:St) (H:Hp) (Q:Option Int->Hp->Prop),Inv X pins σ H s->t σ H Q ->
  wpAny (model X.prog X.w) X.A (evalPart e X.env) (λu s'=>∃o H',Inv X pins σ H' s'/\IsPart u o/\Q o H') X.xe s
instance {X:Cx} {e:Option Expr} {t:TO} : CoeFun (PO X e t) λ_=>
 ∀(pins:YA) (s:Shared) (σ:St) (H:Hp) (Q:Option Int->Hp->Prop),Inv X pins σ H s->t σ H Q ->
  wpAny (model X.prog X.w) X.A (evalPart e X.env) (λu s'=>∃o H',Inv X pins σ H' s'/\IsPart u o/\Q o H') X.xe s:=⟨PO.run⟩
def JM:TO:=λ_ H Q=>Q none H
def QV(t:TE):TO:=λa H Q=>t a H λx b=>∃i,x=.int i/\Q (some i) b
section
variable{X:Cx}{e:Expr}{te:TE}{lo hi:Option Expr}{tl th:TO}{pos p2:Pos}
theorem KR:PO X none JM:=by
 refine .of ?_;intro a s b H Q I h;exact hE ⟨none,H,I,.none,h⟩
theorem Jc(h:PE X e te):PO X (some e) (QV te):=by
 refine .of ?_;intro a s b H Q I hw;refine x4 (h a s b H _ I hw) λu l ⟨x,j,g,c,d⟩=>?_;obtain⟨i,rfl,q⟩:=d;obtain⟨t,rfl⟩:=c;exact⟨some i,j,g,.int i t,q⟩
def MH(X:Cx)(r:V->Option Int->Option Int->Hp->VK->Prop):Prop:=
 ∀(a:YA) (s:Shared) (b:St) (H:Hp) (x:V) (v d c:Value) (lo hi:Option Int) (g:Addr) (Q:VK),Inv X a b H s->RelV x v->s.heap.IsSliceOf g d c .none->IsPart d lo->IsPart c hi->r x lo hi H Q ->
  ∃T id,typeLookup (.type T) "__getitem__"=pure (some (.builtin id))/\s.TypeIs v T/\wpAny (model X.prog X.w) X.A (getItem v (.ref g)) (EP X a b Q) X.xe s
theorem MH.or(h:MH X r)(h':MH X j):MH X (λx lo hi H Q=>r x lo hi H Q\/j x lo hi H Q):=by
 intro a s b H x v d c lo hi g Q I i o pl l q;rcases q with q | q
 ·exact h a s b H x v d c lo hi g Q I i o pl l q
 ·exact h' a s b H x v d c lo hi g Q I i o pl l q
def VJ(r:V->Option Int->Option Int->Hp->VK->Prop)(te:TE)(tl th:TO):TE:=λa H Q=>te a H λx d=>tl a d λl c=>th a c λu b=>r x l u b Q
theorem Fz(M:MH X r)(S:PE X e te)(O:PO X lo tl)(G:PO X hi th):PE X (.Subscript e (.Slice lo hi none p2) pos) (VJ r te tl th):=by
 refine .of ?_;intro a s d H Q I h;refine Subscript_ (x4 (S a s d H _ I h) λv p ⟨x,H1,I1,y,C⟩=>wpAny_Slice (x4 (O a p d H1 _ I1 C) λi o ⟨l,H2,I2,pl,B⟩=>x4 (G a o d H2 _ I2 B) λg c ⟨u,j,I3,E,z⟩=>hE ?_));have Y:Inv X a d j { c with heap:=c.heap.push { cls:=.type "slice",data:=.fields #[i,g,.none] } }:=I3.kept  λb ob q=>hD _ q;obtain⟨T,id,U,J,R⟩:=M a { c with heap:=c.heap.push { cls:=.type "slice",data:=.fields #[i,g,.none] } } d j x v i g l u c.heap.objs.size Q Y y (Ye ..) pl E z;exact tail_any  J U R (by with_unfolding_all rfl)
def jZ(xs:List V)(lo hi:Option Int):List V:=(xs.drop (HT.D9 xs.length 0 lo)).take (HT.D9 xs.length xs.length hi-HT.D9 xs.length 0 lo)
theorem gA(xs:List V)(lo hi:Option Int):(jZ xs lo hi).length<=xs.length:=by
 unfold jZ;rw[v4,Tl];omega
def UC(K:YQ):V->Option Int->Option Int->Hp->VK->Prop:=λx lo hi H Q=>∃a b,x=.ref a/\R6 K H a b /\
 ¬(HT.D9 b.length 0 lo=0/\HT.D9 b.length b.length hi=b.length)/\∀p,H p=none->Q (.ref p) (upd H p (.tup (jZ b lo hi)))
theorem Ni:MH X (UC X.K):=by
 intro i s B H x v E C lo hi G Q I p z pl u h;obtain⟨a,d,rfl,y,hw,q⟩:=h;cases p;obtain⟨g,r,l,j⟩:=I.tuple y;have c:g.toArray.size=d.length:=by exact r.length.symm
 refine⟨"tuple",_,PyProof.Rows.slot_tuple_getitem.lookup,l.typeIs,HT.eK l z pl u (by rwa[c]) ?_ (by rwa[c])⟩;rw[c];exact⟨.ref s.heap.objs.size,_,I.laid  (o:=.tup (jZ d lo hi)) (λb ob q=>hD _ q) (oT _) ⟨AC (gA d lo hi) j,_,(r.drop (HT.D9 d.length 0 lo)).take (HT.D9 d.length d.length hi-HT.D9 d.length 0 lo),IsTup.new _ _⟩,rfl,q _ (I.hok.fresh (oT _))⟩
def Sv(K:YQ):R2:=λx y H Q=>∃a b d c,x=.ref a/\y=.ref b/\R6 K H a d/\R6 K H b c/\d≠[]/\d.length+c.length<=sizeLine /\
 (c=[]->Q (.ref a) H)/\(c≠[]->∀p,H p=none->Q (.ref p) (upd H p (.tup (d++c))))
theorem Vals.iF(r:Vals xs a):a=[] ↔ xs=[]:=by
 cases r with
 | nil=>simp
 | cons _ _=>simp
theorem Lw:O1 X (binaryOp .Add) (Sv X.K):=by
 intro g s S H x y v u Q I B r h;obtain⟨a,b,p,l,rfl,rfl,R,O,M,j,E,C⟩:=h;cases B;cases r;obtain⟨J,d,G,_⟩:=I.tuple R;obtain⟨i,c,p2,_⟩:=I.tuple O;exact HT.Iw G p2 (λz=>M (d.iF.mp z)) (λz=>⟨.ref a,H,I,rfl,E (c.iF.mp z)⟩) (λz=>⟨.ref s.heap.objs.size,_,I.laid  (o:=.tup (p++l)) (λb ob q=>hD _ q) (oT _) ⟨by rwa[uk],_,d.append c,IsTup.new _ _⟩,rfl,C (λw=>z (c.iF.mpr w)) _ (I.hok.fresh (oT _))⟩) (by rwa[<-d.length,<-c.length])
end
def oB(n:Nat)(i:Int):YS:=if 0<=i then(if i<n then some i.toNat else none) else if -(n:Int)<=i then some (i+n).toNat else none
def P4{a:Type}(xs:List a)(i:Int):Option a:=(oB xs.length i).bind λj=>xs[j]?
theorem zS(h:oB n i=some j):seqIndex? i n=some j/\j<n/\-(n:Int)<=i/\i<n:=by
 unfold oB at h
 by_cases b:0<=i
 ·rw[t4 b] at h
  by_cases a:i<n
  ·rw[t4 a] at h;have e:=wh h;exact⟨by rw[seqIndex_of b a,e],by omega,by omega,a⟩
  ·rw[tz a] at h;cases h
 ·rw[tz b] at h
  by_cases a:-n<=i
  ·rw[t4 a] at h;have e:=wh h;exact⟨by rw[seqIndex_neg (by omega) a,e],by omega,a,by omega⟩
  ·rw[tz a] at h;cases h
theorem oM(h:P4 xs i=some v):∃j,seqIndex? i xs.length=some j/\xs[j]?=some v/\j<xs.length/\-(xs.length:Int)<=i/\i<xs.length:=by
 unfold P4 at h
 cases e:oB xs.length i with
 | none=>rw[e] at h;cases h
 | some j=>
  rw[e] at h;obtain⟨g,d,c,b⟩:=zS e;exact⟨j,g,h,d,c,b⟩
theorem pW{j:Nat}{v:a}(h:xs[j]?=some v):P4 xs (j:Int)=some v:=by
 have b:=(List.getElem?_eq_some_iff.mp h).1
 have e:oB xs.length j=some j:=by
  unfold oB;rw[t4 (by omega),t4 (by omega)];simp
 unfold P4;rwa[e]
def iC(b:Expr):Prop:=∀o i,subscripted b false o i=operate [o,i] (getItem o i)
def HR(X:Cx)(r:R2):Prop:=
 ∀(c a:Expr) (b:YA) (s:Shared) (d:St) (H:Hp) (x y:V) (v u:Value) (Q:VK),Inv X b d H s->RelV x v->RelV y u->r x y H Q ->
  subscripted a false v u=operate [v,u] (getItem v u)->wpAny (model X.prog X.w) X.A (subscriptTail c a v u) (EP X b d Q) X.xe s
def Vl(X:Cx)(id:String)(r:V->List V->Hp->VK->Prop):Prop:=
 ∀(a:YA) (s:Shared) (b:St) (H:Hp) (x:V) (c:List V) (v:Value) (d:YG) (Q:VK),Inv X a b H s->RelV x v->Vals c d->r x c H Q ->
  wpAny (model X.prog X.w) X.A (call (.builtin id) (v::d)) (EP X a b Q) X.xe s
section
variable{X:Cx}{a b:Expr}{ta tb:TE}{pos:Pos}
theorem HR.or(h:HR X r)(h':HR X l):HR X (λx y H Q=>r x y H Q\/l x y H Q):=by
 intro c d e s g H x y v u Q I j i q o;rcases q with q | q
 ·exact h c d e s g H x y v u Q I j i q o
 ·exact h' c d e s g H x y v u Q I j i q o
theorem LO(l:HR X r)(p:PE X a ta)(o:PE X b tb)(j:iC b):PE X (.Subscript a b pos) (Qo r ta tb):=by
 refine .of ?_;intro c s d H Q I h;exact Subscript_ (Qi p o I h λv u e x y B z i g q=>l a b c e d B x y v u Q z i g q (j _ _))
def RQ(K:YQ):R2:=λx y H Q=>∃p c i v,x=.ref p/\y=.int i/\G3 K H p c/\P4 c i=some v/\Q v H
def QX(K:YQ):R2:=λx y H Q=>∃p c i v,x=.ref p/\y=.int i/\R6 K H p c/\P4 c i=some v/\Q v H
def Si:R2:=λx y H Q=>∃z i c,x=.str z/\y=.int i/\z.length<=sizeLine/\P4 z.cps.toList i=some c/\Q (.str ⟨#[c]⟩) H
theorem JA:HR X (RQ X.K):=by
 intro g l c s E H x y v u Q I S R h G;obtain⟨p,xs,i,z,rfl,rfl,T,Y,q⟩:=h;cases S;obtain⟨t,rfl⟩:=R;obtain⟨B,r,pl,hz⟩:=I.list T;obtain⟨j,e,h2,h3,h4,h5⟩:=oM Y;obtain⟨w,M,o⟩:=r.get h2;have U:=r.length;have hn:=fG;have d:EP X c E Q w s:=⟨z,H,I,o,q⟩
 by_cases J:0<=i
 ·have C:=by
   rw[seqIndex_of J h5] at e;exact wh e
  exact item_listR pl.isList J (by omega) (by rw[C];simpa using M) d G
 ·have C:(i+B.toArray.size).toNat=j:=by
   rw[seqIndex_neg (by omega) h4] at e;rw[t7,<-U];exact wh e
  exact subscriptTail_builtinR  pl.isList.typeIs slot_list_getitem.lookup
   (wpAny_getItem_list_neg  pl.isList (by omega) (by rw[t7]<;>omega) (by omega) (by rw[C];simpa using M) ⟨rfl,d⟩) G
theorem NT:HR X (QX X.K):=by
 intro d e c s o H x y v u Q I E C h J;obtain⟨p,Y,i,z,rfl,rfl,M,R,q⟩:=h;cases E;obtain⟨t,rfl⟩:=C;obtain⟨G,r,pl,hz⟩:=I.tuple M;obtain⟨j,T,S,h3,h4,h5⟩:=oM R;obtain⟨w,U,g⟩:=r.get S;have O:=r.length;have hn:=fG;have l:EP X c o Q w s:=⟨z,H,I,g,q⟩
 exact subscriptTail_builtinR  pl.typeIs slot_tuple_getitem.lookup
  (getItem_tuple   pl (by omega) (by omega) (by rwa[t7,<-O]) (by simpa using U) ⟨rfl,l⟩) J
theorem ON:HR X Si:=by
 intro d e g s R H x y v u Q I p o h r;obtain⟨z,i,c,rfl,rfl,T,C,q⟩:=h;obtain⟨t,rfl⟩:=p;obtain⟨S,rfl⟩:=o;obtain⟨j,l,J,Y,G,E⟩:=oM C;have B:z.cps.toList.length=z.length:=by simp[Str.length]
 rw[B] at l G E;have U:=fG
 exact tail_any (typeIs_str s z t) slot_str_getitem.lookup (getItem_str  (by
  have O:decide (i < -(2^63))=false:=v5 (by omega);have M:decide (i ≥ 2^63)=false:=v5 (by omega);rw[O,M,Bool.or_false]) (by rw[l];simpa using J) ⟨.str ⟨#[c]⟩,H,I.tok _,⟨_,rfl⟩,q⟩) r
def Tq(K:YQ):R2:=λx y H Q=>RQ K x y H Q\/QX K x y H Q\/Si x y H Q
theorem Cr:HR X (Tq X.K):=JA.or (NT.or ON)
theorem wU(its:YG)(n j:Nat)(u:Value):Obj.mapSeq (·.setIfInBounds j u) { cls:=.type "list",data:=.seq its.toArray n }={ cls:=.type "list",data:=.seq (its.set j u).toArray n }:=by
 simp[Obj.mapSeq]
theorem Inv.lst{σ:St}(I:Inv X pins σ H s)(h:H p=some (.lst xs)) :
  ∃(its:YG) (n:Nat),Vals xs its/\s.heap.get? p=some { cls:=.type "list",data:=.seq its.toArray n }/\xs.length<=sizeLine:=by
 obtain⟨z,its,n,r,e⟩:=I.hok p _ h;exact⟨its,n,r,e,z⟩
theorem Inv.Nb{σ:St}{its its':YG}(I:Inv X pins σ H s)(h:H p=some (.lst xs))
  (i:s.heap.get? p=some { cls:=.type "list",data:=.seq its.toArray n }) (g:f { cls:=.type "list",data:=.seq its.toArray n }={ cls:=.type "list",data:=.seq its'.toArray d }) (r:Vals c its') (hz:c.length<=sizeLine) (t:Nat) :
  Inv X pins σ (upd H p (.lst c)) { s with heap:=s.heap.update p f,toks:=t }:=by
 have e:(s.heap.update p f).get? p=some { cls:=.type "list",data:=.seq its'.toArray d }:=by
  rw[A1 f i (by rw[g]<;>rfl),g]
 exact I.write   (by rw[h];trivial) (.inl rfl) (λb u j q=>(Uf _ _ (IN j)).trans q) ⟨_,e⟩ ⟨hz,its',d,r,e⟩
def MN:V->V->V->Hp->(Hp->Prop)->Prop:=λo i v H Q=>∃p c k j,o=.ref p/\i=.int k/\H p=some (.lst c)/\oB c.length k=some j/\Q (upd H p (.lst (c.set j v)))
theorem set_list:Sy X MN:=by
 intro c s G H o i v T U u Q I M O rv h;obtain⟨p,J,k,j,rfl,rfl,y,S,q⟩:=h;cases M;obtain⟨t,rfl⟩:=O;obtain⟨d,n,r,g,R⟩:=I.lst y;obtain⟨e,h2,B,z⟩:=zS S;have l:=r.length;have Y:=fG
 have E:=
  I.Nb y g (wU d n j u) (r.set rv j) (by rwa[Ix]) s.toks
 by_cases C:0<=k
 ·have x:=by
   rw[seqIndex_of C z] at e;exact wh e
  exact PySem.W.ki_setAt g C (by omega) (by rwa[t7,<-l]) (by rw[x];exact⟨_,E,q⟩)
 ·have x:(k+d.toArray.size).toNat=j:=by
   rw[seqIndex_neg (by omega) B] at e;rw[t7,<-l];exact wh e
  exact PySem.W.ki_setBack g (by omega) (by rwa[t7,<-l]) (by omega) (by rw[x];exact⟨_,E,q⟩)
theorem oD(lo c:Option Int)(n:Nat):(sliceBounds lo c none n).1=((HT.D9 n 0 lo:Nat):Int)/\(sliceBounds lo c none n).2.1=((HT.D9 n n c:Nat):Int)/\(sliceBounds lo c none n).2.2=1:=by
 refine⟨?_,?_,rfl⟩
 ·cases lo with
  | none=>simp[sliceBounds,HT.D9]
  | some i=>
   simp[sliceBounds,HT.D9]
   by_cases h:i<0
   ·simp[h]<;>omega
   ·simp[h]<;>omega
 ·cases c with
  | none=>simp[sliceBounds,HT.D9]
  | some i=>
   simp[sliceBounds,HT.D9]
   by_cases h:i<0
   ·simp[h]<;>omega
   ·simp[h]<;>omega
theorem lG(its:YG)(lo c:Option Int):slicePick its.toArray lo c none=((its.drop (HT.D9 its.length 0 lo)).take (HT.D9 its.length its.length c-HT.D9 its.length 0 lo)).toArray:=by
 obtain⟨g,e,d⟩:=oD lo c its.toArray.size;unfold slicePick;rw[g,e,d];simp only[sliceRange_one,pick_run,t7]
def QQ(K:YQ):V->Option Int->Option Int->Hp->VK->Prop:=λx lo d H Q=>∃a c,x=.ref a/\G3 K H a c/\∀p,H p=none->Q (.ref p) (upd H p (.lst (jZ c lo d)))
theorem Ik:MH X (QQ X.K):=by
 intro g s B H x v E C lo e G Q I j z pl l h;obtain⟨a,c,rfl,y,q⟩:=h;cases j;obtain⟨p,r,i,u⟩:=I.list y;have d:=r.length;refine⟨"list",_,slot_list_getitem.lookup,i.isList.typeIs,wpAny_getItem_list_slice i.isList z pl l .none (by simp) ?_ (by rw[t7]<;>omega)⟩;rw[lG,<-d];exact⟨.ref s.heap.objs.size,_,I.laid  (o:=.lst (jZ c lo e)) (λb ob q=>hD _ q) (oT _) ⟨AC (gA c lo e) u,_,0,(r.drop (HT.D9 c.length 0 lo)).take (HT.D9 c.length c.length e-HT.D9 c.length 0 lo),t6 _ rfl⟩,rfl,q _ (I.hok.fresh (oT _))⟩
def aS:V->Bool
 | .p3=>true
 | .bl _=>true
 | .int _=>true
 | .str _=>true
 | _=>false
def IX:V->V->Bool
 | .p3,.p3=>true
 | .bl a,.bl b=>a == b
 | .bl a,.int b=>(if a then 1 else 0) == b
 | .int a,.bl b=>a == (if b then 1 else 0)
 | .int a,.int b=>a == b
 | .str a,.str b=>a == b
 | _,_=>false
theorem Nf(e:RelV y u)(c:RelV x v)(h:aS y=true)(g:aS x=true):SeqAt.EqAt A s u v (IX y x):=by
 cases y with
 | p3=>
  cases e
  cases x with
  | p3=>cases c;exact SeqAt.EqAt.same _
  | bl b=>cases c;exact SeqAt.EqAt.none_bool b
  | int b=>obtain⟨t,rfl⟩:=c;exact SeqAt.EqAt.none_int b t
  | str b=>obtain⟨t,rfl⟩:=c;exact SeqAt.EqAt.none_str b t
  | _=>exact absurd (g) sK
 | bl a=>
  cases e
  cases x with
  | p3=>cases c;exact SeqAt.EqAt.bool_none a
  | bl b=>cases c;exact SeqAt.EqAt.bool_bool a b
  | int b=>obtain⟨t,rfl⟩:=c;exact SeqAt.EqAt.bool_int a b t
  | str b=>obtain⟨t,rfl⟩:=c;exact SeqAt.EqAt.bool_str a b t
  | _=>exact absurd (g) sK
 | int a=>
  obtain⟨d,rfl⟩:=e
  cases x with
  | p3=>cases c;exact SeqAt.EqAt.int_none a d
  | bl b=>cases c;exact SeqAt.EqAt.int_bool a d b
  | int b=>obtain⟨t,rfl⟩:=c;exact SeqAt.EqAt.int_int a d b t
  | str b=>obtain⟨t,rfl⟩:=c;exact SeqAt.EqAt.int_str a d b t
  | _=>exact absurd (g) sK
 | str a=>
  obtain⟨d,rfl⟩:=e
  cases x with
  | p3=>cases c;exact SeqAt.EqAt.str_none a d
  | bl b=>cases c;exact SeqAt.EqAt.str_bool a d b
  | int b=>obtain⟨t,rfl⟩:=c;exact SeqAt.EqAt.str_int a d b t
  | str b=>obtain⟨t,rfl⟩:=c;exact SeqAt.EqAt.str_str a d b t
  | _=>exact absurd (g) sK
 | _=>exact absurd (h) sK
def uX(x:V)(u:Value):Bool:=match u with
 | .none=>IX .p3 x
 | .bool b=>IX (.bl b) x
 | .int i _=>IX (.int i) x
 | .str z _=>IX (.str z) x
 | _=>false
theorem EF(r:RelV y u)(f:aS y=true):uX x u=IX y x:=by
 cases y with
 | p3=>cases r;rfl
 | bl b=>cases r;rfl
 | int i=>obtain⟨t,rfl⟩:=r;rfl
 | str z=>obtain⟨t,rfl⟩:=r;rfl
 | _=>exact absurd (f) sK
theorem di:∀{xs:List V} {c:YG},Vals xs c->xs.all aS=true->c.any (uX x)=xs.any λy=>IX y x
 | _,_,.nil,_=>rfl
 | y::xs,u::c,.cons r t,f=>by
  rw[We,vc] at f;rw[VR,VR,EF r f.1,di t f.2]
theorem aZ{x:V}{v:Value}(e:RelV x v)(g:aS x=true):∀{xs:List V} {d:YG},Vals xs d->xs.all aS=true->∀u∈d,SeqAt.EqAt A s u v (uX x u)
 | _,_,.nil,_=>λu c=>by cases c
 | y::xs,u::d,.cons r t,f=>λh c=>by
  rw[We,vc] at f;rcases List.mem_cons.mp c with rfl | c
  ·rw[EF r f.1];exact Nf r e f.1 g
  ·exact aZ e g t f.2 h c
def Tb(x:V)(xs:List V):Bool:=xs.any λy=>IX y x
def QE(K:YQ)(d:Bool):R2:=λx y H Q=>∃p c,y=.ref p/\(G3 K H p c\/R6 K H p c)/\aS x=true/\c.all aS=true/\Q (.bl (if d then !Tb x c else Tb x c)) H
theorem mF:O1 X (compareOp .In) (QE X.K false):=by
 intro g s o H x y v u Q I e j h;obtain⟨p,z,rfl,d,i,fs,q⟩:=h;cases j;rcases d with d | d
 ·obtain⟨c,r,pl,l⟩:=I.list d;refine SeqAt.in_listAt (uX x) pl.isList (λw hw=>aZ e i r fs w (by simpa using hw)) ⟨.bl _,H,I,rfl,?_⟩;rwa[show c.toArray.any (uX x)=c.any (uX x) by simp,di r fs]
 ·obtain⟨c,r,pl,l⟩:=I.tuple d;refine SeqAt.in_tupleAt (uX x) pl (λw hw=>aZ e i r fs w (by simpa using hw)) ⟨.bl _,H,I,rfl,?_⟩;rwa[show c.toArray.any (uX x)=c.any (uX x) by simp,di r fs]
theorem pI:O1 X (compareOp .NotIn) (QE X.K true):=by
 intro g s o H x y v u Q I e j h;obtain⟨p,z,rfl,d,i,fs,q⟩:=h;cases j;rcases d with d | d
 ·obtain⟨c,r,pl,l⟩:=I.list d;refine SeqAt.notIn_listAt (uX x) pl.isList (λw hw=>aZ e i r fs w (by simpa using hw)) ⟨.bl _,H,I,rfl,?_⟩;rwa[show c.toArray.any (uX x)=c.any (uX x) by simp,di r fs]
 ·obtain⟨c,r,pl,l⟩:=I.tuple d;refine SeqAt.notIn_tupleAt (uX x) pl (λw hw=>aZ e i r fs w (by simpa using hw)) ⟨.bl _,H,I,rfl,?_⟩;rwa[show c.toArray.any (uX x)=c.any (uX x) by simp,di r fs]
theorem pC:J1 X (.type "list") (λxs H Q=>∃p g,xs=[.ref p]/\(G3 X.K H p g\/R6 X.K H p g)/\∀l,H l=none->Q (.ref l) (upd H l (.lst g))):=by
 intro v s J H xs O Q I r h;obtain⟨p,g,rfl,y,q⟩:=h;obtain⟨u,rfl,M⟩:=vals1 r;cases M
 have B:∀(c:YG),Vals g c->g.length<=sizeLine->∀(d:Heap) (j:Nat),(∀b G,s.heap.get? b=some G->d.get? b=some G) ->
   d.get? s.heap.objs.size=some { cls:=.type "list",dict:=none,data:=.seq c.toArray j,slots:=#[] }->EP X v J Q (.ref s.heap.objs.size) { s with heap:=d }:=λc i x d j kp e=>
  ⟨.ref s.heap.objs.size,_,I.laid  kp (oT _) (show p8 X.prog X.w _ d _ (.lst g) from⟨x,c,j,i,e⟩),rfl,q _ (I.hok.fresh (oT _))⟩
 rcases y with y | y
 ·obtain⟨c,i,pl,x⟩:=I.list y;have z:=i.length;obtain⟨o,C,E,n,hd⟩:=pl.isList;exact call_list_seq p (.inl rfl) C E hd (λd j kp e=>B c i x d j kp e) (by simp[]<;>omega)
 ·obtain⟨c,i,pl,x⟩:=I.tuple y;have z:=i.length;obtain⟨o,C,E,n,hd⟩:=pl;exact call_list_seq p (.inr rfl) C E hd (λd j kp e=>B c i x d j kp e) (by simp[]<;>omega)
theorem A4:J1 X (.type "tuple") (λxs H Q=>∃p g,xs=[.ref p]/\((G3 X.K H p g/\∀l,H l=none->Q (.ref l) (upd H l (.tup g)))\/(R6 X.K H p g/\Q (.ref p) H))):=by
 intro c s x H xs G Q I r h;obtain⟨p,g,rfl,h⟩:=h;obtain⟨u,rfl,C⟩:=vals1 r;cases C;rcases h with⟨v,q⟩ | ⟨v,q⟩
 ·obtain⟨d,j,pl,y⟩:=I.list v;have z:=j.length;refine call_tuple_list pl.isList (λi kp=>?_) (by simp[]<;>omega);have B:=I.kept (t':=s.toks) kp
  have E:=
   B.laid (t':=s.toks) (λb o e=>hD _ e) (oT _) (show p8 X.prog X.w _ _ _ (.tup g) from⟨y,d,j,IsTup.new _ _⟩)
  exact⟨.ref i.objs.size,_,E,rfl,q _ (B.hok.fresh (oT _))⟩
 ·obtain⟨d,j,pl,y⟩:=I.tuple v;exact call_tuple_same pl ⟨.ref p,H,I,rfl,q⟩
def Vq(K:YQ)(T:String)(x:V)(H:Hp):Prop:=match x with
 | .str _=>T="str"
 | .int _=>T="int"
 | .ref p=>(T="list" /\ ∃d,G3 K H p d)\/(T="tuple" /\ ∃o,K.lookup p=some o/\o.cls=.type "tuple" /\ o.dict=none) \/
   (T="dict" /\ ((∃c,Dd H p c)\/∃c,H p=some (.dT c)))\/(T="set" /\ ∃S n,H p=some (.set S n))
 | _=>False
theorem Pt{σ:St}(I:Inv X pins σ H s)(r:RelV x v)(ty:Vq X.K T x H) :
  s.TypeIs v T/\∀a,v=.ref a->∃ob,s.heap.get? a=some ob/\ob.dict=none:=by
 cases x with
 | str z=>
  obtain⟨t,rfl⟩:=r;cases(ty);exact⟨typeIs_str s z t,λ_ e=>nomatch e⟩
 | int i=>
  obtain⟨t,rfl⟩:=r;cases(ty);exact⟨typeIs_int s i t,λ_ e=>nomatch e⟩
 | ref p=>
  cases r;rcases ty with⟨rfl,u,l⟩ | ⟨rfl,o,d,q,hd⟩ | ⟨rfl,d⟩ | ⟨rfl,S,n,d⟩
  ·obtain⟨j,_,pl,_⟩:=I.list l;refine⟨pl.isList.typeIs,λa e=>?_⟩;cases e;obtain⟨o,n,e,c,hd,_⟩:=pl;exact⟨o,e,hd⟩
  ·refine⟨⟨o,I.su p o d,q⟩,λa e=>?_⟩;cases e;exact⟨o,I.su _ o d,hd⟩
  ·have z:∃o,s.heap.get? p=some o/\o.ExactDict:=by
    rcases d with⟨g,d⟩ | ⟨g,d⟩
    ·obtain⟨_,_,_,_,o,_,_,e,ex,_⟩:=(d.ok I.hok)
     exact⟨o,e,ex⟩
    ·obtain⟨_,_,_,_,o,_,_,e,ex,_⟩:=I.hok p _ d;exact⟨o,e,ex⟩
   obtain⟨o,e,ex⟩:=z;refine⟨⟨o,e,ex.1⟩,λa h=>?_⟩;cases h;exact⟨o,e,ex.2.1⟩
  ·obtain⟨o,_,_,_,e,ex,_⟩:=I.hok p _ d;refine⟨⟨o,e,ex.1⟩,λa h=>?_⟩;cases h;exact⟨o,e,ex.2.1⟩
 | _=>exact False.elim ty
def UQ(K:YQ)(T:String)(r:V->List V->Hp->VK->Prop)(g:TE)(t:TA):TE:=λc H Q=>g c H λx d=>Vq K T x d/\t c d λe h=>r x e h Q
variable{o e:Expr}{es:YH}{to:TE}{t:TA}{name:Str}{apos cpos:Pos}{T id:String}{r:V->List V->Hp->VK->Prop}
theorem az (M:PlainAttrs T) (slot:Slot T name id) (p:typeOf (.builtin id)=pure (.type "method_descriptor")) (S:Vl X id r) (R:PE X o to) (U:PA X (e::es) t)
  (i:attributeBase o name X.env (eval o X.env)=eval o X.env:=by rfl)
  (j:((backTo cpos (starEach (e::es) X.env)).all (λx=>!x.1)&&(backToKw cpos (keywordEach [] X.env)).all (λx=>x.1.isSome)
   && decide ((e::es).length+([]:List Keyword).length+(if ([]:List Keyword).isEmpty then 0 else 1)<30))=true:=by rfl)
  (g:(apos.endLine == cpos.line)=true:=by rfl) (O:starEach (e::es) X.env=(false,eval e X.env)::starEach es X.env:=by rfl) (d:(backTo cpos (starEach es X.env)).any (·.1)=false:=by rfl) :
  PE X (.Call (.Attribute o name apos) (e::es) [] cpos) (UQ X.K T r to t):=by
 refine .of ?_;intro c s l H Q I h;refine wpAny_Call_method_late i j g rfl (x4 (R c s l H _ I h) λv C ⟨x,H1,y,q,ty,J⟩=>?_);obtain⟨h1,Y⟩:=Pt y q ty;refine⟨T,id,M,slot,p,h1,Y,?_⟩;have u:=U cpos c C l H1 _ y J;rw[O] at u ⊢;exact Xx (by show(false||(backTo cpos (starEach es X.env)).any (·.1))=false;rw[d]<;>rfl) (XO (x4 u λz B ⟨vs,H2,I2,E,G⟩=>S c B l H2 x vs v z Q I2 q E G))
end
def Vu(X:Cx)(id:String)(r:V->List V->Hp->VK->Prop):Prop:=
 ∀(a:YA) (s:Shared) (b:St) (H:Hp) (x:V) (c:List V) (v:Value) (d:YG) (Q:VK),Inv X a b H s->RelV x v->Vals c d->r x c H Q ->
  wpAny (model X.prog X.w) X.A (call (.builtin id) (v::d)) (EP X a b Q) X.xe s
theorem Vals.one:∀{x:V} {a:YG},Vals [x] a->∃u,a=[u]/\RelV x u
 | _,_,.cons r .nil=>⟨_,rfl,r⟩
theorem Vals.zero:∀{a:YG},Vals [] a->a=[]
 | _,.nil=>rfl
theorem Vals.reverse(h:Vals xs a):Vals xs.reverse a.reverse:=by
 induction h with
 | nil=>exact .nil
 | cons r t b=>rw[WC,WC];exact Vals.append b (.cons r .nil)
theorem Vals.rep(h:Vals xs a):∀k:Nat,Vals (List.replicate k xs).flatten (List.replicate k a).flatten
 | 0=>.nil
 | k+1=>by
  exact Vals.append h (Vals.rep h k)
theorem foldl_rep(its:YG):∀(k:Nat) (acc:YG),
  List.foldl (λb a=>b++a) acc.toArray (List.replicate k its.toArray)=(acc++(List.replicate k its).flatten).toArray
 | 0,acc=>by simp
 | k+1,acc=>by
  have e:acc.toArray++its.toArray=(acc++its).toArray:=by simp
  have c:(acc++its)++(List.replicate k its).flatten=acc++(List.replicate (k+1) its).flatten:=by
   rw[Ps,Wl,v6]
  rw[<-c,<-foldl_rep its k (acc++its),<-e,Ps,UF]
section
variable{X:Cx}{pins:YA}{σ:St}{H:Hp}{s:Shared}{l b:Addr}{xs ys zs:List V}
theorem Inv.UI{its its':YG}{f:YK->YK}(I:Inv X pins σ H s)(h:H l=some (.lst xs))
  (e:s.heap.get? l=some { cls:=.type "list",data:=.seq its.toArray n }) (d:f its.toArray=its'.toArray) (a:Vals ys its') (hz:ys.length<=sizeLine) :
  Inv X pins σ (upd H l (.lst ys)) { s with heap:=s.heap.update l (Obj.mapSeq f),toks:=t' }:=by
 have q:=PySem.IsL.update e f;rw[d] at q;exact I.write   (by rw[h];exact trivial) (.inl rfl) (λi u g c=>(Uf s.heap (Obj.mapSeq f) (IN g)).trans c) ⟨_,q⟩ ⟨hz,its',_,a,q⟩
theorem Inv.Hi(I:Inv X pins σ H s)(a:Vals ys its)(hz:ys.length<=sizeLine) :
  Inv X pins σ (upd H s.heap.objs.size (.lst ys)) { s with heap:=s.heap.push { cls:=.type "list",data:=.seq its.toArray },toks:=t' }:=
 I.laid (λ_ _ q=>hD _ q) (oT _) ⟨hz,its,0,a,t6 _ rfl⟩
theorem Inv.fresh(I:Inv X pins σ H s):H s.heap.objs.size=none:=I.hok.fresh (oT _)
theorem Inv.Js(I:Inv X pins σ H s)(a:H l=some (.lst xs)):xs.length<=sizeLine/\∃(its:YG) (n:Nat),Vals xs its/\xs.length=its.length/\s.heap.get? l=some { cls:=.type "list",data:=.seq its.toArray n }:=by
 obtain⟨z,its,n,r,e⟩:=I.hok l _ a;exact⟨z,its,n,r,r.length,e⟩
theorem Gp(h:n<=sizeLine):Builtin.List.listTooLong n=false:=v5 (by omega)
end
section
variable{X:Cx}
def I0:V->List V->Hp->VK->Prop:=λx vs H Q=>∃l a y,x=.ref l/\vs=[y]/\H l=some (.lst a)/\a.length<sizeLine/\Q .p3 (upd H l (.lst (a++[y])))
theorem A5:Vu X "list.append" I0:=by
 intro b s i H x vs v o Q I d rv h;obtain⟨l,j,y,rfl,rfl,c,p,q⟩:=h;cases d;obtain⟨u,rfl,g⟩:=rv.one;obtain⟨z,a,n,r,B,e⟩:=I.Js c;refine call_meets F.slot_list_append ⟨_,e,rfl⟩ F.entry_list_append (F.args_list_append_2 _ _) (PySem.list_append l a.toArray n u (by rw[List.size_toArray];omega)) ⟨e,⟨.p3,_,I.UI  c e (by simp) (r.append (.cons g .nil)) ?_,rfl,q⟩⟩;rw[uk,C2];omega
def NP:R2:=λx y H Q=>∃l b c a,x=.ref l/\y=.ref b/\H l=some (.lst c)/\H b=some (.lst a)/\c.length+a.length<=sizeLine/\∀p,H p=none->Q (.ref p) (upd H p (.lst (c++a)))
theorem OF:O1 X (binaryOp .Add) NP:=by
 intro d s G H x y v u Q I i g h;obtain⟨l,b,M,J,rfl,rfl,p,B,O,q⟩:=h;cases i;cases g;obtain⟨z,c,n,r,R,e⟩:=I.Js p;obtain⟨z2,a,n2,j,o,E⟩:=I.Js B;refine PySem.P.add_list e E ?_ (by rw[t7,t7];omega);have C:c.toArray++a.toArray=(c++a).toArray:=by simp
 rw[C];exact⟨.ref _,_,I.Hi  (r.append j) (by rw[uk];omega),rfl,q _ I.fresh⟩
def SA:R2:=λx y H Q=>∃l k a,x=.ref l/\y=.int k/\H l=some (.lst a)/\-(2^63)<=k/\k<2^63/\a.length*k.toNat<=sizeLine /\
 ∀p,H p=none->Q (.ref p) (upd H p (.lst (List.replicate k.toNat a).flatten))
theorem len_rep{a:Type}(xs:List a)(k:Nat):(List.replicate k xs).flatten.length=k*xs.length:=by
 induction k with
 | zero=>simp
 | succ k b=>rw[Ps,Wl,uk,b,Nat.succ_mul,Nat.add_comm]
theorem NZ:O1 X (binaryOp .Mult) SA:=by
 intro B s σ H x y v u Q I J G h;obtain⟨l,k,xs,rfl,rfl,O,S,R,C,q⟩:=h;cases J;obtain⟨t,rfl⟩:=G;obtain⟨z,b,n,r,M,e⟩:=I.Js O;have g:b.toArray.size*k.toNat<=sizeLine:=by rwa[t7,<-M]
 have j:¬b.toArray.size*k.toNat>(2^63-1)/8:=by
  have:sizeLine<=(2^63-1)/8:=by decide
  omega
 have i:¬(!Builtin.List.listFitsIndex k)=true:=by
  rw[fitsIndex_both S R];exact sK
 have c:¬Builtin.List.listTooLong (b.toArray.size*k.toNat)=true:=by
  rw[Gp g];exact sK
 have d:List.foldl (λp o=>p++o) #[] (List.replicate (if b.toArray.isEmpty=true then 0 else k.toNat) b.toArray)=(List.replicate k.toNat b).flatten.toArray:=by
  have Y:=λm=>by
   have:=foldl_rep b m [];rwa[va] at this
  rw[Y]
  cases b with
  | nil=>simp
  | cons a r'=>rw[tz (by simp)]
 refine wpAny_binaryOp_repeat_ref   (by decide) ⟨_,e,rfl⟩ (λE=>typeIs_int E k t) noFill_list_mul F.fills_int_mul F.slot_int_rmul repeat_list F.slot_int_index.lookup
  (call_meets F.slot_int_rmul (typeIs_int s k t) F.entry_int_rmul (F.args_int_rmul_2 _ _) (int___rmul___int_list k t l b.toArray n)
   ⟨e,rfl,⟨_,e,rfl⟩,call_meets F.slot_list_mul ⟨_,e,rfl⟩ F.entry_list_mul (F.args_list_mul_2 _ _) (AutoListH.list___mul___list_int_3 l b.toArray n k t i j c) ⟨e,?_⟩⟩)
 rw[d];exact⟨.ref _,_,I.Hi  (r.rep k.toNat) (by rwa[len_rep,Nat.mul_comm]),rfl,q _ I.fresh⟩
end
section
variable{prog:Program}{w:World}{A:Around}{E:YN}{s:Shared}
end
section
variable{X:Cx}
end
end L2
namespace Att
open PySem PySem.W PySem.Calls PyProof.Rows
theorem hU:∀(ns:YI) (vs:YG),WellAll P h vs (ns.map WData.int)->IntsAre vs ns:=by
 intro ns
 induction ns with
 | nil=>
  intro vs w;cases w;exact .nil
 | cons n ns c=>
  intro vs w;cases w with
  | cons a b=>
   cases a;exact .cons _ _ (c _ b)
theorem AD{l:OpenLaw}(C:l.most=some n){c:YG}
  (e:l.row.toRowW.claim.pre b=true) (p:WellAll P h c b) :
  ∃a vs ns,c=[Value.ref a]/\b=[WData.list (ns.map WData.int)]/\h.get? a=some { cls:=.type "list",data:=.seq vs.toArray }/\IntsAre vs ns/\ns.length<=n:=by
 have u:=(pre_splitW e).1;have v:l.pre.holds [] { args:=b }=true:=(pre_splitW e).2;obtain⟨d,r,rfl,H,G⟩:=hasAllW_cons u;obtain rfl:=hasAllW_nil G;obtain⟨I,rfl,E⟩:=hasW_list H;obtain⟨ns,rfl⟩:=items_int E
 have g:ns.length<=n:=by
  have o:=by
   have o:=(holds_andW v).1;rwa[C] at o
  have j:=condW_of o (w_not (w_lt w_lit (w_len_list (w_arg rfl))));refine XR λq=>?_;first
   | (rwa[] at j)
   | (simp at j;omega)
 cases p with
 | cons y x=>
  cases x
  cases y with
  | list B i=>exact⟨_,_,ns,rfl,rfl,B,hU ns _ i,g⟩
theorem Ca(l:OpenLaw)(a:List WData):l.row.toRowW.claim.post a (.bool true) a=true:=
 postW_of  
  (show WShape.has [] (.bool true) .bool=true by first | rfl | decide | simp[])
  (w_eq_bool (w_res rfl) w_lit) rfl
theorem qa{l:OpenLaw}{c:YF}{Q:(YL)->Heap->Prop}
  (U:l.most=some n) (C:d.params.defaults=[])
  (call:∀(w:World) (s₀ b:Shared) (mg y:YL) (p:Addr) (o:Obj) (x v g:Value) (a:Addr) (vs:YG) (ns:YI),
   Ground q c [] Q w s₀ mg y b.heap->O w b.heap ->
   b.heap.get? p=some o->o.data=.func (docDef d.name d.params d.body d.scope x v g)->b.heap.CodeRec v d.name->mg d.name=some (.ref p) ->
   b.heap.get? a=some { cls:=.type "list",data:=.seq vs.toArray }->IntsAre vs ns->ns.length<=n->b.gens=#[] ->
   codeAny (model l.prog w) callerA (.call (.ref p) ⟨[.ref a],[]⟩) (λr u=>r=.ok (.ret (.bool true))/\OldK b.heap u.heap/\u.os=b.os/\AllBare u.gens) b) :
  WalkO q c Q O l.row.toRowW d [] (λf vs=>PySem.call f vs):=by
 intro w s₀ b mg y G Y p o x v g dV kV T hd E J B hg M H as h I R z a0;obtain rfl:dV=.none:=Dflts.none J C;obtain rfl:kV=.none:=Dflts.noKw J;obtain⟨a,vs,ns,rfl,rfl,i,e,j⟩:=AD U h z;refine enter_call (Xa (call w s₀ b mg y p o x v g a vs ns G Y T (fd_plain hd) E B i e j hg) λr u S=>?_);obtain⟨rfl,h2,h3,h4⟩:=S;exact⟨.inl ⟨.bool true,.bool true,[],rfl,λ_=>rfl,.bool true,Ca l _,λ_=>⟨List.Pairwise.nil,λ_ X=>(nomatch X)⟩⟩,h2,h3,h4⟩
section
variable{prog:Program}{w:World}{A:Around}{E:YN}{s:Shared}{K:Frag}
end
end Att
namespace L2
open PySem PySem.Spec PyProof.Rows
theorem nj:∀{vs:YG} {ns:YI},IntsAre vs ns->Vals (ns.map V.int) vs
 | _,_,.nil=>.nil
 | _,_,.cons n t h=>.cons ⟨t,rfl⟩ (nj h)
def NO(H:Hp):Prop:=∀b,H b=none\/∃o a,H b=some (.frz o (.lst a))
theorem Hs{K:YQ}{mg S:YL}{vs:YG}{ns:YI}
  (KX:K.In c.heap) (G:c.heap.Ns mainGlobals mg) (i:c.heap.Ns builtinsNs S) (X:∀x:Str,x ≠ "__name__"->S x=bootBuiltins x) (I:c.heap.NoLimit) (hg:c.gens=#[])
  (Q:c.heap.get? a=some { cls:=.type "list",data:=.seq vs.toArray }) (hi:IntsAre vs ns) (hl:ns.length<=sizeLine) (hr:K8 k callerA)
  (F:∀base:Heap,K.In base->base.Ns mainGlobals mg->u3 P w K mg base CX k fa fd [x] sp) (y:∀(s:Shared) (u:Value),BindsTo s fd ⟨[u],[]⟩ [(x,u)])
  (T:∀H:Hp,NO H->G3 K H a (ns.map V.int)->sp [.ref a] H (λv _=>v=.bl true) λ_ _ _=>False)
  (Y:∀H e j,CX [] H c (λ_ _ _=>False) e j->False) :
  codeAny (model P w) callerA (.call (.ref fa) ⟨[.ref a],[]⟩) (λr j=>r=.ok (.ret (.bool true))/\OldK c.heap j.heap/\j.os=c.os/\AllBare j.gens) c:=by
 have rv:=nj hi;have C:=hi.length
 have p:∀H,NO H->G3 K H a (ns.map V.int)->bX P w H c.heap->(∀b,H b≠none->b=a)->(H a≠none->K.lookup a=none) ->
   codeAny (model P w) callerA (.call (.ref fa) ⟨[.ref a],[]⟩) (λr j=>r=.ok (.ret (.bool true))/\OldK c.heap j.heap/\j.os=c.os/\AllBare j.gens) c:=by
  intro H hO hS hok hA hK;have g:∀{b:Addr} {o:Obj},c.heap.get? b=some o->H b=none->(oS c.heap H).get? b=some o:=λe n=>FK e n
  have R:∀{b:Addr} {o:Obj} {M:Array DictEntry} {O:Nat},c.heap.get? b=some o->o.data=.dict M O->H b=none:=λ{b o M O} e d=>by
   cases q:H b with
   | none=>rfl
   | some u=>
    have e':=hA b (by rw[q];simp);subst e';rw[Q] at e;cases e;have d':=d;cases d'
  have l:∀{b:Addr} {m:YL},c.heap.Ns b m->(oS c.heap H).Ns b m:=λ{b m} ⟨o,M,O,e,d,r⟩=>⟨o,M,O,g e (R e d),d,r⟩
  have J:=λb o e=>g (KX b o e) (by
   cases q:H b with
   | none=>rfl
   | some u=>
    have e':=hA b (by rw[q];simp);subst e';rw[hK (by rw[q];simp)] at e;cases e)
  have hM:Mod K mg (oS c.heap H):=⟨J,l G,⟨S,l i,X⟩,let ⟨mc,h1,h2⟩:=I;⟨mc,l h1,h2⟩⟩
  have e0:IE P w K mg (oS c.heap H) callerA [] c H:=⟨rfl,hM,λb o e=>JJ e,Wc (Bm _ _),trivial,λb i=>absurd (show b∈([]:YE) from i) (by simp),hok,.of_eq hg⟩
  refine Xa ((F _ J (l G)).run callerA [] c H ⟨[.ref a],[]⟩ [.ref a] [.ref a] _ _ hr e0 (y c (.ref a)) (.cons rfl .nil) (T H hO hS)) λr j h=>?_
  cases r with
  | error e=>exact(Y H e j h).elim
  | ok fl=>
   cases fl with
   | next=>exact False.elim h
   | brk=>exact False.elim h
   | cont=>exact False.elim h
   | ret u=>
    obtain⟨v,H',os,bare,un,E,r',q⟩:=h;have q':v=.bl true:=q;subst q';obtain rfl:u=Value.bool true:=r';refine⟨rfl,OldK.of_keep λb o e=>?_,os,bare⟩
    cases q:H b with
    | none=>exact un.keep b o e q (by intro z;exact absurd (show b∈([]:YE) from z) (by simp)) (by simp)
    | some u=>
     rcases hO b with z | ⟨ob,xs,z⟩
     ·rw[q] at z;cases z
     ·have z2:=un.frzs b ob _ z;obtain⟨e1,_⟩:=hok b _ z;obtain⟨e2,_⟩:=E b _ z2;rw[e] at e1;cases e1;exact e2
 cases U:K.lookup a with
 | some o=>
  have e:=KX a o U;rw[Q] at e;cases e;refine p (λ_=>none) (λ_=>.inl rfl) (.inr ⟨_,vs.toArray,_,U,rfl,rfl,rfl,by rw[t7,C];exact hl,by simpa using rv⟩) (λb u z=>by have B:(none:Option HO)=some u:=z;cases B) (λb z=>absurd rfl z) λz=>absurd rfl z
 | none=>
  refine p (λb=>if b=a then some (.frz { cls:=.type "list",data:=.seq vs.toArray } (.lst (ns.map V.int))) else none) (λb=>?_) (.inl (.inr ⟨{ cls:=.type "list",data:=.seq vs.toArray },t4 rfl⟩)) (λb u z=>?_) (λb z=>?_) λ_=>U
  ·by_cases i:b=a
   ·exact .inr ⟨_,_,t4 i⟩
   ·exact .inl (tz i)
  ·by_cases i:b=a
   ·have B:=(t4 i).symm.trans z;cases B;subst i;exact⟨Q,by rw[dL];exact hl,vs,_,rv,Q⟩
   ·have B:=(tz i).symm.trans z;cases B
  ·by_cases i:b=a
   ·exact i
   ·exact absurd (tz i) z
theorem Ky{l:PySem.W.OpenLaw}{i:YF}{XP:(YL)->Heap->Prop}{K:Params->YQ}{CX:World->BQ}{sp:World->Sp}
  (S:l.most=some n) (C:n<=sizeLine) (I:d.params.defaults=[]) (R:K8 k callerA)
  (hY:∀(w:World) (h:Heap),O w h->(K w.params).In h)
  (F:∀(w:World) (mg:YL) (y:Addr) (h:Heap),(K w.params).In h->h.Ns mainGlobals mg->mg d.name=some (.ref y) ->
   ∃M:FuncData,(∀(s:Shared) (u:Value),BindsTo s M ⟨[u],[]⟩ [(x,u)]) /\
    ∀base:Heap,(K w.params).In base->base.Ns mainGlobals mg->u3 l.prog w (K w.params) mg base (CX w) k y M [x] (sp w))
  (B:∀(w:World) (H:Hp) (a:Addr) (ns:YI),ns.length<=n->NO H->G3 (K w.params) H a (ns.map V.int)->sp w [.ref a] H (λv _=>v=.bl true) λ_ _ _=>False)
  (J:∀(w:World) (H:Hp) (s:Shared) (e:Value) (z:Shared),CX w [] H s (λ_ _ _=>False) e z->False) :
  PySem.W.WalkO q i XP O l.row.toRowW d [] (λf vs=>PySem.call f vs):=by
 refine Att.qa S I λw s₀ p mg mb y o pm cd a0 a vs ns G Y ho hd X E r j c U=>?_;have Q:=hY w _ Y;obtain⟨M,hb,hF⟩:=F w mg y _ Q G.T.g E;exact Hs Q G.T.g G.T.b G.T.builtins G.T.nolimit U r j (AC c C) R hF hb (λH hO hS=>B w H a ns c hO hS) λH e z=>J w H p e z
def Z1(s:Stmt):Arguments:=match s with
 | .FunctionDef _ a _ _ _ _ _ _ _ _=>a
 | _=>{ posonlyargs:=[],args:=[],vararg:=none,kwonlyargs:=[],kw_defaults:=[],kwarg:=none,defaults:=[] }
def O9(s:Stmt):YM:=match s with
 | .FunctionDef _ _ b _ _ _ _ _ _ _=>b
 | _=>[]
def c6(s:Stmt):Scope:=match s with
 | .FunctionDef _ _ _ _ _ _ a _ _ _=>a
 | _=>{ kind:=.function,names:=[],isGenerator:=false,isCoroutine:=false }
abbrev L6:BQ:=λ_ _ _ _ _ _=>False
abbrev E0:XK:=λ_ _ _=>False
theorem zf:Passes L6 X E0:=λ_ _ _ _ _ _ _ h=>h.elim
structure M9(K:YQ)(x qual:Str)(st:Stmt)(f:Addr)(fd:FuncData):Prop where
 ex:∃(oc:Value) (od:Option Addr) (kV doc pm:Value) (an:Option Addr) (cdv ct:Value) (osl:Array (YR)),
  fd=PySem.W.fnOf x qual (Z1 st) (O9 st) (c6 st) .none kV doc pm an cdv ct/\K.lookup f=some ⟨oc,od,.func fd,osl⟩/\PySem.W.codeIn K cdv qual=true
 kp:PySem.W.keepIn K (.ref f)=true
section
variable{P:Program}{w:World}{K:YQ}{mg:YL}{base:Heap}
theorem M9.ok{st:Stmt}(F:M9 K x a st f g)(S:i5 N ps (c6 st))(len:∀vs H Q E,sp vs H Q E->vs.length=ps.length)
  (c:∀(b:Value) (A:Around) (outer:List Env) (s:Shared) (H:Hp) (vs:List V) (Q:VK) (E:XK),K8 k (A.deeper (envOfC a (c6 st) s.heap.objs.size f b))->sp vs H Q E ->
   ∃t,rQ (rK L6 P w K mg base N a (c6 st) f b A outer s H E).Qr (O9 st) t/\t { nx:=λ_ o=>Q .p3 o,rt:=Q } (start N vs) H):u3 P w K mg base L6 (k+1) f g ps sp:=by
 obtain⟨u,r,kV,l,p,v,b,ct,i,rfl,lk,e⟩:=F.ex;refine SM lk e S len λA outer s H vs Q E j d=>?_;obtain⟨t,h,q⟩:=c b A outer s H vs Q E j d;exact⟨t,h.Qr,q⟩
theorem M9.binds{st:Stmt}(F:M9 K x a st f i)
  (h:∀(kV b e:Value) (g:Option Addr) (c ct:Value) (d:YG),d.length=ps.length->bindArgs (PySem.W.fnOf x a (Z1 st) (O9 st) (c6 st) .none kV b e g c ct) ⟨d,[]⟩=pure (ps.zip d)):Binds K i ps []:=by
 obtain⟨p,o,kV,b,e,g,c,ct,j,rfl,lk,l⟩:=F.ex;exact .all (h kV b e g c ct)
theorem Gg{st:Stmt}{e:Array (YR)}{kV d g b ct:Value}(l:K.lookup f=some ⟨j,i,.func (PySem.W.fnOf x a (Z1 st) (O9 st) (c6 st) .none kV d g h b ct),e⟩)
  (c:PySem.W.codeIn K b a=true) (k:PySem.W.keepIn K (.ref f)=true):M9 K x a st f (PySem.W.fnOf x a (Z1 st) (O9 st) (c6 st) .none kV d g h b ct):=⟨⟨j,i,kV,d,g,h,b,ct,e,rfl,l,c⟩,k⟩
end
theorem B6(a:K8 k A):A.units+1<cLine:=WX (Nat.add_le_add_left (by decide) _) a.units
theorem AQ(h:n<=1000):n<sizeLine:=WX h (by decide)
section
variable{X:Cx}
theorem pv (i:Nat)  {a:Pos} (d:X.N[i]?=some x:=by rfl) (c:Qu X.env.scope x:=by first | exact Or.inl rfl | exact Or.inr (Or.inl rfl) | exact Or.inr (Or.inr rfl)) (hd:(x == ("__debug__" : Str))=false:=by decide)
  (b:(x == ("__classdict__" : Str))=false:=by decide):PE X (.Name x a) (eI i):=PY d c hd b
end
def e9(H a:Hp):Prop:=∀b o,H b=some o->a b=some o
theorem e9.refl(H:Hp):e9 H H:=λ_ _ h=>h
theorem e9.trans(a:e9 H e)(b:e9 e d):e9 H d:=λc o h=>b c o (a c o h)
theorem e9.free(e:e9 H a)(h:a l=Option.none):H l=Option.none:=by
 cases q:H l with
 | none=>rfl
 | some o=>
  rw[e l o q] at h;cases h
theorem e9.seq{K:YQ}(e:e9 H b)(h:G3 K H a xs):G3 K b a xs:=by
 rcases h with(h | ⟨o,h⟩) | h
 ·exact .inl (.inl (e _ _ h))
 ·exact .inl (.inr ⟨o,e _ _ h⟩)
 ·exact .inr h
end L2
set_option maxHeartbeats 4000000
namespace L2
open PySem PySem.Spec PyProof.Rows
theorem pR{e:YH}(I:Nat->Shared->Prop)
  (i:∀n s,I n s->wpAny (model prog w) A (pyNext it) (λr o=>match r with
   | none=>R (.ok .next) o
   | some v=>wpAny (model prog w) A (letOwnedTupleGo a it v) (λ_ y=>wpAny (model prog w) A (assign a env v) (λ_ u=>
     wpAny (model prog w) A (forIn e true λc r=>if r=true then do let ok <-isTrue c env (eval c env);pure (ForInStep.yield ok) else pure (ForInStep.yield r)) (λok l=>
      if ok=true then wpAny (model prog w) A (eval g env) (λx q=>
       wpAny (model prog w) A (call (.builtin "list.append") [acc,x]) (λ_ p=>∃m,m<n/\I m p) (λ_ _=>False) q) (λ_ _=>False) l
      else ∃m,m<n/\I m l) (λ_ _=>False) u) (λ_ _=>False) y) (λ_ _=>False) o) (λ_ _=>False) s)
  (n:Nat) (h:I n s) :
  codeAny (model prog w) A (.compLoop (.ListComp g [⟨a,d,e,0⟩] scope j) 0 it acc env) R s:=by
 refine Yk rfl I (λn s C=>wpAny_noted (eH (PP (eH (wE (i n s C) (λr o B=>?_) λ_ _ b=>b.elim))))) n h
 cases r with
 | none=>exact hE B
 | some v=>
  refine eH (wE B (λ_ y J=>eH (wE J (λ_ u H=>eH (wE H (λok l z=>?_) λ_ _ b=>b.elim)) λ_ _ b=>b.elim)) λ_ _ b=>b.elim)
  cases ok with
  | false=>exact hE ⟨rfl,z⟩
  | true=>
   exact eH (eH (wE z (λx q G=>eH (wE G (λ_ p E=>hE (hE ⟨rfl,E⟩)) λ_ _ b=>b.elim)) λ_ _ b=>b.elim))
def A7(env:Env):List (Str×NameKind)->YC->YC
 | [],b=>b
 | (n,k)::r,b=>if (k == .free)=true then(match env.cells.lookup n with
   | some a=>A7 env r ((n,a)::b)
   | none=>A7 env r b) else A7 env r b
theorem jx:∀(names:List (Str×NameKind)) (acc:YC),(∀x∈names,x.2=.free->∃a,env.cells.lookup x.1=some a) ->
  (forIn names acc λ(x:Str×NameKind) (cs:YC)=>(if (x.2 == NameKind.free)=true then(do let c <-cellOf env x.1;pure (ForInStep.yield ((x.1,c)::cs))) else pure (ForInStep.yield cs):Sem (ForInStep (YC))))=(pure (A7 env names acc):Sem (YC))
 | [],acc,_=>rfl
 | (n,k)::r,acc,h=>by
  have i:=λb=>jx  r b λx j=>h x (hH _ j);rw[List.forIn_cons];unfold A7
  by_cases e:(k == NameKind.free)=true
  ·obtain⟨a,l⟩:=h (n,k) hQ (by simpa using e);have g:=l;simp only[e,cellOf,g];exact i _
  ·have d:(k == NameKind.free)=false:=by simpa using e
   simp only[d];exact i _
theorem T6(h:∀x∈scope.names,x.2=.free->∃a,env.cells.lookup x.1=some a):closureFor scope env=pure (A7 env scope.names []):=by
 have e:=jx  scope.names [] h;exact(GM (λz=>z >>= λcs=>pure cs) e).trans (by simp)
theorem dY:∀{names:List (Str×NameKind)} {acc:YC} {x:Str} {c:Addr},(A7 env names acc).lookup x=some c->acc.lookup x=some c\/env.cells.lookup x=some c
 | [],acc,x,c,h=>.inl h
 | (n,k)::r,acc,x,c,h=>by
  unfold A7 at h
  by_cases d:(k == NameKind.free)=true
  ·rw[t4 d] at h
   cases e:env.cells.lookup n with
   | none=>rw[e] at h;exact dY h
   | some a=>
    rw[e] at h;rcases dY h with z | z
    ·by_cases b:x=n
     ·subst b;simp at z;subst z;exact .inr e
     ·rw[Bi] at z;have:(x == n)=false:=by simpa using b
      rw[this] at z;exact .inl z
    ·exact .inr z
  ·rw[tz d] at h;exact dY h
theorem X6:∀{names:List (Str×NameKind)} {acc:YC} {x:Str} {c:Addr},acc.lookup x=some c->∃g,(A7 env names acc).lookup x=some g
 | [],acc,x,c,h=>⟨c,h⟩
 | (n,k)::r,acc,x,c,h=>by
  unfold A7
  by_cases d:(k == NameKind.free)=true
  ·rw[t4 d]
   cases e:env.cells.lookup n with
   | none=>exact X6 h
   | some a=>
    by_cases b:x=n
    ·subst b;exact X6 (c:=a) (by simp)
    ·refine X6 (c:=c) ?_;rw[Bi];have:(x == n)=false:=by simpa using b
     rwa[this]
  ·rw[tz d];exact X6 h
theorem jg:∀{names:List (Str×NameKind)} {acc:YC} {x:Str},(∀y∈names,y.2=.free->∃a,env.cells.lookup y.1=some a)->(x,NameKind.free)∈names->∃c,(A7 env names acc).lookup x=some c
 | [],acc,x,_,h=>by cases h
 | (n,k)::r,acc,x,i,h=>by
  unfold A7;rcases List.mem_cons.mp h with z | z
  ·injection z with o l
   subst o;subst l;obtain⟨a,e⟩:=i (x,.free) hQ rfl;have p:=e;rw[p];exact X6 (c:=a) (by simp)
  ·have d:=λb=>jg (acc:=b) (λy j=>i y (hH _ j)) z
   by_cases g:(k == NameKind.free)=true
   ·rw[t4 g]
    cases e:env.cells.lookup n with
    | none=>exact d _
    | some a=>exact d _
   ·rw[tz g];exact d _
theorem aq{env:Env}:∀{names:List (Str×NameKind)} {x:Str} {k:NameKind},
  (names.map λ(n,k)=>if (k == NameKind.free&&env.scope.kind == .function&&env.kindOf n == some .cell) then(n,NameKind.cell) else(n,k)).lookup x=some k->(k=.cell\/k=.free)->(∀y∈names,y.2≠.cell)->(x,NameKind.free)∈names
 | [],_,_,h,_,_=>by cases h
 | (n,q)::r,x,k,h,g,i=>by
  have j:=@aq env r x k;rw[t8] at h
  by_cases e:(q == NameKind.free&&env.scope.kind == .function&&env.kindOf n == some .cell)=true
  ·have c:=by
    have:=(Bool.and_eq_true_iff.mp (Bool.and_eq_true_iff.mp e).1).1;simpa using this
   simp only[e,Xg] at h
   by_cases a:x=n
   ·subst a;rw[c];exact hQ
   ·rw[Bi] at h;have:(x == n)=false:=by simpa using a
    rw[this] at h;exact hH _ (j h g λy b=>i y (hH _ b))
  ·have d:(q == NameKind.free&&env.scope.kind == .function&&env.kindOf n == some .cell)=false:=by simpa using e
   simp only[d,Ww,WW] at h
   by_cases a:x=n
   ·subst a;simp at h;subst h;rcases g with z | z
    ·exact absurd z (i (x,q) hQ)
    ·rw[z];exact hQ
   ·rw[Bi] at h;have:(x == n)=false:=by simpa using a
    rw[this] at h;exact hH _ (j h g λy b=>i y (hH _ b))
def A6(X:Cx)(N:YF)(scope:Scope)(cl:YC)(a:YE)(s:Shared)(H:Hp):Cx where
 prog:=X.prog
 w:=X.w
 K:=X.K
 mg:=X.mg
 base:=X.base
 A:=X.A
 N:=N
 s₀:=s
 H₀:=H
 env:=compEnvC scope cl s.heap.objs.size X.env
 outer:=X.stack
 stack:=X.stack
 ex:=a
 fn:=λ_=>false
 calm:=X.calm
 pn:=[]
 xe:=λ_ _=>False
def K9(cap:YB)(σ:St):St:=cap.map λo=>match o with
 | some j=>(σ[j]?).join
 | none=>none
def X4(XN N:YF)(XS scope:Scope)(cap:YB):Bool:=
 (cap.length == N.length)&&(List.range N.length).all (λi=>match N[i]?,cap[i]? with
  | some x,some (some j)=>(XN[j]? == some x)&&((XS.names.lookup x == some .cell)||(XS.names.lookup x == some .free))&&(scope.names.lookup x == some .free)
  | some _,some none=>true
  | _,_=>false)
 && scope.names.all (λy=>y.2 != .cell)&&scope.names.all (λy=>y.2 != .free||(XS.names.lookup y.1 == some .cell)||(XS.names.lookup y.1 == some .free))
 && scope.names.all (λy=>y.2 != .local||(scope.names.lookup y.1 == some .local))
theorem eG{env:Env}:∀{names:List (Str×NameKind)} {x:Str},names.lookup x=some .free ->
  (names.map λ(n,k)=>if (k == NameKind.free&&env.scope.kind == .function&&env.kindOf n == some .cell) then(n,NameKind.cell) else(n,k)).lookup x=some .cell \/
  (names.map λ(n,k)=>if (k == NameKind.free&&env.scope.kind == .function&&env.kindOf n == some .cell) then(n,NameKind.cell) else(n,k)).lookup x=some .free
 | [],_,h=>by cases h
 | (n,q)::r,x,h=>by
  have g:=@eG env r x;rw[t8]
  by_cases e:x=n
  ·subst e;simp at h;subst h
   by_cases c:(NameKind.free == NameKind.free&&env.scope.kind == .function&&env.kindOf x == some .cell)=true
   ·left
    simp only[c];simp
   ·right
    have a:(NameKind.free == NameKind.free&&env.scope.kind == .function&&env.kindOf x == some .cell)=false:=by simpa using c
    simp only[a];simp
  ·have d:(x == n)=false:=by simpa using e
   rw[Bi,d] at h;have b:=g h
   by_cases c:(q == NameKind.free&&env.scope.kind == .function&&env.kindOf n == some .cell)=true
   ·simp only[c,Xg];rwa[Bi,d]
   ·have a:(q == NameKind.free&&env.scope.kind == .function&&env.kindOf n == some .cell)=false:=by simpa using c
    simp only[a,Ww,WW];rwa[Bi,d]
structure M7(X:Cx)(N:YF)(scope:Scope)(cap:YB):Prop where
 len:cap.length=N.length
 slot:∀(i:Nat) (x:Str) (j:Nat),N[i]?=some x->cap[i]?=some (some j)->X.N[j]?=some x/\(X.env.kindOf x=some .cell\/X.env.kindOf x=some .free)/\scope.names.lookup x=some .free
 nocell:∀y∈scope.names,y.2≠.cell
 free:∀y∈scope.names,y.2=.free->(X.env.kindOf y.1=some .cell\/X.env.kindOf y.1=some .free)
 loc:∀y∈scope.names,y.2=.local->scope.names.lookup y.1=some .local
theorem P6(B:X.N=XN)(v:X.env.scope=XS)(h:X4 XN N XS scope cap=true):M7 X N scope cap:=by
 subst B;subst v;unfold X4 at h;rw[vc,vc,vc,vc] at h;obtain⟨⟨⟨⟨C,l⟩,g⟩,e⟩,d⟩:=h;rw[Ws] at l g e d;have c:=by simpa using C
 refine⟨c,λi x j o E=>?_,λy b z=>?_,λy b z=>?_,λy b z=>?_⟩
 ·have u:=(List.getElem?_eq_some_iff.mp o).1;have q:=l i (List.mem_range.mpr u);rw[o,E] at q;rw[vc,vc,Xn] at q;obtain⟨⟨r,a⟩,p⟩:=q;refine⟨by simpa using r,?_,by simpa using p⟩;rcases a with a | a
  ·exact .inl (beq_iff_eq.mp a)
  ·exact .inr (beq_iff_eq.mp a)
 ·have q:=g y b;rw[z] at q;exact absurd q (by decide)
 ·have q:=e y b;rw[z,Xn,Xn] at q;rcases q with(q | q) | q
  ·exact absurd q (by decide)
  ·exact .inl (beq_iff_eq.mp q)
  ·exact .inr (beq_iff_eq.mp q)
 ·have q:=d y b;rw[z,Xn] at q;rcases q with q | q
  ·exact absurd q (by decide)
  ·simpa using q
section
variable{X:Cx}{N:YF}{scope:Scope}{cap:YB}{fp:YE}{pins:YA}{σ:St}{H:Hp}{s:Shared}
theorem Inv.S8(I:Inv X pins σ H s)(c:M7 X N scope cap):∀y∈scope.names,y.2=.free->∃a,X.env.cells.lookup y.1=some a:=λy b z=>I.ok.has y.1 (c.free y b z)
theorem Z8(h:(A7 X.env scope.names []).lookup x=some c):X.env.cells.lookup x=some c:=by
 rcases dY h with z | z
 ·cases z
 ·exact z
theorem rL(I:Inv X pins σ H s)(M:M7 X N scope cap)(S:∀b∈fp,∀x c,X.env.cells.lookup x=some c->c≠b){C:Addr}{Y:Hp}{h':Heap}(u:Un (wR X.stack) fp H Y s.heap h') :
  ∀(i:Nat) (x:Str) (v:V),N[i]?=some x->(K9 cap σ)[i]?=some (some v)->∃w,RelV v w/\∀m,Look (compEnvC scope (A7 X.env scope.names []) C X.env) h' m x w:=by
 intro i x v U a;unfold K9 at a;rw[sj] at a
 cases E:cap[i]? with
 | none=>rw[E] at a;cases a
 | some o=>
  rw[E] at a
  cases o with
  | none=>cases a
  | some j=>
   have p:(σ[j]?).join=some v:=wh a
   have T:σ[j]?=some (some v):=by
    cases q:σ[j]? with
    | none=>rw[q] at p;cases p
    | some o'=>rw[q] at p;exact GM some p
   obtain⟨O,J,G⟩:=M.slot i x j U E;obtain⟨m,hn,R⟩:=I.loc
   have y:Qu X.env.scope x:=by
    rcases J with k | k
    ·exact .inr (.inl k)
    ·exact .inr (.inr k)
   obtain⟨w,r,l⟩:=R j x v O T y;refine⟨w,r,λm'=>?_⟩;rcases l with⟨h,_⟩ | ⟨_,c,B,o,Q,hd⟩
   ·rcases J with k | k
    ·rw[k] at h;cases h
    ·rw[k] at h;cases h
   ·obtain⟨c',g⟩:=jg  (I.S8 M) (VT G);have d:=Z8 g;rw[B] at d;cases d;obtain⟨sl,e⟩:=u.any Q (I.freeC x c B) (λz=>S c z x c B rfl);exact .inr ⟨eG G,c,g,⟨_,e,hd⟩⟩
theorem Cx.Ok.comp(I:Inv X pins σ H s)(i:M7 X N scope cap)(j:scope.kind=.function)(d:∀b∈fp,N0 X pins H b)(l:∀b∈fp,b<s.heap.objs.size):(A6 X N scope (A7 X.env scope.names []) fp s H).Ok:=by
 refine⟨I.ok.mod,j,I.ok.glob,I.ok.blt,oT _,λx y c r p=>I.ok.inj x y c (Z8 r) (Z8 p),λx a=>?_,λx c z=>absurd (z) sK,I.ok.hd,I.ok.frames,.inl rfl,λb z=>⟨u8 (l b z),λx c h=>(d b z).2.2.2.2.1 x c (Z8 h)⟩,I.bs,AC I.ok.bsz I.sz,λb o e z=>?_,λb z q=>?_,I.stack,I.zO⟩
 ·have g:(x,NameKind.free)∈scope.names:=by
   rcases a with a | a
   ·exact aq a (.inl rfl) i.nocell
   ·exact aq a (.inr rfl) i.nocell
  exact jg  (I.S8 i) g
 ·rcases(d b z).2.2.2.1 with q | q
  ·exact I.ok.noex b o e q
  ·exact absurd (v3 (t9 e) (AC I.ok.bsz q)) (WN _)
 ·rcases List.mem_cons.mp (I.vi b q) with e | e
  ·exact(d b z).2.1 e
  ·exact(d b z).2.2.1 e
theorem jD(I:Inv X pins σ H s)(d:M7 X N scope cap)(u:scope.kind=.function)(e:∀b∈fp,N0 X pins H b)(y:∀b∈fp,b<s.heap.objs.size){m:YL}
  (q:a.Ns s.heap.objs.size m) (keep:∀b o,s.heap.get? b=some o->a.get? b=some o):Inv (A6 X N scope (A7 X.env scope.names []) fp s H) [] (K9 cap σ) H { s with heap:=a,toks:=tk }:=by
 refine⟨Cx.Ok.comp I d u e y,rfl,I.bare,Un.kept keep,⟨m,q,λi x v E B _=>?_⟩,λx c h=>?_,I.hok.fresh (oT _),λx c h=>I.freeC x c (Z8 h),λp g=>absurd (show p∈([]) from g) (by simp),I.hok.kept keep,?_⟩
 ·obtain⟨w,r,l⟩:=rL  I d (λb z=>(e b z).2.2.2.2.1) (Un.kept keep) i x v E B;exact⟨w,r,l m⟩
 ·obtain⟨v,o,j,hd⟩:=I.cell x c (Z8 h);exact⟨v,o,keep c o j,hd⟩
 ·unfold K9;rw[dL];exact d.len
theorem fR(I:Inv X pins σ H s)(e:M7 X N scope cap)(j:∀b∈fp,N0 X pins H b){c:St}(J:Inv (A6 X N scope (A7 X.env scope.names []) fp s H) a c g d) :
  Inv (A6 X N scope (A7 X.env scope.names []) fp s H) a (K9 cap σ) g d:=by
 refine⟨J.ok,J.os,J.bare,J.base,?_,J.cell,J.free,J.freeC,J.pin,J.hok,?_⟩
 ·obtain⟨m,h,_⟩:=J.loc;refine⟨m,h,λi x v p o _=>?_⟩;obtain⟨w,r,l⟩:=rL  I e (λb z=>(j b z).2.2.2.2.1) J.base i x v p o;exact⟨w,r,l m⟩
 ·unfold K9;rw[dL];exact e.len
theorem Inv.rH(I:Inv X pins σ H s)(a:N0 X pins H C)(c:Heap.SameBut C s.heap h'):Inv X pins σ H { s with heap:=h' }:=
 I.turned  (λb o d e=>(c.2 b d).trans e) a.1 a.2.1 a.2.2.2.1 a.2.2.2.2.1 a.2.2.2.2.2
end
def xC(X:Cx)(d:YH)(t:TT):Prop:=
 ∀(a:YA) (s:Shared) (b:St) (H:Hp) (Q:Bool->Hp->Prop),Inv X a b H s->t b H Q ->
  wpAny (model X.prog X.w) X.A (forIn d true λc r=>if r=true then do let ok <-isTrue c X.env (eval c X.env);pure (ForInStep.yield ok) else pure (ForInStep.yield r)) (TP X a b Q) X.xe s
def Uq:TT:=λ_ H Q=>Q true H
theorem yL:xC X [] Uq:=λ_ _ _ H _ I h=>wpAny_tests_nil ⟨H,I,h⟩
theorem Jg(h:PT X c t):xC X [c] t:=λa s b H Q I q=>wpAny_tests_one (h a s b H Q I q)
def Tw(J:It)(g:TG)(tc:TT)(te:TE)(h:St)(Q:VK)(o:Hp):Prop:=∀d,o d=none ->
 ∃W:Nat->Nat->Hp->Prop,(∃m,W 0 m (upd o d (.lst [])))/\∀i m H,W i m H ->
  (J.stop i H/\Q (.ref d) H) \/
  (J.go i H/\∀x p,J.yld i H x p->g x h p λc q=>tc c q λb l=>
   if b=true then te c l λv j=>∃a,j d=some (.lst a)/\a.length<sizeLine/\∃e,e<m/\W (i+1) e (upd j d (.lst (a++[v])))
   else ∃e,e<m/\W (i+1) e l)
def UR(H c:Hp):Prop:=∀b a,H b=some (.tup a)->c b=some (.tup a)
theorem e9.T3(h:e9 H a):UR H a:=λb c e=>h b _ e
theorem e9.i3(h:H d=none):e9 H (upd H d o):=λb u e=>by
 rwa[i4 (p9 e h)]
section
variable{X:Cx}
def RJ:V->YR
 | .ty n=>some (.type n)
 | .ref a=>some (.ref a)
 | _=>none
theorem gr:J1 X (.builtin "isinstance") (λxs H Q=>∃x c t cv b,xs=[x,c]/\RJ c=some cv/\cG X.K H x t/\PySem.W.kitOne X.K t cv=some b/\Q (.bl b) H):=by
 intro g s v H xs y Q I r h;obtain⟨x,c,t,cv,b,rfl,d,l,o,q⟩:=h;obtain⟨u,i,rfl,j,e⟩:=vals2 r
 have p:i=cv:=by
  cases c with
  | ty n=>cases d;exact e
  | ref a=>cases d;exact e
  | _=>cases d
 subst p;exact Ag I j l o λtk=>⟨.bl b,H,I.tok tk,rfl,q⟩
def V4(i j:Int):Prop:=0<j/\j.natAbs.log2<9000
theorem CM:O1 X (binaryOp .FloorDiv) (rI V4 λi j=>.int (i/j)):=Tn λi j _ _ _ _ _ a q=>by
 have b:=a.1;exact floordiv_int (by omega) (by rwa[Int.fdiv_eq_ediv_of_nonneg i (by omega)]) (.inl (PyProof.noPylong_of_log2 a.2))
end
section
variable{X:Cx}{pins:YA}{σ:St}{H:Hp}{s:Shared}{h':Heap}
theorem Inv.Cc{ch:YE}{T:Addr}(I:Inv X pins σ H s)(a:∀b∈ch,N0 X pins H b)(k:∀b o,b∉ch->s.heap.get? b=some o->h'.get? b=some o)
  (j:s.heap.objs.size<=T) (rv:Vals xs its) (hz:xs.length<=sizeLine) (p:IsTup h' T its.toArray):Inv X pins σ (upd H T (.tup xs)) { s with heap:=h',toks:=t' }:=by
 have i:=I.hok.fresh j;have h:∀b u,H b=some u->b∉ch:=λb u e z=>by rw[(a b z).1] at e;cases e
 have neT:∀b o,s.heap.get? b=some o->b≠T:=λb o e=>u8 (v3 (t9 e) j)
 refine I.step    (λb g=>⟨(a b g).2.2.2.1,(a b g).2.1,(a b g).2.2.2.2.1,(a b g).2.2.2.2.2⟩) (λb o _ _ d e _=>k b o d e) (λb o _ _ d e _=>⟨o.slots,k b o d e⟩)
  (λb o d e n=>by rwa[i4 (neT b o e)]) (λb o d e=>⟨o,k b o d e⟩) (λb l e=>by rwa[i4 (p9 e i)]) (λb o u e=>by rwa[i4 (p9 e i)])
  (λb ps e=>⟨#[],by rw[i4 (p9 e i),e];simp⟩) (λm y=>?_) (λb u e=>?_) I.bare
 ·obtain⟨o,B,C,x,r⟩:=y;exact⟨o,B,C,k _ o (λz=>(a _ z).2.1 rfl) x,r⟩
 ·by_cases g:b=T
  ·subst g;rw[c8] at e;cases e;exact⟨hz,its,rv,p⟩
  ·rw[i4 g] at e;refine(I.hok b u e).fV (λc v d q=>k c v ?_ q) (λc q=>by rwa[i4 (p9 q i)]) λc l q=>by rwa[i4 (p9 q i)]
   rcases d with z | z
   ·rw[z];exact h b u e
   ·exact h c _ z
theorem Inv.JG{ch:YE}(I:Inv X pins σ H s)(a:∀b∈ch,N0 X pins H b)(k:∀b o,b∉ch->s.heap.get? b=some o->h'.get? b=some o):Inv X pins σ H { s with heap:=h',toks:=t' }:=by
 have g:∀b u,H b=some u->b∉ch:=λb u e z=>by rw[(a b z).1] at e;cases e
 refine I.step    (λb h=>⟨(a b h).2.2.2.1,(a b h).2.1,(a b h).2.2.2.2.1,(a b h).2.2.2.2.2⟩) (λb o _ _ d e _=>k b o d e) (λb o _ _ d e _=>⟨o.slots,k b o d e⟩)
  (λb o d e n=>n) (λb o d e=>⟨o,k b o d e⟩) (λ_ _ e=>e) (λ_ _ _ e=>e) (λb ps e=>⟨#[],by rw[e];simp⟩) (λm j=>?_) (λb u e=>?_) I.bare
 ·obtain⟨o,l,p,i,r⟩:=j;exact⟨o,l,p,k _ o (λz=>(a _ z).2.1 rfl) i,r⟩
 ·refine(I.hok b u e).fV (λc v d q=>k c v ?_ q) (λ_ q=>q) λ_ _ q=>q;rcases d with z | z
  ·rw[z];exact g b u e
  ·exact g c _ z
end
def Ih(K:YQ)(a:Addr):It:=
 ⟨λi H=>∃b x,G3 K H a b/\b[i]?=some x,λi H x c=>∃p y,x=.ref p/\H p=none/\c=upd H p (.tup [.int i,y])/\∀b,G3 K H a b->b[i]?=some y,λi H=>∃b,G3 K H a b/\b.length<=i⟩
theorem Ak{K:YQ}{M:YH}(a e it:Addr)(J:e≠it):Turn P w K (.Tuple M x1 tp) (Ih K a) [e,it] e (λi h=>(∃old,IsEnum h e it (i:Nat) old)/\h.IsListIter it a i) where
 mem:=by simp
 obj:=λi h st b g=>by
  obtain⟨⟨old,r⟩,o,T,c,d⟩:=st;rcases List.mem_cons.mp g with rfl | g
  ·exact⟨_,r,λv z=>by
    have z':=z;cases z'⟩
  ·have z:=by simpa using g
   subst z;exact⟨o,T,λv z=>by rw[d] at z;cases z⟩
 keep:=λi h h' st k=>by
  obtain⟨⟨old,r⟩,hit⟩:=st;exact⟨⟨old,k e (by simp) _ r⟩,hit.at λo q=>k it (by simp) o q⟩
 item:=by
  intro X hP hw hK hc i j s σ H E I G st U;subst hP hw hK;obtain⟨⟨old,r⟩,hit⟩:=st;obtain⟨xs,x,O,R⟩:=U;obtain⟨Q,rv,p,hz⟩:=I.list O;obtain⟨u,hu,ru⟩:=rv.get R;refine wpAny_pyNext_enum_item r hit p.isList  (by simpa using hu) J λh1 Y B hT a1 hk=>⟨_,rfl,wpAny_letOwnedTupleGo_enum Y λh2 a0 y=>?_⟩;have l:=t9 r;have C:it<s.heap.objs.size:=by obtain⟨o,T,_⟩:=hit;exact t9 T
  have S:IsTup h2 s.heap.objs.size [Value.int i s.toks,u].toArray:=⟨_,(y.2 _ (WB l)).trans hT,rfl,_,rfl⟩
  have I2:Inv X j σ (upd H s.heap.objs.size (.tup [.int i,x])) { s with heap:=h2,toks:=s.toks+1 }:=by
   refine I.Cc  G (λb o g q=>?_) (oT _) (.cons ⟨_,rfl⟩ (.cons ru .nil)) (by show 2<=sizeLine;decide) S;have b1:b≠e:=λz=>g (by simp[z]);have b2:b≠it:=λz=>g (by simp[z]);exact(y.2 b b1).trans (hk b o b1 b2 q)
  refine⟨.ref s.heap.objs.size,_,I2,rfl,⟨s.heap.objs.size,x,rfl,I.fresh,rfl,λys hy=>by rwa[I.ky hy O]⟩,⟨⟨u,by simpa using a0⟩,B.extBut y.extBut (Ne.symm J)⟩,λb g=>?_⟩;rcases List.mem_cons.mp g with rfl | g
  ·rw[i4 (u8 l)];exact(G _ (by simp)).1
  ·have z:=by simpa using g
   subst z;rw[i4 (u8 C)];exact(G _ (by simp)).1
 done:=by
  intro X hP hw hK hc i j s σ H E I G st U;subst hP hw hK;obtain⟨⟨old,r⟩,hit⟩:=st;obtain⟨xs,O,R⟩:=U;obtain⟨Q,rv,p,hz⟩:=I.list O;have hl:=rv.length;refine wpAny_pyNext_enum_end (I.ok.hd hc) r hit p.isList (by simp;omega) λh1 eb=>⟨rfl,I.JG (t':=s.toks) (ch:=[e,it]) G λb o g q=>eb b o (λz=>g (by simp[z])) q⟩
 self:=λ_ _ _ _ _ st h=>wpAny_pyIter_enum st.1.choose_spec h
def MF(K:YQ)(e:TA):TI:=λc H R=>e c H λvs b=>∃a,vs=[.ref a]/\(∃d,G3 K b a d)/\R (Ih K a) b
theorem JP  {j:YH}      (U:Gl X "enumerate") (S:X.mg "enumerate"=none) (Y:PA X [a] v) (O:starEach [a] X.env=[(false,eval a X.env)]:=by rfl) :
  PI X (.Tuple j B tp) (.Call (.Name "enumerate" p) [a] [] i) (MF X.K v):=by
 refine .of ?_;intro c s u H R I h;refine Call_ (bu I U S boot_enumerate (Wh (x4 (Y i c s u H _ I h) λus d ⟨vs,y,g,E,G⟩=>?_) O rfl));obtain⟨l,e,⟨xs,Q⟩,q⟩:=G;subst e
 cases E with
 | cons r C=>
  cases C;cases r;obtain⟨J,rv,pl,hz⟩:=g.list Q;refine call_enumerate_list pl.isList λh' x hit M T=>wpAny_pyIter_enum x ?_;have I2:=g.kept (t':=d.toks) T;refine⟨d.heap.objs.size+1,[d.heap.objs.size+1,d.heap.objs.size],_,_,y,rfl,I2,Ak l _ _ (Nat.succ_ne_self _),⟨⟨_,x⟩,hit⟩,λb o=>?_,q⟩;rcases List.mem_cons.mp o with rfl | o
  ·exact g.eW (XX _) (g.hok.fresh (XX _))
  ·have z:=by simpa using o
   subst z;exact g.eW (oT _) (g.hok.fresh (oT _))
section
variable{prog:Program}{w:World}{A:Around}{E:YN}{s:Shared}
end
def Ud(b:Bool)(h:Heap)(it l:Addr)(i:Nat):Prop:=match b with
 | true=>h.IsTupleIter it l i
 | false=>h.IsListIter it l i
def SS(b:Bool)(h:Heap)(l:Addr)(items:YK):Prop:=match b with
 | true=>h.IsTuple l items
 | false=>h.IsList l items
theorem Ud.at(x:Ud b h it l i)(k:∀o,h.get? it=some o->h'.get? it=some o):Ud b h' it l i:=by
 cases b with
 | true=>obtain⟨o,a,r⟩:=x;exact⟨o,k o a,r⟩
 | false=>obtain⟨o,a,r⟩:=x;exact⟨o,k o a,r⟩
theorem SS.at(x:SS b h l items)(k:∀o,h.get? l=some o->h'.get? l=some o):SS b h' l items:=by
 cases b with
 | true=>obtain⟨o,a,r⟩:=x;exact⟨o,k o a,r⟩
 | false=>obtain⟨o,a,r⟩:=x;exact⟨o,k o a,r⟩
theorem SS.lt(x:SS b h l items):l<h.objs.size:=by
 cases b with
 | true=>obtain⟨o,a,r⟩:=x;exact t9 a
 | false=>obtain⟨o,a,r⟩:=x;exact t9 a
section
variable{prog:Program}{w:World}{A:Around}{E:YN}{s:Shared}{z TI TO i1 i2 l1 l2:Addr}{b1 b2:Bool}{k:Nat}{xs ys:YK}{x y a b:Value}
def Uc(b:Bool):String:=if b then "tuple_iterator" else "list_iterator"
end
end L2
namespace HT
open PySem PySem.Spec PyProof.Rows
section
variable{prog:Program}{w:World}{A:Around}{E:YN}{s:Shared}
theorem CG{a:YG}{Q:YN}(o:IsTup s.heap t ([]:YG).toArray)(p:IsTup s.heap b a.toArray)(h:Q (.ref b) s) :
  wpAny (model prog w) A (binaryOp .Add (.ref t) (.ref b)) Q E s:=by
 obtain⟨⟨c1,d1,r,l⟩,g1,i,n1,e⟩:=id o;obtain⟨⟨c2,d2,q,j⟩,c,g,n2,d⟩:=id p;subst i e g d;exact Yj ⟨_,g1,rfl⟩ ⟨_,c,rfl⟩ noFill_tuple_add seq_tuple_add Xh Xd (Xb _ _) (tuple_addW0 t b _ a.toArray n1 n2 d1 d2 l j rfl) ⟨g1,c,h⟩
theorem wN{items:YK}{lo b:Option Int}{Q:YN}(a:IsTup s.heap t items)(l:s.heap.IsSliceOf c j i .none)(pl:IsPart j lo)(u:IsPart i b)
  (r:D9 items.size 0 lo=0) (q:D9 items.size items.size b=items.size) (h:Q (.ref t) s):wpAny (model prog w) A (getItem (.ref t) (.ref c)) Q E s:=by
 obtain⟨os,d,e,v⟩:=id l;have g:s.TypeIs (.ref c) "slice":=⟨os,d,e⟩
 unfold getItem
 try with_reducible refine BB ?_
 refine eH (Yg a.typeIs (by decide) (eH (EQ (name:=Str.ofString "__getitem__") a.typeIs Go
  (Ch Go a.typeIs entry_tuple_getitem ?_ (args_tuple_getitem _ _)))))
 show wpAny _ _ (Builtin.Tuple.tupleItemsOf (.ref t) >>= _) _ _ s;refine eH (tupleItemsOf_ a (eH (WO g ?_)));refine eH (X0 l pl u ?_)
 have yes:(((D9 items.size 0 lo:Nat):Int) == 0&&(1:Int) == 1&&(D9 items.size items.size b-D9 items.size 0 lo) == items.size)=true:=by
  rw[r,q];simp
 show wpAny _ _ (if (((D9 items.size 0 lo:Nat):Int) == 0&&(1:Int) == 1&&(D9 items.size items.size b-D9 items.size 0 lo) == items.size)=true then _ else _) _ _ s;obtain⟨⟨c1,d1,x,y⟩,g1,p,n1,o⟩:=id a;subst p o
 wp_walk using wpAny_loadPart' g1
 exact⟨_,rfl,hE h⟩
end
end HT
namespace L2
open PySem PySem.Spec PyProof.Rows
section
variable{X:Cx}{pos:Pos}
def DP:R2:=λx y H Q=>∃a b d c,x=.ref a/\y=.ref b/\H a=some (.tup d)/\H b=some (.tup c)/\d.length+c.length<=sizeLine/\∀r e,e9 H e->e r=some (.tup (d++c))->Q (.ref r) e
theorem Lh:O1 X (binaryOp .Add) DP:=by
 intro c s o H x y v u Q I j i h;obtain⟨a,b,g,r,rfl,rfl,e,d,J,q⟩:=h
 by_cases l:g=[]
 ·subst l;cases j;cases i;obtain⟨G,B,E,_⟩:=I.tuple (R6.of e);obtain⟨R,O,C,_⟩:=I.tuple (R6.of d);obtain rfl:G=[]:=B.iF.mpr rfl;exact HT.CG E C ⟨.ref b,H,I,rfl,q b H (e9.refl _) d⟩
 ·refine Lw c s o H _ _ v u Q I j i ⟨a,b,g,r,rfl,rfl,R6.of e,R6.of d,l,J,λz=>q a H (e9.refl _) (by rwa[z,ud]),λz p M=>q p _ (e9.i3 M) c8⟩
def Uo:V->Option Int->Option Int->Hp->VK->Prop:=λx lo d H Q=>∃a c,x=.ref a/\H a=some (.tup c)/\∀r b,e9 H b->b r=some (.tup (jZ c lo d))->Q (.ref r) b
theorem OG:MH X Uo:=by
 intro d s y H x v B z lo u C Q I i o pl j h;obtain⟨a,c,rfl,g,q⟩:=h
 by_cases hw:HT.D9 c.length 0 lo=0/\HT.D9 c.length c.length u=c.length
 ·cases i;obtain⟨e,r,l,G⟩:=I.tuple (R6.of g);have b:e.toArray.size=c.length:=by exact r.length.symm
  refine⟨"tuple",_,PyProof.Rows.slot_tuple_getitem.lookup,l.typeIs,HT.wN l o pl j (by rw[b];exact hw.1) (by rw[b];exact hw.2) ⟨.ref a,H,I,rfl,q a H (e9.refl _) ?_⟩⟩;rw[g];unfold jZ;rw[hw.1,hw.2];simp
 ·exact Ni d s y H _ v B z lo u C Q I i o pl j ⟨a,c,rfl,R6.of g,hw,λp E=>q p _ (e9.i3 E) c8⟩
end
section
variable{X:Cx}
def isStar:Expr->Bool
 | .Starred _ _=>true
 | _=>false
theorem X2{a:YH}(h:isStar e=false):starEach (e::a) env=(false,eval e env)::starEach a env:=by
 cases e<;>first | rfl | cases h
theorem bf(d:PE X e te)(c:PA X a t)(b:isStar e=false):PA X (e::a) (Mw te t):=yQ d c (X2 b)
end
def Vv(b:Addr)(fs:List (Str×V)):HO:=.ext λh=>∃a,h.Ns1 b a/\(∀f,dA (fs.lookup f) (a f))/\Within a (fs.map (·.1))
end L2
namespace L3
open PySem PySem.Spec L2
inductive D where
 | p3 | bl (b:Bool) | int (i:Int) | str (x:Str)
 | tup (xs:List D) | lst (xs:List D) | dic (kvs:List (Key×D)) | ty (n:String) | adr (a:Addr) | fz (xs:List D) | st (ks:List Key) | xc (e dx:Addr) (fs:List (Str×V)) | dn (kvs:List (L5×Int))
mutual
def r8:D->Bool
 | .p3=>true
 | .bl _=>true
 | .int _=>true
 | .str _=>true
 | .tup xs=>w6 xs
 | .lst _=>false
 | .dic _=>false
 | .st _=>false
 | .dn _=>false
 | .xc _ _ _=>false
 | .ty _=>true
 | .adr _=>true
 | .fz xs=>w6 xs
def w6:List D->Bool
 | []=>true
 | x::xs=>r8 x&&w6 xs
end
def Mz(K:YQ)(H:Hp)(a:Addr)(xs:List V):Prop:=
 (∃o,H a=some (.frz o (.lst xs))) \/
  ∃(o:Obj) (b:YK) (n:Nat),K.lookup a=some o/\o.cls=.type "list" /\ o.dict=none/\o.data=.seq b n/\b.size<=sizeLine/\Vals xs b.toList
theorem Mz.sq(h:Mz K H a xs):G3 K H a xs:=by
 rcases h with⟨o,h⟩ | h
 ·exact .inl (.inr ⟨o,h⟩)
 ·exact .inr h
mutual
inductive Rep(K:YQ)(H:Hp):V->D->YE->Prop
 | p3:Rep K H .p3 .p3 []
 | bl {b:Bool}:Rep K H (.bl b) (.bl b) []
 | int {i:Int}:Rep K H (.int i) (.int i) []
 | str {x:Str}:Rep K H (.str x) (.str x) []
 | tup {p:Addr} {vs:List V} {ds:List D} {A:YE}:H p=some (.tup vs)->i9 K H vs ds A->Rep K H (.ref p) (.tup ds) A
 | lst {p:Addr} {vs:List V} {ds:List D} {A:YE}:H p=some (.lst vs)->i9 K H vs ds A->Rep K H (.ref p) (.lst ds) (p::A)
 | frz {p:Addr} {vs:List V} {ds:List D} {A:YE}:Mz K H p vs->i9 K H vs ds A->Rep K H (.ref p) (.fz ds) A
 | dic {p:Addr} {kvs:List (Key×V)} {kds:List (Key×D)} {A:YE} {ep:Nat}:H p=some (.dE kvs ep)->x3 K H kvs kds A->Rep K H (.ref p) (.dic kds) (p::A)
 | st {p:Addr} {S:Key->Bool} {n:Nat} {ks:List Key}:H p=some (.set S n)->(∀k:Key,S k=ks.any λz=>decide (z=k))->Rep K H (.ref p) (.st ks) [p]
 | xc {e dx:Addr} {fs:List (Str×V)}:H dx=some (Vv dx fs)->Rep K H (.ref e) (.xc e dx fs) [dx]
 | dn {p:Addr} {kvs:List (L5×Int)}:H p=some (.dN (kvs.map λq=>(q.1,V.int q.2)))->Rep K H (.ref p) (.dn kvs) [p]
 | ty {n:String}:Rep K H (.ty n) (.ty n) []
 | adr {p:Addr}:Rep K H (.ref p) (.adr p) []
inductive i9(K:YQ)(H:Hp):List V->List D->YE->Prop
 | nil:i9 K H [] [] []
 | cons {v:V} {d:D} {vs:List V} {ds:List D} {A B:YE}:Rep K H v d A->i9 K H vs ds B->i9 K H (v::vs) (d::ds) (A++B)
inductive x3(K:YQ)(H:Hp):List (Key×V)->List (Key×D)->YE->Prop
 | nil:x3 K H [] [] []
 | cons {k:Key} {v:V} {d:D} {vs:List (Key×V)} {ds:List (Key×D)} {A B:YE}:Rep K H v d A->x3 K H vs ds B->x3 K H ((k,v)::vs) ((k,d)::ds) (A++B)
end
structure X7(H H':Hp):Prop where
 T3:∀b xs,H b=some (.tup xs)->H' b=some (.tup xs)
 frzs:∀b o u,H b=some (.frz o u)->H' b=some (.frz o u)
 dom:∀b,H' b=none->H b=none
structure Tf(H H':Hp):Prop where
 T3:∀b xs,H b=some (.tup xs)->H' b=some (.tup xs)
 frzs:∀b o u,H b=some (.frz o u)->H' b=some (.frz o u)
theorem X7.tf(s:X7 H a):Tf H a:=⟨s.T3,s.frzs⟩
theorem X7.refl(H:Hp):X7 H H:=⟨λ_ _ h=>h,λ_ _ _ h=>h,λ_ h=>h⟩
theorem X7.trans(a:X7 H e)(b:X7 e d):X7 H d:=⟨λc x h=>b.T3 c x (a.T3 c x h),λc o u h=>b.frzs c o u (a.frzs c o u h),λc h=>a.dom c (b.dom c h)⟩
theorem X7.of(s:e9 H a):X7 H a:=⟨λb _ h=>s b _ h,λb _ _ h=>s b _ h,λb h=>s.free h⟩
theorem Tf.Ta(s:Tf H b)(h:Mz K H a xs):Mz K b a xs:=by
 rcases h with⟨o,h⟩ | h
 ·exact .inl ⟨o,s.frzs _ _ _ h⟩
 ·exact .inr h
section
variable{K:YQ}{H H':Hp}
theorem i9.ind{P:List V->List D->YE->Prop}(g:P [] [] [])(e:∀{v d A vs ds B},Rep K H v d A->i9 K H vs ds B->P vs ds B->P (v::vs) (d::ds) (A++B))(r:i9 K H vs ds A):P vs ds A:=by
 refine i9.rec (motive_1:=λ_ _ _ _=>True)  (motive_3:=λ_ _ _ _=>True) ?_ ?_ ?_ ?_ ?_ ?_ ?_ ?_ ?_ ?_ ?_ ?_ ?_ g (λh r _ p=>e h r p) ?_ ?_ r<;>intros<;>trivial
theorem x3.ind{P:List (Key×V)->List (Key×D)->YE->Prop}(g:P [] [] [])(e:∀{k v d A vs ds B},Rep K H v d A->x3 K H vs ds B->P vs ds B->P ((k,v)::vs) ((k,d)::ds) (A++B))(r:x3 K H vs ds A):P vs ds A:=by
 refine x3.rec (motive_1:=λ_ _ _ _=>True) (motive_2:=λ_ _ _ _=>True)  ?_ ?_ ?_ ?_ ?_ ?_ ?_ ?_ ?_ ?_ ?_ ?_ ?_ ?_ ?_ g (λh r _ p=>e h r p) r<;>intros<;>trivial
theorem Rep.aG(s:Tf H H')(r:Rep K H v d A):(∀a∈A,H' a=H a)->Rep K H' v d A:=
 Rep.rec  (motive_2:=λv d A _=>(∀a∈A,H' a=H a)->i9 K H' v d A) (motive_3:=λv d A _=>(∀a∈A,H' a=H a)->x3 K H' v d A)
  (λ_=>.p3) (λ_=>.bl) (λ_=>.int) (λ_=>.str) (λh _ i e=>.tup (s.T3 _ _ h) (i e)) (λh _ i e=>.lst ((e _ hQ).trans h) (i λa b=>e a (hH _ b))) (λh _ i e=>.frz (s.Ta h) (i e))
  (λh _ i e=>.dic ((e _ hQ).trans h) (i λa b=>e a (hH _ b))) (λh q e=>.st ((e _ hQ).trans h) q) (λh e=>.xc ((e _ hQ).trans h)) (λh e=>.dn ((e _ hQ).trans h)) (λ_=>.ty) (λ_=>.adr)
  (λ_=>.nil) (λ_ _ g c e=>.cons (g λa b=>e a (vr _ b)) (c λa b=>e a (sw _ b))) (λ_=>.nil) (λ_ _ g c e=>.cons (g λa b=>e a (vr _ b)) (c λa b=>e a (sw _ b))) r
theorem i9.aG(s:Tf H H')(r:i9 K H v d A):(∀a∈A,H' a=H a)->i9 K H' v d A:=
 r.ind (P:=λv d A=>(∀a∈A,H' a=H a)->i9 K H' v d A) (λ_=>.nil) λh _ c e=>.cons (h.aG s λa b=>e a (vr _ b)) (c λa b=>e a (sw _ b))
theorem x3.aG(s:Tf H H')(r:x3 K H v d A):(∀a∈A,H' a=H a)->x3 K H' v d A:=
 r.ind (P:=λv d A=>(∀a∈A,H' a=H a)->x3 K H' v d A) (λ_=>.nil) λh _ c e=>.cons (h.aG s λa b=>e a (vr _ b)) (c λa b=>e a (sw _ b))
theorem Rep.mono(s:X7 H H')(r:Rep K H v d A)(h:∀a∈A,H' a=H a):Rep K H' v d A:=r.aG s.tf h
theorem i9.mono(s:X7 H H')(r:i9 K H v d A)(h:∀a∈A,H' a=H a):i9 K H' v d A:=r.aG s.tf h
theorem x3.mono(s:X7 H H')(r:x3 K H v d A)(h:∀a∈A,H' a=H a):x3 K H' v d A:=r.aG s.tf h
theorem Rep.eY(r:Rep K H v d A):∀a∈A,eX (H a):=
 Rep.rec   (motive_3:=λ_ _ A _=>∀a∈A,eX (H a))
  (λa h=>(by cases h)) (λa h=>(by cases h)) (λa h=>(by cases h)) (λa h=>(by cases h)) (λ_ _ i=>i) (λh _ i a b=>(List.mem_cons.mp b).elim (λe=>by rw[e,h];trivial) (i a)) (λ_ _ i=>i) (λh _ i a b=>(List.mem_cons.mp b).elim (λe=>by rw[e,h];trivial) (i a))
  (λh _ a b=>by rw[List.mem_singleton.mp b,h];trivial) (λh a b=>by rw[List.mem_singleton.mp b,h];trivial) (λh a b=>by rw[List.mem_singleton.mp b,h];trivial) (λa h=>(by cases h)) (λa h=>(by cases h))
  (λa h=>(by cases h)) (λ_ _ i j a b=>(List.mem_append.mp b).elim (i a) (j a)) (λa h=>(by cases h)) (λ_ _ i j a b=>(List.mem_append.mp b).elim (i a) (j a)) r
theorem i9.eY(r:i9 K H v d A):∀a∈A,eX (H a):=
 r.ind (P:=λ_ _ A=>∀a∈A,eX (H a)) (λa h=>(by cases h)) λh _ j a b=>(List.mem_append.mp b).elim (h.eY a) (j a)
theorem x3.eY(r:x3 K H v d A):∀a∈A,eX (H a):=
 r.ind (P:=λ_ _ A=>∀a∈A,eX (H a)) (λa h=>(by cases h)) λh _ j a b=>(List.mem_append.mp b).elim (h.eY a) (j a)
theorem eX.some(h:eX o):∃x,o=Option.some x:=by
 cases o with
 | none=>cases h
 | some x=>exact⟨x,rfl⟩
theorem Rep.same(s:e9 H H')(r:Rep K H v d A):Rep K H' v d A:=
 r.mono (X7.of s) λa b=>by
  obtain⟨o,e⟩:=eX.some (r.eY a b);rw[e];exact s a o e
theorem i9.same(s:e9 H H')(r:i9 K H v d A):i9 K H' v d A:=
 r.mono (X7.of s) λa b=>by
  obtain⟨o,e⟩:=eX.some (r.eY a b);rw[e];exact s a o e
theorem Rep.D6(r:Rep K H v d A):r8 d=true->A=[]:=by
 refine Rep.rec  (motive_2:=λ_ d A _=>w6 d=true->A=[]) (motive_3:=λ_ _ _ _=>True)
  (λ_=>rfl) (λ_=>rfl) (λ_=>rfl) (λ_=>rfl) (λ_ _ i e=>i (by simpa[r8] using e)) ?_ (λ_ _ i e=>i (by simpa[r8] using e)) ?_ ?_ ?_ ?_ (λ_=>rfl) (λ_=>rfl) (λ_=>rfl) (λ_ _ i j e=>?_) trivial (λ_ _ _ _=>trivial) r
 case refine_6=>simp[w6] at e;rw[i e.1,j e.2];rfl
 all_goals intros;rename_i e;simp[r8] at e
theorem i9.D6(r:i9 K H v d A):w6 d=true->A=[]:=
 r.ind (P:=λ_ d A=>w6 d=true->A=[]) (λ_=>rfl) λh _ j e=>by
  simp[w6] at e;rw[h.D6 e.1,j e.2];rfl
theorem i9.length(r:i9 K H v d A):v.length=d.length:=r.ind (P:=λv d _=>v.length=d.length) rfl λ_ _ e=>GM (·+1) e
theorem i9.get{i:Nat}(r:i9 K H vs ds A):ds[i]?=some d->∃v B,vs[i]?=some v/\Rep K H v d B/\B.Sublist A:=by
 refine r.ind (P:=λvs ds A=>∀{i:Nat},ds[i]?=some d->∃v B,vs[i]?=some v/\Rep K H v d B/\B.Sublist A) (λ{i} e=>by simp at e) λ{_ _ A _ _ _} h _ a {i} e=>?_
 cases i with
 | zero=>simp at e;subst e;exact⟨_,A,rfl,h,Xc _ _⟩
 | succ i=>
  obtain⟨v,B,g,c,b⟩:=a (by simpa using e);exact⟨v,B,by simpa using g,c,b.trans (List.sublist_append_right _ _)⟩
theorem i9.append(r:i9 K H vs ds A)(q:i9 K H a b B):i9 K H (vs++a) (ds++b) (A++B):=r.ind (P:=λvs ds A=>i9 K H (vs++a) (ds++b) (A++B)) q λh _ c=>by rw[v6];exact .cons h c
theorem i9.split(n:Nat)(r:i9 K H vs ds A):∃B C,A=B++C/\i9 K H (vs.take n) (ds.take n) B/\i9 K H (vs.drop n) (ds.drop n) C:=by
 revert n
 refine r.ind (P:=λvs ds A=>∀n,∃B C,A=B++C/\i9 K H (vs.take n) (ds.take n) B/\i9 K H (vs.drop n) (ds.drop n) C) (λn=>⟨[],[],rfl,by rw[List.take_nil,List.take_nil];exact .nil,by rw[List.drop_nil,List.drop_nil];exact .nil⟩) λh r a n=>?_
 cases n with
 | zero=>exact⟨[],_,rfl,.nil,.cons h r⟩
 | succ n=>
  obtain⟨B,C,e,c,b⟩:=a n;exact⟨_++B,C,by rw[e,v6],.cons h c,b⟩
theorem i9.cut(i j:Nat)(r:i9 K H vs ds A):∃B,B.Sublist A/\i9 K H ((vs.drop i).take j) ((ds.drop i).take j) B:=by
 obtain⟨B,C,e,_,b⟩:=r.split i;obtain⟨d,g,c,a,_⟩:=b.split j;exact⟨d,by rw[e,c];exact(Xc _ _).trans (WZ _ _),a⟩
theorem i9.set:∀{vs:List V} {ds:List D} {A:YE} {v:V} {d:D} {B:YE} (i:Nat),i9 K H vs ds A->Rep K H v d B->∃C,i9 K H (vs.set i v) (ds.set i d) C/\(∀a∈C,a∈A\/a∈B)/\(A.Nodup->B.Nodup->(∀a∈B,a∉A)->C.Nodup)
 | _,_,_,_,_,_,_,.nil,_=>⟨[],.nil,(λ_ h=>absurd h (by simp)),λ_ _ _=>t5⟩
 | _,_,_,_,_,B,0,.cons  (B:=o) h r,q=>⟨B++o,.cons q r,λa c=>(List.mem_append.mp c).elim .inr λz=>.inl (sw _ z),λn1 n2 g=>by
   refine List.nodup_append.mpr ⟨n2,(List.nodup_append.mp n1).2.1,λa c b j e=>?_⟩;subst e;exact g a c (sw _ j)⟩
 | _,_,_,_,_,B,i+1,.cons (A:=p)  h r,q=>by
  obtain⟨C,x,l,u⟩:=i9.set i r q;refine⟨p++C,.cons h x,λa c=>?_,λn1 n2 g=>?_⟩
  ·rcases List.mem_append.mp c with z | z
   ·exact .inl (vr _ z)
   ·exact(l a z).elim (λy=>.inl (sw _ y)) .inr
  ·have:=List.nodup_append.mp n1;refine List.nodup_append.mpr ⟨this.1,u this.2.1 n2 λa c z=>g a c (sw _ z),λa c b j e=>?_⟩;subst e;rcases l a j with z | z
   ·exact this.2.2 a c a z rfl
   ·exact g a z (vr _ c)
end
inductive Cl where | own | bor | loc | mk (H:Hp)
abbrev Ev:=List (Option D)
structure Ent where
 H₀:Hp
 L:Nat->YE
 vs:List V
 cl:List Cl
 /-- what is frozen meanwhile (a loop's list),and how it stands -/
 Z:Addr->Prop
 Hz:Hp
def Ent.own(G:Ent)(i:Nat):Prop:=G.cl[i]?=some .own
structure Ent.Po(G:Ent):Prop where
 one:∀i,i<G.vs.length->G.own i->i=0
 lk:∀(j:Nat) (H':Hp),G.cl[j]?=some (.mk H')->∀a o,H' a=some o->G.H₀ a=some o/\∀i,i<G.vs.length->G.own i->a∉G.L i
structure E3(K:YQ)(G:Ent)(ρ:Ev)(σ:St)(H:Hp)(fa:YO):Prop where
 rep:∀i d,ρ[i]?=some (some d)->∃v,σ[i]?=some (some v)/\Rep K H v d (fa i)
 emp:∀i,(∀d,ρ[i]?≠some (some d))->fa i=[]
 len:ρ.length=σ.length
 nd:∀i,(G.own i\/G.cl[i]?=some .loc)->(fa i).Nodup
 dj:∀i j,i≠j->G.own i->∀a∈fa i,a∉fa j
 par:∀i,i<G.vs.length->G.own i->σ[i]?=some G.vs[i]?
 old:∀i,i<G.vs.length->G.own i->∀a∈fa i,a∈G.L i\/G.H₀ a=none
 new:∀i,(G.cl[i]?=some .loc\/(G.own i/\¬i<G.vs.length))->∀a∈fa i,G.H₀ a=none
 frm:∀a o,G.H₀ a=some o->(∀i,i<G.vs.length->G.own i->a∉G.L i)->H a=some o
 stb:X7 G.H₀ H
 zk:∀a,G.Z a->H a=G.Hz a
 zn:∀a,G.Z a->G.Hz a≠none
 zo:∀i,G.own i->∀a∈fa i,¬G.Z a
 po:G.Po
theorem E3.kept(E:E3 K G c σ H i){j:Nat}(h:G.cl[j]?=some (.mk b)):e9 b H:=λa o e=>let ⟨g,d⟩:=E.po.lk j b h a o e;E.frm a o g d
section
variable{K:YQ}{G:Ent}{ρ:Ev}{σ:St}{H H':Hp}{fa:YO}
theorem E3.eY(E:E3 K G ρ σ H fa)(i:Nat):∀a∈fa i,eX (H a):=λa b=>by
 cases e:ρ[i]? with
 | none=>rw[E.emp i (λd z=>by rw[e] at z;cases z)] at b;cases b
 | some o=>
  cases o with
  | none=>rw[E.emp i (λd z=>by rw[e] at z;cases z)] at b;cases b
  | some d=>
   obtain⟨v,_,r⟩:=E.rep i d e;exact r.eY a b
theorem E3.there(E:E3 K G ρ σ H fa)(i:Nat)(b:a∈fa i):H a≠none:=λz=>by
 have:=E.eY i a b;rwa[z] at this
theorem E3.same(E:E3 K G ρ σ H fa)(s:e9 H H'):E3 K G ρ σ H' fa:=
 ⟨λi d e=>let ⟨v,c,b⟩:=E.rep i d e;⟨v,c,b.same s⟩,E.emp,E.len,E.nd,E.dj,E.par,E.old,E.new,λa o h n=>s a o (E.frm a o h n),E.stb.trans (X7.of s),λa z=>(by
  obtain⟨o,e⟩:=Option.ne_none_iff_exists'.mp (E.zn a z);have h:=E.zk a z;rw[e] at h ⊢;exact s a o h),E.zn,E.zo,E.po⟩
inductive Fl where | any | stab | locl | fresh
def A3(G:Ent)(H:Hp)(fa:YO)(B:YE):Fl->Prop
 | .any=>True
 | .stab=>∀i,G.own i->∀a∈B,a∉fa i
 | .locl=>(∀i,G.own i->∀a∈B,a∉fa i)/\(∀a∈B,G.H₀ a=none)/\B.Nodup
 | .fresh=>B.Nodup/\∀a∈B,H a=none
def jH:Fl->Fl->Bool
 | _,.any=>true
 | .any,_=>false
 | _,.stab=>true
 | .stab,_=>false
 | _,.locl=>true
 | .locl,_=>false
 | .fresh,.fresh=>true
theorem A3.bU(E:E3 K G ρ σ H fa)(h:A3 G H fa B .fresh):A3 G H fa B .stab:=λi _ a b z=>E.there i z (h.2 a b)
theorem A3.lJ(E:E3 K G ρ σ H fa)(h:A3 G H fa B .fresh):A3 G H fa B .locl:=⟨A3.bU E h,λa b=>E.stb.dom a (h.2 a b),h.1⟩
theorem A3.weak(E:E3 K G ρ σ H fa)(h:A3 G H fa B f)(a:jH f g=true):A3 G H fa B g:=by
 cases f<;>cases g<;>first | trivial | exact h | (cases a;done) | exact h.1 | exact A3.bU E h | exact A3.lJ E h
theorem A3.nil(f:Fl):A3 G H fa [] f:=by
 cases f with
 | any=>trivial
 | stab=>intro i _ a b;cases b
 | locl=>exact⟨λi _ a b=>(by cases b),λa b=>(by cases b),t5⟩
 | fresh=>exact⟨t5,λa b=>(by cases b)⟩
theorem A3.sub(h:A3 G H fa B f)(s:C.Sublist B):A3 G H fa C f:=by
 cases f with
 | any=>trivial
 | stab=>exactλi o a b=>h i o a (s.mem b)
 | locl=>exact⟨λi o a b=>h.1 i o a (s.mem b),λa b=>h.2.1 a (s.mem b),h.2.2.sublist s⟩
 | fresh=>exact⟨h.1.sublist s,λa b=>h.2 a (s.mem b)⟩
end
abbrev TU:=Ev->(D->Prop)->Prop
structure PU(X:Cx)(cl:List Cl)(e:Expr)(f:Fl)(u:TU):Prop where
 of ::
 run:∃t,PE X e t/\∀(G:Ent) (ρ:Ev) (σ:St) (H:Hp) (fa:YO) (Q:D->Prop) (R:VK),G.cl=cl->E3 X.K G ρ σ H fa->u ρ Q ->
  (∀v H' d B,e9 H H'->Rep X.K H' v d B->A3 G H fa B f->Q d->R v H')->t σ H R
abbrev TM:=Ev->(D->Ev->Prop)->Prop
structure R0(K:YQ)(G:Ent)(H:Hp)(fa:YO)(H':Hp)(fa':YO):Prop where
 frm:∀a o,H a=some o->(∀i,G.own i->a∉fa i)->H' a=some o
 stb:X7 H H'
 new:∀i,G.own i->∀a∈fa' i,a∈fa i\/H a=none
 bor:∀i,¬G.own i->fa' i=fa i
section
variable{K:YQ}{G:Ent}{ρ ρ':Ev}{σ:St}{H H' H2:Hp}{fa fa' fa2:YO}
theorem R0.refl:R0 K G H fa H fa:=⟨λ_ _ h _=>h,X7.refl H,λ_ _ _ h=>.inl h,λ_ _=>rfl⟩
theorem R0.same(s:e9 H H'):R0 K G H fa H' fa:=⟨λ_ _ h _=>s _ _ h,X7.of s,λ_ _ _ h=>.inl h,λ_ _=>rfl⟩
theorem R0.trans(a:R0 K G H fa H' fa')(b:R0 K G H' fa' H2 fa2):R0 K G H fa H2 fa2:=
  ⟨λx o h n=>b.frm x o (a.frm x o h n) λi c z=>(a.new i c x z).elim (n i c) (λe=>by rw[h] at e;cases e),a.stb.trans b.stb,
   λi c x d=>(b.new i c x d).elim (a.new i c x) (λe=>.inr (a.stb.dom x e)),λi c=>(b.bor i c).trans (a.bor i c)⟩
theorem R0.keep(c:R0 K G H fa H' fa')(r:Rep K H v d B)(n:∀i,G.own i->∀a∈B,a∉fa i):Rep K H' v d B:=
 r.mono c.stb λa b=>by
  obtain⟨o,e⟩:=eX.some (r.eY a b);rw[e];exact c.frm a o e λi g=>n i g a b
theorem R0.apart(c:R0 K G H fa H' fa'){B:YE}(t:∀a∈B,H a≠none)(n:∀i,G.own i->∀a∈B,a∉fa i):∀i,G.own i->∀a∈B,a∉fa' i:=λi b a d z=>
 (c.new i b a z).elim (n i b a d) (t a d)
theorem E3.step(E:E3 K G ρ σ H fa)(c:R0 K G H fa H' fa')(y:ρ'.length=ρ.length)(u:∀i,¬G.own i->ρ'[i]?=ρ[i]?)
  (x:∀i d,G.own i->ρ'[i]?=some (some d)->∃v,σ[i]?=some (some v)/\Rep K H' v d (fa' i)) (B:∀i,G.own i->(∀d,ρ'[i]?≠some (some d))->fa' i=[])
  (nd:∀i,G.own i->(fa' i).Nodup) (dj:∀i j,i≠j->G.own i->G.own j->∀a∈fa' i,a∉fa' j):E3 K G ρ' σ H' fa' where
 rep:=λi d e=>by
  by_cases b:G.own i
  ·exact x i d b e
  ·rw[u i b] at e;obtain⟨v,C,r⟩:=E.rep i d e;refine⟨v,C,?_⟩;rw[c.bor i b];exact c.keep r λj l a g z=>E.dj j i (λq=>b (q▸l)) l a z g
 emp:=λi e=>by
  by_cases b:G.own i
  ·exact B i b e
  ·rw[c.bor i b];exact E.emp i λd z=>e d (by rwa[u i b])
 len:=y.trans E.len
 nd:=λi h=>by
  by_cases b:G.own i
  ·exact nd i b
  ·rw[c.bor i b];exact E.nd i h
 dj:=λi j n b a g=>by
  by_cases l:G.own j
  ·exact dj i j n b l a g
  ·rw[c.bor j l];intro z;rcases c.new i b a g with q | q
   ·exact E.dj i j n b a q z
   ·exact E.there j z q
 par:=E.par
 old:=λi h b a g=>(c.new i b a g).elim (E.old i h b a) λq=>.inr (E.stb.dom a q)
 new:=λi h a g=>by
  by_cases b:G.own i
  ·exact(c.new i b a g).elim (E.new i h a) λq=>E.stb.dom a q
  ·rw[c.bor i b] at g;exact E.new i h a g
 frm:=λa o h n=>c.frm a o (E.frm a o h n) λi b z=>by
  by_cases p:i<G.vs.length
  ·rcases E.old i p b a z with q | q
   ·exact n i p b q
   ·rw[h] at q;cases q
  ·have q:=E.new i (.inr ⟨b,p⟩) a z;rw[h] at q;cases q
 stb:=E.stb.trans c.stb
 zk:=λa z=>by
  obtain⟨o,e⟩:=Option.ne_none_iff_exists'.mp (E.zn a z);have h:=E.zk a z;rw[e] at h ⊢;exact c.frm a o h λi b q=>E.zo i b a q z
 zn:=E.zn
 zo:=λi b a g z=>by
  rcases c.new i b a g with q | q
  ·exact E.zo i b a q z
  ·have h:=E.zk a z;rw[q] at h;exact E.zn a z h.symm
 po:=E.po
end
structure PM(X:Cx)(cl:List Cl)(e:Expr)(u:TM):Prop where
 of ::
 run:∃t,PE X e t/\∀(G:Ent) (ρ:Ev) (σ:St) (H:Hp) (fa:YO) (Q:D->Ev->Prop) (R:VK),G.cl=cl->E3 X.K G ρ σ H fa->u ρ Q ->
  (∀v H' d B ρ' fa',E3 X.K G ρ' σ H' fa'->R0 X.K G H fa H' fa'->Rep X.K H' v d B->B.Nodup->(∀a∈B,H a=none/\∀i,a∉fa' i)->Q d ρ'->R v H')->t σ H R
structure V3 where
 nx:Ev->Prop
 rt:D->Ev->Prop
 bk:Ev->Prop:=λ_=>False
 ct:Ev->Prop:=λ_=>False
abbrev g9:=V3->Ev->Prop
def HH(K:YQ)(G:Ent)(N:Ev->Prop):St->Hp->Prop:=λb H=>∃a c,E3 K G a b H c/\N a
def TB(K:YQ)(G:Ent)(N:D->Ev->Prop):VK:=λv H=>∃d b e c B,E3 K G b e H c/\Rep K H v d B/\B.Nodup/\(∀a∈B,G.H₀ a=none)/\(∀i,i<G.vs.length->G.own i->∀a∈B,a∉c i)/\N d b
def low(K:YQ)(G:Ent)(T:V3):Ends:={ nx:=HH K G T.nx,rt:=TB K G T.rt,bk:=HH K G T.bk,ct:=HH K G T.ct }
structure Tx(A B:Ends):Prop where
 nx:∀σ H,A.nx σ H->B.nx σ H
 rt:∀v H,A.rt v H->B.rt v H
 bk:∀σ H,A.bk σ H->B.bk σ H
 ct:∀σ H,A.ct σ H->B.ct σ H
theorem Tx.refl(A:Ends):Tx A A:=⟨λ_ _ h=>h,λ_ _ h=>h,λ_ _ h=>h,λ_ _ h=>h⟩
structure Q6(X:Cx)(cl:List Cl)(e:Expr)(u:Ev->(Bool->Prop)->Prop):Prop where
 of ::
 run:∃t,PT X e t/\∀(G:Ent) (ρ:Ev) (σ:St) (H:Hp) (fa:YO) (Q:Bool->Prop) (R:Bool->Hp->Prop),G.cl=cl->E3 X.K G ρ σ H fa->u ρ Q ->
  (∀b H',e9 H H'->Q b->R b H')->t σ H R
structure D7(X:Cx)(cl:List Cl)(st:Stmt)(s:g9):Prop where
 of ::
 run:∃t,PS X st t/\∀(G:Ent) (T:V3) (ρ:Ev) (σ:St) (H:Hp) (fa:YO) (R:Ends),G.cl=cl->E3 X.K G ρ σ H fa->s T ρ->Tx (low X.K G T) R->t R σ H
structure oC(X:Cx)(cl:List Cl)(st:YM)(s:g9):Prop where
 of ::
 run:∃t,rQ X st t/\∀(G:Ent) (T:V3) (ρ:Ev) (σ:St) (H:Hp) (fa:YO) (R:Ends),G.cl=cl->E3 X.K G ρ σ H fa->s T ρ->Tx (low X.K G T) R->t R σ H
section
variable{X:Cx}{cl:List Cl}{e a b c:Expr}{f:Fl}{pos:Pos}
def uC(d:D):TU:=λ_ Q=>Q d
def a6(i:Nat):TU:=λg Q=>match g[i]? with
 | some (some d)=>Q d
 | _=>False
def NI:Option Cl->Fl
 | some .bor=>.stab
 | some .loc=>.locl
 | _=>.any
theorem E3.yR(E:E3 K G l σ H d){i:Nat}(h:¬G.own i):∀j,G.own j->∀a∈d i,a∉d j:=λj g a o z=>
 E.dj j i (λe=>h (e▸g)) g a z o
theorem E3.var(E:E3 K G g σ H d)(i:Nat):A3 G H d (d i) (NI G.cl[i]?):=by
 cases e:G.cl[i]? with
 | none=>trivial
 | some k=>
  cases k with
  | own=>trivial
  | mk _=>trivial
  | bor=>exact E.yR (λz=>by unfold Ent.own at z;rw[e] at z;cases z)
  | loc=>exact⟨E.yR (λz=>by unfold Ent.own at z;rw[e] at z;cases z),E.new i (.inl e),E.nd i (.inr e)⟩
theorem Pg(i:Nat)(h:PE X (.Name x pos) (eI i))(l:NI cl[i]?=f):PU X cl (.Name x pos) f (a6 i):=.of<|by
 refine⟨_,h,λG j y H q Q R p E g k=>?_⟩;unfold a6 at g
 cases e:j[i]? with
 | none=>rw[e] at g;cases g
 | some o=>
  cases o with
  | none=>rw[e] at g;cases g
  | some d=>
   rw[e] at g;obtain⟨v,u,r⟩:=E.rep i d e;refine⟨v,u,k v H d (q i) (e9.refl H) r ?_ g⟩;rw[<-l,<-p];exact E.var i
theorem a7:PU X cl (.Constant (.int i) j pos) .fresh (uC (.int i)):=.of ⟨_,Pc,λG h g H l Q R _ E d k=>k _ H _ _ (e9.refl H) .int (A3.nil _) d⟩
theorem sD:PU X cl (.Constant (.bool i) j pos) .fresh (uC (.bl i)):=.of ⟨_,RC,λG h g H l Q R _ E d k=>k _ H _ _ (e9.refl H) .bl (A3.nil _) d⟩
theorem C4:PU X cl (.Constant .none j pos) .fresh (uC .p3):=.of ⟨_,Oj,λG h g H i Q R _ E d k=>k _ H _ _ (e9.refl H) .p3 (A3.nil _) d⟩
theorem L7:PU X cl (.Constant (.str x) j pos) .fresh (uC (.str x)):=.of ⟨_,Qe,λG h g H i Q R _ E d k=>k _ H _ _ (e9.refl H) .str (A3.nil _) d⟩
theorem PU.weak(h:PU X cl e f u)(p:jH f g=true):PU X cl e g u:=.of<|by
 obtain⟨t,o,h⟩:=h.run;exact⟨t,o,λG j i H z Q R x E l k=>h G j i H z Q R x E l λv C d B s r y q=>k v C d B s r (y.weak E p) q⟩
def u6(u:TU):TU:=λg Q=>u g λd=>r8 d=true/\Q d
theorem PU.r8(h:PU X cl e f u):PU X cl e .fresh (u6 u):=.of<|by
 obtain⟨t,l,h⟩:=h.run;refine⟨t,l,λG i g H p Q R o E j k=>h G i g H p _ R o E j λv x d B s r y q=>k v x d B s r ?_ q.2⟩;rw[r.D6 q.1];exact A3.nil _
section
variable{K:YQ}{G:Ent}{H H':Hp}{fa:YO}{B:YE}{f:Fl}
theorem A3.back(s:e9 H H')(h:A3 G H' fa B f):A3 G H fa B f:=by
 cases f with
 | any=>trivial
 | stab=>exact h
 | locl=>exact h
 | fresh=>exact⟨h.1,λa d=>s.free (h.2 a d)⟩
end
theorem u2(q:PU X cl a O C)(p:PU X cl b M z):∃j i,PE X a j/\PE X b i/\∀(G:Ent) (g:Ev) (σ:St) (H:Hp) (h:YO) (Q:D->D->Prop) (R:V->V->Hp->Prop),G.cl=cl->E3 X.K G g σ H h->(C g λx=>z g λy=>Q x y) ->
  (∀v w l d e A B,e9 H l->Rep X.K l v d A->Rep X.K l w e B->A3 G H h A O->A3 G H h B M->Q d e->R v w l)->j σ H λx u=>i σ u λy r=>R x y r:=by
 obtain⟨j,pa,q⟩:=q.run;obtain⟨i,pb,p⟩:=p.run;exact⟨j,i,pa,pb,λG g σ H h Q R J E hu k=>q G g σ H h _ _ J E hu λv u d A o T f1 Y=>p G g σ u h _ _ J (E.same o) Y λw r e B I S f2 U=>k v w r d e A B (o.trans I) (T.same I) S f1 (f2.back o) U⟩
def bR(X:Cx)(r:R2)(g:D->D->(D->Prop)->Prop):Prop:=∀(H:Hp) (v w:V) (d e:D) (A B:YE) (Q:D->Prop) (R:VK),Rep X.K H v d A->Rep X.K H w e B->g d e Q ->
 (∀x h y C,e9 H h->Rep X.K h x y C->C.Nodup->(∀a∈C,H a=none)->Q y->R x h)->r v w H R
def o5(g:D->D->(D->Prop)->Prop)(i h:TU):TU:=λd Q=>i d λx=>h d λy=>g x y Q
theorem Sz(o:bR X r g)(ht:t=Qo r)(l:PU X cl a fa u)(hb:PU X cl b fb p)(mk:∀{j i},PE X a j->PE X b i->PE X e (t j i)):PU X cl e .fresh (o5 g u p):=.of<|by
 obtain⟨j,i,Y,U,h⟩:=u2 l hb;subst ht;exact⟨_,mk Y U,λG I z H fo Q R hG E hu k=>h G I z H fo _ _ hG E hu λv w H' d e A B s S O _ _ q=>o H' v w d e A B Q R S O q λx H2 y C J M n1 n2 T=>k x H2 y C (s.trans J) M ⟨n1,λa l=>s.free (n2 a l)⟩ T⟩
theorem jJ(p:O1 X (binaryOp i) r)(o:bR X r g)(u:PU X cl a x h)(q:PU X cl b v d):PU X cl (.BinOp a i b pos) .fresh (o5 g h d):=
 Sz o rfl u q λl j=>LU p l j
theorem kz(p:O1 X (compareOp d) r)(o:bR X r g)(v:PU X cl a y i)(u:PU X cl b x h)(q:behindInMarks d b=false):PU X cl (.Compare a [d] [b] pos) .fresh (o5 g i h):=
 Sz o rfl v u λl j=>yp p l j q
def gI(C:Int->Int->Prop)(g:Int->Int->D):D->D->(D->Prop)->Prop
 | .int i,.int j,Q=>C i j/\Q (g i j)
 | _,_,_=>False
def Cf(g:Int->Int->D):D->D->(D->Prop)->Prop
 | .int i,.int j,Q=>Q (g i j)
 | _,_,_=>False
theorem w8(h:Rep K H v (.int i) A):v=.int i:=by cases h;rfl
theorem D4(h:Rep K H v (.str i) A):v=.str i:=by cases h;rfl
theorem V9(h:Rep K H v (.bl i) A):v=.bl i:=by cases h;rfl
theorem eR(h:Rep K H v .p3 A):v=.p3:=by cases h;rfl
theorem rf{g:Int->Int->Int}:bR X (rI C λi j=>.int (g i j)) (gI C λi j=>.int (g i j)):=by
 intro H v w d e A B Q R o l q k;cases d<;>cases e<;>first | exact q.elim | skip
 cases w8 o;cases w8 l;exact⟨_,_,rfl,rfl,q.1,k _ H _ _ (e9.refl H) .int t5 (λ_ h=>(by cases h)) q.2⟩
theorem GR{g:Int->Int->Int}:bR X (Cq λi j=>.int (g i j)) (Cf λi j=>.int (g i j)):=by
 intro H v w d e A B Q R o l q k;cases d<;>cases e<;>first | exact q.elim | skip
 cases w8 o;cases w8 l;exact⟨_,_,rfl,rfl,k _ H _ _ (e9.refl H) .int t5 (λ_ h=>(by cases h)) q⟩
theorem iY{g:Int->Int->Bool}:bR X (Cq λi j=>.bl (g i j)) (Cf λi j=>.bl (g i j)):=by
 intro H v w d e A B Q R o l q k;cases d<;>cases e<;>first | exact q.elim | skip
 cases w8 o;cases w8 l;exact⟨_,_,rfl,rfl,k _ H _ _ (e9.refl H) .bl t5 (λ_ h=>(by cases h)) q⟩
section
variable{ua ub:TU}{fa fb:Fl}
theorem M1(g:PU X cl a fa ua)(d:PU X cl b fb ub):PU X cl (.BinOp a .Sub b pos) .fresh (o5 (Cf λi j=>.int (i-j)) ua ub):=jJ OB GR g d
theorem ib(g:PU X cl a fa ua)(d:PU X cl b fb ub):PU X cl (.BinOp a .FloorDiv b pos) .fresh (o5 (gI V4 λi j=>.int (i/j)) ua ub):=jJ CM rf g d
theorem W3(g:PU X cl a fa ua)(d:PU X cl b fb ub):PU X cl (.BinOp a .Mod b pos) .fresh (o5 (gI (λ_ j=>0<j) λi j=>.int (i%j)) ua ub):=jJ ES rf g d
theorem eZ(g:PU X cl a fa ua)(d:PU X cl b fb ub):PU X cl (.BinOp a .Pow b pos) .fresh (o5 (gI aV λi j=>.int (i^j.toNat)) ua ub):=jJ Na rf g d
theorem QZ(h:PU X cl a fa ua)(g:PU X cl b fb ub)(d:behindInMarks .Lt b=false):PU X cl (.Compare a [.Lt] [b] pos) .fresh (o5 (Cf λi j=>.bl (decide (i<j))) ua ub):=kz MG iY h g d
def UA:D->D->(D->Prop)->Prop
 | .str i,.str j,Q=>i.length+j.length<=sizeLine/\Q (.str (i++j))
 | _,_,_=>False
theorem SH:bR X (λx y H Q=>∃i j,x=.str i/\y=.str j/\i.length+j.length<=sizeLine/\Q (.str (i++j)) H) UA:=by
 intro H v w d e A B Q R l g q k;cases d<;>cases e<;>first | exact q.elim | skip
 cases D4 l;cases D4 g;exact⟨_,_,rfl,rfl,q.1,k _ H _ _ (e9.refl H) .str t5 (λ_ h=>(by cases h)) q.2⟩
def aA:D->Bool
 | .p3=>true
 | .bl _=>true
 | .int _=>true
 | .str _=>true
 | _=>false
def toV:D->V
 | .p3=>.p3
 | .bl b=>.bl b
 | .int i=>.int i
 | .str x=>.str x
 | _=>.p3
theorem Y2(h:Rep K H v d A)(f:aA d=true):v=toV d/\A=[]:=by
 cases h<;>first | exact⟨rfl,rfl⟩ | cases f
def ng(d b:Bool):Bool:=match d with
 | true=>!b
 | false=>b
def UM:D->D->Option Bool
 | .int a,.int b=>some (decide (a=b))
 | .str a,.str b=>some (decide (a=b))
 | .bl a,.bl b=>some (decide (a=b))
 | .p3,.p3=>some true
 | .p3,.int _=>some false
 | .int _,.p3=>some false
 | .p3,.bl _=>some false
 | .bl _,.p3=>some false
 | .p3,.str _=>some false
 | .str _,.p3=>some false
 | .int _,.str _=>some false
 | .str _,.int _=>some false
 | .bl _,.str _=>some false
 | .str _,.bl _=>some false
 | _,_=>none
theorem Ex{d e:D}{b:Bool}(h:UM d e=some b):aA d=true/\aA e=true/\OC (toV d) (toV e)=true/\decide (toV d=toV e)=b:=by
 cases d<;>cases e
 all_goals cases h
 all_goals refine⟨rfl,rfl,rfl,?_⟩
 all_goals first | rfl | (simp[toV])
def Qp(g:Bool):D->D->(D->Prop)->Prop:=λd e Q=>match UM d e with
 | some b=>Q (.bl (ng g b))
 | none=>False
theorem CK{d e:D}(h:Qp g d e Q):∃b,UM d e=some b/\Q (.bl (ng g b)):=by
 unfold Qp at h;split at h
 ·exact⟨_,by assumption,h⟩
 ·exact h.elim
theorem Sa:bR X Va (Qp false):=by
 intro H v w d e A B Q R i g q k;obtain⟨b,r,q⟩:=CK q;obtain⟨p,o,l,j⟩:=Ex r;obtain⟨rfl,rfl⟩:=Y2 i p;obtain⟨rfl,rfl⟩:=Y2 g o;refine⟨l,?_⟩;rw[j];exact k _ H _ _ (e9.refl H) .bl t5 (λ_ h=>(by cases h)) q
theorem UJ:bR X Vs (Qp true):=by
 intro H v w d e A B Q R i g q k;obtain⟨b,r,q⟩:=CK q;obtain⟨p,o,l,j⟩:=Ex r;obtain⟨rfl,rfl⟩:=Y2 i p;obtain⟨rfl,rfl⟩:=Y2 g o;refine⟨l,?_⟩;rw[j];exact k _ H _ _ (e9.refl H) .bl t5 (λ_ h=>(by cases h)) q
def zx:D->Bool
 | .p3=>true
 | _=>false
def Vm(g:Bool):D->D->(D->Prop)->Prop
 | d,.p3,Q=>Q (.bl (ng g (zx d)))
 | _,_,_=>False
theorem yC(h:Rep K H v d A):decide (v=.p3)=zx d:=by
 cases h<;>first | rfl | simp[]
theorem Ul:bR X (λx y H Q=>y=.p3/\Q (.bl (decide (x=.p3))) H) (Vm false):=by
 intro H v w d e A B Q R i g q k;cases e<;>first | exact q.elim | skip
 cases eR g;refine⟨rfl,?_⟩;rw[yC i];exact k _ H _ _ (e9.refl H) .bl t5 (λ_ h=>(by cases h)) q
theorem Nu:bR X (λx y H Q=>y=.p3/\Q (.bl (!decide (x=.p3))) H) (Vm true):=by
 intro H v w d e A B Q R i g q k;cases e<;>first | exact q.elim | skip
 cases eR g;refine⟨rfl,?_⟩;rw[yC i];exact k _ H _ _ (e9.refl H) .bl t5 (λ_ h=>(by cases h)) q
def rS:D->Option (List D)
 | .lst d=>some d
 | .tup d=>some d
 | .fz d=>some d
 | _=>none
theorem dP(h:Rep K H v d A)(e:rS d=some xs):∃p vs B,v=.ref p/\(G3 K H p vs\/R6 K H p vs)/\i9 K H vs xs B/\B.Sublist A:=by
 cases h with
 | tup h r=>cases e;exact⟨_,_,_,rfl,.inr (R6.of h),r,Wm _⟩
 | lst h r=>cases e;exact⟨_,_,_,rfl,.inl (G3.of h),r,Tk _ _⟩
 | frz h r=>cases e;exact⟨_,_,_,rfl,.inl h.sq,r,Wm _⟩
 | _=>cases e
theorem ug(h:aA d=true):aS (toV d)=true:=by cases d<;>first | rfl | cases h
theorem i9.flat(r:i9 K H vs ds A):ds.all aA=true->vs=ds.map toV/\vs.all aS=true:=by
 refine r.ind (P:=λvs ds _=>ds.all aA=true->vs=ds.map toV/\vs.all aS=true) (λ_=>⟨rfl,rfl⟩) λh _ i f=>?_;rw[We,vc] at f;obtain⟨j,_⟩:=Y2 h f.1;obtain⟨g,d⟩:=i f.2;subst j;refine⟨by rw[t8,<-g],?_⟩;rw[We,d,Bool.and_true];exact ug f.1
def inD(x:D)(xs:List D):Bool:=xs.any λy=>IX (toV y) (toV x)
def UW(h:Bool):D->D->(D->Prop)->Prop:=λd e Q=>aA d=true/\∃g,rS e=some g/\g.all aA=true/\Q (.bl (ng h (inD d g)))
theorem TV:bR X (QE X.K g) (UW g):=by
 intro H v w d e A B Q R o l q k;obtain⟨j,i,E,y,q⟩:=q;obtain⟨rfl,rfl⟩:=Y2 o j;obtain⟨p,vs,C,rfl,u,r,_⟩:=dP l E;obtain⟨rfl,x⟩:=r.flat y;refine⟨p,_,rfl,u,ug j,x,k _ H _ _ (e9.refl H) .bl t5 (λ_ h=>(by cases h)) ?_⟩;have z:Tb (toV d) (i.map toV)=inD d i:=by unfold Tb inD;rw[XI];rfl
 rw[z];cases g
 ·exact q
 ·exact q
theorem i9.P4(r:i9 K H vs ds A)(h:L2.P4 ds i=some d):∃v B,L2.P4 vs i=some v/\Rep K H v d B/\B.Sublist A:=by
 unfold L2.P4 at h ⊢;rw[r.length]
 cases e:oB ds.length i with
 | none=>rw[e] at h;cases h
 | some j=>
  rw[e] at h;exact r.get h
def Vc:D->D->(D->Prop)->Prop
 | .str z,.int i,Q=>z.length<=sizeLine/\∃c,L2.P4 z.cps.toList i=some c/\Q (.str ⟨#[c]⟩)
 | .lst g,.int i,Q=>∃d,L2.P4 g i=some d/\Q d
 | .tup g,.int i,Q=>∃d,L2.P4 g i=some d/\Q d
 | .fz g,.int i,Q=>∃d,L2.P4 g i=some d/\Q d
 | _,_,_=>False
end
end
section
variable{X:Cx}{cl:List Cl}{e a b c:Expr}{es:YH}{f:Fl}{pos:Pos}{ua ub uc:TU}{fa fb fc:Fl}
abbrev df:=Ev->(List D->Prop)->Prop
structure Sf(X:Cx)(cl:List Cl)(es:YH)(u:df):Prop where
 of ::
 run:∃t,PA X es t/\∀(G:Ent) (ρ:Ev) (σ:St) (H:Hp) (fa:YO) (Q:List D->Prop) (R:List V->Hp->Prop),G.cl=cl->E3 X.K G ρ σ H fa->u ρ Q ->
  (∀vs H' ds A,e9 H H'->i9 X.K H' vs ds A->A.Nodup->(∀a∈A,H a=none)->ds.length=es.length->Q ds->R vs H')->t σ H R
structure Fv(X:Cx)(cl:List Cl)(es:YH)(u:df):Prop where
 of ::
 run:∃t,PA X es t/\∀(G:Ent) (ρ:Ev) (σ:St) (H:Hp) (fa:YO) (Q:List D->Prop) (R:List V->Hp->Prop),G.cl=cl->E3 X.K G ρ σ H fa->u ρ Q ->
  (∀vs H' ds A,e9 H H'->i9 X.K H' vs ds A->ds.length=es.length->Q ds->R vs H')->t σ H R
def g7:df:=λ_ Q=>Q []
def a9(ua:TU)(h:df):df:=λd Q=>ua d λx=>h d λg=>Q (x::g)
theorem n9:Sf X cl [] g7:=.of ⟨_,L8,λG i g H fa Q R _ E d k=>k [] H [] [] (e9.refl H) .nil t5 (λ_ h=>(by cases h)) rfl d⟩
theorem c7:Fv X cl [] g7:=.of ⟨_,L8,λG h g H fa Q R _ E d k=>k [] H [] [] (e9.refl H) .nil rfl d⟩
theorem Rep.there(r:Rep K H v d A)(g:x∈A):H x≠none:=λz=>by
 have:=r.eY x g;rwa[z] at this
theorem c9(ha:PU X cl e .fresh ua)(Y:Sf X cl es l)(U:isStar e=false):Sf X cl (e::es) (a9 ua l):=.of<|by
 obtain⟨t1,M,h1⟩:=ha.run;obtain⟨t2,J,h2⟩:=Y.run;refine⟨_,bf M J U,λG j i H fa Q R q E T k=>h1 G j i H fa _ _ q E T λv H1 d A g p r I=>h2 G j i H1 fa _ _ q (E.same g) I λvs H2 ds B o u n1 n2 O C=>k (v::vs) H2 (d::ds) (A++B) (g.trans o) (.cons (p.same o) u) ?_ (λx h=>?_) (by simp[O]) C⟩
 ·refine List.nodup_append.mpr ⟨r.1,n1,λx h y S e=>?_⟩;subst e;exact p.there h (n2 x S)
 ·rcases List.mem_append.mp h with z | z
  ·exact r.2 x z
  ·exact g.free (n2 x z)
theorem a8(M:PU X cl e f ua)(J:Fv X cl es i)(I:isStar e=false):Fv X cl (e::es) (a9 ua i):=.of<|by
 obtain⟨t1,y,S⟩:=M.run;obtain⟨t2,x,O⟩:=J.run;exact⟨_,bf y x I,λG h g H fa Q R o E C k=>S G h g H fa _ _ o E C λv Y d A l q f1 u=>O G h g Y fa _ _ o (E.same l) u λvs U T B j p z r=>k (v::vs) U (d::T) (A++B) (l.trans j) (.cons (q.same j) p) (by simp[z]) r⟩
def S9(h:df):TU:=λd Q=>h d λg=>Q (.lst g)
def U7(h:df):TU:=λd Q=>h d λg=>Q (.tup g)
theorem bh(h:n<=1000):n<=sizeLine:=IR (AQ h)
theorem A9(h:Sf X cl es g)(v:Nat.ble es.length 1000=true):PU X cl (.List es pos) .fresh (S9 g):=.of<|by
 obtain⟨t,p,h⟩:=h.run;refine⟨_,HE p,λG j i H fa Q R B E u k=>h G j i H fa _ _ B E u λvs I C A s r n1 n2 l q=>⟨by rw[r.length,l];exact bh (v1 v),λx d=>k _ _ (.lst C) (x::A) (s.trans (e9.i3 d)) (.lst c8 (r.same (e9.i3 d))) ⟨List.nodup_cons.mpr ⟨λz=>?_,n1⟩,λy o=>?_⟩ q⟩⟩
 ·have:=r.eY x z;rwa[d] at this
 ·rcases List.mem_cons.mp o with z | z
  ·rw[z];exact s.free d
  ·exact n2 y z
theorem D2(h:Sf X cl es d)(v:Nat.ble es.length 1000=true):PU X cl (.Tuple es l pos) .fresh (U7 d):=.of<|by
 obtain⟨t,p,h⟩:=h.run;exact⟨_,oJ p,λG j i H fa Q R y E u k=>h G j i H fa _ _ y E u λvs B z A s r n1 n2 o q=>⟨by rw[r.length,o];exact bh (v1 v),λx g=>k _ _ (.tup z) A (s.trans (e9.i3 g)) (.tup c8 (r.same (e9.i3 g))) ⟨n1,n2⟩ q⟩⟩
def Call3(X:Cx)(r:List V->Hp->VK->Prop)(g:List D->(D->Prop)->Prop):Prop:=∀(H:Hp) (vs:List V) (h:List D) (A:YE) (Q:D->Prop) (R:VK),i9 X.K H vs h A->g h Q ->
 (∀x d y C,e9 H d->Rep X.K d x y C->C.Nodup->(∀a∈C,H a=none)->Q y->R x d)->r vs H R
def bt(g:List D->(D->Prop)->Prop)(h:df):TU:=λd Q=>h d λi=>g i Q
theorem Vd(o:Call3 X r g)(h:Fv X cl es d)(mk:∀{t},PA X es t->PE X e (SV r t)):PU X cl e .fresh (bt g d):=.of<|by
 obtain⟨t,p,h⟩:=h.run;exact⟨_,mk p,λG j i H fa Q R I E z k=>h G j i H fa _ _ I E z λvs O J A s r S q=>o O vs J A Q R r q λx M y C l u n1 n2 v=>k x M y C (s.trans l) u ⟨n1,λa B=>s.free (n2 a B)⟩ v⟩
section
variable{id T:String}{r:List V->Hp->VK->Prop}{g:List D->(D->Prop)->Prop}{x:Str}{p:Pos}{us:df}
theorem A2 (v:J1 X (.builtin id) r) (o:Call3 X r g) (q:Gl X x) (l:X.mg x=none) (i:bootBuiltins x=some (.builtin id)) (y:Fv X cl (e::es) us) (j:x ≠ "__name__":=by decide) (hd:(x == ("__debug__" : Str))=false:=by decide)
  (u:starEach (e::es) X.env=(false,eval e X.env)::starEach es X.env:=by rfl) (d:(backTo pos (starEach es X.env)).any (·.1)=false:=by rfl):PU X cl (.Call (.Name x p) (e::es) [] pos) .fresh (bt g us):=
 Vd o y λh=>iJ v q l i h j hd u d
theorem y7 (v:J1 X (.type T) r) (o:Call3 X r g) (q:Gl X x) (l:X.mg x=none) (i:bootBuiltins x=some (.type T)) (y:Fv X cl (e::es) us) (j:x ≠ "__name__":=by decide) (hd:(x == ("__debug__" : Str))=false:=by decide)
  (u:starEach (e::es) X.env=(false,eval e X.env)::starEach es X.env:=by rfl) (d:(backTo pos (starEach es X.env)).any (·.1)=false:=by rfl):PU X cl (.Call (.Name x p) (e::es) [] pos) .fresh (bt g us):=
 Vd o y λh=>fM v q l i h j hd u d
end
theorem i9.one(r:i9 K H vs [d] A):∃v,vs=[v]/\Rep K H v d A:=by
 cases r with
 | cons h t=>cases t;exact⟨_,rfl,by rwa[ud]⟩
theorem i9.two{d e:D}(r:i9 K H vs [d,e] A):∃v w B C,vs=[v,w]/\Rep K H v d B/\Rep K H w e C/\A=B++C:=by
 cases r with
 | cons h t=>
  cases t with
  | cons i g=>cases g;exact⟨_,_,_,_,rfl,h,i,by rw[ud]⟩
theorem E8(h:Rep K H v (.lst xs) A):∃p vs B,v=.ref p/\H p=some (.lst vs)/\i9 K H vs xs B/\A=p::B:=by
 cases h with
 | lst h r=>exact⟨_,_,_,rfl,h,r,rfl⟩
theorem fF(h:Rep K H v (.fz xs) A):∃p vs,v=.ref p/\Mz K H p vs/\i9 K H vs xs A:=by
 cases h with
 | frz h r=>exact⟨_,_,rfl,h,r⟩
theorem J9(h:Rep K H v (.tup xs) A):∃p vs,v=.ref p/\H p=some (.tup vs)/\i9 K H vs xs A:=by
 cases h with
 | tup h r=>exact⟨_,_,rfl,h,r⟩
def hW:List D->(D->Prop)->Prop
 | [.lst d],Q=>Q (.int d.length)
 | [.tup d],Q=>Q (.int d.length)
 | [.fz d],Q=>Q (.int d.length)
 | [.str z],Q=>z.length<=sizeLine/\Q (.int z.length)
 | _,_=>False
theorem bT:Call3 X (λxs H Q=>∃x n,xs=[x]/\Ov X.K x H n/\Q (.int n) H) hW:=by
 intro H vs C A Q R r q k;have i:∀{n:Nat},Q (.int n)->R (.int n) H:=λq=>k _ H _ _ (e9.refl H) .int t5 (λ_ h=>(by cases h)) q
 have sq:∀{d:D} {xs:List D},C=[d]->rS d=some xs->Q (.int xs.length)->∃x n,vs=[x]/\Ov X.K x H n/\R (.int n) H:=λ{d xs} z y u=>by
  subst z;obtain⟨v,rfl,j⟩:=r.one;obtain⟨p,l,B,rfl,g,o,_⟩:=dP j y;refine⟨_,l.length,rfl,?_,i (by rwa[o.length])⟩;rcases g with g | g
  ·exact .inl ⟨_,g,rfl⟩
  ·exact .inr ⟨_,g,rfl⟩
 unfold hW at q;split at q
 ·exact sq rfl rfl q
 ·exact sq rfl rfl q
 ·exact sq rfl rfl q
 ·obtain⟨v,rfl,j⟩:=r.one;cases D4 j;exact⟨_,_,rfl,⟨q.1,rfl⟩,i q.2⟩
 ·exact q.elim
def Mn:List D->(D->Prop)->Prop:=λh Q=>∃d g,h=[d]/\rS d=some g/\w6 g=true/\Q (.lst g)
theorem MR:Call3 X (λxs H Q=>∃p g,xs=[.ref p]/\(G3 X.K H p g\/R6 X.K H p g)/\∀l,H l=none->Q (.ref l) (upd H l (.lst g))) Mn:=by
 intro H vs C A Q R r q k;obtain⟨d,xs,rfl,e,u,q⟩:=q;obtain⟨v,rfl,o⟩:=r.one;obtain⟨p,j,B,rfl,x,i,_⟩:=dP o e;have z:=i.D6 u;subst z;refine⟨p,j,rfl,x,λl h=>k _ _ (.lst xs) [l] (e9.i3 h) (.lst c8 (i.same (e9.i3 h))) (by simp) (λa y=>?_) q⟩;have:=by simpa using y
 rwa[this]
def Z2:List D->(D->Prop)->Prop:=λh Q=>∃d g,h=[d]/\rS d=some g/\w6 g=true/\Q (.tup g)
theorem V8:Call3 X (λxs H Q=>∃p h,xs=[.ref p]/\((G3 X.K H p h/\∀l,H l=none->Q (.ref l) (upd H l (.tup h)))\/(R6 X.K H p h/\Q (.ref p) H))) Z2:=by
 intro H vs C A Q R r q k;obtain⟨d,xs,rfl,e,z,q⟩:=q;obtain⟨v,rfl,y⟩:=r.one
 cases d with
 | lst h=>
  cases e;obtain⟨p,x,B,rfl,i,g,_⟩:=E8 y;have u:=g.D6 z;subst u;exact⟨p,x,rfl,.inl ⟨G3.of i,λl j=>k _ _ (.tup xs) [] (e9.i3 j) (.tup c8 (g.same (e9.i3 j))) t5 (λa o=>(by cases o)) q⟩⟩
 | fz h=>
  cases e;obtain⟨p,x,rfl,i,g⟩:=fF y;have u:=g.D6 z;subst u;exact⟨p,x,rfl,.inl ⟨i.sq,λl j=>k _ _ (.tup xs) [] (e9.i3 j) (.tup c8 (g.same (e9.i3 j))) t5 (λa o=>(by cases o)) q⟩⟩
 | tup h=>
  cases e;obtain⟨p,x,rfl,i,g⟩:=J9 y;have u:=g.D6 z;subst u;exact⟨_,_,rfl,.inr ⟨R6.of i,k _ H (.tup xs) [] (e9.refl H) y t5 (λa o=>(by cases o)) q⟩⟩
 | _=>cases e
def QO:List D->(D->Prop)->Prop
 | [.int i],Q=>Q (.int i)
 | [.bl k],Q=>Q (.int (if k then 1 else 0))
 | _,_=>False
theorem Mf:Call3 X (λxs H Q=>(∃i,xs=[.int i]/\Q (.int i) H)\/∃k,xs=[.bl k]/\Q (.int (if k then 1 else 0)) H) QO:=by
 intro H vs g A Q R r q k;unfold QO at q;split at q
 ·obtain⟨v,rfl,d⟩:=r.one;cases w8 d;exact .inl ⟨_,rfl,k _ H _ _ (e9.refl H) .int t5 (λ_ h=>(by cases h)) q⟩
 ·obtain⟨v,rfl,d⟩:=r.one;cases V9 d;exact .inr ⟨_,rfl,k _ H _ _ (e9.refl H) .int t5 (λ_ h=>(by cases h)) q⟩
 ·exact q.elim
def Qx(g:Int->Int->Int):List D->(D->Prop)->Prop
 | [.int i,.int j],Q=>Q (.int (g i j))
 | _,_=>False
theorem JB:Call3 X (λxs H Q=>∃i j,xs=[.int i,.int j]/\Q (.int (g i j)) H) (Qx g):=by
 intro H vs o A Q R r q k;unfold Qx at q;split at q
 ·obtain⟨v,w,B,C,rfl,l,d,_⟩:=r.two;cases w8 l;cases w8 d;exact⟨_,_,rfl,k _ H _ _ (e9.refl H) .int t5 (λ_ h=>(by cases h)) q⟩
 ·exact q.elim
end
structure Br(b:Bool)(P Q:Prop):Prop where
 t:b=true->P
 f:b=false->Q
theorem Br.yes(h:b=true)(p:P):Br b P Q:=⟨λ_=>p,λe=>by rw[h] at e;cases e⟩
theorem Br.no(h:b=false)(p:Q):Br b P Q:=⟨λe=>(by rw[h] at e;cases e),λ_=>p⟩
abbrev aN:=Ev->(Bool->Prop)->Prop
section
variable{X:Cx}{cl:List Cl}{e a b c:Expr}{es:YH}{f:Fl}{pos:Pos}{ua ub uc:TU}{fa fb fc:Fl}
def uT(u:TU):aN:=λg Q=>u g λd=>match d with
 | .bl k=>Q k
 | _=>False
theorem T7(T:O1 X (compareOp i) r)(o:bR X r g)(ha:PU X cl a fa ua)(Y:PU X cl b fb ub)(U:behindInMarks i b=false):Q6 X cl (.Compare a [i] [b] pos) (uT (o5 g ua ub)):=.of<|by
 obtain⟨ta,tb,O,M,h⟩:=u2 ha Y;refine⟨_,zJ T O M U,λG p l H fo Q R hG E S k=>h G p l H fo (λd e=>g d e λd=>match d with | .bl k=>Q k | _=>False) _ hG E S λv w H' d e A B s J I _ _ q=>o H' v w d e A B _ _ J I q λx H2 y C u z n1 n2 j=>?_⟩;cases y<;>first | exact(j).elim | skip
 cases V9 z;exact⟨_,rfl,k _ H2 (s.trans u) j⟩
theorem Gm(h:PU X cl a fa ua)(g:PU X cl b fb ub)(d:behindInMarks .Lt b=false):Q6 X cl (.Compare a [.Lt] [b] pos) (uT (o5 (Cf λi j=>.bl (decide (i<j))) ua ub)):=T7 MG iY h g d
theorem zi(h:PU X cl a fa ua)(g:PU X cl b fb ub)(d:behindInMarks .Gt b=false):Q6 X cl (.Compare a [.Gt] [b] pos) (uT (o5 (Cf λi j=>.bl (decide (j<i))) ua ub)):=T7 Ga iY h g d
theorem Cz(h:PU X cl a fa ua)(g:PU X cl b fb ub)(d:behindInMarks .GtE b=false):Q6 X cl (.Compare a [.GtE] [b] pos) (uT (o5 (Cf λi j=>.bl (decide (j<=i))) ua ub)):=T7 Sn iY h g d
def ve(u:TU):aN:=λj Q=>u j λd=>match d with
 | .p3=>Q false
 | .bl k=>Q k
 | .int i=>Q (i != 0)
 | .str y=>y.length<=sizeLine/\Q ((y.length:Int) != 0)
 | .lst g=>Q (!g.isEmpty)
 | .tup g=>Q (!g.isEmpty)
 | .fz g=>Q (!g.isEmpty)
 | .dic h=>Q (!h.isEmpty)
 | _=>False
theorem x3.empty(r:x3 K H kvs d A):kvs.isEmpty=d.isEmpty:=by cases r<;>rfl
theorem i9.empty(r:i9 K H kvs d A):kvs.isEmpty=d.isEmpty:=by cases r<;>rfl
theorem W9(h:PU X cl e f ua)(I:∀g,isTrue e X.env g=(do let v <-g;standAt e.pos;holding [v] (truthy v))):Q6 X cl e (ve ua):=.of<|by
 obtain⟨t,p,h⟩:=h.run;refine⟨_,El p I,λG y x H M Q R J E C k=>h G y x H M _ _ J E C λv j d B s r _ q=>?_⟩
 cases d with
 | p3=>cases eR r;exact⟨_,rfl,k _ j s q⟩
 | bl i=>cases V9 r;exact⟨_,rfl,k _ j s q⟩
 | int i=>cases w8 r;exact⟨_,rfl,k _ j s q⟩
 | str i=>cases D4 r;exact⟨_,⟨q.1,rfl⟩,k _ j s q.2⟩
 | lst u=>
  obtain⟨p,vs,B,rfl,o,l,_⟩:=E8 r;exact⟨_,.inl ⟨vs,G3.of o,rfl⟩,by rw[l.empty];exact k _ j s q⟩
 | tup u=>
  obtain⟨p,vs,rfl,o,l⟩:=J9 r;exact⟨_,.inr (.inl ⟨vs,R6.of o,rfl⟩),by rw[l.empty];exact k _ j s q⟩
 | fz u=>
  obtain⟨p,vs,rfl,o,l⟩:=fF r;exact⟨_,.inl ⟨vs,o.sq,rfl⟩,by rw[l.empty];exact k _ j s q⟩
 | dic z=>
  cases r with
  | dic o l=>exact⟨_,.inr (.inr ⟨_,.inr ⟨_,o⟩,rfl⟩),by rw[l.empty];exact k _ j s q⟩
 | _=>exact(q).elim
structure mK(X:Cx)(cl:List Cl)(e:Expr)(u:aN):Prop where
 of ::
 run:∃t,PW X e t/\∀(G:Ent) (ρ:Ev) (σ:St) (H:Hp) (fa:YO) (Q:Bool->Prop) (R:Bool->Hp->Prop),G.cl=cl->E3 X.K G ρ σ H fa->u ρ Q ->
  (∀b H',e9 H H'->Q b->R b H')->t σ H R
theorem mK.pt(h:mK X cl e u):Q6 X cl e u:=.of<|let ⟨t,p,h⟩:=h.run;⟨t,PW.pt p,h⟩
def DG(c:aN):aN:=λd Q=>c d λk=>Q (!k)
def kJ(c d:aN):aN:=λg Q=>c g λk=>Br k (d g Q) (Q false)
def Te(c d:aN):aN:=λg Q=>c g λk=>Br k (Q true) (d g Q)
variable{tc td:aN}{rest:YH}
theorem oX(h:Q6 X cl a tc):Q6 X cl (.UnaryOp .Not a pos) (DG tc):=.of<|by
 obtain⟨t,p,h⟩:=h.run;exact⟨_,Od p,λG g d H l Q R j E i k=>h G g d H l _ _ j E i λb o s q=>k _ o s q⟩
theorem R4(h:Q6 X cl a tc):mK X cl (.BoolOp .And [a] pos) tc:=.of<|let ⟨t,p,h⟩:=h.run;⟨t,KZ p,h⟩
theorem wH(h:Q6 X cl a tc):mK X cl (.BoolOp .Or [a] pos) tc:=.of<|let ⟨t,p,h⟩:=h.run;⟨t,Og p,h⟩
theorem W7(h:Q6 X cl a tc)(d:mK X cl (.BoolOp .And (b::rest) pos) td):mK X cl (.BoolOp .And (a::b::rest) pos) (kJ tc td):=.of<|by
 obtain⟨t,p,h⟩:=h.run;obtain⟨z,v,d⟩:=d.run;refine⟨_,ND p v,λG i g H l Q R j E x k=>h G i g H l _ _ j E x λb o s q=>?_⟩
 cases b with
 | true=>
  exact d G i g o l Q R j (E.same s) (q.t rfl) λb y r u=>k b y (s.trans r) u
 | false=>exact k _ o s (q.f rfl)
theorem DJ(h:Q6 X cl a tc)(d:mK X cl (.BoolOp .Or (b::rest) pos) td):mK X cl (.BoolOp .Or (a::b::rest) pos) (Te tc td):=.of<|by
 obtain⟨t,p,h⟩:=h.run;obtain⟨z,v,d⟩:=d.run;refine⟨_,Rt p v,λG i g H l Q R j E x k=>h G i g H l _ _ j E x λb o s q=>?_⟩
 cases b with
 | true=>exact k _ o s (q.t rfl)
 | false=>
  exact d G i g o l Q R j (E.same s) (q.f rfl) λb y r u=>k b y (s.trans r) u
def KG(ua ub:TU):TU:=λd Q=>ua d λx=>match x with
 | .bl k=>Br k (ub d Q) (Q (.bl false))
 | _=>False
def Ui(ua ub:TU):TU:=λd Q=>ua d λx=>match x with
 | .bl k=>Br k (Q (.bl true)) (ub d Q)
 | _=>False
theorem jM(h:PU X cl a f ua):PU X cl (.BoolOp d [a] pos) f ua:=.of<|let ⟨t,p,h⟩:=h.run;⟨t,OM p,h⟩
theorem vm(h:PU X cl a fa ua)(i:PU X cl (.BoolOp .And (b::rest) pos) fb ub):PU X cl (.BoolOp .And (a::b::rest) pos) fb (KG ua ub):=.of<|by
 obtain⟨t,p,h⟩:=h.run;obtain⟨O,C,i⟩:=i.run;refine⟨_,NW p C,λG g j H o Q R l E I k=>h G g j H o _ _ l E I λv u d B s r _ q=>?_⟩;cases d<;>first | exact(q).elim | skip
 rename_i b
 cases V9 r;refine⟨_,rfl,?_⟩;cases b with
 | true=>
  exact i G g j u o Q R l (E.same s) (q.t rfl) λv M d B x y J z=>k v M d B (s.trans x) y (J.back s) z
 | false=>exact k _ u _ [] s .bl (A3.nil _) (q.f rfl)
theorem MM(h:PU X cl a fa ua)(i:PU X cl (.BoolOp .Or (b::rest) pos) fb ub):PU X cl (.BoolOp .Or (a::b::rest) pos) fb (Ui ua ub):=.of<|by
 obtain⟨t,p,h⟩:=h.run;obtain⟨O,C,i⟩:=i.run;refine⟨_,QR p C,λG g j H o Q R l E I k=>h G g j H o _ _ l E I λv u d B s r _ q=>?_⟩;cases d<;>first | exact(q).elim | skip
 rename_i b
 cases V9 r;refine⟨_,rfl,?_⟩;cases b with
 | true=>exact k _ u _ [] s .bl (A3.nil _) (q.t rfl)
 | false=>
  exact i G g j u o Q R l (E.same s) (q.f rfl) λv M d B x y J z=>k v M d B (s.trans x) y (J.back s) z
def Vt(c:aN)(ua ub:TU):TU:=λd Q=>c d λk=>Br k (ua d Q) (ub d Q)
theorem Rj(o:Q6 X cl c tc)(O:PU X cl a f ua)(M:PU X cl b f ub):PU X cl (.IfExp c a b pos) f (Vt tc ua ub):=.of<|by
 obtain⟨t,p,o⟩:=o.run;obtain⟨Y,I,T⟩:=O.run;obtain⟨U,C,S⟩:=M.run;refine⟨_,GA p I C,λG h g H u Q R r E J k=>o G h g H u _ _ r E J λb z s q=>?_⟩
 cases b with
 | true=>exact T G h g z u Q R r (E.same s) (q.t rfl) λv y d B i j x l=>k v y d B (s.trans i) j (x.back s) l
 | false=>exact S G h g z u Q R r (E.same s) (q.f rfl) λv y d B i j x l=>k v y d B (s.trans i) j (x.back s) l
end
structure PN(X:Cx)(cl:List Cl)(e:Expr)(u:TM):Prop where
 of ::
 run:∃t,PE X e t/\∀(G:Ent) (ρ:Ev) (σ:St) (H:Hp) (fa:YO) (Q:D->Ev->Prop) (R:VK),G.cl=cl->E3 X.K G ρ σ H fa->u ρ Q ->
  (∀v H' d B ρ' fa',E3 X.K G ρ' σ H' fa'->R0 X.K G H fa H' fa'->Rep X.K H' v d B->(∀i,G.own i->∀a∈B,a∉fa' i)->Q d ρ'->R v H')->t σ H R
section
variable{X:Cx}{cl:List Cl}{e a b c:Expr}{es:YH}{f:Fl}{pos:Pos}{ua ub uc:TU}{fa fb fc:Fl}{ma mb:TM}
def mP(u:TU):TM:=λg Q=>u g λd=>Q d g
theorem PU.m(h:PU X cl e .fresh ua):PM X cl e (mP ua):=.of<|by
 obtain⟨t,p,h⟩:=h.run;exact⟨t,p,λG g o H l Q R y E u k=>h G g o H l _ _ y E u λv C d B s r f q=>k v C d B g l (E.same s) (R0.same s) r f.1 (λx j=>⟨f.2 x j,λi z=>E.there i z (f.2 x j)⟩) q⟩
theorem PU.n(h:PU X cl e f ua)(o:jH f .stab=true):PN X cl e (mP ua):=.of<|by
 obtain⟨t,p,h⟩:=h.run;exact⟨t,p,λG g j H i Q R u E l k=>h G g j H i _ _ u E l λv x d B s r f q=>k v x d B g i (E.same s) (R0.same s) r (f.weak E o) q⟩
theorem PM.n(h:PM X cl e ma):PN X cl e ma:=.of<|by
 obtain⟨t,p,h⟩:=h.run;exact⟨t,p,λG o l H z Q R y E u k=>h G o l H z _ _ y E u λv C d B g j I c r n1 n2 q=>k v C d B g j I c r (λi _ a x=>(n2 a x).2 i) q⟩
def vK(u:TM):TM:=λh Q=>u h λd g=>r8 d=true/\Q d g
theorem PN.r8(h:PN X cl e ma):PM X cl e (vK ma):=.of<|by
 obtain⟨t,p,h⟩:=h.run;refine⟨t,p,λG l j H y Q R x E o k=>h G l j H y _ _ x E o λv z d B g i C c r n q=>?_⟩;have e:=r.D6 q.1;subst e;exact k v z d [] g i C c r t5 (λa u=>(by cases u)) q.2
theorem m2(C:PN X cl a ma)(z:PN X cl b mb):∃r q,PE X a r/\PE X b q/\∀(G:Ent) (p:Ev) (σ:St) (H:Hp) (u:YO) (Q:D->D->Ev->Prop) (R:V->V->Hp->Prop),G.cl=cl->E3 X.K G p σ H u->(ma p λx j=>mb j λy h=>Q x y h) ->
  (∀v w o d e A B l g,E3 X.K G l σ o g->R0 X.K G H u o g->Rep X.K o v d A->Rep X.K o w e B->(∀i,G.own i->∀a∈A,a∉g i)->(∀i,G.own i->∀a∈B,a∉g i)->Q d e l->R v w o)->r σ H λx O=>q σ O λy M=>R x y M:=by
 obtain⟨r,pa,C⟩:=C.run;obtain⟨q,pb,z⟩:=z.run;exact⟨r,q,pa,pb,λG p σ H u Q R T E hu k=>C G p σ H u _ _ T E hu λv O d A j J E1 c1 S n1 q1=>z G j σ O J _ _ T E1 q1 λw M e B h I E2 c2 U n2 Y=>k v w M d e A B h I E2 (c1.trans c2) (c2.keep S n1) U (c2.apart (λx hx=>S.there hx) n1) n2 Y⟩
def aL(g:D->D->(D->Prop)->Prop)(ma mb:TM):TM:=λj Q=>ma j λx i=>mb i λy h=>g x y λd=>Q d h
theorem SE(o:bR X r g)(j:PN X cl a ma)(hb:PN X cl b mb)(mk:∀{u p},PE X a u->PE X b p->PE X e (Qo r u p)):PM X cl e (aL g ma mb):=.of<|by
 obtain⟨u,p,pa,pb,h⟩:=m2 j hb;exact⟨_,mk pa pb,λG S O H fo Q R hG E hu k=>h G S O H fo _ _ hG E hu λv w H' d e A B l I M c Y U _ _ q=>o H' v w d e A B _ R Y U q λx H2 y C J T n1 n2 q2=>k x H2 y C l I (M.same J) (c.trans (R0.same J)) T n1 (λa j=>⟨c.stb.dom a (n2 a j),λi z=>M.there i z (n2 a j)⟩) q2⟩
theorem FZ(j:O1 X (binaryOp d) r)(o:bR X r g)(p:PN X cl a ma)(l:PN X cl b mb):PM X cl (.BinOp a d b pos) (aL g ma mb):=SE o p l λi h=>LU j i h
theorem PD(j:O1 X (compareOp d) r)(o:bR X r g)(q:PN X cl a ma)(p:PN X cl b mb)(l:behindInMarks d b=false):PM X cl (.Compare a [d] [b] pos) (aL g ma mb):=SE o q p λi h=>yp j i h l
theorem Oi(g:PN X cl a ma)(d:PN X cl b mb):PM X cl (.BinOp a .Mod b pos) (aL (gI (λ_ j=>0<j) λi j=>.int (i%j)) ma mb):=FZ ES rf g d
theorem LK(h:PN X cl a ma)(g:PN X cl b mb)(d:behindInMarks .Gt b=false):PM X cl (.Compare a [.Gt] [b] pos) (aL (Cf λi j=>.bl (decide (j<i))) ma mb):=PD Ga iY h g d
theorem Ot{d e:D}(y:Rep X.K H v d A)(u:Rep X.K H w e B)(q:Vc d e Q)(k:∀x z C,Rep X.K H x z C->C.Sublist A->Q z->R x H):Tq X.K v w H R:=by
 have go:∀{l:List D} {i:Int} {z:D},rS d=some l->e=.int i->L2.P4 l i=some z->Q z->Tq X.K v w H R:=λ{l i z} U T S E=>by
  subst T;cases w8 u;obtain⟨p,vs,C,rfl,j,r,o⟩:=dP y U;obtain⟨x,M,J,I,G⟩:=r.P4 S;rcases j with j | j
  ·exact .inl ⟨p,vs,i,x,rfl,rfl,j,J,k x z M I (G.trans o) E⟩
  ·exact .inr (.inl ⟨p,vs,i,x,rfl,rfl,j,J,k x z M I (G.trans o) E⟩)
 cases d<;>cases e<;>first | exact(q).elim | skip
 ·obtain⟨O,c,h,g⟩:=q;cases D4 y;cases w8 u;exact .inr (.inr ⟨_,_,c,rfl,rfl,O,h,k _ _ [] .str (Xf _) g⟩)
 ·obtain⟨z,h,g⟩:=q;exact go rfl rfl h g
 ·obtain⟨z,h,g⟩:=q;exact go rfl rfl h g
 ·obtain⟨z,h,g⟩:=q;exact go rfl rfl h g
theorem p5(h:a6 i g Q):∃d,g[i]?=some (some d)/\Q d:=by
 unfold a6 at h;split at h
 ·exact⟨_,by assumption,h⟩
 ·exact h.elim
abbrev uU:=Ev->(Bool->Ev->Prop)->Prop
structure Qw(X:Cx)(cl:List Cl)(e:Expr)(u:uU):Prop where
 of ::
 run:∃t,PT X e t/\∀(G:Ent) (ρ:Ev) (σ:St) (H:Hp) (fa:YO) (Q:Bool->Ev->Prop) (R:Bool->Hp->Prop),G.cl=cl->E3 X.K G ρ σ H fa->u ρ Q ->
  (∀b H' ρ' fa',E3 X.K G ρ' σ H' fa'->R0 X.K G H fa H' fa'->Q b ρ'->R b H')->t σ H R
def tP(u:aN):uU:=λd Q=>u d λb=>Q b d
variable{tc td:aN}{mc md:uU}{rest:YH}
theorem Q6.m(h:Q6 X cl e tc):Qw X cl e (tP tc):=.of<|by
 obtain⟨t,p,h⟩:=h.run;exact⟨t,p,λG d i H g Q R l E j k=>h G d i H g _ _ l E j λb o s q=>k b o d g (E.same s) (R0.same s) q⟩
def mT(u:TM):uU:=λh Q=>u h λd g=>match d with
 | .bl k=>Q k g
 | _=>False
theorem Ds(Y:O1 X (compareOp j) r)(o:bR X r g)(ha:PN X cl a ma)(hb:PN X cl b mb)(hm:behindInMarks j b=false):Qw X cl (.Compare a [j] [b] pos) (mT (aL g ma mb)):=.of<|by
 obtain⟨ta,tb,T,S,h⟩:=m2 ha hb;refine⟨_,zJ Y T S hm,λG I z H fo Q R hG E U k=>h G I z H fo (λd e i=>g d e λd=>match d with | .bl k=>Q k i | _=>False) _ hG E U λv w H' d e A B i l E' c O M _ _ q=>o H' v w d e A B _ _ O M q λx H2 y C p J n1 n2 u=>?_⟩;cases y<;>first | exact(u).elim | skip
 cases V9 J;exact⟨_,rfl,k _ H2 i l (E'.same p) (c.trans (R0.same p)) u⟩
theorem Mi(h:PN X cl a ma)(g:PN X cl b mb)(d:behindInMarks .Gt b=false):Qw X cl (.Compare a [.Gt] [b] pos) (mT (aL (Cf λi j=>.bl (decide (j<i))) ma mb)):=Ds Ga iY h g d
inductive yT(K:YQ)(H:Hp)(N:Addr->Prop):List V->List D->List (YE)->Prop
 | nil:yT K H N [] [] []
 | cons {v:V} {d:D} {B:YE} {vs:List V} {ds:List D} {Bs:List (YE)}:Rep K H v d B->(∀a∈B,¬N a)->yT K H N vs ds Bs->yT K H N (v::vs) (d::ds) (B::Bs)
def RM(G:Ent)(fa:YO):Addr->Prop:=λa=>∃i,G.own i/\a∈fa i
abbrev oH:=Ev->(List D->Ev->Prop)->Prop
structure IS(X:Cx)(cl:List Cl)(es:YH)(u:oH):Prop where
 of ::
 run:∃t,PA X es t/\∀(G:Ent) (ρ:Ev) (σ:St) (H:Hp) (fa:YO) (Q:List D->Ev->Prop) (R:List V->Hp->Prop),G.cl=cl->E3 X.K G ρ σ H fa->u ρ Q ->
  (∀vs H' ds Bs ρ' fa',E3 X.K G ρ' σ H' fa'->R0 X.K G H fa H' fa'->yT X.K H' (RM G fa') vs ds Bs->ds.length=es.length->Q ds ρ'->R vs H')->t σ H R
def y1:oH:=λd Q=>Q [] d
def j7(ma:TM)(j:oH):oH:=λh Q=>ma h λx g=>j g λi d=>Q (x::i) d
theorem l6:IS X cl [] y1:=.of ⟨_,L8,λG d h H fa Q R _ E g k=>k [] H [] [] d fa E R0.refl .nil rfl g⟩
theorem i8(j:PN X cl e ma)(Y:IS X cl es r)(U:isStar e=false):IS X cl (e::es) (j7 ma r):=.of<|by
 obtain⟨t1,M,h1⟩:=j.run;obtain⟨t2,J,h2⟩:=Y.run;exact⟨_,bf M J U,λG y p H fa Q R u E T k=>h1 G y p H fa _ _ u E T λv H1 d A h o E1 c1 q n1 I=>h2 G h p H1 o _ _ u E1 I λvs H2 ds Bs g l E2 c2 B O C=>k (v::vs) H2 (d::ds) (A::Bs) g l E2 (c1.trans c2) (.cons (c2.keep q n1) (λa j ⟨i,hi,z⟩=>c2.apart (λx S=>q.there S) n1 i hi a j z) B) (by simp[O]) C⟩
structure Qs(X:Cx)(cl:List Cl)(es:YH)(u:oH):Prop where
 of ::
 run:∃t,PA X es t/\∀(G:Ent) (ρ:Ev) (σ:St) (H:Hp) (fa:YO) (Q:List D->Ev->Prop) (R:List V->Hp->Prop),G.cl=cl->E3 X.K G ρ σ H fa->u ρ Q ->
  (∀vs H' ds B ρ' fa',E3 X.K G ρ' σ H' fa'->R0 X.K G H fa H' fa'->i9 X.K H' vs ds B->B.Nodup->(∀a∈B,H a=none/\∀i,a∉fa' i)->ds.length=es.length->Q ds ρ'->R vs H')->t σ H R
theorem cS:Qs X cl [] y1:=.of ⟨_,L8,λG d i H fa Q R _ E g k=>k [] H [] [] d fa E R0.refl .nil t5 (λa h=>(by cases h)) rfl g⟩
theorem B4(o:PM X cl e ma)(hr:Qs X cl es u)(hs:isStar e=false):Qs X cl (e::es) (j7 ma u):=.of<|by
 obtain⟨t1,U,h1⟩:=o.run;obtain⟨t2,T,h2⟩:=hr.run;refine⟨_,bf U T hs,λG J r H fa Q R I E hu k=>h1 G J r H fa _ _ I E hu λv H1 d A h q E1 c1 j n1 n2 S=>h2 G h r H1 q _ _ I E1 S λvs H2 ds B g p E2 c2 M m1 m2 Y O=>k (v::vs) H2 (d::ds) (A++B) g p E2 (c1.trans c2) (.cons (c2.keep j λi _ a o=>(n2 a o).2 i) M) ?_ (λx l=>?_) (by simp[Y]) O⟩
 ·refine List.nodup_append.mpr ⟨n1,m1,λx l y hy e=>?_⟩;subst e;exact j.there l (m2 x hy).1
 ·rcases List.mem_append.mp l with z | z
  ·refine⟨(n2 x z).1,λi y=>?_⟩
   by_cases C:G.own i
   ·rcases c2.new i C x y with w | w
    ·exact(n2 x z).2 i w
    ·exact j.there z w
   ·rw[c2.bor i C] at y;exact(n2 x z).2 i y
  ·exact⟨c1.stb.dom x (m2 x z).1,(m2 x z).2⟩
def IB(i:oH):TM:=λg Q=>i g λh d=>Q (.lst h) d
def IK(i:oH):TM:=λg Q=>i g λh d=>Q (.tup h) d
theorem xf(h:Qs X cl es l)(J:Nat.ble es.length 1000=true):PM X cl (.List es pos) (IB l):=.of<|by
 obtain⟨t,p,h⟩:=h.run;refine⟨_,HE p,λG v u H fa Q R M E I k=>h G v u H fa _ _ M E I λvs S O A g j o c r n1 n2 B q=>⟨by rw[r.length,B];exact bh (v1 J),λx d=>k _ _ (.lst O) (x::A) g j (o.same (e9.i3 d)) (c.trans (R0.same (e9.i3 d))) (.lst c8 (r.same (e9.i3 d))) (List.nodup_cons.mpr ⟨λz=>?_,n1⟩) (λy C=>?_) q⟩⟩
 ·have:=r.eY x z;rwa[d] at this
 ·rcases List.mem_cons.mp C with z | z
  ·rw[z];exact⟨c.stb.dom x d,λi z=>o.there i z d⟩
  ·exact n2 y z
theorem xj(h:Qs X cl es j)(z:Nat.ble es.length 1000=true):PM X cl (.Tuple es u pos) (IK j):=.of<|by
 obtain⟨t,p,h⟩:=h.run;exact⟨_,oJ p,λG o l H fa Q R B E y k=>h G o l H fa _ _ B E y λvs J C A d i I c r n1 n2 v q=>⟨by rw[r.length,v];exact bh (v1 z),λx g=>k _ _ (.tup C) A d i (I.same (e9.i3 g)) (c.trans (R0.same (e9.i3 g))) (.tup c8 (r.same (e9.i3 g))) n1 n2 q⟩⟩
def QD(g:List D->(D->Prop)->Prop)(j:oH):TM:=λi Q=>j i λl h=>g l λd=>Q d h
theorem yT.Ou:∀{vs:List V} {ds:List D} {d:List (YE)},yT K H N vs ds d->∃A,i9 K H vs ds A
 | _,_,_,.nil=>⟨_,.nil⟩
 | _,_,_,.cons h _ r=>let ⟨A,q⟩:=r.Ou;⟨_,.cons h q⟩
theorem UY(o:Call3 X r g)(h:IS X cl es u)(mk:∀{t},PA X es t->PE X e (SV r t)):PM X cl e (QD g u):=.of<|by
 obtain⟨t,p,h⟩:=h.run;refine⟨_,mk p,λG J I H fa Q R T E S k=>h G J I H fa _ _ T E S λvs H1 U Bs d j B c r n3 q=>?_⟩;obtain⟨A,r⟩:=r.Ou;exact o H1 vs U A _ R r q λx Y y C l M n1 n2 O=>k x Y y C d j (B.same l) (c.trans (R0.same l)) M n1 (λa v=>⟨c.stb.dom a (n2 a v),λi z=>B.there i z (n2 a v)⟩) O
section
variable{id T:String}{r:List V->Hp->VK->Prop}{g:List D->(D->Prop)->Prop}{x:Str}{p:Pos}{ms:oH}
theorem FW (v:J1 X (.builtin id) r) (o:Call3 X r g) (q:Gl X x) (l:X.mg x=none) (i:bootBuiltins x=some (.builtin id)) (y:IS X cl (e::es) ms) (j:x ≠ "__name__":=by decide) (hd:(x == ("__debug__" : Str))=false:=by decide)
  (u:starEach (e::es) X.env=(false,eval e X.env)::starEach es X.env:=by rfl) (d:(backTo pos (starEach es X.env)).any (·.1)=false:=by rfl):PM X cl (.Call (.Name x p) (e::es) [] pos) (QD g ms):=
 UY o y λh=>iJ v q l i h j hd u d
theorem Ck (v:J1 X (.type T) r) (o:Call3 X r g) (q:Gl X x) (l:X.mg x=none) (i:bootBuiltins x=some (.type T)) (y:IS X cl (e::es) ms) (j:x ≠ "__name__":=by decide) (hd:(x == ("__debug__" : Str))=false:=by decide)
  (u:starEach (e::es) X.env=(false,eval e X.env)::starEach es X.env:=by rfl) (d:(backTo pos (starEach es X.env)).any (·.1)=false:=by rfl):PM X cl (.Call (.Name x p) (e::es) [] pos) (QD g ms):=
 UY o y λh=>fM v q l i h j hd u d
end
end
end L3
namespace L3
open PySem PySem.Spec L2 PyProof.Rows
abbrev Cp:=List D->(D->Prop)->Prop
abbrev Cm:=List D->(D->D->Prop)->Prop
def Q3(K:YQ)(c:Cp):Sp:=λvs H Q _=>∃d A e,i9 K H vs d A/\c d e/\∀r v b B,e r->e9 H b->Rep K b v r B->B.Nodup->(∀a∈B,H a=none)->Q v b
def HQ(K:YQ)(c:Cm):Sp:=λvs H Q _=>∃w b d h A j i,vs=w::b/\Rep K H w d A/\A.Nodup/\yT K H (λa=>a∈A) b h j/\c (d::h) i/\∀r l v e g B,i r l->Rep K e w l g->g.Nodup->(∀a∈g,a∈A\/H a=none) ->
 (∀a o,H a=some o->a∉A->e a=some o)->X7 H e->Rep K e v r B->B.Nodup->(∀a∈B,H a=none/\a∉g)->Q v e
structure ME(P:Program)(w:World)(K:YQ)(mg:YL)(base:Heap)(x:Str)(k:Nat)(ps:YF)(sp:Sp)(f:Addr)(fd:FuncData):Prop where
 ok:u3 P w K mg base L6 k f fd ps sp
 mgf:mg x=some (.ref f)
 kp:PySem.W.keepIn K (.ref f)=true
 bd:Binds K fd ps []
section
variable{X:Cx}{cl:List Cl}{e a b:Expr}{es:YH}{f:Fl}{pos:Pos}{ua:TU}{ma mb:TM}{us:df}{ms:oH}{k:Nat}{fn:Addr}{fd:FuncData}{ps:YF}{x:Str}{p:Pos}
def j4(c:Cp)(us:df):TU:=λd Q=>us d λg=>c g Q
theorem KJ  (C:ME X.prog X.w X.K X.mg X.base x k ps (Q3 X.K c) fn fd) (M:K8 k X.A) (O:Gl X x) (j:Fv X cl (e::es) us) (d:isStar e=false) (i:(x == ("__debug__" : Str))=false:=by decide)
  (g:(backTo pos (starEach es X.env)).any (·.1)=false:=by rfl):PU X cl (.Call (.Name x p) (e::es) [] pos) .fresh (j4 c us):=.of<|by
 obtain⟨t,pt,h⟩:=j.run;refine⟨_,iB C.ok M O C.mgf C.kp C.bd .nil zf pt i (X2 d) g,λG o l H T Q R S E J I=>h G o l H T _ _ S E J λvs H1 U A s r n3 q=>?_⟩;rw[ud];exact⟨U,A,Q,r,q,λr v Y B z u y n1 n2=>I v Y r B (s.trans u) y ⟨n1,λa j=>s.free (n2 a j)⟩ z⟩
def FG(c:Cp)(ms:oH):TM:=λh Q=>ms h λi g=>c i λd=>Q d g
theorem tJ  (C:ME X.prog X.w X.K X.mg X.base x k ps (Q3 X.K c) fn fd) (hr:K8 k X.A) (hg:Gl X x) (d:IS X cl (e::es) ms) (j:isStar e=false) (o:(x == ("__debug__" : Str))=false:=by decide)
  (l:(backTo pos (starEach es X.env)).any (·.1)=false:=by rfl):PM X cl (.Call (.Name x p) (e::es) [] pos) (FG c ms):=.of<|by
 obtain⟨t,pt,h⟩:=d.run;refine⟨_,iB C.ok hr hg C.mgf C.kp C.bd .nil zf pt o (X2 j) l,λG O M H fa Q R hG E Y U=>h G O M H fa _ _ hG E Y λvs H1 ds Bs g u J I r n3 q=>?_⟩;obtain⟨A,r⟩:=r.Ou;rw[ud];exact⟨ds,A,_,r,q,λr v H2 B T y S n1 n2=>U v H2 r B g u (J.same y) (I.trans (R0.same y)) S n1 (λa d=>⟨I.stb.dom a (n2 a d),λi z=>J.there i z (n2 a d)⟩) T⟩
def u4(j:Nat)(c:Cm)(ms:oH):TM:=λh Q=>a6 j h λ_=>ms h λi g=>a6 j g λd=>c (d::i) λr l=>Q r (g.set j (some l))
theorem yT.imp{K:YQ}(h:∀a,c a->N a):∀{vs:List V} {ds:List D} {d:List (YE)},yT K H N vs ds d->yT K H c vs ds d
 | _,_,_,.nil=>.nil
 | _,_,_,.cons r n t=>.cons r (λa g z=>n a g (h a z)) (t.imp h)
theorem Kr  (j:Nat)   (hv:PE X (.Name y vp) (eI j)) (hj:cl[j]?=some .own) (C:ME X.prog X.w X.K X.mg X.base x k ps (HQ X.K c) fn fd) (hr:K8 k X.A) (hg:Gl X x) (g:IS X cl es ms) (a1:(x == ("__debug__" : Str))=false:=by decide)
  (a0:(backTo pos (starEach es X.env)).any (·.1)=false:=by rfl):PM X cl (.Call (.Name x p) (.Name y vp::es) [] pos) (u4 j c ms):=.of<|by
 obtain⟨t,pt,h⟩:=g.run;refine⟨_,iB C.ok hr hg C.mgf C.kp C.bd .nil zf (bf hv pt rfl) a1 (X2 rfl) a0,λG ρ σ H fa Q R hG E hu kk=>?_⟩;obtain⟨d0,e0,hu⟩:=p5 hu;obtain⟨v,Y,_⟩:=E.rep j d0 e0;refine⟨v,Y,h G ρ σ H fa _ _ hG E hu λvs H1 ds Bs J S u c' r n3 q=>?_⟩;obtain⟨d,e1,q⟩:=p5 q;obtain⟨v',O,rp⟩:=u.rep j d e1;have ev:v'=v:=by rw[Y] at O;cases O;rfl
 subst ev;have own:G.own j:=by unfold Ent.own;rwa[hG]
 rw[ud];refine⟨v',vs,d,ds,S j,Bs,_,rfl,rp,u.nd j (.inl own),r.imp λa g=>⟨j,own,g⟩,q,λr l v H2 A' B qd r2 n1 n2 n3 n4 r3 n5 n6=>?_⟩
 have ch:R0 X.K G H1 S H2 (λi=>if i=j then A' else S i):=by
  refine⟨λa o h n=>n3 a o h (n j own),n4,λi I a g=>?_,λi I=>tz λe=>I (by rwa[e])⟩
  ·by_cases e:i=j
   ·subst e;rw[t4 rfl] at g;exact n2 a g
   ·rw[tz e] at g;exact .inl g
 have lj:=(List.getElem?_eq_some_iff.mp e1).1;have M:∀i,i≠j->(J.set j (some l))[i]?=J[i]?:=λi n=>wr (IN n);refine kk v H2 r B (J.set j (some l)) _ (u.step ch (by simp) (λi I=>M i λe=>I (by rwa[e])) (λi d' I e=>?_) (λi I e=>?_) (λi I=>?_) λi U n I a2 a g z=>?_) (c'.trans ch) r3 n5 (λa g=>⟨c'.stb.dom a (n6 a g).1,λi z=>?_⟩) qd
 ·by_cases q:i=j
  ·subst q;rw[v7 lj] at e;cases e;exact⟨v',O,by rwa[t4 rfl]⟩
  ·rw[M i q] at e;obtain⟨w,e2,r4⟩:=u.rep i d' e;refine⟨w,e2,?_⟩;rw[tz q];refine r4.mono n4 λa g=>?_;obtain⟨o,eo⟩:=eX.some (r4.eY a g);rw[eo];exact n3 a o eo λz=>u.dj i j q I a g z
 ·by_cases q:i=j
  ·subst q;exact absurd (v7 lj) (e l)
  ·rw[tz q];exact u.emp i λd z=>e d (by rwa[M i q])
 ·by_cases q:i=j
  ·rwa[t4 q]
  ·rw[tz q];exact u.nd i (.inl I)
 ·by_cases q:i=j
  ·rw[t4 q] at g;have T:U≠j:=λe=>n (q.trans e.symm);rw[tz T] at z;rcases n2 a g with y | y
   ·exact u.dj j U (IN T) own a y z
   ·exact u.there U z y
  ·rw[tz q] at g
   by_cases T:U=j
   ·rw[t4 T] at z;rcases n2 a z with y | y
    ·exact u.dj i j q I a g y
    ·exact u.there i g y
   ·rw[tz T] at z;exact u.dj i U n I a g z
 ·by_cases q:i=j
  ·rw[t4 q] at z;exact(n6 a g).2 z
  ·rw[tz q] at z;exact u.there i z (n6 a g).1
def CQ(c:Cm)(ma:TM)(ms:oH):TM:=λi Q=>ma i λd g=>ms g λj h=>c (d::j) λr _=>Q r h
theorem i9.VB{K:YQ}(r:i9 K H vs ds B):(∀a∈B,¬N a)->∃c,yT K H N vs ds c:=
 r.ind (P:=λvs ds B=>(∀a∈B,¬N a)->∃c,yT K H N vs ds c) (λ_=>⟨_,.nil⟩) λh _ i n=>let ⟨c,q⟩:=i λa d=>n a (sw _ d);⟨_,.cons h (λa d=>n a (vr _ d)) q⟩
theorem E3.away{K:YQ}{A:YE}(E:E3 K G j σ H c)(s:X7 H g)(k:∀a o,H a=some o->a∉A->g a=some o)(n:∀i,∀a∈A,a∉c i)(B:∀a∈A,G.H₀ a=none)(z:∀a∈A,¬G.Z a):E3 K G j σ g c where
 rep:=λi d e=>by
  obtain⟨v,C,r⟩:=E.rep i d e;refine⟨v,C,r.mono s λa l=>?_⟩;obtain⟨o,u⟩:=eX.some (r.eY a l);rw[u];exact k a o u λq=>n i a q l
 emp:=E.emp
 len:=E.len
 nd:=E.nd
 dj:=E.dj
 par:=E.par
 old:=E.old
 new:=E.new
 frm:=λa o h q=>k a o (E.frm a o h q) λy=>by rw[B a y] at h;cases h
 stb:=E.stb.trans s
 zk:=λa y=>by
  obtain⟨o,e⟩:=Option.ne_none_iff_exists'.mp (E.zn a y);have h:=E.zk a y;rw[e] at h ⊢;exact k a o h λq=>z a q y
 zn:=E.zn
 zo:=E.zo
 po:=E.po
theorem FV  (C:ME X.prog X.w X.K X.mg X.base x k ps (HQ X.K c) fn fd) (hr:K8 k X.A) (hg:Gl X x) (h0:PM X cl e ma) (g:Qs X cl es ms) (I:isStar e=false) (a0:(x == ("__debug__" : Str))=false:=by decide)
  (Y:(backTo pos (starEach es X.env)).any (·.1)=false:=by rfl):PM X cl (.Call (.Name x p) (e::es) [] pos) (CQ c ma ms):=.of<|by
 obtain⟨t0,p0,h0⟩:=h0.run;obtain⟨t,pt,h⟩:=g.run;refine⟨_,iB C.ok hr hg C.mgf C.kp C.bd .nil zf (bf p0 pt I) a0 (X2 I) Y,λG ρ σ H fa Q R hG E hu kk=>h0 G ρ σ H fa _ _ hG E hu λw H0 d A O a2 E0 c0 T m1 m2 q0=>h G O σ H0 a2 _ _ hG E0 q0 λvs H1 ds B1 S u E' M r k1 k2 U q=>?_⟩;show HQ X.K c ((w::vs)++[]) H1 R L2.E0;rw[ud]
 have j:∀i,∀a∈A,a∉u i:=λi a g z=>by
  by_cases hi:G.own i
  ·rcases M.new i hi a z with y | y
   ·exact(m2 a g).2 i y
   ·exact T.there g y
  ·rw[M.bor i hi] at z;exact(m2 a g).2 i z
 obtain⟨Bs,a1⟩:=r.VB  λa g z=>T.there z (k2 a g).1;refine⟨w,vs,d,ds,A,Bs,_,rfl,M.keep T λi _ a g=>(m2 a g).2 i,m1,a1,q,λr l v H2 A' B qd r2 n1 n2 U n4 r3 n5 n6=>?_⟩;have J:=c0.trans M;have ch:R0 X.K G H fa H2 u:=⟨λa o h n=>U a o (J.frm a o h n) λz=>(by rw[(m2 a z).1] at h;cases h),J.stb.trans n4,J.new,J.bor⟩
 refine kk v H2 r B S u (E'.away n4 U j (λa g=>E.stb.dom a (m2 a g).1) λa g z=>?_) ch r3 n5 (λa g=>⟨J.stb.dom a (n6 a g).1,λi z=>E'.there i z (n6 a g).1⟩) qd;have h:=E.zk a z;rw[(m2 a g).1] at h;exact E.zn a z h.symm
end
def i7(n:Nat)(ds:List D):Ev:=ds.map some++List.replicate (n-ds.length) none
theorem i9.each{K:YQ}:∀{vs:List V} {ds:List D} {A:YE},i9 K H vs ds A->∃a:Nat->YE,(∀i d,ds[i]?=some d->∃v,vs[i]?=some v/\Rep K H v d (a i))/\∀i,ds.length<=i->a i=[]
 | _,_,_,.nil=>⟨λ_=>[],λi d e=>(by simp at e),λ_ _=>rfl⟩
 | _,_,_,.cons (A:=A) h r=>by
  obtain⟨a,g,c⟩:=r.each;refine⟨λi=>match i with | 0=>A | i+1=>a i,λi d e=>?_,λi b=>?_⟩
  ·cases i with
   | zero=>simp at e;subst e;exact⟨_,rfl,h⟩
   | succ i=>
    obtain⟨v,l,j⟩:=g i d (by simpa using e);exact⟨v,by simpa using l,j⟩
  ·cases i with
   | zero=>simp at b
   | succ i=>exact c i (by simpa using b)
theorem yT.each{K:YQ}:∀{vs:List V} {ds:List D} {u:List (YE)},yT K H N vs ds u->∃b:Nat->YE,(∀i d,ds[i]?=some d->∃v,vs[i]?=some v/\Rep K H v d (b i))/\(∀i,ds.length<=i->b i=[])/\(∀i,∀a∈b i,¬N a)/\ds.length=vs.length
 | _,_,_,.nil=>⟨λ_=>[],λi d e=>(by simp at e),λ_ _=>rfl,λ_ _ h=>(by cases h),rfl⟩
 | _,_,_,.cons (B:=B) h n r=>by
  obtain⟨b,o,l,j,g⟩:=r.each;refine⟨λi=>match i with | 0=>B | i+1=>b i,λi d e=>?_,λi c=>?_,λi=>?_,by simp[g]⟩
  ·cases i with
   | zero=>simp at e;subst e;exact⟨_,rfl,h⟩
   | succ i=>
    obtain⟨v,q,p⟩:=o i d (by simpa using e);exact⟨v,by simpa using q,p⟩
  ·cases i with
   | zero=>simp at c
   | succ i=>exact l i (by simpa using c)
  ·cases i with
   | zero=>exact n
   | succ i=>exact j i
theorem jO{i:Nat}(h:(i7 n ds)[i]?=some (some d)):ds[i]?=some d:=by
 unfold i7 at h
 by_cases a:i<ds.length
 ·rw[v2 (by simpa using a),sj] at h
  cases e:ds[i]? with
  | none=>rw[e] at h;cases h
  | some x=>rw[e] at h;cases h;rfl
 ·rw[Db (by simpa using a),List.getElem?_replicate] at h;split at h<;>cases h
theorem bE{i:Nat}(h:vs[i]?=some v):(L2.start N vs)[i]?=some (some v):=by
 unfold L2.start;have a:=(List.getElem?_eq_some_iff.mp h).1;rw[v2 (by simpa using a),sj,h];rfl
theorem iV(h:ds.length=vs.length):(i7 N.length ds).length=(L2.start N vs).length:=by
 unfold i7 L2.start;simp[h]
theorem ff{i:Nat}(h:ds[i]?=some d):(i7 n ds)[i]?=some (some d):=by
 unfold i7;have a:=(List.getElem?_eq_some_iff.mp h).1;rw[v2 (by simpa using a),sj,h];rfl
section
variable{P:Program}{w:World}{K:YQ}{mg:YL}{base:Heap}
def NF:List Cl->Bool
 | []=>true
 | .mk _::_=>false
 | _::r=>NF r
theorem sy:∀{cl:List Cl} {j:Nat} {a:Hp},NF cl=true->cl[j]?=some (.mk a)->False
 | [],j,_,_,e=>by cases j<;>cases e
 | c::r,0,a,h,e=>by
  cases e;cases h
 | c::r,j+1,a,h,e=>by
  cases c<;>first | cases h | exact sy (cl:=r) h e
def noOwn:List Cl->Nat->Bool
 | cl,0=>NF cl
 | .bor::r,n+1=>noOwn r n
 | _,_=>false
theorem fZ:∀{cl:List Cl} {n i:Nat},noOwn cl n=true->i<n->cl[i]?=some .bor
 | _,0,i,_,h=>by omega
 | .bor::r,n+1,0,h,_=>rfl
 | .bor::r,n+1,i+1,h,a=>by
  exact fZ (cl:=r)   h (by omega)
 | [],n+1,i,h,_=>by cases h
 | .own::r,n+1,i,h,_=>by cases h
 | .loc::r,n+1,i,h,_=>by cases h
 | .mk _::r,n+1,i,h,_=>by cases h
theorem jt:∀{cl:List Cl} {n j:Nat} {a:Hp},noOwn cl n=true->cl[j]?=some (.mk a)->False
 | cl,0,j,_,h,e=>by
  rw[noOwn] at h;exact sy h e
 | .bor::r,n+1,0,_,h,e=>by cases e
 | .bor::r,n+1,j+1,_,h,e=>jt   (show noOwn r n=true from h) (by rwa[] at e)
 | [],n+1,j,_,h,_=>by cases h
 | .own::r,n+1,j,_,h,_=>by cases h
 | .loc::r,n+1,j,_,h,_=>by cases h
 | .mk _::r,n+1,j,_,h,_=>by cases h
theorem V0{st:Stmt}(F:M9 K x l st f fd)(S:i5 N ps (c6 st))(Y:noOwn cl ps.length=true)
  (hl:∀ds Q,c ds Q->ds.length=ps.length)
  (hb:∀(y:Value) (A:Around) (outer:List Env) (s0:Shared) (H:Hp) (E:XK),K8 k (A.deeper (envOfC l (c6 st) s0.heap.objs.size f y))->oC (rK L6 P w K mg base N l (c6 st) f y A outer s0 H E).Qr cl (O9 st) s)
  (hc:∀ds Q,c ds Q->s { nx:=λ_=>Q .p3,rt:=λd _=>Q d } (i7 N.length ds)):u3 P w K mg base L6 (k+1) f fd ps (Q3 K c):=by
 refine F.ok S (λvs H Q E h=>?_) (λy A outer s0 H vs Q E hr h=>?_)
 ·obtain⟨ds,A,T,r,q,_⟩:=h;rw[r.length];exact hl ds T q
 ·obtain⟨ds,B,T,r,q,kk⟩:=h;have X:=hl ds T q;obtain⟨t,pt,h⟩:=(hb y A outer s0 H E hr).run;obtain⟨fa,h1,h2⟩:=r.each
  let G:Ent:=⟨H,λ_=>[],vs,cl,λ_=>False,H⟩
  have vl:=r.length.trans X;have bor:∀i,i<vs.length->cl[i]?=some .bor:=λi b=>fZ Y (by omega)
  have g:∀i,i<vs.length->¬G.own i:=λi b z=>by
   have C:cl[i]?=some .own:=z;rw[bor i b] at C;cases C
  have a0:=λi b=>h2 i (by
   have q1:¬i<vs.length:=λq=>g i q b;omega)
  have E0:E3 K G (i7 N.length ds) (L2.start N vs) H fa:=by
   refine⟨λi d e=>?_,λi e=>h2 i ?_,iV r.length.symm,λi b=>?_,λi j _ b a u=>?_,λi b p=>absurd p (g i b),λi b p=>absurd p (g i b),λi b a u=>?_,λa o h _=>h,X7.refl H,λa z=>z.elim,λa z=>z.elim,λi _ a _ z=>z,⟨λi b p=>absurd p (g i b),λj U e=>(jt Y e).elim⟩⟩
   ·obtain⟨v,e1,r1⟩:=h1 i d (jO e);exact⟨v,bE e1,r1⟩
   ·by_cases b:i<ds.length
    ·exact absurd (ff (nA b)) (e _)
    ·omega
   ·rw[h2 i (by
     by_cases q:i<ds.length
     ·rcases b with b | b
      ·exact absurd b (g i (by omega))
      ·have C:=b;rw[bor i (by omega)] at C;cases C
     ·omega)];exact t5
   ·rw[a0 i b] at u;cases u
   ·rcases b with b | b
    ·have:¬i<vs.length:=λq=>by
      have C:=b;rw[bor i q] at C;cases C
     rw[h2 i (by omega)] at u;cases u
    ·rw[a0 i b.1] at u;cases u
  refine⟨t,pt,h G { nx:=λ_=>T .p3,rt:=λd _=>T d } _ _ H fa _ rfl E0 (hc ds T q) ⟨λI U O=>?_,λv U O=>?_,λI U O=>?_,λI U O=>?_⟩⟩
  ·obtain⟨J,R,E',M⟩:=O;exact kk .p3 .p3 U [] M (λa o h=>E'.frm a o h λi b p=>absurd p (g i b)) .p3 t5 λa u=>(by cases u)
  ·obtain⟨d,J,I,R,B',E',r',n1,n2,_,M⟩:=O;exact kk d v U B' M (λa o h=>E'.frm a o h λi b p=>absurd p (g i b)) r' n1 n2
  ·obtain⟨J,R,E',M⟩:=O;exact M
  ·obtain⟨J,R,E',M⟩:=O;exact M
theorem Ti{st:Stmt}(F:M9 K x U st f fd)(S:i5 N ps (c6 st))(a1:noOwn cl (ps.length-1)=true)
  (hl:∀ds Q,c ds Q->ds.length=ps.length)
  (hb:∀(X:Value) (A:Around) (outer:List Env) (s0:Shared) (H:Hp) (E:XK),K8 k (A.deeper (envOfC U (c6 st) s0.heap.objs.size f X))->oC (rK L6 P w K mg base N U (c6 st) f X A outer s0 H E).Qr (.own::cl) (O9 st) s)
  (hc:∀ds Q,c ds Q->s { nx:=λρ=>a6 0 ρ λl=>Q .p3 l,rt:=λd ρ=>a6 0 ρ λl=>Q d l } (i7 N.length ds)):u3 P w K mg base L6 (k+1) f fd ps (HQ K c):=by
 refine F.ok S (λvs H Q E h=>?_) (λX A outer s0 H vs Q E hr h=>?_)
 ·obtain⟨w,p,d,ds,A,Bs,Qd,rfl,r,n,ap,q,_⟩:=h;obtain⟨fa,h1,h2,h3,h4⟩:=ap.each;have:=hl _ Qd q;simp at this ⊢;omega
 ·obtain⟨w,p,d,ds,A0,Bs,Qd,rfl,r,n,ap,q,kk⟩:=h;obtain⟨fa,h1,h2,h3,h4⟩:=ap.each;have a0:=hl _ Qd q;have a5:=by simp at a0;omega
  obtain⟨t,pt,h⟩:=(hb X A outer s0 H E hr).run
  let fb:=λi=>match i with | 0=>A0 | i+1=>fa i
  let G:Ent:=⟨H,λi=>if i=0 then A0 else[],w::p,.own::cl,λ_=>False,H⟩
  have bor:∀i,i<p.length->cl[i]?=some .bor:=λi b=>fZ a1 (by omega)
  have g:∀i,i<p.length->¬G.own (i+1):=λi b z=>by
   have Y:cl[i]?=some .own:=z;rw[bor i b] at Y;cases Y
  have J:G.own 0:=rfl
  have a3:∀i,G.own (i+1)->fa i=[]:=λi b=>h2 i (by
   have q1:¬i<p.length:=λq=>g i q b;omega)
  have E0:E3 K G (i7 N.length (d::ds)) (L2.start N (w::p)) H fb:=by
   refine⟨λi d' e=>?_,λi e=>?_,iV (by simp[h4]),λi b=>?_,λi j a4 b a I=>?_,λi b ho=>?_,λi b ho a I=>?_,λi b a I=>?_,λa o h _=>h,X7.refl H,λa z=>z.elim,λa z=>z.elim,λi _ a _ z=>z,⟨λi b ho=>?_,λj R e=>?_⟩⟩
   ·have e':=jO e
    cases i with
    | zero=>simp at e';subst e';exact⟨w,bE (vs:=w::p) (i:=0) rfl,r⟩
    | succ i=>
     obtain⟨v,e1,r1⟩:=h1 i d' (by simpa using e');exact⟨v,bE (by simpa using e1),r1⟩
   ·cases i with
    | zero=>exact absurd (ff (ds:=d::ds) (i:=0) rfl) (e _)
    | succ i=>
     refine h2 i ?_
     by_cases b:i<ds.length
     ·exact absurd (ff (ds:=d::ds) (i:=i+1) (by rw[ww];exact nA b)) (e _)
     ·omega
   ·cases i with
    | zero=>exact n
    | succ i=>
     show(fa i).Nodup
     rw[h2 i (by
      by_cases q:i<ds.length
      ·rcases b with b | b
       ·exact absurd b (g i (by omega))
       ·have Y:cl[i]?=some .loc:=b;rw[bor i (by omega)] at Y;cases Y
      ·omega)];exact t5
   ·cases i with
    | zero=>
     cases j with
     | zero=>exact absurd rfl a4
     | succ j=>exactλz=>h3 j a z I
    | succ i=>
     have C:a∈fa i:=I;rw[a3 i b] at C;cases C
   ·cases i with
    | zero=>exact bE (vs:=w::p) (i:=0) rfl
    | succ i=>exact absurd ho (g i (by simpa[G] using b))
   ·cases i with
    | zero=>exact .inl I
    | succ i=>exact absurd ho (g i (by simpa[G] using b))
   ·cases i with
    | zero=>
     rcases b with b | b
     ·have z:some Cl.own=some .loc:=b;cases z
     ·exact absurd (Xe _) b.2
    | succ i=>
     have C:a∈fa i:=I;rcases b with b | b
     ·have:¬i<p.length:=λq=>by
       have Y:cl[i]?=some .loc:=b;rw[bor i q] at Y;cases Y
      rw[h2 i (by omega)] at C;cases C
     ·rw[a3 i b.1] at C;cases C
   ·cases i with
    | zero=>rfl
    | succ i=>exact absurd ho (g i (by simpa[G] using b))
   ·cases j with
    | zero=>exact absurd (show some Cl.own=some (.mk R) from e) (by intro z;cases z)
    | succ j=>exact(jt a1 (show cl[j]?=some (.mk R) from e)).elim
  have a2:∀{y:Ev} {M:L2.St} {R:Hp} {u:YO} {v:V} {r':D} {l:D} {B:YE},E3 K G y M R u->y[0]?=some (some l)->Qd r' l->Rep K R v r' B->B.Nodup->(∀a∈B,H a=none)->(∀a∈B,a∉u 0)->Q v R:=λ{y M R u v r' l B} T e O rr n1 n2 n3=>by
   obtain⟨v',e1,r1⟩:=T.rep 0 l e;have e2:=T.par 0 (Xe _) J;rw[e1] at e2
   have e3:v'=w:=by
    have e4:some (some v')=some (some w):=e2;cases e4;rfl
   subst e3;refine kk r' l v R (u 0) B O r1 (T.nd 0 (.inl J)) (λa I=>?_) (λa o h hn=>T.frm a o h λi b ho z=>?_) T.stb rr n1 λa I=>⟨n2 a I,n3 a I⟩
   ·exact T.old 0 (Xe _) J a I
   ·cases i with
    | zero=>exact hn z
    | succ i=>exact absurd ho (g i (by simpa[G] using b))
  refine⟨t,pt,h G { nx:=λρ=>a6 0 ρ λl=>Qd .p3 l,rt:=λd ρ=>a6 0 ρ λl=>Qd d l } _ _ H fb _ rfl E0 (hc _ Qd q) ⟨λM R hq=>?_,λv R hq=>?_,λM R hq=>?_,λM R hq=>?_⟩⟩
  ·obtain⟨y,u,T,O⟩:=hq;obtain⟨l,e,O⟩:=p5 O;exact a2 T e O .p3 t5 (λa I=>(by cases I)) λa I=>(by cases I)
  ·obtain⟨d,y,M,u,B',T,r',n1,n2,n3,O⟩:=hq;obtain⟨l,e,O⟩:=p5 O;exact a2 T e O r' n1 n2 (n3 0 (Xe _) J)
  ·obtain⟨y,u,T,O⟩:=hq;exact O
  ·obtain⟨y,u,T,O⟩:=hq;exact O
end
end L3
namespace L3
open PySem PySem.Spec L2
section
variable{K:YQ}{G:Ent}{ρ:Ev}{σ:St}{H:Hp}{fa:YO}
def cw(G:Ent)(fa:YO)(B:YE)(i:Nat):Prop:=
 (∀j,j≠i->G.own j->∀a∈B,a∉fa j) /\
 match G.cl[i]? with
 | some .own=>i≠0/\B.Nodup/\(∀a∈B,G.H₀ a=none/\¬G.Z a/\∀j,j≠i->a∉fa j)
 | some .loc=>B.Nodup/\∀a∈B,G.H₀ a=none
 | _=>True
theorem E3.set(E:E3 K G ρ σ H fa)(x:i<ρ.length)(r:Rep K H v d B)(h:cw G fa B i):E3 K G (ρ.set i (some d)) (σ.set i (some v)) H (λj=>if j=i then B else fa j):=by
 have I:i<σ.length:=by rwa[<-E.len]
 have c:G.own i->i≠0/\B.Nodup/\(∀a∈B,G.H₀ a=none/\¬G.Z a/\∀j,j≠i->a∉fa j):=λo=>by
  have q:=h.2;rwa[o] at q
 have p:G.cl[i]?=some .loc->B.Nodup/\∀a∈B,G.H₀ a=none:=λo=>by
  have q:=h.2;rwa[o] at q
 refine⟨λj M e=>?_,λj e=>?_,by simp[E.len],λj b=>?_,λj l n b a g=>?_,λj b u=>?_,λj b u a g=>?_,λj b a g=>?_,E.frm,E.stb,E.zk,E.zn,λj b a g=>?_,E.po⟩
 ·by_cases q:j=i
  ·subst q;rw[v7 x] at e;cases e;exact⟨v,v7 I,by rwa[t4 rfl]⟩
  ·rw[wr (IN q)] at e;obtain⟨w,J,C⟩:=E.rep j M e;exact⟨w,by rwa[wr (IN q)],by rwa[tz q]⟩
 ·by_cases q:j=i
  ·subst q;exact absurd (v7 x) (e d)
  ·rw[tz q];exact E.emp j λd z=>e d (by rwa[wr (IN q)])
 ·by_cases q:j=i
  ·subst q;rw[t4 rfl];rcases b with b | b
   ·exact(c b).2.1
   ·exact(p b).1
  ·rw[tz q];exact E.nd j b
 ·by_cases q:j=i
  ·subst q;rw[t4 rfl] at g;rw[tz (IN n)];exact((c b).2.2 a g).2.2 l (IN n)
  ·rw[tz q] at g
   by_cases y:l=i
   ·subst y;rw[t4 rfl];exactλz=>h.1 j q b a z g
   ·rw[tz y];exact E.dj j l n b a g
 ·have q:j≠i:=λe=>(c (e▸u)).1 (e▸E.po.one j b u);rw[wr (IN q)];exact E.par j b u
 ·have q:j≠i:=λe=>(c (e▸u)).1 (e▸E.po.one j b u);rw[tz q] at g;exact E.old j b u a g
 ·by_cases q:j=i
  ·subst q;rw[t4 rfl] at g;rcases b with b | b
   ·exact(p b).2 a g
   ·exact((c b.1).2.2 a g).1
  ·rw[tz q] at g;exact E.new j b a g
 ·by_cases q:j=i
  ·subst q;rw[t4 rfl] at g;exact((c b).2.2 a g).2.1
  ·rw[tz q] at g;exact E.zo j b a g
def Ah(c:Option Cl)(f:Fl)(i:Nat):Bool:=match c,f with
 | some .own,.fresh=>decide (i≠0)
 | some .own,_=>false
 | some .loc,.fresh=>true
 | some .loc,.locl=>true
 | some .loc,_=>false
 | _,.any=>false
 | _,_=>true
theorem E3.qJ(E:E3 K G ρ σ H fa)(h:H a=none):¬G.Z a:=λz=>by
 have q:=E.zk a z;rw[h] at q;exact E.zn a z q.symm
theorem cw.of(E:E3 K G ρ σ H fa)(h:A3 G H fa B f)(b:Ah G.cl[i]? f i=true):cw G fa B i:=by
 have st:f≠.any->A3 G H fa B .stab:=λn=>h.weak E (by cases f<;>first | rfl | exact absurd rfl n)
 have l:f≠.any:=λe=>by
  subst e;generalize G.cl[i]?=c at b
  cases c with
  | none=>cases b
  | some c=>cases c<;>cases b
 refine⟨λj _ o a d=>st l j o a d,?_⟩
 cases e:G.cl[i]? with
 | none=>trivial
 | some c=>
  rw[e] at b
  cases c with
  | own=>
   cases f with
   | fresh=>exact⟨z0 b,h.1,λa d=>⟨E.stb.dom a (h.2 a d),E.qJ (h.2 a d),λj _ z=>E.there j z (h.2 a d)⟩⟩
   | _=>cases b
  | loc=>
   have q:=h.weak E (g:=.locl) (by cases f<;>first | rfl | cases b);exact⟨q.2.2,q.2.1⟩
  | bor=>trivial
  | mk _=>trivial
theorem cw.new(E:E3 K G ρ σ H fa)(E0:E3 K G g d l h)(n1:B.Nodup)(n2:∀a∈B,l a=none/\∀j,a∉fa j)(o:G.cl[i]?≠some .own\/i≠0):cw G fa B i:=by
 refine⟨λj _ p a b=>(n2 a b).2 j,?_⟩
 cases e:G.cl[i]? with
 | none=>trivial
 | some c=>
  cases c with
  | own=>exact⟨o.resolve_left (λz=>z e),n1,λa b=>⟨E0.stb.dom a (n2 a b).1,E0.qJ (n2 a b).1,λj _=>(n2 a b).2 j⟩⟩
  | loc=>exact⟨n1,λa b=>E0.stb.dom a (n2 a b).1⟩
  | bor=>trivial
  | mk _=>trivial
end
section
variable{X:Cx}{cl:List Cl}{e a b:Expr}{es:YH}{f:Fl}{pos pos':Pos}{ua ub:TU}{ma mb:TM}{x:Str}{i:Nat}{st:Stmt}{sts:YM}{s s2:g9}
def C5:g9:=λT c=>T.nx c
def e7(s u:g9):g9:=λT c=>s { nx:=u T,rt:=T.rt,bk:=T.bk,ct:=T.ct } c
theorem C9:oC X cl [] C5:=.of ⟨_,Km,λG T d c H g R j E h le=>le.nx c H ⟨d,g,E,h⟩⟩
theorem o3(j:D7 X cl st s)(g:oC X cl sts s2):oC X cl (st::sts) (e7 s s2):=.of<|by
 obtain⟨I,v,j⟩:=j.run;obtain⟨C,u,g⟩:=g.run;refine⟨_,Em v u,λG T r p H y R o E h le=>j G _ r p H y _ o E h ⟨λc z q=>?_,le.rt,le.bk,le.ct⟩⟩;obtain⟨d,l,B,q⟩:=q;exact g G T d c z l R o B q le
theorem eD(c:D7 X cl st s):oC X cl [st] s:=.of<|let ⟨g,d,c⟩:=c.run;⟨_,II d,c⟩
def pO:g9:=λ_ _=>False
theorem pw:D7 X cl st pO:=.of ⟨_,Dp,λG T d c H j R g E h le=>h.elim⟩
def o8(i:Nat)(u:TU):g9:=λT c=>u c λd=>Nat.blt i c.length=true/\T.nx (c.set i (some d))
theorem dm(J:X.N.Nodup)(y:X.N[i]?=some x)(l:Loc X.env.scope x)(C:PU X cl e f ua)(I:Ah cl[i]? f i=true)(u:swapsWith e (some (.Name x pos')) pos.line X.env=pure false:=by rfl)(z:X.fn x=true\/X.env.scope.names.lookup x=some .local:=by first | exact .inl rfl | exact .inr rfl | assumption) :
  D7 X cl (.Assign [.Name x pos'] e pos) (o8 i ua):=.of<|by
 obtain⟨t,p,h⟩:=C.run;exact⟨_,Dy J y l p u z,λG T j g H O R c E o le=>h G j g H O _ _ c E o λv Q d B s r M q=>le.nx _ _ ⟨_,_,(E.same s).set (v1 q.1) r (cw.of E M (by rwa[c])),q.2⟩⟩
def G0(i:Nat)(u:TM):g9:=λT g=>u g λd c=>Nat.blt i c.length=true/\T.nx (c.set i (some d))
def ai(c:Option Cl)(i:Nat):Bool:=match c with
 | some .own=>decide (i≠0)
 | _=>true
theorem U1(h:ai c i=true):c≠some .own\/i≠0:=by
 unfold ai at h;split at h
 ·exact .inr (z0 h)
 ·rename_i q
  exact .inl λe=>q e
theorem C8(Q:X.N.Nodup)(I:X.N[i]?=some x)(y:Loc X.env.scope x)(M:PM X cl e ma)(O:ai cl[i]? i=true)(C:swapsWith e (some (.Name x pos')) pos.line X.env=pure false:=by rfl)(J:X.fn x=true\/X.env.scope.names.lookup x=some .local:=by first | exact .inl rfl | exact .inr rfl | assumption) :
  D7 X cl (.Assign [.Name x pos'] e pos) (G0 i ma):=.of<|by
 obtain⟨t,p,h⟩:=M.run;exact⟨_,Dy Q I y p C J,λG T u l H U R g E z le=>h G u l H U _ _ g E z λv Y d B o S j c r n1 n2 q=>le.nx _ _ ⟨_,_,j.set (v1 q.1) r (cw.new j E n1 n2 (by rw[g];exact U1 O)),q.2⟩⟩
def dg(c:uU)(s u:g9):g9:=λT g=>c g λk d=>Br k (s T d) (u T d)
theorem M5(j:Qw X cl c o)(J:oC X cl A s)(I:oC X cl B s2):D7 X cl (.If c A B pos) (dg o s s2):=.of<|by
 obtain⟨t,p,j⟩:=j.run;obtain⟨U,z,O⟩:=J.run;obtain⟨S,y,M⟩:=I.run;refine⟨_,Sq p z y,λG T v h H Q R l E C le=>j G v h H Q _ _ l E C λb r d g u c q=>?_⟩
 cases b with
 | true=>exact O G T d h r g R l u (q.t rfl) le
 | false=>exact M G T d h r g R l u (q.f rfl) le
def u9(u:TU):g9:=λT c=>u c λd=>T.rt d c
theorem o9(z:PU X cl e f ua)(y:jH f .locl=true):D7 X cl (.Return (some e) pos) (u9 ua):=.of<|by
 obtain⟨t,p,h⟩:=z.run;refine⟨_,oO p,λG T j g H l R I E o le=>h G j g H l _ _ I E o λv M d B s r J q=>?_⟩;have c:=J.weak E y;exact le.rt v M ⟨d,j,g,l,B,E.same s,r,c.2.2,c.2.1,λi _ u a C=>c.1 i u a C,q⟩
def GK(u:TM):g9:=λT g=>u g λd c=>T.rt d c
theorem Dk(z:PM X cl e ma):D7 X cl (.Return (some e) pos) (GK ma):=.of<|by
 obtain⟨t,p,h⟩:=z.run;exact⟨_,oO p,λG T u o H I R C E y le=>h G u o H I _ _ C E y λv J d B g l M c r n1 n2 q=>le.rt v J ⟨d,g,o,l,B,M,r,n1,λa j=>E.stb.dom a (n2 a j).1,λi _ O a j=>(n2 a j).2 i,q⟩⟩
theorem Q4(i:Nat)(h:PE X (.Name x c) (eI i))(g:i≠0)(I:cl[i]?=some .own):D7 X cl (.Return (some (.Name x c)) pos) (u9 (a6 i)):=.of<|by
 refine⟨_,oO h,λG T u p H l R M E y le=>?_⟩;obtain⟨d,e,q⟩:=p5 y;obtain⟨v,O,r⟩:=E.rep i d e;have o:G.own i:=by unfold Ent.own;rwa[M]
 exact⟨v,O,le.rt v H ⟨d,u,p,l,l i,E,r,E.nd i (.inl o),E.new i (.inr ⟨o,λz=>g (E.po.one i z o)⟩),λj C B a J z=>(E.dj i j (λe=>g (e▸E.po.one j C B)) o a J z),q⟩⟩
def aF(u:TM):g9:=λT d=>u d λ_ c=>T.nx c
theorem T1(z:PN X cl e ma)(y:swapsWith e none pos.line X.env=pure false:=by rfl):D7 X cl (.Expr e pos) (aF ma):=.of<|by
 obtain⟨t,p,h⟩:=z.run;exact⟨_,KP p y,λG T o l H I R C E u le=>h G o l H I _ _ C E u λv M d B g j J c r n q=>le.nx _ _ ⟨g,j,J,q⟩⟩
end
section
variable{K:YQ}{G:Ent}{ρ:Ev}{σ:St}{H H1 H2:Hp}{fa fa1:YO}
theorem E3.put(E:E3 K G ρ σ H1 fa1)(o:G.own i)(M:i<ρ.length)(T:σ[i]?=some (some v))(x:p∈fa1 i)(k:∀a,a≠p->H2 a=H1 a)(I:H2 p≠none)
  (r:Rep K H2 v d A) (n1:A.Nodup) (n2:∀a∈A,a∈fa1 i\/(G.H₀ a=none/\¬G.Z a/\∀j,a∉fa1 j)):E3 K G (ρ.set i (some d)) σ H2 (λj=>if j=i then A else fa1 j):=by
 have B:=E.eY i p x
 have stb:X7 H1 H2:=⟨λb Y h=>by
   by_cases e:b=p
   ·subst e;rw[h] at B;exact B.elim
   ·rwa[k b e],λb u w h=>by
   by_cases e:b=p
   ·subst e;rw[h] at B;exact B.elim
   ·rwa[k b e],λb h=>by
   by_cases e:b=p
   ·subst e;exact absurd h I
   ·rwa[k b e] at h⟩
 have S:=λj n z=>E.dj i j (IN n) o p x z;refine⟨λj X e=>?_,λj e=>?_,by simp[E.len],λj g=>?_,λj l n g a c=>?_,E.par,λj g Q a c=>?_,λj g a c=>?_,λa u h n=>?_,E.stb.trans stb,λa z=>?_,E.zn,λj g a c=>?_,E.po⟩
 ·by_cases q:j=i
  ·subst q;rw[v7 M] at e;cases e;exact⟨v,T,by rwa[t4 rfl]⟩
  ·rw[wr (IN q)] at e;obtain⟨w,U,R⟩:=E.rep j X e;refine⟨w,U,?_⟩;rw[tz q];exact R.mono stb λa c=>k a λe=>S j q (e▸c)
 ·by_cases q:j=i
  ·subst q;exact absurd (v7 M) (e d)
  ·rw[tz q];exact E.emp j λd z=>e d (by rwa[wr (IN q)])
 ·by_cases q:j=i
  ·rwa[t4 q]
  ·rw[tz q];exact E.nd j g
 ·by_cases q:j=i
  ·subst q;rw[t4 rfl] at c;rw[tz (IN n)];rcases n2 a c with y | y
   ·exact E.dj j l n o a y
   ·exact y.2.2 l
  ·rw[tz q] at c
   by_cases O:l=i
   ·subst O;rw[t4 rfl];intro z;rcases n2 a z with y | y
    ·exact E.dj j l q g a c y
    ·exact y.2.2 j c
   ·rw[tz O];exact E.dj j l n g a c
 ·by_cases q:j=i
  ·subst q;rw[t4 rfl] at c;rcases n2 a c with y | y
   ·exact E.old j g Q a y
   ·exact .inr y.1
  ·rw[tz q] at c;exact E.old j g Q a c
 ·by_cases q:j=i
  ·subst q;rw[t4 rfl] at c;rcases n2 a c with y | y
   ·exact E.new j g a y
   ·exact y.1
  ·rw[tz q] at c;exact E.new j g a c
 ·have J:a≠p:=λe=>by
   subst e
   by_cases C:i<G.vs.length
   ·rcases E.old i C o a x with y | y
    ·exact n i C o y
    ·rw[h] at y;cases y
   ·have y:=E.new i (.inr ⟨o,C⟩) a x;rw[h] at y;cases y
  rw[k a J];exact E.frm a u h n
 ·rw[k a (λe=>E.zo i o p x (e▸z))];exact E.zk a z
 ·by_cases q:j=i
  ·subst q;rw[t4 rfl] at c;rcases n2 a c with y | y
   ·exact E.zo j g a y
   ·exact y.2.1
  ·rw[tz q] at c;exact E.zo j g a c
theorem R0.put{A:YE}(c:R0 K G H fa H1 fa1)(E:E3 K G ρ σ H1 fa1)(o:G.own i)(x:p∈fa1 i)(k:∀a,a≠p->H2 a=H1 a)(r:H2 p≠none)(n2:∀a∈A,a∈fa1 i\/H a=none):R0 K G H fa H2 (λj=>if j=i then A else fa1 j):=by
 have g:=E.eY i p x;refine⟨λa u h n=>?_,c.stb.trans ⟨λb z h=>?_,λb u w h=>?_,λb h=>?_⟩,λj d a l=>?_,λj d=>(tz λe=>d (by rwa[e])).trans (c.bor j d)⟩
 ·have v:a≠p:=λe=>by
   subst e;rcases c.new i o a x with y | y
   ·exact n i o y
   ·rw[h] at y;cases y
  rw[k a v];exact c.frm a u h n
 ·by_cases e:b=p
  ·subst e;rw[h] at g;exact g.elim
  ·rwa[k b e]
 ·by_cases e:b=p
  ·subst e;rw[h] at g;exact g.elim
  ·rwa[k b e]
 ·by_cases e:b=p
  ·subst e;exact absurd h r
  ·rwa[k b e] at h
 ·by_cases q:j=i
  ·subst q;rw[t4 rfl] at l;rcases n2 a l with y | y
   ·exact c.new j d a y
   ·exact .inr y
  ·rw[tz q] at l;exact c.new j d a l
theorem bK:∀a,a≠p->upd H p o a=H a:=λa n=>i4 n
end
section
variable{X:Cx}{cl:List Cl}{e a b:Expr}{es:YH}{f:Fl}{pos pos':Pos}{ua ub:TU}{ma mb:TM}{x:Str}{i:Nat}{st:Stmt}{sts:YM}{s s2:g9}
def QH:D->Bool
 | .lst _=>true
 | _=>false
def MQ(i:Nat)(d:D)(g:Ev)(Q:Ev->Prop):D->Prop
 | .lst c=>c.length<sizeLine/\Q (g.set i (some (.lst (c++[d]))))
 | _=>False
def gN(i:Nat)(ma:TM):TM:=λg Q=>a6 i g λl=>QH l=true/\ma g λd c=>a6 i c (MQ i d c (Q .p3))
theorem C7{r:V->List V->Hp->VK->Prop}(i:Nat)(hv:PE X (.Name x Y) (eI i))(hi:cl[i]?=some .own)(he:PM X cl e ma)(a2:isStar e=false)
  (mk:∀{t},PA X [e] t->PE X (.Call (.Attribute (.Name x Y) "append" j) [e] [] pos) (UQ X.K "list" I0 (eI i) t)):PM X cl (.Call (.Attribute (.Name x Y) "append" j) [e] [] pos) (gN i ma):=.of<|by
 obtain⟨t,p,h⟩:=he.run;refine⟨_,mk (bf p L8 a2),λG ρ σ H fa Q R hG E hu k=>?_⟩;obtain⟨l0,e0,il,hu⟩:=p5 hu;have own:G.own i:=by unfold Ent.own;rwa[hG]
 obtain⟨v,J,r0⟩:=E.rep i l0 e0;cases l0<;>first | cases il | skip
 obtain⟨p,vs,B,rfl,hp,_,_⟩:=E8 r0;refine⟨_,J,.inl ⟨rfl,vs,G3.of hp⟩,h G ρ σ H fa _ _ hG E hu λw H1 d O I M T c1 r1 n1 n2 q=>?_⟩;obtain⟨l1,e1,q⟩:=p5 q;obtain⟨v',o,r2⟩:=T.rep i l1 e1;have ev:v'=.ref p:=by rw[J] at o;cases o;rfl
 subst ev;cases l1<;>first | exact(q).elim | skip
 rename_i U
 obtain⟨p',l,B',ep,C,rs,S⟩:=E8 r2;cases ep;have nd:=T.nd i (.inl own);have pin:p∈M i:=by rw[S];exact hQ
 rw[S] at nd;obtain⟨np,a1⟩:=List.nodup_cons.mp nd;have g:=λz=>(n2 p z).2 i pin
 have st:X7 H1 (upd H1 p (.lst (l++[w]))):=⟨λb ys h=>by
   by_cases e:b=p
   ·subst e;rw[C] at h;cases h
   ·rwa[i4 e],λb u w' h=>by
   by_cases e:b=p
   ·subst e;rw[C] at h;cases h
   ·rwa[i4 e],λb h=>by
   by_cases e:b=p
   ·subst e;rw[c8] at h;cases h
   ·rwa[i4 e] at h⟩
 have rn:Rep X.K (upd H1 p (.lst (l++[w]))) (.ref p) (.lst (U++[d])) (p::(B'++(O++[]))):=
  .lst c8 ((rs.mono st λa c=>i4 λe=>np (e▸c)).append (.cons (r1.mono st λa c=>i4 λe=>g (e▸c)) .nil))
 rw[ud] at rn
 have n3:∀a∈p::(B'++O),a∈M i\/a∈O:=λa c=>by
  rcases List.mem_cons.mp c with z | z
  ·exact .inl (z▸pin)
  ·rcases List.mem_append.mp z with y | y
   ·exact .inl (by rw[S];exact hH _ y)
   ·exact .inr y
 have a0:=List.nodup_cons.mpr ⟨λz=>(List.mem_append.mp z).elim np g,List.nodup_append.mpr ⟨a1,n1,λa c b hb e=>(n2 b hb).2 i (by rw[S,<-e];exact hH _ c)⟩⟩;have li:=(List.getElem?_eq_some_iff.mp e1).1;refine⟨p,l,w,rfl,rfl,C,by rw[rs.length];exact q.1,k .p3 _ .p3 [] _ _ (T.put own li o pin bK (by rw[c8];exactλz=>nomatch z) rn a0 λa c=>(n3 a c).imp id λy=>⟨E.stb.dom a (n2 a y).1,E.qJ (n2 a y).1,(n2 a y).2⟩) (c1.put T own pin bK (by rw[c8];exactλz=>nomatch z) λa c=>(n3 a c).imp id λy=>(n2 a y).1) .p3 t5 (λa c=>(by cases c)) q.2⟩
def QB(i:Nat)(k:Int)(d:D)(g:Ev)(Q:Ev->Prop):D->Prop
 | .lst c=>∃j,oB c.length k=some j/\Q (g.set i (some (.lst (c.set j d))))
 | _=>False
def BG(i:Nat)(j mk:TM):g9:=λT h=>j h λd g=>a6 i g λ_=>mk g λk c=>match k with
 | .int k=>a6 i c (QB i k d c T.nx)
 | _=>False
theorem rY(i:Nat)(hv:PE X (.Name x vp) (eI i))(hi:cl[i]?=some .own)(he:PM X cl e ma)(hk:PN X cl Q mk)
  (a3:∀{te ti},PE X e te->PE X Q ti->PS X (.Assign [.Subscript (.Name x vp) Q tp] e pos) (oU te (Z6 (eI i) ti MN))):D7 X cl (.Assign [.Subscript (.Name x vp) Q tp] e pos) (BG i ma mk):=.of<|by
 obtain⟨t,p,h⟩:=he.run;obtain⟨t2,p2,h2⟩:=hk.run;refine⟨_,a3 p p2,λG T ρ σ H fa R hG E hu le=>?_⟩;have own:G.own i:=by unfold Ent.own;rwa[hG]
 refine h G ρ σ H fa _ _ hG E hu λw H1 d B1 U a4 E1 c1 r1 n1 n2 q=>?_;obtain⟨l0,e0,q⟩:=p5 q;obtain⟨v,J,r0⟩:=E1.rep i l0 e0;refine⟨_,J,h2 G U σ H1 a4 _ _ hG E1 q λwk H2 dk Bk I o E2 c2 rk nk q=>?_⟩;cases dk<;>first | exact(q).elim | skip
 rename_i kk
 cases w8 rk;obtain⟨l1,e1,q⟩:=p5 q;obtain⟨v',g,r2⟩:=E2.rep i l1 e1;have ev:v'=v:=by rw[J] at g;cases g;rfl
 subst ev;cases l1<;>first | exact(q).elim | skip
 rename_i Y
 obtain⟨p,vs,B,rfl,hp,rs,S⟩:=E8 r2;obtain⟨j,hj,q⟩:∃j,oB Y.length kk=some j/\T.nx (I.set i (some (.lst (Y.set j d)))):=q;have a0:=c2.keep r1 λi _ a c=>(n2 a c).2 i
 have r:∀a∈B1,∀l,a∉o l:=λa c l z=>by
  by_cases ho:G.own l
  ·rcases c2.new l ho a z with y | y
   ·exact(n2 a c).2 l y
   ·exact r1.there c y
  ·rw[c2.bor l ho] at z;exact(n2 a c).2 l z
 have nd:=E2.nd i (.inl own);have pin:p∈o i:=by rw[S];exact hQ
 rw[S] at nd;obtain⟨np,a2⟩:=List.nodup_cons.mp nd;have O:=λz=>r p z i pin
 have st:∀ws,X7 H2 (upd H2 p (.lst ws)):=λws=>⟨λb ys h=>by
   by_cases e:b=p
   ·subst e;rw[hp] at h;cases h
   ·rwa[i4 e],λb u w' h=>by
   by_cases e:b=p
   ·subst e;rw[hp] at h;cases h
   ·rwa[i4 e],λb h=>by
   by_cases e:b=p
   ·subst e;rw[c8] at h;cases h
   ·rwa[i4 e] at h⟩
 obtain⟨C,rC,mC,nC⟩:=i9.set j rs a0;have M:=λz=>(mC p z).elim np O;have rn:Rep X.K (upd H2 p (.lst (vs.set j w))) (.ref p) (.lst (Y.set j d)) (p::C):=.lst c8 (rC.mono (st _) λa c=>i4 λe=>M (e▸c))
 have n3:∀a∈p::C,a∈o i\/a∈B1:=λa c=>by
  rcases List.mem_cons.mp c with z | z
  ·exact .inl (z▸pin)
  ·exact(mC a z).imp (λy=>by rw[S];exact hH _ y) id
 have a1:=List.nodup_cons.mpr ⟨M,nC a2 n1 λa c z=>r a c i (by rw[S];exact hH _ z)⟩;have li:=(List.getElem?_eq_some_iff.mp e1).1;exact⟨p,vs,kk,j,rfl,rfl,hp,by rwa[rs.length],le.nx _ _ ⟨_,_,E2.put own li g pin bK (by rw[c8];exactλz=>nomatch z) rn a1 λa c=>(n3 a c).imp id λy=>⟨E.stb.dom a (n2 a y).1,E.qJ (n2 a y).1,r a y⟩,q⟩⟩
end
def aJ(K:YQ)(J:It)(xs:List D)(C:YE)(H:Hp):Prop:=∀b,Tf H b->(∀a∈C,b a=H a)->∀i,(xs.length=i->J.stop i b) /\
 ∀d,xs[i]?=some d->J.go i b/\∀x c,J.yld i b x c->e9 b c/\∃B,Rep K c x d B/\B.Sublist C
abbrev lX:=Ev->(List D->Prop)->Prop
abbrev NG:=Ev->(List D->Ev->Prop)->Prop
structure Y8(X:Cx)(cl:List Cl)(tg iter:Expr)(f:Fl)(u:lX):Prop where
 of ::
 run:∃wi,PI X tg iter wi/\∀(G:Ent) (ρ:Ev) (σ:St) (H:Hp) (fa:YO) (Q:List D->Prop) (R:It->Hp->Prop),G.cl=cl->E3 X.K G ρ σ H fa->u ρ Q ->
  (∀J H1 xs C,e9 H H1->aJ X.K J xs C H1->(∀a∈C,H1 a≠none)->A3 G H fa C f->Q xs->R J H1)->wi σ H R
structure Tr(X:Cx)(cl:List Cl)(tg iter:Expr)(u:NG):Prop where
 of ::
 run:∃wi,PI X tg iter wi/\∀(G:Ent) (ρ:Ev) (σ:St) (H:Hp) (fa:YO) (Q:List D->Ev->Prop) (R:It->Hp->Prop),G.cl=cl->E3 X.K G ρ σ H fa->u ρ Q ->
  (∀J H1 xs C ρ1 fa1,E3 X.K G ρ1 σ H1 fa1->R0 X.K G H fa H1 fa1->aJ X.K J xs C H1->(∀a∈C,H1 a≠none)->(∀i,G.own i->∀a∈C,a∉fa1 i)->Q xs ρ1->R J H1)->wi σ H R
section
variable{X:Cx}{cl:List Cl}{tg e a b:Expr}{es:YH}{f:Fl}{pos pos':Pos}{ua ub:TU}{ma mb:TM}{x:Str}{i:Nat}
def iP(u:lX):NG:=λc Q=>u c λd=>Q d c
theorem Y8.m(h:Y8 X cl tg e f u)(r:jH f .stab=true):Tr X cl tg e (iP u):=.of<|by
 obtain⟨t,p,h⟩:=h.run;exact⟨t,p,λG c g H d Q R v E o k=>h G c g H d _ _ v E o λJ z j C s l tr y q=>k J z j C c d (E.same s) (R0.same s) l tr (y.weak E r) q⟩
theorem Z7(r:i9 K H vs xs C)(tf:Tf H c)(k:∀a∈C,c a=H a)(e:xs[i]?=some d):∃v B,vs[i]?=some v/\Rep K c v d B/\B.Sublist C:=(r.aG tf k).get e
theorem VM(h:H p=some (.lst vs))(r:i9 K H vs xs C):aJ K (Tv K p) xs (p::C) H:=λo tf k i=>by
 have g:=(k p hQ).trans h;have z:=λa G=>k a (hH _ G);refine⟨λE=>⟨vs,G3.of g,by rw[r.length];exact Wc E⟩,λd e=>?_⟩;obtain⟨v,B,l,u,q⟩:=Z7 r tf z e;refine⟨⟨vs,v,G3.of g,l⟩,λy J c=>?_⟩;obtain⟨I,c⟩:=c;subst I;have j:=c vs (G3.of g);rw[l] at j;cases j;exact⟨e9.refl _,B,u,q.trans (Tk _ _)⟩
theorem VD(h:Mz K H p vs)(r:i9 K H vs xs C):aJ K (Tv K p) xs C H:=λE tf k i=>by
 have g:=(tf.Ta h).sq;refine⟨λu=>⟨vs,g,by rw[r.length];exact Wc u⟩,λd e=>?_⟩;obtain⟨v,B,l,q,o⟩:=Z7 r tf k e;refine⟨⟨vs,v,g,l⟩,λy G c=>?_⟩;obtain⟨z,c⟩:=c;subst z;have j:=c vs g;rw[l] at j;cases j;exact⟨e9.refl _,B,q,o⟩
theorem Uc(h:H p=some (.tup vs))(r:i9 K H vs xs C):aJ K (SY K p) xs C H:=λE tf k i=>by
 have g:R6 K E p vs:=R6.of (tf.T3 _ _ h);refine⟨λu=>⟨vs,g,by rw[r.length];exact Wc u⟩,λd e=>?_⟩;obtain⟨v,B,l,q,o⟩:=Z7 r tf k e;refine⟨⟨vs,v,g,l⟩,λy G c=>?_⟩;obtain⟨z,c⟩:=c;subst z;have j:=c vs g;rw[l] at j;cases j;exact⟨e9.refl _,B,q,o⟩
theorem i9.there(r:i9 K H v d A):∀x∈A,H x≠none:=λx c z=>by
 have:=r.eY x c;rwa[z] at this
def kW(lo:Int)(n:Nat):List D:=(List.range n).map λ(k:Nat)=>D.int (lo+(k:Int))
theorem itR(lo:Int)(n:Nat):aJ K (RD lo n) (kW lo n) [] H:=λo tf k i=>by
 refine⟨λc=>by unfold kW at c;rw[dL,ux] at c;exact Wc c,λd e=>?_⟩;unfold kW at e;rw[sj] at e
 by_cases g:i<n
 ·rw[Xv g] at e;cases e;refine⟨g,λy l h=>?_⟩;obtain⟨j,rfl⟩:=h;subst j;exact⟨e9.refl _,[],.int,Xf _⟩
 ·rw[TW (by rw[ux];omega)] at e;cases e
def RW(u:TM):NG:=λg Q=>u g λd c=>match d with
 | .int j=>(-(2^62)<=j/\j<2^62)/\Q (kW 0 j.toNat) c
 | _=>False
theorem BY  (T:Gl X "range") (S:X.mg "range"=none) (h:PN X cl e ma) (l:isStar e=false)
  (mk:∀{t},PA X [e] t->PI X tg (.Call (.Name "range" p) [e] [] pos) (EK t)):Tr X cl tg (.Call (.Name "range" p) [e] [] pos) (RW ma):=.of<|by
 obtain⟨t,pt,h⟩:=h.run;refine⟨_,mk (bf pt L8 l),λG z y H J Q R I E C k=>h G z y H J _ _ I E C λv M d B g u O c r n q=>?_⟩;cases d<;>first | exact(q).elim | skip
 rename_i j
 cases w8 r;exact⟨j,rfl,q.1.1,q.1.2,k _ M _ [] g u O c (itR 0 _) (λa o=>(by cases o)) (λ_ _ a o=>(by cases o)) q.2⟩
def gF(u:TU):lX:=λc Q=>u c λd=>match d with
 | .int j=>(-(2^62)<=j/\j<2^62)/\Q (kW 0 j.toNat)
 | _=>False
theorem S7  (J:Gl X "range") (I:X.mg "range"=none) (h:PU X cl e f ua) (c:isStar e=false)
  (mk:∀{t},PA X [e] t->PI X tg (.Call (.Name "range" p) [e] [] pos) (EK t)):Y8 X cl tg (.Call (.Name "range" p) [e] [] pos) .fresh (gF ua):=.of<|by
 obtain⟨t,pt,h⟩:=h.run;refine⟨_,mk (bf pt L8 c),λG l g H z Q R y E o k=>h G l g H z _ _ y E o λv C d B s r M q=>?_⟩;cases d<;>first | exact(q).elim | skip
 rename_i j
 cases w8 r;exact⟨j,rfl,q.1.1,q.1.2,k _ C _ [] s (itR 0 _) (λa u=>(by cases u)) (A3.nil _) q.2⟩
def jb:Nat->List D->List D
 | _,[]=>[]
 | k,x::c=>.tup [.int k,x]::jb (k+1) c
theorem eQ:∀{xs:List D} {k i:Nat} {d:D},(jb k xs)[i]?=some d->∃x,xs[i]?=some x/\d=.tup [.int ((k+i:Nat):Int),x]
 | [],_,_,_,e=>by simp[jb] at e
 | x::xs,k,0,d,e=>by simp[jb] at e;exact⟨x,rfl,e.symm⟩
 | x::xs,k,i+1,d,e=>by
  rw[jb] at e;obtain⟨y,g,c⟩:=eQ e;exact⟨y,by simpa using g,by rw[c];congr 3;omega⟩
theorem dU:∀{xs:List D} {k:Nat},(jb k xs).length=xs.length
 | [],_=>rfl
 | x::xs,k=>by simp[jb,dU]
theorem Vx(h:H p=some (.lst vs))(r:i9 K H vs xs C):aJ K (Ih K p) (jb 0 xs) (p::C) H:=λg tf k i=>by
 have c:=(k p hQ).trans h;have I:=λa Q=>k a (hH _ Q);refine⟨λO=>⟨vs,G3.of c,by rw[r.length,<-dU  ];exact Wc O⟩,λd e=>?_⟩;obtain⟨x,S,R⟩:=eQ e;obtain⟨v,B,q,E,u⟩:=Z7 r tf I S;refine⟨⟨vs,v,G3.of c,q⟩,λy T M=>?_⟩;obtain⟨G,z,rfl,l,rfl,J⟩:=M;have o:=J vs (G3.of c);rw[q] at o;cases o;refine⟨e9.i3 l,B,?_,u.trans (Tk _ _)⟩;rw[R];have j:i9 K (upd g G (.tup [.int i,v])) [.int i,v] [.int ((0+i:Nat)),x] ([]++(B++[])):=.cons (by rw[Nat.zero_add];exact .int) (.cons (E.same (e9.i3 l)) .nil);rw[ud] at j;exact .tup c8 j
theorem TR(h:Mz K H p vs)(r:i9 K H vs xs C):aJ K (Ih K p) (jb 0 xs) C H:=λq tf k i=>by
 have c:=(tf.Ta h).sq;refine⟨λM=>⟨vs,c,by rw[r.length,<-dU  ];exact Wc M⟩,λd e=>?_⟩;obtain⟨x,Q,O⟩:=eQ e;obtain⟨v,B,o,E,u⟩:=Z7 r tf k Q;refine⟨⟨vs,v,c,o⟩,λy R J=>?_⟩;obtain⟨G,z,rfl,j,rfl,I⟩:=J;have l:=I vs c;rw[o] at l;cases l;refine⟨e9.i3 j,B,?_,u⟩;rw[O];have g:i9 K (upd q G (.tup [.int i,v])) [.int i,v] [.int ((0+i:Nat)),x] ([]++(B++[])):=.cons (by rw[Nat.zero_add];exact .int) (.cons (E.same (e9.i3 j)) .nil);rw[ud] at g;exact .tup c8 g
def RP(u:TU):lX:=λg Q=>u g λd=>match d with
 | .lst c=>Q (jb 0 c)
 | .fz c=>Q (jb 0 c)
 | _=>False
theorem MP(h:PU X cl e f ua)(j:isStar e=false)
  (mk:∀{t},PA X [e] t->PI X tg (.Call (.Name "enumerate" p) [e] [] pos) (MF X.K t)):Y8 X cl tg (.Call (.Name "enumerate" p) [e] [] pos) f (RP ua):=.of<|by
 obtain⟨t,pt,h⟩:=h.run;refine⟨_,mk (bf pt L8 j),λG y u H O Q R M E I k=>h G y u H O _ _ M E I λv o d B s r l q=>?_⟩;cases d<;>first | exact(q).elim | skip
 ·have z:=r;obtain⟨p,vs,C,rfl,c,g,rfl⟩:=E8 r;exact⟨p,rfl,⟨vs,G3.of c⟩,k _ o _ _ s (Vx c g) (λa J=>z.there J) l q⟩
 ·obtain⟨p,vs,rfl,c,g⟩:=fF r;exact⟨p,rfl,⟨vs,c.sq⟩,k _ o _ _ s (TR c g) g.there l q⟩
def kindB(b:Bool)(d:D):Option (List D):=match b,d with
 | false,.lst c=>some c
 | false,.fz c=>some c
 | true,.tup c=>some c
 | _,_=>none
end
end L3
namespace L2
open PySem PySem.Spec PyProof.Rows
theorem nF{σ:St}{g:YC->YE->Shared->Hp->TG}{tc:YC->YE->Shared->Hp->TT}{te:YC->YE->Shared->Hp->TE}
  {E:YN} {RR:Value->Addr->Result->Shared->Prop}  (S:X.calm=true) (cf:M7 X N scope cap) (hk:scope.kind=.function)
  (hg:∀cl a s H,PG (A6 X N scope cl a s H) l (g cl a s H)) (hc:∀cl a s H,xC (A6 X N scope cl a s H) ab (tc cl a s H)) (he:∀cl a s H,PE (A6 X N scope cl a s H) Y (te cl a s H))
  (I:Inv X pins σ H s) (T:Turn X.prog X.w X.K l J a it tn) (st:tn 0 s.heap) (hf:∀b∈a,N0 X pins H b) (q:∀cl a s z,Tw J (g cl a s z) (tc cl a s z) (te cl a s z) (K9 cap σ) Q H)
  (b6:∀d C z s' m,Inv X pins σ z s'->s'.heap.Ns C m->N0 X pins z C->Q (.ref d) z->RR (.ref d) C (.ok .next) s') :
  wpAny (model X.prog X.w) X.A (newList []) (λacc B=>wpAny (model X.prog X.w) X.A (newFunctionEnv scope X.env.globals (A7 X.env scope.names []) [] X.env.qual none .none (some X.env)) (λa3 s4=>
   codeAny (model X.prog X.w) X.A (.compStart (.ListComp Y [⟨l,a2,ab,0⟩] scope ap) 0 (.ref it) acc { a3 with scope:=relabel scope X.env }) (RR acc a3.locals) s4) E B) E s:=by
 refine vy (XC cf.nocell (by intro y hy;simp at hy) (λh1 ad ac=>?_) hk);have I3:Inv X pins σ (upd H s.heap.objs.size (.lst [])) { s with heap:=s.heap.push { cls:=.type "list",data:=.seq ([]:YG).toArray } }:=I.Hi (its:=[]) (t':=s.toks) .nil (v9 _);have b5:H s.heap.objs.size=none:=I.fresh;obtain⟨W,⟨m0,w0⟩,a0⟩:=q (A7 X.env scope.names []) a { s with heap:=s.heap.push { cls:=.type "list",data:=.seq ([]:YG).toArray } } (upd H s.heap.objs.size (.lst [])) s.heap.objs.size b5
 have b0:∀b∈a,b<s.heap.objs.size:=λb j=>by
  obtain⟨o,e,_⟩:=T.obj 0 _ st b j;exact t9 e
 have al:∀b∈a,N0 X pins (upd H s.heap.objs.size (.lst [])) b:=λb j=>⟨by rw[i4 (u8 (b0 b j))];exact(hf b j).1,(hf b j).2⟩
 have R:∀b∈a,b<(s.heap.push { cls:=.type "list",data:=.seq ([]:YG).toArray }).objs.size:=λb j=>by
  rw[KF];exact OV (b0 b j)
 dsimp only at ad ac ⊢;generalize U:({ s with heap:=s.heap.push { cls:=.type "list",data:=.seq ([]:YG).toArray } }:Shared)=B at I3 a0;have G:B.heap=s.heap.push { cls:=.type "list",data:=.seq ([]:YG).toArray }:=by rw[<-U]
 have bm:B.toks=s.toks:=by rw[<-U]
 rw[<-G] at ad ac R;have O:∀b o,B.heap.get? b=some o->h1.get? b=some o:=λb o e=>ac.extBut b o (u8 (t9 e)) (hD _ e);have keep:∀b o,s.heap.get? b=some o->h1.get? b=some o:=λb o e=>O b o (by rw[G];exact hD _ e);have Ic:=jD (tk:=s.toks) I3 cf hk al R ad O;have ao:tn 0 h1:=T.keep 0 _ _ st λb _ o e=>keep b o e;have b8:∀b∈a,(upd H s.heap.objs.size (.lst [])) b=none:=λb j=>(al b j).1
 have M:∀{z:Hp},(∀b∈a,z b=none)->∀b∈a,N0 (A6 X N scope (A7 X.env scope.names []) a B (upd H s.heap.objs.size (.lst []))) [] z b:=λhn b j=>
  ⟨hn b j,u8 (R b j),Ic.ok.exfs b j,.inl j,λx c h=>(hf b j).2.2.2.2.1 x c (Z8 h),λp hp=>absurd (show p∈([]:YA) from hp) (by simp)⟩
 have bv:B.os=s.os:=by rw[<-U]
 have c0:B.gens=s.gens:=by rw[<-U]
 have a1:codeAny (model X.prog X.w) X.A (.compLoop (.ListComp Y [⟨l,a2,ab,0⟩] scope ap) 0 (.ref it) (.ref s.heap.objs.size) (compEnvC scope (A7 X.env scope.names []) B.heap.objs.size X.env))
   (RR (.ref s.heap.objs.size) B.heap.objs.size) { B with heap:=h1,toks:=s.toks }:=by
  refine pR (λn s'=>∃i z,Inv (A6 X N scope (A7 X.env scope.names []) a B (upd H s.heap.objs.size (.lst []))) [] (K9 cap σ) z s'/\tn i s'.heap/\(∀b∈a,z b=none)/\W i n z) ?_ m0 ⟨0,_,Ic,ao,b8,w0⟩;rintro n s4 ⟨i,H4,I4,an,b3,w4⟩;rcases a0 i n H4 w4 with⟨stop,qn⟩ | ⟨go,step⟩
  ·refine x4 (T.done (A6 X N scope (A7 X.env scope.names []) a B (upd H s.heap.objs.size (.lst []))) rfl rfl rfl S i [] s4 _ H4 (λ_ _=>False) I4 (M b3) an stop) λr s5 ⟨hr,I5⟩=>?_;subst hr;obtain⟨m,b4,_⟩:=I5.loc;refine b6 _ _ H4 s5 m ?_ b4 (I3.eW (oT _) I5.free) qn;exact I3.GG I5.os I5.base I5.hok I5.bare λb j=>⟨(hf b j).2.2.2.1,(hf b j).2.1,(hf b j).2.2.2.2.1,(hf b j).2.2.2.2.2⟩
  ·refine x4 (T.item (A6 X N scope (A7 X.env scope.names []) a B (upd H s.heap.objs.size (.lst []))) rfl rfl rfl S i [] s4 _ H4 (λ_ _=>False) I4 (M b3) an go) λr s5 ⟨u,hr,h5⟩=>?_;subst hr;refine x4 h5 λ_ s6 ⟨x,H6,I6,r6,y6,a5,b7⟩=>?_;have bg:=I6.pinned (M b7) (T.obj _ _ a5);refine x4 (hg _ _ _ _ _ s6 _ H6 x u _ bg r6 (step x H6 y6)) λ_ s7 ⟨a4,H7,I7,q7⟩=>?_;refine x4 (hc _ _ _ _ _ s7 a4 H7 _ I7 q7) λok s8 ⟨H8,I8,q8⟩=>?_
   have again:∀{am:St} {H9:Hp} {s9:Shared},Inv (A6 X N scope (A7 X.env scope.names []) a B (upd H s.heap.objs.size (.lst []))) ([]++aR a s6.heap) am H9 s9->(∃m',m'<n/\W (i+1) m' H9) ->
     ∃m,m<n/\∃i z,Inv (A6 X N scope (A7 X.env scope.names []) a B (upd H s.heap.objs.size (.lst []))) [] (K9 cap σ) z s9/\tn i s9.heap/\(∀b∈a,z b=none)/\W i m z:=λ{am H9 s9} I9 ⟨m',hm,w9⟩=>by
    refine⟨m',hm,i+1,H9,fR I3 cf al I9.S5,T.keep _ _ _ a5 λb j o e=>(I9.pin (b,o) (sw _ (sw _ (C3 j e)))).1,λb j=>?_,w9⟩;obtain⟨o,e,d⟩:=T.obj _ _ a5 b j;exact(I9.pin (b,o) (sw _ (sw _ (C3 j e)))).2.1
   cases ok with
   | false=>exact again I8 q8
   | true=>
    show wpAny _ _ (eval Y _) _ _ s8;refine x4 (he _ _ _ _ _ s8 a4 H8 _ I8 q8) λy s9 ⟨v,H9,I9,r9,acc,b2,b1,m',hm,w9⟩=>?_;refine x4 (A5 _ s9 a4 H9 (.ref s.heap.objs.size) [v] (.ref s.heap.objs.size) [y] (λ_ z=>z=upd H9 s.heap.objs.size (.lst (acc++[v]))) I9 rfl (.cons r9 .nil) ⟨_,acc,v,rfl,rfl,b2,b1,rfl⟩) λ_ bn ⟨_,c3,bi,_,b9⟩=>?_;subst b9;exact again bi ⟨m',hm,w9⟩
 have e4:({ s with heap:=h1,toks:=s.toks+([]:YD).length }:Shared)={ B with heap:=h1,toks:=s.toks }:=by rw[<-U];rfl
 rw[<-G,e4];exact codeAny_compStart_list a1 (T.self _ 0 _ _ _ ao a1)
def SI(cap:YB)(d:TI)(g:YC->YE->Shared->Hp->TG)(tc:YC->YE->Shared->Hp->TT)(te:YC->YE->Shared->Hp->TE):TE:=λc H Q=>d c H λJ e=>∀cl a s b,Tw J (g cl a s b) (tc cl a s b) (te cl a s b) (K9 cap c) Q e
theorem OR
  (l:X4 XN N XS scope cap=true) (hN:X.N=XN) (hS:X.env.scope=XS) (E:scope.kind=.function) (i:X.calm=true) (U:PI X a b B)
  (Y:∀cl c s H,PG (A6 X N scope cl c s H) a (g cl c s H)) (hc:∀cl c s H,xC (A6 X N scope cl c s H) j (tc cl c s H)) (he:∀cl c s H,PE (A6 X N scope cl c s H) o (te cl c s H))
  (R:∀x,foldedSetIterable b X.env x=pure x:=by intro _;rfl):PE X (.ListComp o [⟨a,b,j,0⟩] scope r) (SI cap B g tc te):=by
 refine .of ?_;intro e s z H Q I h;have u:=P6 hN hS l;refine VY  rfl R (T6 (I.S8 u)) E u.loc (x4 (U e s z H _ I h) λv s1 h1=>x4 h1 λO s2 h2=>?_);obtain⟨it,c,tn,J,H2,rfl,I2,T,p,f2,q⟩:=h2;exact nF  i u E Y hc he I2 T p f2 q λd C H' s' m I' S hC M=>⟨m,S,λh' G=>⟨.ref d,H',I'.rH hC G,rfl,M⟩⟩
theorem mZ{u r G:Pos}
  (Y:X.N.Nodup) (U:X.N[i]?=some y) (hy:X.env.scope.names.lookup y=some .local)
  (M:X4 XN N XS scope cap=true) (hN:X.N=XN) (hS:X.env.scope=XS) (hk:scope.kind=.function) (B:X.calm=true) (hi:PI X b c wi)
  (hg:∀cl o s H,PG (A6 X N scope cl o s H) b (g cl o s H)) (hc:∀cl o s H,xC (A6 X N scope cl o s H) l (tc cl o s H)) (he:∀cl o s H,PE (A6 X N scope cl o s H) p (te cl o s H))
  (S:swapsWith (.ListComp p [⟨b,c,l,0⟩] scope u) (some (.Name y G)) r.line X.env=pure true:=by rfl)
  (hs:∀x,foldedSetIterable c X.env x=pure x:=by intro _;rfl):PS X (.Assign [.Name y G] (.ListComp p [⟨b,c,l,0⟩] scope u) r) (oU (SI cap wi g tc te) (dt i)):=by
 refine .of ?_;intro j s σ H D I h;have cf:=P6 hN hS M;rw[XA _ _ _ _ S];refine eH (PP (eH ?_));refine eH (wE (VY   rfl hs (T6 (I.S8 cf)) hk cf.loc (x4 (hi j s σ H _ I h) λv s1 h1=>x4 h1 λa1 s2 h2=>?_))
  (λ_ E hq=>hE (hE hq)) λ_ _ e=>e)
 obtain⟨it,o,tn,J,H2,rfl,I2,T,O,f2,q⟩:=h2;refine nF  B cf hk hg hc he I2 T O f2 q λd C H' E m I' hn hC q'=>?_;refine Xl (bJ (v:=.ref d) I' Y U (.inl hy) rfl (λs2 I2 ⟨a,sb,ha⟩=>⟨m,hn.sameBut sb ?_,λh' R=>⟨_,H',I2.rH hC R,q'⟩⟩) (.inr hy));rcases ha with z | z
 ·rw[z];exact hC.2.1
 ·exactλe=>hC.2.2.2.2.1 y a z e.symm
end L2
namespace L3
open PySem PySem.Spec L2
abbrev aH:=D->Ev->(Ev->Prop)->Prop
abbrev xw:=List D->Ev->(Ev->Prop)->Prop
structure zP(X:Cx)(cl:List Cl)(tg:Expr)(g:aH):Prop where
 of ::
 run:∃t,PG X tg t/\∀(G:Ent) (ρ:Ev) (σ:St) (H:Hp) (fa:YO) (v:V) (d:D) (B:YE) (Q:Ev->Prop) (R:St->Hp->Prop),G.cl=cl->E3 X.K G ρ σ H fa->Rep X.K H v d B->(∀i,G.own i->∀a∈B,a∉fa i)->g d ρ Q ->
  (∀σ' ρ' fa',E3 X.K G ρ' σ' H fa'->(∀i,G.own i->fa' i=fa i/\σ'[i]?=σ[i]?)->(∀i,G.own i->ρ'[i]?=ρ[i]?)->Q ρ'->R σ' H)->t v σ H R
structure Kg(X:Cx)(cl:List Cl)(tgs:YH)(g:xw):Prop where
 of ::
 run:∃t,HS X tgs t/\∀(G:Ent) (ρ:Ev) (σ:St) (H:Hp) (fa:YO) (vs:List V) (ds:List D) (B:YE) (Q:Ev->Prop) (R:St->Hp->Prop),G.cl=cl->E3 X.K G ρ σ H fa->i9 X.K H vs ds B->(∀i,G.own i->∀a∈B,a∉fa i)->g ds ρ Q ->
  (∀σ' ρ' fa',E3 X.K G ρ' σ' H fa'->(∀i,G.own i->fa' i=fa i/\σ'[i]?=σ[i]?)->(∀i,G.own i->ρ'[i]?=ρ[i]?)->Q ρ'->R σ' H)->t vs σ H R
section
variable{X:Cx}{cl:List Cl}{tg e a b:Expr}{es:YH}{f:Fl}{pos pos':Pos}{ua ub:TU}{ma mb:TM}{x:Str}{i:Nat}
def g1(i:Nat):aH:=λd c Q=>Nat.blt i c.length=true/\Q (c.set i (some d))
theorem Hc(h:PG X (.Name x pos) (dt i))(l:cl[i]?=some .bor):zP X cl (.Name x pos) (g1 i):=.of<|by
 refine⟨_,h,λG y u H C v d B Q R p E r n q k=>?_⟩;have g:G.cl[i]?=some .bor:=by rwa[p]
 have no:¬G.own i:=λz=>by unfold Ent.own at z;rw[g] at z;cases z
 refine k _ _ _ (E.set (v1 q.1) r ⟨λj _ c a o=>n j c a o,by rw[g];trivial⟩) (λj c=>⟨tz λe=>no (by rwa[<-e]),wr λe=>no (by rwa[e])⟩) (λj c=>?_) q.2
 ·exact wr λe=>no (by rwa[e])
def N1:xw:=λd c Q=>match d with
 | []=>Q c
 | _=>False
def l4(g:aH)(gs:xw):xw:=λh j Q=>match h with
 | d::h=>g d j λc=>gs h c Q
 | _=>False
theorem aa:Kg X cl [] N1:=.of<|by
 refine⟨_,zI,λG d c H g vs h B Q R j E r n q k=>?_⟩
 cases h with
 | cons _ _=>exact(q).elim
 | nil=>
  cases r;exact⟨rfl,k c d g E (λ_ _=>⟨rfl,rfl⟩) (λ_ _=>rfl) q⟩
theorem u5(C:zP X cl e g)(z:Kg X cl es gs)(hs:(assignEach (e::es) X.env).map (·.2)=assign e X.env::(assignEach es X.env).map (·.2):=by rfl):Kg X cl (e::es) (l4 g gs):=.of<|by
 obtain⟨t1,p1,C⟩:=C.run;obtain⟨t2,p2,z⟩:=z.run;refine⟨_,eF p1 p2 hs,λG U T H fa vs M B Q R S E r n q k=>?_⟩
 cases M with
 | nil=>exact(q).elim
 | cons d M=>
  cases r with
  | cons r1 Y=>
   exact⟨_,_,rfl,C G U T H fa _ d _ _ _ S E r1 (λi c a y=>n i c a (vr _ y)) q λj o J E' v u q'=>z G o j H J _ M _ Q R S E' Y (λi c a y=>by rw[(v i c).1];exact n i c a (sw _ y)) q' λh l I E2 O p q2=>k h l I E2 (λi c=>⟨(O i c).1.trans (v i c).1,(O i c).2.trans (v i c).2⟩) (λi c=>(p i c).trans (u i c)) q2⟩
def gT(gs:xw):aH:=λd c Q=>match d with
 | .tup g=>gs g c Q
 | _=>False
theorem HS.len(h:HS X c t):True:=trivial
theorem dM(h:Kg X cl es gs)(o:∀ds c Q,gs ds c Q->ds.length=n)(mk:∀{t},HS X es t->PG X (.Tuple es k pos) (Qb X.K n t)):zP X cl (.Tuple es k pos) (gT gs):=.of<|by
 obtain⟨t,p,h⟩:=h.run;refine⟨_,mk p,λG c j H z v d B Q R y E r nn q l=>?_⟩;cases d<;>first | exact(q).elim | skip
 rename_i ds
 obtain⟨a,vs,rfl,u,g⟩:=J9 r;exact⟨a,vs,rfl,R6.of u,by rw[g.length];exact o ds c Q q,h G c j H z vs ds B Q R y E g nn q l⟩
structure Pe(g:aH)(body:g9)(xs:List D)(T:V3)(ρ:Ev):Prop where
 of ::
 ex:∃W:Nat->Ev->Prop,W 0 ρ/\(∀i d ρ,xs[i]?=some d->W i ρ->g d ρ λρ1=>body { nx:=W (i+1),rt:=T.rt,bk:=T.nx,ct:=W (i+1) } ρ1)/\∀ρ,W xs.length ρ->T.nx ρ
def N4(j:NG)(g:aH)(body:g9):g9:=λT d=>j d λh c=>Pe g body h T c
def frozen(G:Ent)(H:Hp)(C:YE):Ent:={ G with Z:=λa=>G.Z a\/a∈C\/(H a≠none/\¬eX (H a)),Hz:=H }
theorem E3.freeze(E:E3 K G g σ H d)(l:∀a∈C,H a≠none)(j:∀i,G.own i->∀a∈C,a∉d i):E3 K (frozen G H C) g σ H d:=
 ⟨E.rep,E.emp,E.len,E.nd,E.dj,E.par,E.old,E.new,E.frm,E.stb,λa _=>rfl,λa z=>by
  rcases z with z | z | z
  ·show H a≠none;rw[E.zk a z];exact E.zn a z
  ·exact l a z
  ·exact z.1,λi h a c z=>by
  rcases z with z | z | z
  ·exact E.zo i h a c z
  ·exact j i h a z c
  ·exact z.2 (E.eY i a c),⟨E.po.one,E.po.lk⟩⟩
theorem E3.Oa(E0:E3 K G d c l g)(E:E3 K (frozen G l C) h σ H j):E3 K G h σ H j:=
 ⟨E.rep,E.emp,E.len,E.nd,E.dj,E.par,E.old,E.new,E.frm,E.stb,λa z=>(E.zk a (.inl z)).trans (E0.zk a z),E0.zn,λi o a p z=>E.zo i o a p (.inl z),⟨E.po.one,E.po.lk⟩⟩
theorem D1(hi:Tr X cl tg l ui)(hg:zP X cl tg g)(hb:oC X cl body sb)
  (mk:∀{wi g tb},PI X tg l wi->PG X tg g->rQ X body tb->PS X (.For tg l body [] pos) (Ru wi g tb)):D7 X cl (.For tg l body [] pos) (N4 ui g sb):=.of<|by
 obtain⟨wi,pi,hi⟩:=hi.run;obtain⟨an,pg,hg⟩:=hg.run;obtain⟨tb,pb,hb⟩:=hb.run;refine⟨_,mk pi pg pb,λG T ρ σ H fa R hG E hu le=>hi G ρ σ H fa _ _ hG E hu λJ Q r C a5 ad E1 c1 it tr ap q=>?_⟩;have F1:=E1.freeze tr ap;obtain⟨W,w0,step,done⟩:=q.ex;refine⟨λi m I S=>m=r.length-i/\i<=r.length/\∃c p,E3 X.K (frozen G Q C) c I S p/\W i c,⟨r.length,by simp,v9 _,a5,ad,F1,w0⟩,?_⟩;rintro i m I S ⟨rfl,ao,c,p,U,q'⟩
 have tf:Tf Q S:=⟨λb ys h=>by
   rwa[U.zk b (.inr (.inr ⟨(by rw[h];intro z;cases z),(by rw[h];exactλz=>z)⟩))],λb o u h=>by
   rwa[U.zk b (.inr (.inr ⟨(by rw[h];intro z;cases z),(by rw[h];exactλz=>z)⟩))]⟩
 have kC:=λa ha=>U.zk a (.inr (.inl ha))
 by_cases Y:i<r.length
 ·right
  have ex:=nA Y;obtain⟨go,yl⟩:=(it S tf kC i).2 _ ex;refine⟨go,HH X.K (frozen G Q C) (W (i+1)),λam H2 hn=>?_,λy H2 hy=>?_⟩
  ·obtain⟨a4,ac,E2,q2⟩:=hn;exact⟨r.length-(i+1),by omega,rfl,Y,a4,ac,E2,q2⟩
  ·obtain⟨s2,B,rB,sB⟩:=yl y H2 hy;refine hg (frozen G Q C) c I H2 p y _ B _ _ hG (U.same s2) rB (λj hj a ha z=>U.zo j hj a z (.inr (.inl (sB.mem ha)))) (step i _ c ex q') λa2 a3 ab al _ _ q3=>hb (frozen G Q C) _ a3 a2 H2 ab _ hG al q3 ⟨λ_ _ h=>h,λv H3 h=>?_,λa1 H4 h=>?_,λ_ _ h=>h⟩
   ·obtain⟨d,M,a0,O,B5,E5,r5,n5,m5,l5,q5⟩:=h;exact le.rt v H3 ⟨d,M,a0,O,B5,E1.Oa E5,r5,n5,m5,l5,q5⟩
   ·obtain⟨M,O,E5,q5⟩:=h;exact le.nx a1 H4 ⟨M,O,E1.Oa E5,q5⟩
 ·have ei:i=r.length:=by omega
  subst ei
  left
  exact⟨(it S tf kC _).1 rfl,le.nx _ _ ⟨c,p,E1.Oa U,done c q'⟩⟩
def FY(j:uU)(body:g9):g9:=λT h=>∃W:Nat->Ev->Prop,(∃m,W m h)/\∀m h,W m h->j h λb d=>Br b (body { nx:=λc=>∃g,g<m/\W g c,rt:=T.rt,bk:=T.nx,ct:=λc=>∃g,g<m/\W g c } d) (T.nx d)
theorem Kk(hp:PassesOwn (model X.prog X.w) X.A X.env X.xe)(v:Qw X cl c M)(y:oC X cl body J):D7 X cl (.While c body [] pos) (FY M J):=.of<|by
 obtain⟨tc,pc,v⟩:=v.run;obtain⟨tb,pb,y⟩:=y.run;refine⟨_,HC hp pc pb,λG T U σ H fa R O E hu le=>?_⟩;obtain⟨W,⟨m0,w0⟩,step⟩:=hu;refine⟨λm r H'=>∃l C,E3 X.K G l r H' C/\W m l,⟨m0,U,fa,E,w0⟩,?_⟩;rintro m g H1 ⟨j,B,E1,w1⟩;refine v G j g H1 B _ _ O E1 (step m j w1) λb H2 d o Q c2 q=>?_
 cases b with
 | true=>
  refine⟨HH X.K G (λd=>∃p,p<m/\W p d),λS H3 h=>?_,y G _ d g H2 o _ O Q (q.t rfl) ⟨λ_ _ h=>h,le.rt,le.nx,λ_ _ h=>h⟩⟩;obtain⟨u,z,I,p,hm,Y⟩:=h;exact⟨p,hm,u,z,I,Y⟩
 | false=>exact le.nx _ _ ⟨d,o,Q,q.f rfl⟩
def U9(cap:YB)(c:Ev):Ev:=cap.map λo=>match o with
 | some j=>(c[j]?).join
 | none=>none
def B9(cap:YB):List Cl:=cap.map λ_=>.bor
theorem kB{p j:Nat}(h:cap[p]?=some (some j))(e:σ[j]?=some (some v)):(K9 cap σ)[p]?=some (some v):=by
 unfold K9;rw[sj,h];show some ((σ[j]?).join)=_;rw[e];rfl
theorem uJ{p:Nat}(h:(U9 cap c)[p]?=some (some d)):∃j,cap[p]?=some (some j)/\c[j]?=some (some d):=by
 unfold U9 at h;rw[sj] at h
 cases e:cap[p]? with
 | none=>rw[e] at h;cases h
 | some o=>
  rw[e] at h
  cases o with
  | none=>cases h
  | some j=>
   have h:some ((c[j]?).join)=some (some d):=h
   cases g:c[j]? with
   | none=>rw[g] at h;cases h
   | some o=>rw[g] at h;cases h;exact⟨j,rfl,g⟩
def eV(cap:YB)(c:Ev)(d:YO)(p:Nat):YE:=match (U9 cap c)[p]? with
 | some (some _)=>match cap[p]? with
  | some (some j)=>d j
  | _=>[]
 | _=>[]
def X9(cap:YB):Ent:=⟨λ_=>none,λ_=>[],[],B9 cap,λ_=>False,λ_=>none⟩
theorem G1(h:(X9 cap).own i):False:=by
 have h:(B9 cap)[i]?=some .own:=h;unfold B9 at h;rw[sj] at h
 cases e:cap[i]? with
 | none=>rw[e] at h;cases h
 | some o=>rw[e] at h;cases h
theorem uL(h:(X9 cap).cl[i]?=some .loc):False:=by
 have h:(B9 cap)[i]?=some .loc:=h;unfold B9 at h;rw[sj] at h
 cases e:cap[i]? with
 | none=>rw[e] at h;cases h
 | some o=>rw[e] at h;cases h
theorem Jr(h:(X9 cap).cl[i]?=some (.mk c)):False:=by
 have h:(B9 cap)[i]?=some (.mk c):=h;unfold B9 at h;rw[sj] at h
 cases e:cap[i]? with
 | none=>rw[e] at h;cases h
 | some o=>rw[e] at h;cases h
theorem E3.comp(cap:YB)(E:E3 K G c σ H g):E3 K (X9 cap) (U9 cap c) (K9 cap σ) H (eV cap c g):=by
 refine⟨λi d e=>?_,λi e=>?_,by unfold U9 K9;simp,λi h=>h.elim (λz=>(G1 z).elim) λz=>(uL z).elim,λi j _ h=>(G1 h).elim,λi _ h=>(G1 h).elim,λi _ h=>(G1 h).elim,λi h=>h.elim (λz=>(uL z).elim) λz=>(G1 z.1).elim,
  λa o h=>(nomatch h),⟨λb y h=>(nomatch h),λb o u h=>(nomatch h),λ_ _=>rfl⟩,λa z=>z.elim,λa z=>z.elim,λi h=>(G1 h).elim,⟨λi _ h=>(G1 h).elim,λj B h=>(Jr h).elim⟩⟩
 ·obtain⟨j,l,q⟩:=uJ e;obtain⟨v,p,r⟩:=E.rep j d q;refine⟨v,kB l p,?_⟩;unfold eV;rwa[e,l]
 ·unfold eV;split
  ·rename_i d h
   exact absurd h (e d)
  ·rfl
def um(g:aH)(tc:aN)(te:TU)(h:Ev):List D->List D->(List D->Prop)->Prop
 | [],c,Q=>Q c
 | x::l,c,Q=>g x h λj=>tc j λb=>Br b (te j λd=>um g tc te h l (c++[d]) Q) (um g tc te h l c Q)
def kU(cap:YB)(h:lX)(g:aH)(tc:aN)(te:TU):TU:=λc Q=>h c λd=>d.length<sizeLine/\um g tc te (U9 cap c) d [] λj=>Q (.lst j)
structure tY(X:Cx)(cl:List Cl)(es:YH)(u:aN):Prop where
 of ::
 run:∃t,xC X es t/\∀(G:Ent) (ρ:Ev) (σ:St) (H:Hp) (fa:YO) (Q:Bool->Prop) (R:Bool->Hp->Prop),G.cl=cl->E3 X.K G ρ σ H fa->u ρ Q ->
  (∀b H',e9 H H'->Q b->R b H')->t σ H R
def N5:aN:=λ_ Q=>Q true
theorem A8:tY X cl [] N5:=.of ⟨_,yL,λG g d H h Q R _ E c k=>k true H (e9.refl H) c⟩
theorem fP{tc:aN}(h:Q6 X cl e tc):tY X cl [e] tc:=.of<|let ⟨t,p,h⟩:=h.run;⟨t,Jg p,h⟩
theorem Vp
  (hg:∀(G:Ent) (I:Ev) (σ:St) (H:Hp) (O:YO) (v:V) (d:D) (B:YE) (Q:Ev->Prop) (R:St->Hp->Prop),G.cl=B9 cap->E3 K G I σ H O->Rep K H v d B->(∀i,G.own i->∀a∈B,a∉O i)->g3 d I Q ->
   (∀a2 a3 al,E3 K G a3 a2 H al->(∀i,G.own i->al i=O i/\a2[i]?=σ[i]?)->(∀i,G.own i->a3[i]?=I[i]?)->Q a3->R a2 H)->g v σ H R)
  (hc:∀(G:Ent) (I:Ev) (σ:St) (H:Hp) (O:YO) (Q:Bool->Prop) (R:Bool->Hp->Prop),G.cl=B9 cap->E3 K G I σ H O->a5 I Q->(∀b S,e9 H S->Q b->R b S)->tc σ H R)
  (he:∀(G:Ent) (I:Ev) (σ:St) (H:Hp) (O:YO) (Q:D->Prop) (R:VK),G.cl=B9 cap->E3 K G I σ H O->a4 I Q->(∀v S d B,e9 H S->Rep K S v d B->A3 G H O B .fresh->Q d->R v S)->te σ H R)
  (E:E3 K G I σ M O) (it:aJ K J xs C M) (tr:∀a∈C,M a≠none) (hn:xs.length<sizeLine) (q:um g3 a5 a4 (U9 cap I) xs [] Q)
  (k:∀d S ds B,e9 M S->Rep K S (.ref d) (.lst ds) B->B.Nodup->(∀a∈B,M a=none)->Q ds->R (.ref d) S):Tw J g tc te (K9 cap σ) R M:=by
 intro d hd
 refine⟨λi m H=>m=xs.length-i/\i<=xs.length/\e9 M H/\∃c ds B,H d=some (.lst c)/\c.length<=i/\i9 K H c ds B/\B.Nodup/\d∉B/\(∀a∈B,M a=none)/\um g3 a5 a4 (U9 cap I) (xs.drop i) ds Q,
  ⟨xs.length,by simp,v9 _,e9.i3 hd,[],[],[],c8,oT _,.nil,t5,(by simp),(λa r=>by cases r),q⟩,?_⟩
 rintro i m H ⟨rfl,ap,s1,c,ds,B,a1,b0,rs,nB,dB,hB,q⟩;have tf:Tf M H:=⟨λb ys h=>s1 _ _ h,λb o u h=>s1 _ _ h⟩
 have kC:∀a∈C,H a=M a:=λa r=>by
  obtain⟨o,eo⟩:=Option.ne_none_iff_exists'.mp (tr a r);rw[eo];exact s1 a o eo
 by_cases T:i<xs.length
 ·right
  obtain⟨go,yl⟩:=(it H tf kC i).2 _ (nA T);rw[AT T] at q;refine⟨go,λy H2 hy=>?_⟩;obtain⟨Y,By,rB,sB⟩:=yl y H2 hy;have E2:=(E.same (s1.trans Y)).comp cap;refine hg (X9 cap) _ _ H2 _ y _ By _ _ rfl E2 rB (λj hj=>(G1 hj).elim) q λab ac ad am _ _ q3=>hc (X9 cap) ac ab H2 ad _ _ rfl am q3 λb H3 U q4=>?_;have l:=U _ _ (Y _ _ a1)
  cases b with
  | false=>
   exact⟨xs.length-(i+1),by omega,rfl,T,(s1.trans Y).trans U,c,ds,B,l,by omega,(rs.same Y).same U,nB,dB,hB,q4.f rfl⟩
  | true=>
   refine he (X9 cap) ac ab H3 ad _ _ rfl (am.same U) (q4.t rfl) λv H4 dv Bv s4 rv fo q5=>?_;have p:H4 d=some (.lst c):=s4 _ _ l;have an:e9 M H4:=((s1.trans Y).trans U).trans s4;have a0:d∉Bv:=λz=>by rw[fo.2 d z] at l;cases l
   have st:X7 H4 (upd H4 d (.lst (c++[v]))):=⟨λb ys h=>by
     by_cases e:b=d
     ·subst e;rw[p] at h;cases h
     ·rw[i4 e];exact h,λb u w' h=>by
     by_cases e:b=d
     ·subst e;rw[p] at h;cases h
     ·rw[i4 e];exact h,λb h=>by
     by_cases e:b=d
     ·subst e;rw[c8] at h;cases h
     ·rw[i4 e] at h;exact h⟩
   have ao:=((rs.same Y).same U).same s4;refine⟨c,p,by omega,xs.length-(i+1),by omega,rfl,T,λb o e=>?_,c++[v],ds++[dv],B++(Bv++[]),c8,by rw[uk,C2];omega,?_,?_,?_,λa r=>?_,q5⟩
   ·rw[i4 (p9 e hd)];exact an _ _ e
   ·exact(ao.mono st λa r=>i4 λe=>dB (e▸r)).append (.cons (rv.mono st λa r=>i4 λe=>a0 (e▸r)) .nil)
   ·rw[ud];refine List.nodup_append.mpr ⟨nB,fo.1,λa r b hb e=>?_⟩;subst e;exact((rs.same Y).same U).there a r (fo.2 a hb)
   ·rw[ud];exactλz=>(List.mem_append.mp z).elim dB a0
   ·rw[ud] at r;rcases List.mem_append.mp r with z | z
    ·exact hB a z
    ·exact((s1.trans Y).trans U).free (fo.2 a z)
 ·have ei:i=xs.length:=by omega
  subst ei
  left
  rw[Wr] at q;refine⟨(it H tf kC _).1 rfl,k d H ds (d::B) s1 (.lst a1 rs) (List.nodup_cons.mpr ⟨dB,nB⟩) (λa r=>?_) q⟩;rcases List.mem_cons.mp r with z | z
  ·rw[z];exact hd
  ·exact hB a z
section
variable{XN N:YF}{XS scope:Scope}{cap:YB}{elt target iter:Expr}{ifs:YH}{ui:lX}{g3:aH}{tc3:aN}{te3:TU}
theorem R1(l:X4 XN N XS scope cap=true)(hN:X.N=XN)(hS:X.env.scope=XS)(hk:scope.kind=.function)(j:X.calm=true)(p:Y8 X cl target iter f ui)
  (u:∀c h s H,zP (A6 X N scope c h s H) (B9 cap) target g3) (y:∀c h s H,tY (A6 X N scope c h s H) (B9 cap) ifs tc3) (v:∀c h s H,PU (A6 X N scope c h s H) (B9 cap) elt .fresh te3)
  (hs:∀x,foldedSetIterable iter X.env x=pure x:=by intro _;rfl):PU X cl (.ListComp elt [⟨target,iter,ifs,0⟩] scope pos) .fresh (kU cap ui g3 tc3 te3):=.of<|by
 obtain⟨wi,T,p⟩:=p.run
 exact⟨_,OR    l hN hS hk j T
  (λc h s H=>(sg (u c h s H).run).1) (λc h s H=>(sg (y c h s H).run).1) (λc h s H=>(sg (v c h s H).run).1) hs,λG M I H fa Q R hG E Y k=>p G M I H fa _ _ hG E Y λJ H1 xs C s U tr fo q=>λc h o z=>Vp  (sg (u c h o z).run).2 (sg (y c h o z).run).2 (sg (v c h o z).run).2 (E.same s) U tr q.1 q.2 λd H2 ds B O r n1 n2 S=>k _ H2 _ B (s.trans O) r ⟨n1,λa ha=>s.free (n2 a ha)⟩ S⟩
theorem iG{j py:Pos}(S:X.N.Nodup)(v:X.N[i]?=some y)(hy:X.env.scope.names.lookup y=some .local)(O:Ah cl[i]? .fresh i=true)
  (o:X4 XN N XS scope cap=true) (hN:X.N=XN) (hS:X.env.scope=XS) (hk:scope.kind=.function) (l:X.calm=true) (z:Y8 X cl target iter f ui)
  (I:∀c h s H,zP (A6 X N scope c h s H) (B9 cap) target g3) (Q:∀c h s H,tY (A6 X N scope c h s H) (B9 cap) ifs tc3) (M:∀c h s H,PU (A6 X N scope c h s H) (B9 cap) elt .fresh te3)
  (u:swapsWith (.ListComp elt [⟨target,iter,ifs,0⟩] scope pos) (some (.Name y py)) j.line X.env=pure true:=by rfl)
  (hs:∀x,foldedSetIterable iter X.env x=pure x:=by intro _;rfl):D7 X cl (.Assign [.Name y py] (.ListComp elt [⟨target,iter,ifs,0⟩] scope pos) j) (o8 i (kU cap ui g3 tc3 te3)):=.of<|by
 obtain⟨wi,pi,z⟩:=z.run
 exact⟨_,mZ    S v hy o hN hS hk l pi
  (λc h s H=>(sg (I c h s H).run).1) (λc h s H=>(sg (Q c h s H).run).1) (λc h s H=>(sg (M c h s H).run).1) u hs,λG T ρ σ H fa R hG E hu le=>z G ρ σ H fa _ _ hG E hu λJ H1 xs C s it tr fo q=>λc h p U=>Vp  (sg (I c h p U).run).2 (sg (Q c h p U).run).2 (sg (M c h p U).run).2 (E.same s) it tr q.1 q.2 λd H2 ds B s2 r n1 n2 Y=>le.nx _ _ ⟨_,_,(E.same (s.trans s2)).set (v1 Y.1) r (cw.of (f:=.fresh) E ⟨n1,λa ha=>s.free (n2 a ha)⟩ (by rwa[hG])),Y.2⟩⟩
end
end
end L3
namespace L2
open PySem PySem.Spec PyProof.Rows
section
variable{X:Cx}
theorem gE:∀{bs:List Bool} {a:YG},Vals (bs.map V.bl) a->LSm.BoolsAre a bs
 | [],_,r=>by cases r;exact .nil
 | b::bs,_,r=>by
  cases r with
  | cons h t=>cases h;exact .cons b (gE t)
theorem Es(z:X.calm=true):J1 X (.builtin "all") (λxs H Q=>∃(p:Addr) (bs:List Bool),xs=[.ref p]/\G3 X.K H p (bs.map V.bl)/\Q (.bl (bs.all id)) H):=by
 intro g s C H xs E Q I r h;obtain⟨p,bs,rfl,x,q⟩:=h;obtain⟨u,rfl,o⟩:=vals1 r;cases o;obtain⟨a,rv,pl,J⟩:=I.list x;have d:=pl.isList;have j:=gE rv;have c:p<s.heap.objs.size:=by obtain⟨_,e,_⟩:=d;exact t9 e
 refine call_all_walk (WQ d (⟨s.heap.objs.size,[s.heap.objs.size,p],[s.heap.objs.size],a.toArray.size,_,_,λi=>(bs[i]?).getD true,rfl,Walks.list (A:=X.A.in1) (I.ok.hd z) _ p (u8 c) a.toArray,
  ⟨⟨_,t6 _ rfl,rfl,rfl⟩,d.push _⟩,λi v G O R B l=>?_,λM tk y=>?_⟩))
 ·obtain⟨b,e,rfl⟩:=j.get i v (by simpa using B);simp[e] at l;exact WP l
 ·have e:((List.range a.toArray.size).all λi=>(bs[i]?).getD true)=bs.all id:=by
   rw[t7,j.length];exact LSm.range_all bs
  rw[e];exact⟨.bl _,H,I.kept  (LSm.kept_iter y),rfl,q⟩
theorem jh:∀{bs:YF} {a:YG},Vals (bs.map V.str) a->StrsAre a bs
 | [],_,r=>by cases r;exact .nil
 | b::bs,_,r=>by
  cases r with
  | cons h t=>obtain⟨u,rfl⟩:=h;exact .cons b u (jh t)
def rJoin(K:YQ):V->List V->Hp->VK->Prop:=λx vs H Q=>∃z p a,x=.str z/\vs=[.ref p]/\G3 K H p (a.map V.str)/\(a.map (·.length)).sum+a.length*z.length<=16777216/\Q (.str (Txt.join z a)) H
theorem KW:Vl X "str.join" (rJoin X.K):=by
 intro a s j H x o v r Q I b c h;obtain⟨z,p,l,rfl,rfl,g,i,q⟩:=h;obtain⟨t,rfl⟩:=b;obtain⟨u,rfl,d⟩:=vals1 c;cases d;obtain⟨e,rv,pl,B⟩:=I.list g;exact join_list pl.isList (by simpa using jh rv) i λy k=>⟨.str _,H,I.tok _,⟨_,rfl⟩,q⟩
theorem Ia:O1 X (binaryOp .Mult) (λx y H Q=>∃z n,x=.str z/\y=.int n/\MulOk z n/\Q (.str (Txt.mul z n)) H):=by
 intro a s g H x y v u Q I d c h;obtain⟨z,n,rfl,rfl,e,q⟩:=h;obtain⟨t,rfl⟩:=d;obtain⟨b,rfl⟩:=c;exact SB.mul e λb k=>⟨.str _,H,I.tok _,⟨_,rfl⟩,q⟩
end
end L2
namespace L3
open PySem PySem.Spec L2
section
variable{X:Cx}{cl:List Cl}{e a b:Expr}{es:YH}{f:Fl}{pos:Pos}{ua ub:TU}{ma mb:TM}{fa fb:Fl}
def RF:List D->(D->Prop)->Prop:=λg Q=>∃(d:D) (c:List D) (bs:List Bool),g=[d]/\kindB false d=some c/\c=bs.map D.bl/\Q (.bl (bs.all id))
theorem i9.Ve:∀{bs:List Bool} {vs:List V} {A:YE},i9 K H vs (bs.map D.bl) A->vs=bs.map V.bl
 | [],_,_,r=>by cases r;rfl
 | b::bs,_,_,r=>by
  cases r with
  | cons h t=>rw[V9 h,t.Ve];rfl
theorem i9.strs:∀{bs:YF} {vs:List V} {A:YE},i9 K H vs (bs.map D.str) A->vs=bs.map V.str
 | [],_,_,r=>by cases r;rfl
 | b::bs,_,_,r=>by
  cases r with
  | cons h t=>rw[D4 h,t.strs];rfl
theorem ah(r:Rep K H v d A)(e:kindB false d=some xs):∃p vs B,v=.ref p/\G3 K H p vs/\i9 K H vs xs B/\B.Sublist A:=by
 cases d<;>first | cases e | skip
 ·obtain⟨p,vs,C,rfl,g,c,rfl⟩:=E8 r;exact⟨p,vs,C,rfl,G3.of g,c,Tk _ _⟩
 ·obtain⟨p,vs,rfl,g,c⟩:=fF r;exact⟨p,vs,A,rfl,g.sq,c,Wm _⟩
theorem RK:Call3 X (λxs H Q=>∃(p:Addr) (bs:List Bool),xs=[.ref p]/\G3 X.K H p (bs.map V.bl)/\Q (.bl (bs.all id)) H) RF:=by
 intro H vs l A Q R r q k;obtain⟨d,xs,bs,rfl,e,rfl,q⟩:=q;obtain⟨v,rfl,c⟩:=r.one;obtain⟨p,j,B,rfl,i,g,_⟩:=ah c e;cases g.Ve;exact⟨p,bs,rfl,i,k _ H _ _ (e9.refl H) .bl t5 (λ_ h=>(by cases h)) q⟩
def tyName:D->Option String
 | .p3=>some "NoneType"
 | .bl _=>some "bool"
 | .int _=>some "int"
 | .str _=>some "str"
 | .lst _=>some "list"
 | .tup _=>some "tuple"
 | .dic _=>some "dict"
 | _=>none
def KH(a T:String):Bool:=a == T||(a =="bool" && T =="int")
def wu:List String:=["int","bool","str","list","tuple","dict"]
def Py:List D->(D->Prop)->Prop:=λc Q=>∃d a T,c=[d,.ty T]/\tyName d=some a/\wu.contains T=true/\Q (.bl (KH a T))
theorem Lk (K:YQ) {a T:String} (c:["NoneType","bool","int","str","list","tuple","dict"].contains a=true) (d:wu.contains T=true):PySem.W.kitOne K (.type a) (.type T)=some (KH a T):=by
 have h:=by simpa using c
 have g:=by simpa[wu] using d
 rcases h with rfl | rfl | rfl | rfl | rfl | rfl | rfl<;>rcases g with rfl | rfl | rfl | rfl | rfl | rfl<;>first | rfl | decide +kernel
theorem RI(r:Rep K H v d A)(e:tyName d=some n):cG K H v (.type n)/\["NoneType","bool","int","str","list","tuple","dict"].contains n=true:=by
 cases r<;>first | (cases e;done) | skip
 ·cases e;exact⟨.p3,rfl⟩
 ·cases e;exact⟨.bl _,rfl⟩
 ·cases e;exact⟨.int _,rfl⟩
 ·cases e;exact⟨.str _,rfl⟩
 ·cases e;rename_i h _;exact⟨.tup h,rfl⟩
 ·cases e;rename_i h _;exact⟨.lst h,rfl⟩
 ·cases e;rename_i h _;exact⟨.dK (.inr ⟨_,h⟩),rfl⟩
theorem Ma:Call3 X (λxs H Q=>∃x c t cv b,xs=[x,c]/\RJ c=some cv/\cG X.K H x t/\PySem.W.kitOne X.K t cv=some b/\Q (.bl b) H) Py:=by
 intro H vs p A Q R r q k;obtain⟨d,n,T,rfl,e,o,q⟩:=q;obtain⟨v,w,B,C,rfl,l,j,_⟩:=r.two;cases j;obtain⟨i,g⟩:=RI l e;exact⟨_,_,_,_,_,rfl,rfl,i,Lk X.K g o,k _ H _ _ (e9.refl H) .bl t5 (λ_ h=>(by cases h)) q⟩
theorem LB(h:PE X (.Name x pos) (tC (.ty T))):PU X cl (.Name x pos) .fresh (uC (.ty T)):=.of ⟨_,h,λG g d H fa Q R _ E c k=>k _ H _ _ (e9.refl H) .ty (A3.nil _) c⟩
def Mu:D->D->(D->Prop)->Prop:=λd e Q=>∃(z:Str) (g:List D) (c:YF),d=.str z/\kindB false e=some g/\g=c.map D.str/\(c.map (·.length)).sum+c.length*z.length<=16777216/\Q (.str (Txt.join z c))
theorem JX{d e:D}(i:Rep X.K H v d A)(h:Rep X.K H w e B)(q:Mu d e Q)(k:∀y,Q (.str y)->R (.str y) H):rJoin X.K v [w] H R:=by
 obtain⟨z,r,c,rfl,o,rfl,l,q⟩:=q;cases D4 i;obtain⟨p,u,B,rfl,j,g,_⟩:=ah h o;cases g.strs;exact⟨z,p,c,rfl,rfl,j,l,k _ q⟩
def DN(ua ub:TU):TU:=λc Q=>ua c λx=>isStrD x=true/\ub c λy=>Mu x y Q
where isStrD
 | .str _=>true
 | _=>false
theorem Af(h:DN.isStrD d=true):∃z,d=.str z:=by
 cases d<;>first | exact⟨_,rfl⟩ | cases h
theorem Jb  (j:PU X cl a fa ua) (i:PU X cl b fb ub) (h:isStar b=false) (mk:∀{p t},PE X a p->PA X [b] t->PE X (.Call (.Attribute a "join" c) [b] [] pos) (UQ X.K "str" (rJoin X.K) p t)):PU X cl (.Call (.Attribute a "join" c) [b] [] pos) .fresh (DN ua ub):=.of<|by
 obtain⟨ta,S,j⟩:=j.run;obtain⟨tb,O,i⟩:=i.run;refine⟨_,mk S (bf O L8 h),λG o l H C Q R x E U k=>j G o l H C _ _ x E U λv H1 d A r u f1 g=>?_⟩;obtain⟨T,g⟩:=g;obtain⟨z,rfl⟩:=Af T;cases D4 u;exact⟨rfl,i G o l H1 C _ _ x (E.same r) g λw Y e B q I f2 M=>JX (u.same q) I M λy J=>k _ Y _ _ (r.trans q) .str (A3.nil _) J⟩
def RE:D->D->(D->Prop)->Prop
 | .str z,.int n,Q=>MulOk z n/\Q (.str (Txt.mul z n))
 | _,_,_=>False
theorem Oe:bR X (λx y H Q=>∃z n,x=.str z/\y=.int n/\MulOk z n/\Q (.str (Txt.mul z n)) H) RE:=by
 intro H v w d e A B Q R g c q k;cases d<;>cases e<;>first | exact q.elim | skip
 cases D4 g;cases w8 c;exact⟨_,_,rfl,rfl,q.1,k _ H _ _ (e9.refl H) .str t5 (λ_ h=>(by cases h)) q.2⟩
def UT:D->D->(D->Prop)->Prop
 | .lst d,.lst c,Q=>w6 d=true/\w6 c=true/\d.length+c.length<=sizeLine/\Q (.lst (d++c))
 | _,_,_=>False
theorem SQ:bR X NP UT:=by
 intro H v w d e A B Q R o j q k;cases d<;>cases e<;>first | exact q.elim | skip
 obtain⟨r,vs,M,rfl,E,g,_⟩:=E8 o;obtain⟨p,i,J,rfl,C,c,_⟩:=E8 j;obtain⟨x,u,y,q⟩:=q;have I:=g.D6 x;have G:=c.D6 u;subst I;subst G;refine⟨r,p,vs,i,rfl,rfl,E,C,by rwa[g.length,c.length],λl h=>k _ _ _ [l] (e9.i3 h) (.lst c8 ((g.same (e9.i3 h)).append (c.same (e9.i3 h)))) (by simp) (λa z=>?_) q⟩;have:=by simpa using z
 rwa[this]
def cutD(xs:List D)(lo c:Option Int):List D:=(xs.drop (HT.D9 xs.length 0 lo)).take (HT.D9 xs.length xs.length c-HT.D9 xs.length 0 lo)
abbrev OT:=Ev->(Option Int->Prop)->Prop
structure To(X:Cx)(cl:List Cl)(e:Option Expr)(u:OT):Prop where
 of ::
 run:∃t,PO X e t/\∀(G:Ent) (ρ:Ev) (σ:St) (H:Hp) (fa:YO) (Q:Option Int->Prop) (R:Option Int->Hp->Prop),G.cl=cl->E3 X.K G ρ σ H fa->u ρ Q->(∀o H',e9 H H'->Q o->R o H')->t σ H R
def gK:OT:=λ_ Q=>Q none
def aE(u:TU):OT:=λc Q=>u c λd=>match d with
 | .int i=>Q (some i)
 | _=>False
theorem Z0:To X cl none gK:=.of ⟨_,KR,λG g d H fa Q R _ E c k=>k none H (e9.refl H) c⟩
theorem R3(h:PU X cl e f ua):To X cl (some e) (aE ua):=.of<|by
 obtain⟨t,p,h⟩:=h.run;refine⟨_,Jc p,λG g c H fa Q R j E i k=>h G g c H fa _ _ j E i λv l d B s r _ q=>?_⟩;cases d<;>first | exact(q).elim | skip
 cases w8 r;exact⟨_,rfl,k _ l s q⟩
end
def P9:YB->Nat->List Cl
 | [],_=>[]
 | _::r,0=>.own::B9 r
 | _::r,p+1=>.bor::P9 r p
theorem oZ{q:Nat}(h:(B9 r)[q]?=some c):c=.bor:=by
 unfold B9 at h;rw[sj] at h
 cases e:r[q]? with
 | none=>rw[e] at h;cases h
 | some o=>rw[e] at h;cases h;rfl
theorem bB:∀{cap:YB} {p q:Nat},(P9 cap p)[q]?=some .own->q=p
 | [],_,_,h=>by simp[P9] at h
 | _::r,0,0,_=>rfl
 | _::r,0,q+1,h=>by
  exact nomatch oZ h
 | _::r,p+1,0,h=>by rw[] at h;cases h
 | _::r,p+1,q+1,h=>by
  rw[P9] at h;rw[bB h]
theorem sF:∀{cap:YB} {p q:Nat},(P9 cap p)[q]?=some .loc->False
 | [],_,_,h=>by simp[P9] at h
 | _::r,0,0,h=>by cases h
 | _::r,0,q+1,h=>by
  exact nomatch oZ h
 | _::r,p+1,0,h=>by rw[] at h;cases h
 | _::r,p+1,q+1,h=>by
  rw[P9] at h;exact sF h
theorem zw:∀{cap:YB} {p q:Nat} {a:Hp},(P9 cap p)[q]?=some (.mk a)->False
 | [],_,_,_,h=>by simp[P9] at h
 | _::r,0,0,_,h=>by cases h
 | _::r,0,q+1,_,h=>by
  exact nomatch oZ h
 | _::r,p+1,0,_,h=>by rw[] at h;cases h
 | _::r,p+1,q+1,_,h=>by
  rw[P9] at h;exact zw h
def lY(cap:YB)(p:Nat):Ent:=⟨λ_=>none,λ_=>[],[],P9 cap p,λ_=>False,λ_=>none⟩
theorem E3.Su(E:E3 K G g σ H y)(own:G.own j)(I:cap[p]?=some (some j))(O:∀q,cap[q]?=some (some j)->q=p):E3 K (lY cap p) (U9 cap g) (K9 cap σ) H (eV cap g y):=by
 have Q:∀a∈eV cap g y p,a∈y j:=λa c=>by
  unfold eV at c;split at c
  ·rwa[I] at c
  ·cases c
 refine⟨λi d e=>?_,λi e=>?_,by unfold U9 K9;simp,λi h=>?_,λi l n h a c=>?_,λi h=>absurd h (Wv _),λi h=>absurd h (Wv _),λi h a _=>rfl,
  λa o h=>(nomatch h),⟨λb T h=>(nomatch h),λb o u h=>(nomatch h),λ_ _=>rfl⟩,λa z=>z.elim,λa z=>z.elim,λi h a _ z=>z,⟨λi h=>absurd h (Wv _),λj U h=>(zw h).elim⟩⟩
 ·obtain⟨x,M,S⟩:=uJ e;obtain⟨v,R,r⟩:=E.rep x d S;refine⟨v,kB M R,?_⟩;unfold eV;rwa[e,M]
 ·unfold eV;split
  ·rename_i d h
   exact absurd h (e d)
  ·rfl
 ·rcases h with h | h
  ·have e:=bB h;subst e;unfold eV;split
   ·rw[I];exact E.nd j (.inl own)
   ·exact t5
  ·exact(sF h).elim
 ·have e:=bB h;subst e;have C:=Q a c;intro z;unfold eV at z;split at z
  ·split at z
   ·rename_i x B
    by_cases J:x=j
    ·subst J;exact n (O l B).symm
    ·exact E.dj j x (IN J) own a C z
   ·cases z
  ·cases z
def nQ(p j:Nat)(cap:YB)(g:aH)(tc:uU)(te:TM):List D->List D->Ev->(List D->Ev->Prop)->Prop
 | [],a,e,Q=>Q a e
 | x::o,a,e,Q=>g x (U9 cap e) λi=>tc i λb c=>Br b (te c λd h=>a6 p h λl=>nQ p j cap g tc te o (a++[d]) (e.set j (some l)) Q) (a6 p c λl=>nQ p j cap g tc te o a (e.set j (some l)) Q)
structure Jj(p j:Nat)(cap:YB)(g:aH)(tc:uU)(te:TM)(xs:List D)(ρ:Ev)(Q:List D->Ev->Prop):Prop where
 of ::
 ex:∃W:Nat->List D->Ev->Prop,W 0 [] ρ/\(∀i x acc ρ,xs[i]?=some x->W i acc ρ->g x (U9 cap ρ) λρ1=>tc ρ1 λb ρ2=>Br b (te ρ2 λd ρ3=>a6 p ρ3 λl=>W (i+1) (acc++[d]) (ρ.set j (some l))) (a6 p ρ2 λl=>W (i+1) acc (ρ.set j (some l))))/\∀acc ρ,W xs.length acc ρ->Q acc ρ
theorem Jj.go(h:nQ p j cap g tc te xs [] b Q):Jj p j cap g tc te xs b Q:=.of ⟨λi a b=>nQ p j cap g tc te (xs.drop i) a b Q,h,λi x a b e w=>by
  obtain⟨c,rfl⟩:=List.getElem?_eq_some_iff.mp e;have w:nQ p j cap g tc te (xs.drop i) a b Q:=w;rwa[AT c] at w,λa b w=>by
  have w:nQ p j cap g tc te (xs.drop xs.length) a b Q:=w;rwa[Wr] at w⟩
def Vj(p j:Nat)(cap:YB)(e:NG)(g:aH)(tc:uU)(te:TM):TM:=λd Q=>e d λc a=>c.length<sizeLine/\a6 j a λ_=>Jj p j cap g tc te c a λh b=>Q (.lst h) b
theorem He(E:E3 K G J σ H g)(own:G.own j)(hp:cap[p]?=some (some j))(hj:∃d,J[j]?=some (some d))(s:e9 H M)
  (Ei:E3 K (lY cap p) B x r u) (cf:∀a o,M a=some o->a∉g j->r a=some o) (cs:X7 M r) (cn:∀a∈u p,a∈g j\/M a=none) (Q:(lY cap p).own p) (O:x[p]?=(K9 cap σ)[p]?) (el:B[p]?=some (some l)) :
  E3 K G (J.set j (some l)) σ r (λq=>if q=j then u p else g q)/\R0 K G H g r (λq=>if q=j then u p else g q):=by
 obtain⟨d0,Y⟩:=hj;obtain⟨v,T,_⟩:=E.rep j d0 Y;have S:=(List.getElem?_eq_some_iff.mp Y).1;have new:=λa b=>(cn a b).imp id λy=>s.free y;have keep:=λa o h n=>cf a o (s a o h) n;have stb:=(X7.of s).trans cs
 have ch:R0 K G H g r (λq=>if q=j then u p else g q):=by
  refine⟨λa o h n=>keep a o h (n j own),stb,λi c a b=>?_,λi c=>tz λe=>c (by rwa[e])⟩
  by_cases q:i=j
  ·subst q;rw[t4 rfl] at b;exact new a b
  ·rw[tz q] at b;exact .inl b
 refine⟨E.step ch (by simp) (λi c=>wr λe=>c (by rwa[<-e])) (λi d' c e=>?_) (λi c e=>?_) (λi c=>?_) λi I n c a0 a b z=>?_,ch⟩
 ·by_cases q:i=j
  ·subst q;rw[v7 S] at e;cases e;obtain⟨v',X,r1⟩:=Ei.rep p l el;rw[O,kB hp T] at X;cases X;exact⟨v,T,by rwa[t4 rfl]⟩
  ·rw[wr (IN q)] at e;obtain⟨w,e2,R⟩:=E.rep i d' e;refine⟨w,e2,?_⟩;rw[tz q];refine R.mono stb λa b=>?_;obtain⟨o,U⟩:=eX.some (R.eY a b);rw[U];exact keep a o U λz=>E.dj i j q c a b z
 ·by_cases q:i=j
  ·subst q;exact absurd (v7 S) (e l)
  ·rw[tz q];exact E.emp i λd z=>e d (by rwa[wr (IN q)])
 ·by_cases q:i=j
  ·rw[t4 q];exact Ei.nd p (.inl Q)
  ·rw[tz q];exact E.nd i (.inl c)
 ·by_cases q:i=j
  ·rw[t4 q] at b;have C:I≠j:=λe=>n (q.trans e.symm);rw[tz C] at z;rcases new a b with y | y
   ·exact E.dj j I (IN C) own a y z
   ·exact E.there I z y
  ·rw[tz q] at b
   by_cases C:I=j
   ·rw[t4 C] at z;rcases new a z with y | y
    ·exact E.dj i j q c a b y
    ·exact E.there i b y
   ·rw[tz C] at z;exact E.dj i I n c a b z
theorem VA
  (own:G.own j) (hp:cap[p]?=some (some j)) (hq:∀q,cap[q]?=some (some j)->q=p) (a3:(lY cap p).own p) (bm:∃d,T[j]?=some (some d))
  (hg:∀(G:Ent) (T:Ev) (σ:St) (H:Hp) (S:YO) (v:V) (d:D) (B:YE) (Q:Ev->Prop) (R:St->Hp->Prop),G.cl=P9 cap p->E3 K G T σ H S->Rep K H v d B->(∀i,G.own i->∀a∈B,a∉S i)->g3 d T Q ->
   (∀an r c,E3 K G r an H c->(∀i,G.own i->c i=S i/\an[i]?=σ[i]?)->(∀i,G.own i->r[i]?=T[i]?)->Q r->R an H)->g v σ H R)
  (hc:∀(G:Ent) (T:Ev) (σ:St) (H:Hp) (S:YO) (Q:Bool->Ev->Prop) (R:Bool->Hp->Prop),G.cl=P9 cap p->E3 K G T σ H S->b3 T Q->(∀b Y r c,E3 K G r σ Y c->R0 K G H S Y c->Q b r->R b Y)->tc σ H R)
  (he:∀(G:Ent) (T:Ev) (σ:St) (H:Hp) (S:YO) (Q:D->Ev->Prop) (R:VK),G.cl=P9 cap p->E3 K G T σ H S->b2 T Q->(∀v Y d B r c,E3 K G r σ Y c->R0 K G H S Y c->Rep K Y v d B->B.Nodup->(∀a∈B,H a=none/\∀i,a∉c i)->Q d r->R v Y)->te σ H R)
  (E:E3 K G T σ X S) (it:aJ K J xs C X) (tr:∀a∈C,X a≠none) (ap:∀i,G.own i->∀a∈C,a∉S i) (hn:xs.length<sizeLine) (q:Jj p j cap g3 b3 b2 xs T Q)
  (k:∀d Y ds B r c,E3 K G r σ Y c->R0 K G X S Y c->Rep K Y (.ref d) (.lst ds) B->B.Nodup->(∀a∈B,X a=none/\∀i,a∉c i)->Q ds r->R (.ref d) Y):Tw J g tc te (K9 cap σ) R X:=by
 intro d hd;obtain⟨W,w0,step,done⟩:=q.ex;have E1:E3 K G T σ (upd X d (.lst [])) S:=E.same (e9.i3 hd)
 refine⟨λi m H=>m=xs.length-i/\i<=xs.length/\∃r c I ds B,E3 K G r σ H c/\R0 K G X S H c/\(∃d,r[j]?=some (some d))/\H d=some (.lst I)/\(∀q,d∉c q)/\I.length<=i/\i9 K H I ds B/\B.Nodup/\d∉B/\(∀a∈B,X a=none/\∀q,a∉c q)/\W i ds r,
  ⟨xs.length,by simp,v9 _,T,S,[],[],[],E1,R0.same (e9.i3 hd),bm,c8,λq z=>E.there q z hd,oT _,.nil,t5,(by simp),(λa x=>by cases x),w0⟩,?_⟩
 rintro i m H ⟨rfl,cj,r,c,I,ds,B,E',c',bn,O,a1,ck,rs,nB,dB,hB,q⟩;have tf:Tf X H:=c'.stb.tf
 have kC:∀a∈C,H a=X a:=λa x=>by
  obtain⟨o,eo⟩:=Option.ne_none_iff_exists'.mp (tr a x);rw[eo];exact c'.frm a o eo λi hi=>ap i hi a x
 by_cases a4:i<xs.length
 ·right
  obtain⟨go,yl⟩:=(it H tf kC i).2 _ (nA a4);refine⟨go,λy H2 hy=>?_⟩;obtain⟨s2,By,rB,sB⟩:=yl y H2 hy;have E2:=(E'.same s2).Su (cap:=cap) (p:=p) own hp hq
  have ad:∀a∈eV cap r c p,a∈c j:=λa x=>by
   unfold eV at x;split at x
   ·rw[hp] at x;exact x
   ·cases x
  refine hg (lY cap p) _ _ H2 _ y _ By _ _ rfl E2 rB (λl hl a x z=>?_) (step i _ ds r (nA a4) q) λa2 b9 b0 ce k3 ch q3=>?_
  ·have e:=bB hl;subst e;exact c'.apart tr ap j own a (sB.mem x) (ad a z)
  refine hc (lY cap p) b9 a2 H2 b0 _ _ rfl ce q3 λb H3 b8 c0 E4 c4 q4=>?_;have bi:∀i,(lY cap p).own i->i=p:=λi h=>bB h;obtain⟨d0,e0⟩:=bn
  have b7:eV cap r c p=c j:=by
   have:(U9 cap r)[p]?=some (some d0):=by
    unfold U9;rw[sj,hp];show some ((r[j]?).join)=_;rw[e0];rfl
   unfold eV;rw[this,hp]
  have f3:b0 p=c j:=(k3 p a3).1.trans b7;have b1:a2[p]?=(K9 cap σ)[p]?:=(k3 p a3).2
  have al:∀{U:Hp} {fi:YO} {ao:Ev} {l:D},E3 K (lY cap p) ao a2 U fi->R0 K (lY cap p) H2 b0 U fi->ao[p]?=some (some l) ->
    E3 K G (r.set j (some l)) σ U (λq=>if q=j then fi p else c q)/\R0 K G H c U (λq=>if q=j then fi p else c q):=λ{U fi ao l} Ei ci el=>
   He E' own hp ⟨d0,e0⟩ s2 Ei (λa o h n=>ci.frm a o h λi hi=>by rw[bi i hi,f3];exact n) ci.stb (λa x=>by rw[<-f3];exact ci.new p a3 a x) a3 b1 el
  have lj:j<r.length:=(List.getElem?_eq_some_iff.mp e0).1
  have ac:∀{fi:YO} {U:Hp} {X':Addr},R0 K G H c U (λq=>if q=j then fi p else c q)->H X'≠none->(∀q,X'∉c q)->∀q,X'∉(if q=j then fi p else c q):=λ{fi U X'} cc ht b4 q z=>by
   by_cases a0:q=j
   ·rcases cc.new j own X' (by rw[t4 rfl];rw[t4 a0] at z;exact z) with y | y
    ·exact b4 j y
    ·exact ht y
   ·rw[tz a0] at z;exact b4 q z
  cases b with
  | false=>
   rw[tz sK];obtain⟨l,el,q5⟩:=p5 (q4.f rfl);obtain⟨Eo,co⟩:=al E4 c4 el;have M:H3 d=some (.lst I):=co.frm d _ O λi _=>a1 i;refine⟨xs.length-(i+1),by omega,rfl,a4,_,_,I,ds,B,Eo,c'.trans co,⟨l,v7 lj⟩,M,ac co (by rw[O];intro z;cases z) a1,by omega,?_,nB,dB,λa x=>⟨(hB a x).1,ac co (rs.there a x) (hB a x).2⟩,q5⟩
   exact rs.mono co.stb λa x=>by
    obtain⟨o,eo⟩:=eX.some (rs.eY a x);rw[eo];exact co.frm a o eo λi _=>(hB a x).2 i
  | true=>
   rw[t4 rfl];refine he (lY cap p) b8 a2 H3 c0 _ _ rfl E4 (q4.t rfl) λv U dv Bv cf ab E5 c5 rv nv mv q5=>?_;obtain⟨l,el,q5⟩:=p5 q5;have ca:=c4.trans c5;obtain⟨Eo,co⟩:=al E5 ca el;have M:U d=some (.lst I):=co.frm d _ O λi _=>a1 i;have b5:=ac co (by rw[O];intro z;cases z) a1
   have bg:i9 K U I ds B:=rs.mono co.stb λa x=>by
    obtain⟨o,eo⟩:=eX.some (rs.eY a x);rw[eo];exact co.frm a o eo λi _=>(hB a x).2 i
   have bv:∀a∈B,X a=none/\∀q,a∉(if q=j then ab p else c q):=λa x=>⟨(hB a x).1,ac co (rs.there a x) (hB a x).2⟩
   have cd:∀a,H3 a=none->H a=none:=λa h=>s2.free (c4.stb.dom a h);have a5:∀a∈Bv,H a=none:=λa x=>cd a (mv a x).1
   have c3:∀a∈Bv,∀q,a∉(if q=j then ab p else c q):=λa x q z=>by
    by_cases a0:q=j
    ·rw[t4 a0] at z;exact(mv a x).2 p z
    ·rw[tz a0] at z;exact E'.there q z (a5 a x)
   have am:d∉Bv:=λz=>by rw[a5 d z] at O;cases O
   have st:X7 U (upd U d (.lst (I++[v]))):=⟨λb ys h=>by
     by_cases e:b=d
     ·subst e;rw[M] at h;cases h
     ·rw[i4 e];exact h,λb u w' h=>by
     by_cases e:b=d
     ·subst e;rw[M] at h;cases h
     ·rw[i4 e];exact h,λb h=>by
     by_cases e:b=d
     ·subst e;rw[c8] at h;cases h
     ·rw[i4 e] at h;exact h⟩
   have Ef:E3 K G (r.set j (some l)) σ (upd U d (.lst (I++[v]))) (λq=>if q=j then ab p else c q):=Eo.away (A:=[d]) st (λa o h n=>by rw[i4 (by simpa using n)];exact h)
    (λq a x=>by
     have:a=d:=by simpa using x
     rw[this];exact b5 q)
    (λa x=>by
     have:a=d:=by simpa using x
     rw[this];exact E.stb.dom d hd)
    λa x=>by
     have:a=d:=by simpa using x
     rw[this];exact E.qJ hd
   have b6:R0 K G X S (upd U d (.lst (I++[v]))) (λq=>if q=j then ab p else c q):=by
    have ct:=c'.trans co;exact⟨λa o h n=>by rw[i4 (p9 h hd)];exact ct.frm a o h n,ct.stb.trans st,ct.new,ct.bor⟩
   refine⟨I,M,by omega,xs.length-(i+1),by omega,rfl,a4,_,_,I++[v],ds++[dv],B++(Bv++[]),Ef,b6,⟨l,v7 lj⟩,c8,b5,by rw[uk,C2];omega,?_,?_,?_,λa x=>?_,q5⟩
   ·exact(bg.mono st λa x=>i4 λe=>dB (e▸x)).append (.cons (rv.mono st λa x=>i4 λe=>am (e▸x)) .nil)
   ·rw[ud];refine List.nodup_append.mpr ⟨nB,nv,λa x b hb e=>?_⟩;subst e;exact rs.there a x (a5 a hb)
   ·rw[ud];exactλz=>(List.mem_append.mp z).elim dB am
   ·rw[ud] at x;rcases List.mem_append.mp x with z | z
    ·exact bv a z
    ·exact⟨c'.stb.dom a (a5 a z),c3 a z⟩
 ·have ei:i=xs.length:=by omega
  subst ei
  left
  refine⟨(it H tf kC _).1 rfl,k d H ds (d::B) r c E' c' (.lst O rs) (List.nodup_cons.mpr ⟨dB,nB⟩) (λa x=>?_) (done ds r q)⟩;rcases List.mem_cons.mp x with z | z
  ·rw[z];exact⟨hd,a1⟩
  ·exact hB a z
structure SN(X:Cx)(cl:List Cl)(es:YH)(u:uU):Prop where
 of ::
 run:∃t,xC X es t/\∀(G:Ent) (ρ:Ev) (σ:St) (H:Hp) (fa:YO) (Q:Bool->Ev->Prop) (R:Bool->Hp->Prop),G.cl=cl->E3 X.K G ρ σ H fa->u ρ Q ->
  (∀b H' ρ' fa',E3 X.K G ρ' σ H' fa'->R0 X.K G H fa H' fa'->Q b ρ'->R b H')->t σ H R
section
variable{X:Cx}{cl:List Cl}{e:Expr}{pos:Pos}{XN N:YF}{XS scope:Scope}{cap:YB}{elt target iter:Expr}{ifs:YH}{ui:NG}{g3:aH}{tc3:uU}{te3:TM}
def RB:uU:=λa Q=>Q true a
theorem Le:SN X cl [] RB:=.of ⟨_,yL,λG a d H c Q R _ E b k=>k true H a c E R0.refl b⟩
def vw(cap:YB)(p j:Nat):Bool:=(cap[p]? == some (some j))&&(List.range cap.length).all λq=>cap[q]? != some (some j)||q == p
theorem Aq(h:vw cap p j=true):cap[p]?=some (some j)/\∀q,cap[q]?=some (some j)->q=p:=by
 unfold vw at h;rw[vc] at h;refine⟨by simpa using h.1,λq e=>?_⟩;have a:=(List.getElem?_eq_some_iff.mp e).1;have:=(List.all_eq_true.mp h.2) q (List.mem_range.mpr a);rw[e] at this;simpa using this
theorem Hy{h py:Pos}(p j:Nat)(U:X.N.Nodup)(z:X.N[i]?=some y)(hy:X.env.scope.names.lookup y=some .local)(Q:ai cl[i]? i=true)(hj:cl[j]?=some .own)(h1:vw cap p j=true)(h2:(P9 cap p)[p]?=some .own)
  (o:X4 XN N XS scope cap=true) (hN:X.N=XN) (hS:X.env.scope=XS) (hk:scope.kind=.function) (l:X.calm=true) (I:Tr X cl target iter ui)
  (M:∀c b s H,zP (A6 X N scope c b s H) (P9 cap p) target g3) (S:∀c b s H,SN (A6 X N scope c b s H) (P9 cap p) ifs tc3) (O:∀c b s H,PM (A6 X N scope c b s H) (P9 cap p) elt te3)
  (v:swapsWith (.ListComp elt [⟨target,iter,ifs,0⟩] scope pos) (some (.Name y py)) h.line X.env=pure true:=by rfl)
  (hs:∀x,foldedSetIterable iter X.env x=pure x:=by intro _;rfl):D7 X cl (.Assign [.Name y py] (.ListComp elt [⟨target,iter,ifs,0⟩] scope pos) h) (G0 i (Vj p j cap ui g3 tc3 te3)):=.of<|by
 obtain⟨wi,pi,I⟩:=I.run;obtain⟨hp,hq⟩:=Aq h1
 refine⟨_,mZ    U z hy o hN hS hk l pi
  (λc b s H=>(sg (M c b s H).run).1) (λc b s H=>(sg (S c b s H).run).1) (λc b s H=>(sg (O c b s H).run).1) v hs,λG T ρ σ H fa R Y E hu le=>?_⟩
 have own:G.own j:=by unfold Ent.own;rwa[Y]
 refine I G ρ σ H fa _ _ Y E hu λJ H1 xs C a1 a3 E1 c1 it tr ap q=>λc b u H'=>?_;obtain⟨d0,e0,q2⟩:=p5 q.2
 exact VA  own hp hq h2 ⟨d0,e0⟩ (sg (M c b u H').run).2 (sg (S c b u H').run).2 (sg (O c b u H').run).2 E1 it tr ap q.1 q2
  λd H2 ds B a0 a2 E2 c2 r n1 n2 q3=>le.nx _ _ ⟨_,_,E2.set (v1 q3.1) r (cw.new E2 E n1 (λa ha=>⟨c1.stb.dom a (n2 a ha).1,(n2 a ha).2⟩) (by rw[Y];exact U1 Q)),q3.2⟩
end
end L3
namespace L2
open PySem PySem.Spec PyProof.Rows
section
variable{κ:Type}[DecidableEq κ]
def aj(kvs:List (κ×V))(k:κ):Option V:=(kvs.find? λa=>decide (a.1=k)).map (·.2)
def putK(kvs:List (κ×V))(k:κ)(v:V):List (κ×V):=
 if (kvs.any λa=>decide (a.1=k))=true then kvs.map (λa=>if a.1=k then(a.1,v) else a) else kvs++[(k,v)]
def Mp(kvs:List (κ×V))(k:κ):List (κ×V):=kvs.filter λa=>decide (a.1≠k)
theorem bx{k:κ}(e:p.1=k):aj (p::r) k=some p.2:=by simp[aj,e]
theorem X1{k:κ}(e:¬p.1=k):aj (p::r) k=aj r k:=by simp[aj,e]
theorem rJ(k:κ):∀kvs:List (κ×V),(kvs.any λa=>decide (a.1=k))=(aj kvs k).isSome
 | []=>rfl
 | p::r=>by
  rw[VR]
  by_cases e:p.1=k
  ·simp[bx e,uy e]
  ·rw[X1 e,v5 e];exact rJ k r
theorem G5(kvs:List (κ×V))(k:κ)(v:V):(putK kvs k v).length<=kvs.length+1:=by
 unfold putK;split
 ·rw[dL];omega
 ·rw[uk,wf,List.length_nil];omega
theorem dA.Y7(r:dA o u):o.isSome=u.isSome:=by
 cases o with
 | none=>cases u with
  | none=>rfl
  | some _=>exact(r).elim
 | some _=>cases u with
  | none=>exact(r).elim
  | some _=>rfl
theorem dA.getD(r:dA o u)(a:RelV d d'):RelV (o.getD d) (u.getD d'):=by
 cases o with
 | none=>cases u with
  | none=>exact a
  | some _=>exact(r).elim
 | some _=>cases u with
  | none=>exact(r).elim
  | some _=>exact r
theorem KV.val(r:KV kvs vs)(k:κ):dA (aj kvs k) (valueAt vs k):=by
 induction r with
 | nil=>exact True.intro
 | @cons p q ps a h t g=>
  obtain⟨d,i⟩:=h
  by_cases e:p.1=k
  ·have c:=d.symm.trans e;have b:valueAt (q::a) k=some q.2:=by simp[valueAt,c]
   rwa[bx e,b]
  ·have c:¬q.1=k:=λz=>e (d.trans z);have b:valueAt (q::a) k=valueAt a k:=by simp[valueAt,c]
   rwa[X1 e,b]
theorem KV.any(r:KV kvs vs)(k:κ):(kvs.any λa=>decide (a.1=k))=vs.any λa=>decide (a.1=k):=by
 induction r with
 | nil=>rfl
 | cons h t b=>rw[VR,VR,b,h.1]
theorem KV.AA(r:KV kvs vs)(k:κ)(c:RelV y u) :
  KV (kvs.map λa=>if a.1=k then(a.1,y) else a) (vs.map λa=>if a.1=k then(a.1,u) else a):=by
 induction r with
 | nil=>exact .nil
 | @cons p q ps i h t d=>
  rw[t8,t8];refine .cons ?_ d;obtain⟨b,g⟩:=h
  by_cases e:p.1=k
  ·rw[t4 e,t4 (b.symm.trans e)];exact⟨b,c⟩
  ·rw[tz e,tz (λz=>e (b.trans z))];exact⟨b,g⟩
theorem KV.put(r:KV kvs vs)(k:κ)(a:RelV y u):KV (putK kvs k y) (stored vs k u):=by
 unfold putK stored;rw[r.any k]
 by_cases e:(vs.any λb=>decide (b.1=k))=true
 ·rw[t4 e,t4 e];exact r.AA k a
 ·rw[tz e,tz e];exact Paired.snoc r ⟨rfl,a⟩
theorem KV.drop(r:KV kvs vs)(k:κ):KV (Mp kvs k) (without vs k):=by
 unfold Mp without
 induction r with
 | nil=>exact .nil
 | @cons p q ps j h t d=>
  obtain⟨c,g⟩:=h;rw[Re,Re]
  by_cases e:p.1=k
  ·have a:¬decide (p.1≠k)=true:=by simp[e]
   have b:¬decide (q.1≠k)=true:=by simp[c.symm.trans e]
   rwa[tz a,tz b]
  ·have i:¬q.1=k:=λz=>e (c.trans z);have a:decide (p.1≠k)=true:=by simp[e]
   have b:decide (q.1≠k)=true:=by simp[i]
   rw[t4 a,t4 b];exact .cons ⟨c,g⟩ d
theorem KV.keys{vs:List (κ×Value)}(r:KV kvs vs):kvs.map (·.1)=vs.map (·.1):=by
 induction r with
 | nil=>rfl
 | cons h t a=>rw[t8,t8,a,h.1]
theorem KV.length{vs:List (κ×Value)}(r:KV kvs vs):kvs.length=vs.length:=XW r
end
theorem bj(r:RelV (kV k) u):(l3 P w).is k u=true:=by
 cases k with
 | inl i=>obtain⟨t,e⟩:=(r);subst e;exact tU P w i t
 | inr x=>obtain⟨t,e⟩:=(r);subst e;exact tq P w x t
theorem nT:∀{a:List Key} {b:YG},Vals (a.map kV) b->ItemsAre (l3 P w) a b
 | [],_,r=>by cases r;exact .nil
 | k::a,_,r=>by
  cases r with
  | cons h t=>exact .cons (bj h) (nT t)
abbrev KT(H:Hp):List (List Key×V)->List (List Key×Addr×Value)->Prop:=Paired λp q=>p.1=q.1/\H q.2.1=some (.tup (p.1.map kV))/\RelV p.2 q.2.2
theorem KT.val(r:KT H kvs xs)(k:List Key):dA (aj kvs k) ((atKey xs k).map (·.2)):=by
 induction r with
 | nil=>exact True.intro
 | @cons p q ps a h t g=>
  obtain⟨d,_,i⟩:=h
  by_cases e:p.1=k
  ·have c:=d.symm.trans e;have b:atKey (q::a) k=some q.2:=by simp[atKey,c]
   rwa[bx e,b]
  ·have c:¬q.1=k:=λz=>e (d.trans z);have b:atKey (q::a) k=atKey a k:=by simp[atKey,c]
   rwa[X1 e,b]
theorem KT.AA(r:KT H kvs xs)(k:List Key)(d:RelV y u) :
  KT H (kvs.map λb=>if b.1=k then(b.1,y) else b) (xs.map (putAt k u)):=by
 induction r with
 | nil=>exact .nil
 | @cons p q ps j h t g=>
  rw[t8];refine .cons ?_ g;obtain⟨a,c,i⟩:=h;unfold putAt
  by_cases e:p.1=k
  ·rw[t4 e,t4 (a.symm.trans e)];exact⟨a,c,d⟩
  ·rw[tz e,tz (λz=>e (a.trans z))];exact⟨a,c,i⟩
theorem KT.put(r:KT H kvs xs)(k:List Key)(d:H b=some (.tup (k.map kV)))(a:RelV y u) :
  KT H (putK kvs k y) (storedH xs k b u):=by
 have e:(kvs.any λc=>decide (c.1=k))=(atKey xs k).isSome:=by
  rw[rJ,(r.val k).Y7,W1]
 unfold putK storedH;rw[e]
 by_cases q:(atKey xs k).isSome=true
 ·rw[t4 q,t4 q];exact r.AA k a
 ·rw[tz q,tz q];exact Paired.snoc r ⟨rfl,d,a⟩
theorem KT.keeps(r:KT H kvs xs)(d:∀b a,H b=some (.tup a)->c b=some (.tup a)):KT c kvs xs:=
 Paired.Nc r λ_ _ z=>⟨z.1,d _ _ z.2.1,z.2.2⟩
section
variable{P:Program}{w:World}{H:Hp}{h:Heap}{a:Addr}
theorem RA(ok:bX P w H h)(e:Rd H a u):p8 P w H h a u:=e.ok ok
def Nn(H:Hp)(a:Addr)(kvs:List (Key×V)):Prop:=Rd H a (.dK kvs)\/∃b,H a=some (.dE kvs b)
theorem Nn.of(r:Dd H a kvs):Nn H a kvs:=r.elim (λh=>.inl (.inl h)) .inr
theorem Nn.ok(r:Nn H a kvs)(x:bX P w H h):p8 P w H h a (.dK kvs):=r.elim (λh=>h.ok x) λh=>(show Dd H a kvs from .inr h).ok x
theorem bW(ok:bX P w H h)(e:Nn H a kvs):kvs.length<=sizeLine/\(a == sysModules)=false/\∃vs,KV kvs vs/\h.DictOf (l3 P w) a vs:=
 e.ok ok
theorem FT(ok:bX P w H h)(e:H a=some (.dK kvs)):kvs.length<=sizeLine/\(a == sysModules)=false/\∃vs,KV kvs vs/\h.DictOf (l3 P w) a vs:=bW ok (.inl (.inl e))
theorem fQ(ok:bX P w H h)(e:H a=some (.tup (b.map kV))):(tupleKind (l3 P w)).is h b a:=by
 obtain⟨_,c,r,o,i,g,n,d⟩:=(ok a _ e)
 exact⟨o,c.toArray,n,i,g,d,by simpa using nT r⟩
theorem iW(ok:bX P w H h)(e:Rd H a (.dT kvs)):kvs.length<=sizeLine/\(a == sysModules)=false /\
  ∃xs,KT H kvs xs/\h.DictOfH (tupleKind (l3 P w)) a xs:=by
 obtain⟨z,y,xs,r,o,B,C,v,u,j,i,g⟩:=(RA ok e)
 refine⟨z,y,xs,r,o,B,C,v,u,j,i,λx b=>?_,g⟩
 have all:∀{l:List (List Key×V)} {m:List (List Key×Addr×Value)},KT H l m->∀x∈m,(tupleKind (l3 P w)).is h x.1 x.2.1:=by
  intro l m q
  induction q with
  | nil=>intro x b;exact nomatch b
  | @cons p q ps E c t d=>
   intro x b;rcases List.mem_cons.mp b with e | b
   ·subst e;exact fQ ok (by rw[<-c.1];exact c.2.1)
   ·exact d x b
 exact all r x b
theorem RX(ok:bX P w H h)(e:H a=some (.dT kvs)):kvs.length<=sizeLine/\(a == sysModules)=false /\
  ∃xs,KT H kvs xs/\h.DictOfH (tupleKind (l3 P w)) a xs:=iW ok (.inl e)
end
def Z3(H:Hp)(a:Addr)(y:V)(r:Option V):Prop:=
 (∃c k,Nn H a c/\y=kV k/\r=aj c k)\/∃c k b,Rd H a (.dT c)/\y=.ref b/\H b=some (.tup (k.map kV))/\r=aj c k
def pe(H:Hp)(a:Addr)(y v:V)(d:Hp):Prop:=
 (∃c k,Dd H a c/\y=kV k/\c.length<sizeLine/\d=upd H a (.dK (putK c k v))) \/
 ∃c k b,H a=some (.dT c)/\y=.ref b/\H b=some (.tup (k.map kV))/\c.length<sizeLine/\d=upd H a (.dT (putK c k v))
theorem Z3.k{k:Key}(e:Dd H a kvs):Z3 H a (kV k) (aj kvs k):=.inl ⟨kvs,k,.of e,rfl,rfl⟩
theorem Z3.t{k:List Key}(e:H a=some (.dT kvs))(c:H b=some (.tup (k.map kV))):Z3 H a (.ref b) (aj kvs k):=.inr ⟨kvs,k,b,.inl e,rfl,c,rfl⟩
theorem pe.k{k:Key}(e:Dd H a kvs)(b:kvs.length<sizeLine):pe H a (kV k) v (upd H a (.dK (putK kvs k v))):=.inl ⟨kvs,k,e,rfl,b,rfl⟩
theorem pe.t{k:List Key}(e:H a=some (.dT kvs))(d:H b=some (.tup (k.map kV)))(c:kvs.length<sizeLine) :
  pe H a (.ref b) v (upd H a (.dT (putK kvs k v))):=.inr ⟨kvs,k,b,e,rfl,d,c,rfl⟩
section
variable{X:Cx}{pins:YA}{σ:St}{H:Hp}{s:Shared}{a:Addr}{y v:V}{u r:Value}{o:Option V}{A:Around}{E:YN}
theorem Inv.big(I:Inv X pins σ H s):sysModules<s.heap.objs.size:=by
 have h:=(I.mod.glob.keeps I.bk).lt;exact Nat.lt_trans (by decide) h
theorem oh{Q:YN}(M:A.units+1<cLine)(I:Inv X pins σ H s)(g:Z3 H a y (some v))(G:RelV y u)(h:∀i C,Inv X pins σ H C->RelV v i->Q i C) :
  wpAny (model X.prog X.w) A (getItem (.ref a) u) Q E s:=by
 rcases g with⟨j,k,e,x,l⟩ | ⟨j,k,b,e,x,R,l⟩
 ·subst x;obtain⟨z,hd,vs,d,B⟩:=bW I.hok e;obtain⟨i,hw,c⟩:=dA.some_of   (by rw[l];exact d.val k);exact wpAny_getItem_of (bj G) B.mapOf hw (h i _ (I.tok _) c)
 ·subst x;cases(G);obtain⟨z,hd,J,d,B⟩:=iW I.hok e;obtain⟨i,hw,c⟩:=dA.some_of   (by rw[l];exact d.val k);obtain⟨p,O,q⟩:=Option.map_eq_some_iff.mp hw;refine wpAny_getItem_heap (WK M) (fQ I.hok R) B O ?_;rw[q];exact h i _ (I.tok _) c
theorem UO{Q:YN}(B:A.units+1<cLine)(I:Inv X pins σ H s)(g:Z3 H a y o)(x:RelV y u)(h:∀p,Inv X pins σ H p->Q (.bool o.isSome) p) :
  wpAny (model X.prog X.w) A (compareOp .In u (.ref a)) Q E s:=by
 rcases g with⟨d,k,e,i,l⟩ | ⟨d,k,b,e,i,C,l⟩
 ·subst i;obtain⟨z,hd,vs,c,j⟩:=bW I.hok e;refine wpAny_in_of (bj x) hd j.mapOf ?_;rw[<-(c.val k).Y7,<-l];exact h _ (I.tok _)
 ·subst i;cases(x);obtain⟨z,hd,G,c,j⟩:=iW I.hok e;refine wpAny_in_heap (WK B) (fQ I.hok C) hd j ?_;have q:=(c.val k).Y7;rw[W1] at q;rw[<-q,<-l];exact h _ (I.tok _)
theorem Ig{Q:YN}(B:A.units+1<cLine)(I:Inv X pins σ H s)(g:Z3 H a y o)(x:RelV y u)(h:∀p,Inv X pins σ H p->Q (.bool (!o.isSome)) p) :
  wpAny (model X.prog X.w) A (compareOp .NotIn u (.ref a)) Q E s:=by
 rcases g with⟨d,k,e,i,l⟩ | ⟨d,k,b,e,i,C,l⟩
 ·subst i;obtain⟨z,hd,vs,c,j⟩:=bW I.hok e;refine wpAny_notIn_of (bj x) hd j.mapOf ?_;rw[<-(c.val k).Y7,<-l];exact h _ (I.tok _)
 ·subst i;cases(x);obtain⟨z,hd,G,c,j⟩:=iW I.hok e;refine wpAny_notIn_heap (WK B) (fQ I.hok C) hd j ?_;have q:=(c.val k).Y7;rw[W1] at q;rw[<-q,<-l];exact h _ (I.tok _)
theorem dw(I:Inv X pins σ H s)(c:eX (H a))(d:Heap.SameBut a s.heap h')(g:∃q,h'.get? a=some q)(new:p8 X.prog X.w (upd H a ob) h' a ob) :
  Inv X pins σ (upd H a ob) { s with heap:=h',toks:=t' }:=
 I.write   c (.inl rfl) (λb q h z=>(d.2 b h).trans z) g new
theorem pG(z:kvs.length<=sizeLine)(hd:(a == sysModules)=false)(b:KV kvs vs)(c:h'.DictOf (l3 P w) a vs) :
  p8 P w d h' a (.dK kvs):=⟨z,hd,vs,b,c⟩
theorem Inv.GH(I:Inv X pins σ H s)(e:H a=some (.dK kvs)):∃ep,Inv X pins σ (upd H a (.dE kvs ep)) s:=by
 obtain⟨z,hd,vs,c,d⟩:=FT I.hok e;obtain⟨ep,h⟩:=d.dictAt;exact⟨ep,I.write      (by rw[e];exact True.intro) (.inl rfl) (λb q i z=>z) (let ⟨q,_,_,g,_⟩:=d;⟨q,g⟩) ⟨z,hd,vs,c,h⟩⟩
theorem mL(hu:A.units+1<cLine)(I:Inv X pins σ H s)(g:pe H a y v Y)(R:RelV y u)(rv:RelV v r)(h:∀O,Inv X pins σ Y O->Q () O) :
  wpAny (model X.prog X.w) A (setItem (.ref a) u r) Q E s:=by
 rcases g with⟨i,k,e,G,l,J⟩ | ⟨i,k,b,e,G,U,l,J⟩
 ·subst G J;obtain⟨z,hd,vs,d,M⟩:=bW I.hok (.of e);have x:vs.length<=sizeLine:=by rwa[<-d.length]
  have C:(putK i k v).length<=sizeLine:=by have:=G5 i k v;omega
  refine wpAny_setItem_pairs  (bj R) M λS j B=>h _ ?_;have he:∃q,S.get? a=some q:=let ⟨q,_,_,p,_⟩:=j;⟨q,p⟩;exact dw I e.mut B he (pG C hd (d.put k rv) j)
 ·subst G J;cases(R);obtain⟨z,hd,xs,d,M⟩:=RX I.hok e;have x:xs.length<=sizeLine:=by rwa[<-XW d]
  have C:(putK i k v).length<=sizeLine:=by have:=G5 i k v;omega
  refine wpAny_setItem_heap  (WK hu) (fQ I.hok U) M λS j B=>h _ ?_;obtain⟨q,es,ep,p,h2,h3,h4,_,h5⟩:=j;refine dw I (by rw[e];exact True.intro) B ⟨q,p⟩ ⟨C,hd,_,(d.put k U rv).keeps λc ys T=>?_,q,es,ep,p,h2,h3,h4,h5⟩;rwa[i4 (sJ T e (λz=>nomatch z))]
end
section
variable{X:Cx}{pins:YA}{σ:St}{H:Hp}{s:Shared}{a:Addr}{kvs:List (Key×V)}{k:Key}{u:Value}{A:Around}{E:YN}
end
theorem qp{σ:St}(I:Inv X pins σ H s)(g:Z3 H a y o):s.TypeIs (.ref a) "dict":=by
 rcases g with⟨c,k,e,_,_⟩ | ⟨c,k,b,e,_,_,_⟩
 ·obtain⟨_,_,vs,_,d⟩:=bW I.hok e;exact d.typeIs
 ·obtain⟨_,_,h,_,d⟩:=iW I.hok e;exact d.typeIs
def RV(e ty d:TE):TS:=λD b H=>d b H λv i=>e b i λx h=>ty b h λy g=>∃a c,x=.ref a/\pe g a y v c/\D.nx b c
def Ra(h ty g:TE)(i:V->V->Hp->VK->Prop):TS:=λD b H=>h b H λx o=>ty b o λy d=>∃a v,x=.ref a/\Z3 d a y (some v) /\
 g b d λe l=>i v e l λz j=>∃c,pe j a y z c/\D.nx b c
section
variable{X:Cx}{o i e value:Expr}{pos pos' tpos:Pos}{td ty tv:TE}
theorem Kf(E:X.A.units+1<cLine)(J:PE X o td)(M:PE X i ty)(C:PE X value tv)(G:swapsWith value (some (.Subscript o i pos')) pos.line X.env=pure false) :
  PS X (.Assign [.Subscript o i pos'] value pos) (RV td ty tv):=by
 refine .of ?_;intro b s c H D I h;refine wpAny_Assign_Subscript (x4 (C b s c H _ I h) λr j ⟨v,Y,S,rv,B⟩=>x4 (J b j c Y _ S B) λu d ⟨x,U,R,p,z⟩=>x4 (M b d c U _ R z) λiv s3 ⟨y,H3,Q,l,a,T,ex,g,q⟩=>?_) G;subst ex;obtain rfl:u=Value.ref a:=p;exact mL E Q g l rv λs4 O=>⟨c,T,O,q⟩
theorem KC(E:X.A.units+1<cLine)(ho:PE X o td)(hi:PE X i ty)(hv:PE X value tv)(q:UP X C B)
  (ha:∀j d new,augStore i j d new=(do holding [new,j,d] (setItem j d new);release [new,j,d] [];pure .next)):PS X (.AugAssign (.Subscript o i tpos) C value pos) (Ra td ty tv B):=by
 refine .of ?_;intro b s c H D I h;refine wpAny_AugAssign_SubscriptAny (x4 (ho b s c H _ I h) λu R ⟨x,H1,I1,T,q1⟩=>x4 (hi b R c H1 _ I1 q1) λd s2 ⟨y,H2,I2,r,a,v,ex,g,q2⟩=>?_) ha;subst ex;obtain rfl:u=Value.ref a:=T;exact oh E I2 g r λM Q I3 p=>x4 (hv b Q c H2 _ I3 q2) λJ O ⟨G,H3,I4,l,Y⟩=>x4 (q b O c H3 v G M J _ I4 p l Y) λw3 s5 ⟨z,H4,I5,S,H5,g5,U⟩=>mL E I5 g5 r S λs6 I6=>⟨c,H5,I6,U⟩
end
theorem dS(h:Heap)(a:sysModules<h.objs.size):p8 P w H (h.push { cls:=.type "dict",data:=.dict #[] }) h.objs.size (.dK []):=
 ⟨v9 _,beq_eq_false_iff_ne.mpr (IN (u8 a)),[],.nil,Heap.DictOf.new h⟩
def NA:TE:=λ_ H Q=>∀p,H p=none->Q (.ref p) (upd H p (.dK []))
section
variable{X:Cx}{pos:Pos}
theorem FL:PE X (.Dict [] [] pos) NA:=.of <| λb s c H Q I h=>
 wpAny_Dict_empty ⟨.ref s.heap.objs.size,_,I.laid    (λ_ _ q=>hD _ q) (oT _) (dS s.heap I.big),rfl,h _ (I.hok.fresh (oT _))⟩
end
def F0(kvs more:List (Key×V)):List (Key×V):=more.foldl (λa b=>putK a b.1 b.2) kvs
theorem bV:∀(more kvs:List (Key×V)),(F0 kvs more).length<=kvs.length+more.length
 | [],kvs=>by show kvs.length<=kvs.length+0;omega
 | p::r,kvs=>by
  have b:=bV r (putK kvs p.1 p.2);have a:=G5 kvs p.1 p.2;show(F0 (putK kvs p.1 p.2) r).length<=_;rw[wf];omega
structure M2(X:Cx)(o:Expr)(m:Str)(apos:Pos)(e f:Expr)(cpos:Pos):Prop where
 base:attributeBase o m X.env (eval o X.env)=eval o X.env
 few:((backTo cpos (starEach [e,f] X.env)).all (λx=>!x.1)&&(backToKw cpos (keywordEach [] X.env)).all (λx=>x.1.isSome)
  && decide (([e,f]:YH).length+([]:List Keyword).length+(if ([]:List Keyword).isEmpty then 0 else 1)<30))=true
 line:(apos.endLine == cpos.line)=true
 trees:backTo cpos (starEach [e,f] X.env)=[(false,eval e X.env),(false,eval f X.env)]
def Vr(H:Hp)(a:Addr):Prop:=(∃b,Nn H a b)\/∃b,Rd H a (.dT b)
theorem PH{σ:St}(I:Inv X pins σ H s)(d:Vr H a) :
  s.TypeIs (.ref a) "dict" /\ (∀b,Value.ref a=.ref b->∃ob,s.heap.get? b=some ob/\ob.dict=none)/\(a == sysModules)=false:=by
 rcases d with⟨g,e⟩ | ⟨g,e⟩
 ·obtain⟨_,hd,vs,_,c⟩:=bW I.hok e;refine⟨c.typeIs,λb q=>?_,hd⟩;cases q;obtain⟨ob,_,_,i,h,_⟩:=c;exact⟨ob,i,h.2.1⟩
 ·obtain⟨_,hd,j,_,c⟩:=iW I.hok e;refine⟨c.typeIs,λb q=>?_,hd⟩;cases q;obtain⟨ob,_,_,i,h,_⟩:=c;exact⟨ob,i,h.2.1⟩
section
variable{X:Cx}{pins:YA}{σ:St}{H:Hp}{s:Shared}{a:Addr}{y d:V}{u r:Value}{o:Option V}{A:Around}{E:YN}
theorem NS{Q:YN}(G:A.units+1<cLine)(I:Inv X pins σ H s)(g:Z3 H a y o)(x:RelV y u)(B:RelV d r)(h:∀q v,Inv X pins σ H v->RelV (o.getD d) q->Q q v) :
  wpAny (model X.prog X.w) A (call (.builtin "dict.get") [.ref a,u,r]) Q E s:=by
 rcases g with⟨j,k,e,p,l⟩ | ⟨j,k,b,e,p,J,l⟩
 ·subst p;obtain⟨z,hd,vs,c,i⟩:=bW I.hok e;refine Yl TD i.typeIs WA (Wx _ _ _) (Xu (l3 X.prog X.w) a (bj x) hd r) ⟨_,i.mapOf,h _ _ (I.tok _) ?_⟩;rw[l];exact(c.val k).getD B
 ·subst p;cases(x);obtain⟨z,hd,C,c,i⟩:=iW I.hok e;refine Yl TD i.typeIs WA (Wx _ _ _) (meetsH_dict_get_default (tupleKind (l3 X.prog X.w)) a b hd r) ⟨WK G,k,C,fQ I.hok J,i,h _ _ (I.tok _) ?_⟩;rw[l];exact(c.val k).getD B
end
section
variable{X:Cx}{o e f:Expr}{apos cpos:Pos}{td ty tx:TE}
end
section
variable{X:Cx}{pins:YA}{σ:St}{H:Hp}{s:Shared}{a:Addr}{kvs:List (Key×V)}{A:Around}{E:YN}
end
section
variable{X:Cx}{pins:YA}{σ:St}{H:Hp}{s:Shared}{a:Addr}{y:V}{u:Value}{A:Around}{E:YN}
end
section
variable{X:Cx}
end
section
variable{κ:Type}[DecidableEq κ]
end
theorem OD{h:Heap}{f:Key->YR}(m:h.MapOf (l3 P w) a f):h.MapOf (bw P w) a (λk=>k.bind f):=by
 obtain⟨o,d,u,r,p,l,g,j⟩:=m;refine⟨o,d,u,r,p,l,λe c=>?_,λk=>?_⟩
 ·obtain⟨k,b,v⟩:=g e c;exact⟨some k,b,v⟩
 ·cases k with
  | some k=>exact j k
  | none=>
   have no:∀e∈d,iX none e.key=false:=λe c=>by
    cases q:iX none e.key with
    | false=>rfl
    | true=>
     obtain⟨k,b,_⟩:=g e c;rw[B8 q] at b;rcases o7 (b) with⟨i,t,_,e⟩ | ⟨x,t,_,e⟩<;>cases e
   unfold findBy;simp;exact no
def DT(H:Hp)(a:Addr)(y:V)(r:Option V):Prop:=Z3 H a y r\/(y=.p3/\(∃b,Dd H a b)/\r=none)
def JK(g ty e:TE):TE:=λb H Q=>g b H λx d=>∃a,x=.ref a/\Vr d a/\ty b d λy h=>e b h λz c=>∃o,DT c a y o/\Q (o.getD z) c
theorem AZ     (hu:X.A.units+1<cLine) (ho:PE X o r) (he:PE X e ty) (hf:PE X f q) (m:M2 X o "get" i e f c):PE X (.Call (.Attribute o "get" i) [e,f] [] c) (JK r ty q):=by
 refine .of ?_;intro b s j H Q I h;refine wpAny_Call_method m.base m.few m.line PySem.F.plainAttrs_dict TD PySem.F.type_dict_get (x4 (ho b s j H _ I h) λu S ⟨x,H1,G,T,a,ex,d,q1⟩=>?_);subst ex;obtain rfl:u=Value.ref a:=T;obtain⟨O,M,_⟩:=PH G d;refine⟨O,M,?_⟩;rw[m.trees]
 refine Xx rfl (XO (WL (x4 (he b S j H1 _ G q1) λiv R ⟨y,H2,I2,B,Y⟩=>
  WL (x4 (hf b R j H2 _ I2 Y) λfv s3 ⟨z,J,p,v,ov,g,C⟩=>Yp ?_))))
 rcases g with g | ⟨rfl,⟨a0,hk⟩,rfl⟩
 ·exact NS hu p g B v λw' s4 I4 l=>⟨_,J,I4,l,C⟩
 ·cases B;obtain⟨zz,hd,vs,U,E⟩:=bW p.hok (.of hk);refine Yl TD E.typeIs WA (Wx _ _ _) (Xu (bw X.prog X.w) (k:=none) a (by rfl) hd fv) ⟨_,OD E.mapOf,⟨_,J,p.tok _,v,C⟩⟩
def Qv(Q:VK):VK:=λv b=>∃p a,v=.ref p/\b p=some (.dK a)/\∀c,Q v (upd b p (.dE a c))
def Ends.Qv(D:Ends):Ends:={ D with nx:=λb c=>∃p a,c p=some (.dK a)/\∀d,D.nx b (upd c p (.dE a d)) }
section
variable{X:Cx}
theorem Fq(h:PE X e t):PE X e (λσ H Q=>t σ H (Qv Q)):=by
 refine .of ?_;intro a s σ H Q I q;exact x4 (h a s σ H _ I q) λv o ⟨x,u,l,b,p,d,r,i,c⟩=>let ⟨g,j⟩:=l.GH i;⟨x,_,j,b,c g⟩
theorem DA(h:J1 X f r):J1 X f (λxs H Q=>r xs H (Qv Q)):=by
 intro a s b H xs c Q I rv q;exact x4 (h a s b H xs c _ I rv q) λv u ⟨x,z,o,d,p,g,y,j,e⟩=>let ⟨i,l⟩:=o.GH j;⟨x,_,l,d,e i⟩
theorem xS{st:Stmt}(h:PS X st t):PS X st (λD σ H=>t D.Qv σ H):=by
 refine .of ?_;intro a s σ H D I q;refine x4 (h a s σ H _ I q) λf o b=>?_
 cases f with
 | next=>
  obtain⟨c,r,l,p,g,e,d⟩:=b;obtain⟨i,j⟩:=l.GH e;exact⟨_,_,j,d i⟩
 | brk=>exact b
 | cont=>exact b
 | ret v=>exact b
end
def Uv(a:Addr)(n ep:Nat):It:=
 ⟨λi H=>∃b c,H a=some (.dE b ep)/\b.length=n/\b[i]?=some c,λi H x d=>d=H/\∀b,H a=some (.dE b ep)->(b[i]?).map (λc=>kV c.1)=some x,λi H=>∃b,H a=some (.dE b ep)/\b.length=n/\n<=i⟩
theorem QI(h:(l3 P w).is k u=true):RelV (kV k) u:=by
 rcases o7 (h) with⟨i,t,rfl,rfl⟩ | ⟨x,t,rfl,rfl⟩
 ·exact⟨t,rfl⟩
 ·exact⟨t,rfl⟩
theorem Ai{K:YQ}(a it:Addr)(n ep:Nat)(ne:a≠it):Turn P w K tg (Uv a n ep) [it] it (λi h=>h.IsKeyIter it a i n ep) where
 mem:=List.mem_singleton.mpr rfl
 obj:=λi h st b q=>by
  cases List.mem_singleton.mp q;obtain⟨o,e,c,d⟩:=st;exact⟨o,e,λv z=>by rw[d] at z;cases z⟩
 keep:=λi h R st k=>st.at λo e=>k it (List.mem_singleton.mpr rfl) o e
 item:=by
  intro X M hw O hc i j s σ H E I B st J;subst M hw O;obtain⟨p,kv,y,C,u⟩:=J;obtain⟨z,hd,vs,g,dd⟩:=(I.hok a _ y)
  obtain⟨f0,Y,f2,U,T,S⟩:=B it (List.mem_singleton.mpr rfl);have G:vs.length=n:=by rwa[<-g.length]
  subst G;have hi:i<vs.length:=by rw[<-g.length];exact(List.getElem?_eq_some_iff.mp u).1
  have hv:=nA hi
  have x:=by
   have e:=GM (λl=>l[i]?) g.keys;simp only[sj,u,hv,Option.map_some] at e;exact(wh e).symm
  refine wpAny_pyNext_dict_item st dd (k:=(vs[i]).1)  hv λkey R hk r sb=>?_;have I1:=I.turned (t':=s.toks) (λb o q e=>(sb.2 b q).trans e) f0 Y U T S;rw[x] at hk;exact⟨key,rfl,letGo_keyiter r ⟨kV kv.1,H,I1,QI hk,⟨rfl,λa0 e'=>by rw[y] at e';cases e';rw[u];rfl⟩,r,λb q=>(B b q).1⟩⟩
 done:=by
  intro X M hw O hc i j s σ H E I B st J;subst M hw O;obtain⟨p,y,C,u⟩:=J;obtain⟨z,hd,vs,g,dd⟩:=(I.hok a _ y)
  obtain⟨f0,Y,f2,U,T,S⟩:=B it (List.mem_singleton.mpr rfl);have G:vs.length=n:=by rw[<-g.length];exact C
  subst G;refine wpAny_pyNext_dict_end (I.ok.hd hc) st dd (TW u) λR ex=>⟨rfl,I.turned (t':=s.toks) (λb o q e=>ex b o q e) f0 Y U T S⟩
 self:=λA i s Q E st h=>wpAny_pyIter_keyiter st h
def Ss(te:TE):TI:=λe H R=>te e H λx d=>∃a b c,x=.ref a/\d a=some (.dE b c)/\R (Uv a b.length c) d
theorem JD(G:PE X e te):PI X y e (Ss te):=by
 refine .of ?_;intro c s u H R I h;refine x4 (G c s u H _ I h) λv g ⟨x,r,i,B,C⟩=>?_;obtain⟨a,d,l,e,E,q⟩:=C;subst e;cases B;obtain⟨z,hd,vs,j,p⟩:=(i.hok a _ E)
 refine wpAny_pyIter_dict hd p ?_;rw[<-j.length];refine⟨g.heap.objs.size,[g.heap.objs.size],_,_,r,rfl,i.kept  λb o e=>hD _ e,Ai a _ d.length l (u8 p.lt_size),⟨_,t6 _ rfl,rfl,rfl⟩,λb J=>?_,q⟩;cases List.mem_singleton.mp J;exact i.eW (oT _) (i.hok.fresh (oT _))
end L2
namespace L3
open PySem PySem.Spec L2
def ag:D->Option Key
 | .int i=>some (.inl i)
 | .str x=>some (.inr x)
 | _=>none
def u7(kvs:List (Key×D))(k:Key):Option D:=(kvs.find? λa=>decide (a.1=k)).map (·.2)
def putD(kvs:List (Key×D))(k:Key)(v:D):List (Key×D):=
 if (kvs.any λa=>decide (a.1=k))=true then kvs.map (λa=>if a.1=k then(a.1,v) else a) else kvs++[(k,v)]
section
variable{K:YQ}{H:Hp}
theorem x3.val:∀{kvs:List (Key×V)} {a:List (Key×D)} {A:YE} (k:Key),x3 K H kvs a A->(∀d,u7 a k=some d->∃v B,aj kvs k=some v/\Rep K H v d B/\B.Sublist A)/\(u7 a k=none->aj kvs k=none)
 | _,_,_,k,.nil=>⟨λd e=>by simp[u7] at e,λ_=>rfl⟩
 | _,_,_,k,.cons (k:=c)   h r=>by
  obtain⟨i,g⟩:=r.val k
  by_cases e:c=k
  ·subst e;refine⟨λd e=>?_,λe=>?_⟩
   ·simp[u7] at e;subst e;exact⟨_,_,bx rfl,h,Xc _ _⟩
   ·simp[u7] at e
  ·have l:∀(x:D) (j:List (Key×D)),u7 ((c,x)::j) k=u7 j k:=λx j=>by simp[u7,e]
   refine⟨λd b=>?_,λb=>?_⟩
   ·rw[l] at b;obtain⟨v,B,u,q,o⟩:=i d b;exact⟨v,B,by rwa[X1  e],q,o.trans (WZ _ _)⟩
   ·rw[l] at b;rw[X1  e];exact g b
theorem x3.any(k:Key)(r:x3 K H kvs a A):(kvs.any λb=>decide (b.1=k))=a.any λb=>decide (b.1=k):=
 r.ind (P:=λkvs a _=>(kvs.any λb=>decide (b.1=k))=a.any λb=>decide (b.1=k)) rfl λ_ _ e=>by rw[VR,VR,e]
theorem x3.length(r:x3 K H kvs c A):kvs.length=c.length:=r.ind (P:=λa b _=>a.length=b.length) rfl λ_ _ e=>GM (·+1) e
theorem x3.D6(r:x3 K H kvs a A):(a.all λb=>r8 b.2)=true->A=[]:=
 r.ind (P:=λ_ a A=>(a.all λb=>r8 b.2)=true->A=[]) (λ_=>rfl) λh _ j e=>by
  rw[We,vc] at e;rw[h.D6 e.1,j e.2];rfl
theorem x3.AA(k:Key)(rv:Rep K H v d []):∀{kvs:List (Key×V)} {b:List (Key×D)} {A:YE},x3 K H kvs b A->∃C,x3 K H (kvs.map λa=>if a.1=k then(a.1,v) else a) (b.map λa=>if a.1=k then(a.1,d) else a) C/\C.Sublist A
 | _,_,_,.nil=>⟨[],.nil,Wm _⟩
 | _,_,_,.cons (k:=i) (A:=A)  h r=>by
  obtain⟨C,g,c⟩:=x3.AA k rv r;rw[t8,t8]
  by_cases e:i=k
  ·rw[t4 e,t4 e];exact⟨[]++C,.cons rv g,c.trans (WZ _ _)⟩
  ·rw[tz e,tz e];exact⟨A++C,.cons h g,c.append_left A⟩
theorem x3.snoc(r:x3 K H kvs c A)(rv:Rep K H v d B):x3 K H (kvs++[(k,v)]) (c++[(k,d)]) (A++B):=by
 refine r.ind (P:=λa b A=>x3 K H (a++[(k,v)]) (b++[(k,d)]) (A++B)) ?_ λh _ i=>by rw[v6];exact .cons h i
 have q:=x3.cons (k:=k) rv x3.nil;rwa[ud] at q
theorem x3.put(k:Key)(r:x3 K H kvs a A)(rv:Rep K H v d []):∃C,x3 K H (putK kvs k v) (putD a k d) C/\C.Sublist A:=by
 unfold putK putD;rw[r.any k]
 by_cases e:(a.any λb=>decide (b.1=k))=true
 ·rw[t4 e,t4 e];exact r.AA k rv
 ·rw[tz e,tz e];have q:=r.snoc (k:=k) rv;rw[ud] at q;exact⟨A,q,Wm _⟩
theorem V7(h:Rep K H v (.dic a) A):∃p kvs B,v=.ref p/\Dd H p kvs/\x3 K H kvs a B/\A=p::B:=by
 cases h with
 | dic h r=>exact⟨_,_,_,rfl,.inr ⟨_,h⟩,r,rfl⟩
theorem qW(h:Rep K H v (.dic a) A):∃p kvs ep B,v=.ref p/\H p=some (.dE kvs ep)/\x3 K H kvs a B/\A=p::B:=by
 cases h with
 | dic h r=>exact⟨_,_,_,_,rfl,h,r,rfl⟩
theorem X7.PV(m:eX (H p)):X7 H (upd H p o):=⟨λb a h=>by
  by_cases e:b=p
  ·subst e;rw[h] at m;exact m.elim
  ·rwa[i4 e],λb u c h=>by
  by_cases e:b=p
  ·subst e;rw[h] at m;exact m.elim
  ·rwa[i4 e],λb h=>by
  by_cases e:b=p
  ·subst e;rw[c8] at h;cases h
  ·rwa[i4 e] at h⟩
theorem zl{d ep:Nat}(g:e9 c H)(hd:c d=none)(i:H d=some (.dK acc))(r:x3 K H acc ds []):e9 c (upd H d (.dE acc ep))/\Rep K (upd H d (.dE acc ep)) (.ref d) (.dic ds) [d]:=by
 refine⟨λb o e=>?_,.dic c8 (r.mono (X7.PV (by rw[i];exact True.intro)) λa h=>by cases h)⟩;rw[i4 (p9 e hd)];exact g _ _ e
theorem R5(h:Rep K H v d A)(e:ag d=some k):v=kV k:=by
 cases h<;>first | cases e | skip
 ·rfl
 ·rfl
end
section
variable{X:Cx}{cl:List Cl}{e a b c:Expr}{f:Fl}{pos:Pos}{ua ub uc:TU}{ma mb mc:TM}{fa fb fc:Fl}{x:Str}{i:Nat}
theorem pd:PU X cl (.Dict [] [] pos) .fresh (uC (.dic [])):=.of<|by
 refine⟨_,Fq FL,λG l j H o Q R _ E g k=>λp d=>⟨p,[],rfl,c8,λq=>?_⟩⟩;rw[bF];refine k _ _ _ [p] (e9.i3 d) (.dic c8 .nil) ⟨by simp,λa h=>?_⟩ g;have:=by simpa using h
 rwa[this]
def LD:D->D->(D->Prop)->Prop:=λd y Q=>match d with
 | .dic g=>∃k v,ag y=some k/\u7 g k=some v/\Q v
 | _=>False
theorem IU{d e:D}(r:Rep X.K H v d A)(o:Rep X.K H w e B)(q:LD d e Q):∃a u z C,v=.ref a/\Z3 H a w (some u)/\Rep X.K H u z C/\C.Sublist A/\Q z:=by
 cases d<;>first | exact(q).elim | skip
 rename_i g
 obtain⟨k,z,I,E,q⟩:∃k v,ag e=some k/\u7 g k=some v/\Q v:=q;obtain⟨p,y,M,rfl,G,j,rfl⟩:=V7 r;cases R5 o I;obtain⟨u,C,J,l,h⟩:=(j.val k).1 z E;refine⟨p,u,z,C,rfl,?_,l,h.trans (Tk _ _),q⟩;rw[<-J];exact Z3.k G
def Fw:D->D->D->(D->Prop)->Prop:=λd y z Q=>match d with
 | .dic g=>match y with
  | .p3=>r8 z=true/\Q z
  | y=>∃k,ag y=some k/\r8 ((u7 g k).getD z)=true/\Q ((u7 g k).getD z)
 | _=>False
def SD:D->Bool
 | .dic _=>true
 | _=>false
def jU(ua ub uc:TU):TU:=λd Q=>ua d λx=>SD x=true/\ub d λy=>uc d λz=>Fw x y z Q
theorem EC{d e z:D}(R:Rep X.K H v d A)(M:Rep X.K H w e B)(E:Rep X.K H u z C)(q:Fw d e z Q):∃a o y,v=.ref a/\DT H a w o/\Rep X.K H (o.getD u) y []/\Q y:=by
 cases d<;>first | exact(q).elim | skip
 rename_i h
 obtain⟨p,l,Y,rfl,O,I,rfl⟩:=V7 R
 have go:∀k,ag e=some k->r8 ((u7 h k).getD z)=true->Q ((u7 h k).getD z)->∃a o y,V.ref p=.ref a/\DT H a w o/\Rep X.K H (o.getD u) y []/\Q y:=λk j g q=>by
  cases R5 M j;refine⟨p,aj l k,_,rfl,.inl (Z3.k O),?_,q⟩
  cases G:u7 h k with
  | none=>
   rw[(I.val k).2 G];rw[G] at g;have r:=E.D6 g;subst r;exact E
  | some y=>
   obtain⟨T,U,S,J,_⟩:=(I.val k).1 y G;rw[S];rw[G] at g;have r:=J.D6 g;subst r;exact J
 cases e with
 | p3=>
  cases eR M;have r:=E.D6 q.1;subst r;exact⟨p,none,z,rfl,.inr ⟨rfl,⟨l,O⟩,rfl⟩,E,q.2⟩
 | int i=>obtain⟨k,j,g,q⟩:=q;exact go k j g q
 | str i=>obtain⟨k,j,g,q⟩:=q;exact go k j g q
 | _=>obtain⟨k,j,g,q⟩:=q;cases j
theorem eL  (hu:X.A.units+1<cLine) (Y:PU X cl a fa ua) (U:PU X cl b fb ub) (T:PU X cl c fc uc) (m:M2 X a "get" h b c pos):PU X cl (.Call (.Attribute a "get" h) [b,c] [] pos) .fresh (jU ua ub uc):=.of<|by
 obtain⟨ta,pa,Y⟩:=Y.run;obtain⟨tb,pb,U⟩:=U.run;obtain⟨tc,pc,T⟩:=T.run;refine⟨_,AZ hu pa pb pc m,λG l j H fo Q R hG E S k=>Y G l j H fo _ _ hG E S λv H1 d A I r1 f1 M=>?_⟩;obtain⟨hd,M⟩:=M;cases d<;>first | cases hd | skip
 have J:=r1;obtain⟨p,O,B',rfl,hp,rs,rfl⟩:=V7 r1;refine⟨p,rfl,.inl ⟨O,.of hp⟩,U G l j H1 fo _ _ hG (E.same I) M λw H2 e B r r2 f2 q2=>T G l j H2 fo _ _ hG (E.same (I.trans r)) q2 λu H3 z C q r3 f3 q3=>?_⟩;obtain⟨p',o,y,ep,g,r4,q4⟩:=EC ((J.same r).same q) (r2.same q) r3 q3;cases ep;exact⟨o,g,k _ H3 y [] ((I.trans r).trans q) r4 (A3.nil _) q4⟩
def Ph(i:Nat)(y d:D)(h:Ev)(Q:Ev->Prop):D->Prop
 | .dic g=>∃k,ag y=some k/\g.length<sizeLine/\Q (h.set i (some (.dic (putD g k d))))
 | _=>False
def aX(i:Nat)(l mk:TM):g9:=λT j=>l j λd h=>r8 d=true/\a6 i h λ_=>mk h λy g=>a6 i g (Ph i y d g T.nx)
theorem cN(hu:X.A.units+1<cLine)(i:Nat)(hv:PE X (.Name x M) (eI i))(hi:cl[i]?=some .own)(he:PN X cl e ma)(hk:PN X cl Y mk)(hs:swapsWith e (some (.Subscript (.Name x M) Y tp)) pos.line X.env=pure false:=by rfl) :
  D7 X cl (.Assign [.Subscript (.Name x M) Y tp] e pos) (aX i ma mk):=.of<|by
 obtain⟨t,p,h⟩:=he.run;obtain⟨t2,p2,h2⟩:=hk.run;refine⟨_,xS (Kf hu hv p2 p hs),λG T ρ σ H fa R hG E a0 le=>?_⟩;have own:G.own i:=by unfold Ent.own;rwa[hG]
 refine h G ρ σ H fa _ _ hG E a0 λw H1 d B1 J a1 E1 c1 r1 n1 q=>?_;obtain⟨im,q⟩:=q;have eB:=r1.D6 im;subst eB;obtain⟨l0,e0,q⟩:=p5 q;obtain⟨v,r,r0⟩:=E1.rep i l0 e0;refine⟨_,r,h2 G J σ H1 a1 _ _ hG E1 q λwk H2 dk Bk o y E2 c2 rk nk q=>?_⟩;obtain⟨l1,e1,q⟩:=p5 q;obtain⟨v',j,r2⟩:=E2.rep i l1 e1;have ev:v'=v:=by rw[r] at j;cases j;rfl
 subst ev;cases l1<;>first | exact(q).elim | skip
 rename_i g
 obtain⟨k,hk,hn,q⟩:∃k,ag dk=some k/\g.length<sizeLine/\T.nx (o.set i (some (.dic (putD g k d)))):=q;obtain⟨p,U,B,rfl,hp,rs,eA⟩:=V7 r2;cases R5 rk hk;have Q:=c2.keep r1 λi _ a l=>(by cases l)
 have nd:=E2.nd i (.inl own);have pin:p∈y i:=by rw[eA];exact hQ
 rw[eA] at nd;obtain⟨np,S⟩:=List.nodup_cons.mp nd;obtain⟨C,rC,O⟩:=rs.put k Q;have u:=λz=>np (O.mem z);have rn:∀I,Rep X.K (upd H2 p (.dE (putK U k w) I)) (.ref p) (.dic (putD g k d)) (p::C):=λI=>.dic c8 (rC.mono (X7.PV hp.mut) λa l=>i4 λe=>u (e▸l))
 have n3:∀a∈p::C,a∈y i:=λa l=>by
  rcases List.mem_cons.mp l with z | z
  ·exact z▸pin
  ·rw[eA];exact hH _ (O.mem z)
 have li:=(List.getElem?_eq_some_iff.mp e1).1;refine⟨p,_,rfl,pe.k hp (by rwa[rs.length]),p,_,c8,λI=>?_⟩;rw[bF];exact le.nx _ _ ⟨_,_,E2.put own li j pin bK (by rw[c8];exactλz=>nomatch z) (rn I) (List.nodup_cons.mpr ⟨u,S.sublist O⟩) λa l=>.inl (n3 a l),q⟩
theorem i9.rev:∀{vs:List V} {ds:List D} {A:YE},i9 K H vs ds A->∃B,i9 K H vs.reverse ds.reverse B/\(∀a,a∈B ↔ a∈A)/\(A.Nodup->B.Nodup)
 | _,_,_,.nil=>⟨[],.nil,λ_=>XM,λh=>h⟩
 | _,_,_,.cons (A:=A)  h r=>by
  obtain⟨C,g,d,n1⟩:=r.rev;refine⟨C++(A++[]),by rw[WC,WC];exact g.append (.cons h .nil),λa=>?_,λn=>?_⟩
  ·rw[ud,Yd,Yd,d a];exact Or.comm
  ·rw[ud];obtain⟨l,j,dj⟩:=List.nodup_append.mp n;exact List.nodup_append.mpr ⟨n1 j,l,λa p b o e=>dj b o a ((d a).mp p) e.symm⟩
end
section
variable{X:Cx}{cl:List Cl}
theorem P0{b:YM}(e:b=[c])(d:D7 X cl c a):oC X cl b a:=by
 rw[e];exact(eD d)
theorem uS{b:YM}(e:b=[g,d])(i:D7 X cl g c)(h:D7 X cl d a):oC X cl b (e7 c a):=by
 rw[e];exact(o3 i (eD h))
theorem xa{b:YM}(e:b=[i,h,g])(o:D7 X cl i d)(l:D7 X cl h c)(j:D7 X cl g a):oC X cl b (e7 d (e7 c a)):=by
 rw[e];exact(o3 o (o3 l (eD j)))
theorem Kz{b:YM}(e:b=[l,j,i,h])(r:D7 X cl l g)(q:D7 X cl j d)(p:D7 X cl i c)(o:D7 X cl h a):oC X cl b (e7 g (e7 d (e7 c a))):=by
 rw[e];exact(o3 r (o3 q (o3 p (eD o))))
theorem ML{b:YM}(e:b=[p,o,l,j,i])(x:D7 X cl p h)(v:D7 X cl o g)(u:D7 X cl l d)(r:D7 X cl j c)(q:D7 X cl i a):oC X cl b (e7 h (e7 g (e7 d (e7 c a)))):=by
 rw[e];exact(o3 x (o3 v (o3 u (o3 r (eD q)))))
theorem UZ{b:YM}(e:b=[r,q,p,o,l,j])(B:D7 X cl r i)(z:D7 X cl q h)(y:D7 X cl p g)(x:D7 X cl o d)(v:D7 X cl l c)(u:D7 X cl j a):oC X cl b (e7 i (e7 h (e7 g (e7 d (e7 c a))))):=by
 rw[e];exact(o3 B (o3 z (o3 y (o3 x (o3 v (eD u))))))
theorem Vy{b:YM}(e:b=[v,u,r,q,p,o,l])(G:D7 X cl v j)(E:D7 X cl u i)(C:D7 X cl r h)(B:D7 X cl q g)(z:D7 X cl p d)(y:D7 X cl o c)(x:D7 X cl l a):oC X cl b (e7 j (e7 i (e7 h (e7 g (e7 d (e7 c a)))))):=by
 rw[e];exact(o3 G (o3 E (o3 C (o3 B (o3 z (o3 y (eD x)))))))
theorem VN{b:YM}(e:b=[y,x,v,u,r,q,p,o])(J:D7 X cl y l)(I:D7 X cl x j)(H:D7 X cl v i)(G:D7 X cl u h)(E:D7 X cl r g)(C:D7 X cl q d)(B:D7 X cl p c)(z:D7 X cl o a):oC X cl b (e7 l (e7 j (e7 i (e7 h (e7 g (e7 d (e7 c a))))))):=by
 rw[e];exact(o3 J (o3 I (o3 H (o3 G (o3 E (o3 C (o3 B (eD z))))))))
theorem Ua{b:YM}(e:b=[Q,O,M,J,I,H,G,E,C,i,h,g])(h1:D7 X cl Q B)(h2:D7 X cl O z)(h3:D7 X cl M y)(h4:D7 X cl J x)(Y:D7 X cl I v)(U:D7 X cl H u)(T:D7 X cl G r)(S:D7 X cl E q)(R:D7 X cl C p)(o:D7 X cl i d)(l:D7 X cl h c)(j:D7 X cl g a):oC X cl b (e7 B (e7 z (e7 y (e7 x (e7 v (e7 u (e7 r (e7 q (e7 p (e7 d (e7 c a))))))))))):=by
 rw[e];exact(o3 h1 (o3 h2 (o3 h3 (o3 h4 (o3 Y (o3 U (o3 T (o3 S (o3 R (o3 o (o3 l (eD j))))))))))))
end
section
variable{X:Cx}{cl:List Cl}{a:Expr}{f:Fl}{pos:Pos}{ua:TU}
def GZ:D->(D->Prop)->Prop
 | .int i,Q=>Q (.int (-i))
 | _,_=>False
def Sl(g:D->(D->Prop)->Prop)(ua:TU):TU:=λb Q=>ua b λd=>g d Q
theorem pS(g:PU X cl a f ua):PU X cl (.UnaryOp .USub a pos) .fresh (Sl GZ ua):=.of<|by
 obtain⟨t,p,h⟩:=g.run;refine⟨_,Sh Nw p,λG c b H j Q R i E e k=>h G c b H j _ _ i E e λv l d B s r _ q=>?_⟩;cases d<;>first | exact(q).elim | skip
 cases w8 r;exact⟨_,rfl,k _ l _ [] s .int (A3.nil _) q⟩
end
abbrev Z6:=Cf λi j=>D.int (i-j)
abbrev Ln:=gI V4 λi j=>D.int (i/j)
abbrev jj:=gI (λ_ j=>0<j) λi j=>D.int (i%j)
abbrev Cn:=gI aV λi j=>D.int (i^j.toNat)
abbrev Tp:=Cf λi j=>D.bl (decide (i<j))
abbrev LP:=Cf λi j=>D.bl (decide (j<i))
abbrev Ug:=Cf λi j=>D.bl (decide (j<=i))
theorem tM(h:l4 (g1 i) (l4 (g1 j) N1) ds a Q):ds.length=2:=by
 match ds,h with
 | [_,_],_=>rfl
 | [_],h=>exact h.2.elim
 | _::_::_::_,h=>exact h.2.2.elim
section
variable{X:Cx}{cl:List Cl}{e a b tg:Expr}{es:YH}{f:Fl}{pos pos':Pos}{ua ub:TU}{ma mb:TM}{fa fb:Fl}{x:Str}{i:Nat}
def Nd(g:aH)(u:TU):g9:=λT c=>u c λd=>g d c T.nx
theorem LX(O:PU X cl e f ua)(M:jH f .stab=true)(J:zP X cl tg g)(mk:∀{te g},PE X e te->PG X tg g->PS X (.Assign [tg] e pos) (oU te g)):D7 X cl (.Assign [tg] e pos) (Nd g ua):=.of<|by
 obtain⟨t,p,h⟩:=O.run;obtain⟨t2,C,Q⟩:=J.run;exact⟨_,mk p C,λG T o l H fa R u E I le=>h G o l H fa _ _ u E I λv U d B s r S q=>Q G o l U fa v d B _ _ u (E.same s) r (S.weak E M) q λy c j Y _ _ z=>le.nx _ _ ⟨c,j,Y,z⟩⟩
def Mm(g:aH)(u:TM):g9:=λT h=>u h λd c=>g d c T.nx
theorem OQ(S:PN X cl e ma)(Q:zP X cl tg g)(mk:∀{te g},PE X e te->PG X tg g->PS X (.Assign [tg] e pos) (oU te g)):D7 X cl (.Assign [tg] e pos) (Mm g ma):=.of<|by
 obtain⟨t,p,h⟩:=S.run;obtain⟨t2,M,U⟩:=Q.run;exact⟨_,mk p M,λG T I y H fa R z E O le=>h G I y H fa _ _ z E O λv Y d B l u E' c r n q=>U G l y Y u v d B _ _ z E' r n q λC j o E2 _ _ J=>le.nx _ _ ⟨j,o,E2,J⟩⟩
def MJ(i:Nat)(g:Int->Int->Int)(u:TU):g9:=λT c=>a6 i c λx=>u c λy=>match x,y with
 | .int a,.int b=>Nat.blt i c.length=true/\T.nx (c.set i (some (.int (g a b))))
 | _,_=>False
theorem NX(I:PU X cl e f ua)(J:cl[i]?=some .bor)(mk:∀{te},PE X e te->PS X (.AugAssign (.Name x pos') o e pos) (QU i te (Vh g))):D7 X cl (.AugAssign (.Name x pos') o e pos) (MJ i g ua):=.of<|by
 obtain⟨t,p,h⟩:=I.run;refine⟨_,mk p,λG T c z H fa R u E l le=>?_⟩;obtain⟨d,Q,l⟩:=p5 l;obtain⟨v,C,rv⟩:=E.rep i d Q;refine⟨v,C,h G c z H fa _ _ u E l λw Y y B s r U q=>?_⟩;cases d<;>cases y<;>first | exact(q).elim | skip
 cases w8 rv;cases w8 r
 rename_i m n
 have M:G.cl[i]?=some .bor:=by rwa[u]
 refine⟨m,n,rfl,rfl,le.nx _ _ ⟨_,_,(E.same s).set  (v1 q.1) .int ⟨λj _ S a O=>(by cases O),by rw[M];trivial⟩,q.2⟩⟩
def Rh:D->D->(D->Prop)->Prop
 | .tup d,.tup c,Q=>w6 d=true/\w6 c=true/\d.length+c.length<=sizeLine/\Q (.tup (d++c))
 | _,_,_=>False
theorem OX:bR X DP Rh:=by
 intro H v w d e A B Q R l j q k;cases d<;>cases e<;>first | exact q.elim | skip
 obtain⟨p,vs,rfl,I,g⟩:=J9 l;obtain⟨o,h,rfl,G,c⟩:=J9 j;obtain⟨y,u,C,q⟩:=q;have M:=g.D6 y;have J:=c.D6 u;subst M;subst J;exact⟨p,o,vs,h,rfl,rfl,I,G,by rwa[g.length,c.length],λr O s z=>k _ _ _ [] s (.tup z ((g.same s).append (c.same s))) t5 (λa E=>(by cases E)) q⟩
end
end L3
namespace L2
open PySem PySem.Spec PyProof.Rows
theorem mi{e:YH}(I:Nat->Shared->Prop)
  (g:∀n s,I n s->wpAny (model prog w) A (pyNext it) (λr p=>match r with
   | none=>R (.ok .next) p
   | some v=>wpAny (model prog w) A (letOwnedTupleGo a it v) (λ_ C=>wpAny (model prog w) A (assign a env v) (λ_ B=>
     wpAny (model prog w) A (forIn e true λc r=>if r=true then do let ok <-isTrue c env (eval c env);pure (ForInStep.yield ok) else pure (ForInStep.yield r)) (λok o=>
      if ok=true then wpAny (model prog w) A (eval q env) (λE z=>wpAny (model prog w) A (eval j env) (λu l=>
       wpAny (model prog w) A (dictSet D E u) (λ_ y=>∃m,m<n/\I m y) (λ_ _=>False) l) (λ_ _=>False) z) (λ_ _=>False) o
      else ∃m,m<n/\I m o) (λ_ _=>False) B) (λ_ _=>False) C) (λ_ _=>False) p) (λ_ _=>False) s)
  (n:Nat) (h:I n s) :
  codeAny (model prog w) A (.compLoop (.DictComp q j [⟨a,d,e,0⟩] scope i) 0 it (.ref D) env) R s:=by
 refine Yk rfl I (λn s J=>wpAny_noted (eH (PP (eH (wE (g n s J) (λr p H=>?_) λ_ _ b=>b.elim))))) n h
 cases r with
 | none=>exact hE H
 | some v=>
  refine eH (wE H (λ_ C T=>eH (wE T (λ_ B S=>eH (wE S (λok o G=>?_) λ_ _ b=>b.elim)) λ_ _ b=>b.elim)) λ_ _ b=>b.elim)
  cases ok with
  | false=>exact hE ⟨rfl,G⟩
  | true=>
   exact eH (eH (wE G (λE z Q=>eH (BB (wE Q (λu y O=>eH (PP (BB (wE O (λ_ U M=>hE ⟨rfl,M⟩) λ_ _ b=>b.elim)))) λ_ _ b=>b.elim))) λ_ _ b=>b.elim))
theorem BR{σ:St}{E:YN}(I:Inv X pins σ H s)(e:H a=some (.dK kvs))(l:kvs.length<sizeLine)(g:RelV (kV k) u)(rv:RelV v r)
  (h:∀d,Inv X pins σ (upd H a (.dK (putK kvs k v))) d->Q () d):wpAny (model X.prog X.w) A (dictSet a u r) Q E s:=by
 obtain⟨z,hd,vs,b,B⟩:=FT I.hok e;have i:vs.length<=sizeLine:=by rwa[<-b.length]
 have p:(putK kvs k v).length<=sizeLine:=by have:=G5 kvs k v;omega
 refine wpAny_dictSet_pairs  (bj g) B λy c j=>h _ ?_;have x:∃q,y.get? a=some q:=let ⟨q,_,_,o,_⟩:=c;⟨q,o⟩;exact dw I (by rw[e];exact True.intro) j x (pG p hd (b.put k rv) c)
def Uw(J:It)(g:TG)(tc:TT)(tk te:TE)(h:St)(Q:VK)(o:Hp):Prop:=∀d,o d=none ->
 ∃W:Nat->Nat->Hp->Prop,(∃m,W 0 m (upd o d (.dK [])))/\∀i m H,W i m H ->
  (J.stop i H/\Q (.ref d) H) \/
  (J.go i H/\∀x p,J.yld i H x p->g x h p λa u=>tc a u λb l=>
   if b=true then tk a l λq r=>te a r λv j=>∃c k,q=kV k/\j d=some (.dK c)/\c.length<sizeLine/\∃e,e<m/\W (i+1) e (upd j d (.dK (putK c k v)))
   else ∃e,e<m/\W (i+1) e l)
theorem nZ{σ:St}{g:YC->YE->Shared->Hp->TG}{tc:YC->YE->Shared->Hp->TT}{tk te:YC->YE->Shared->Hp->TE}
  {E:YN} {RR:Value->Addr->Result->Shared->Prop} {Q:VK} (U:X.calm=true) (cf:M7 X N scope cap) (hk:scope.kind=.function)
  (hg:∀cl j s H,PG (A6 X N scope cl j s H) z (g cl j s H)) (hc:∀cl j s H,xC (A6 X N scope cl j s H) ab (tc cl j s H)) (hx:∀cl j s H,PE (A6 X N scope cl j s H) kx (tk cl j s H)) (he:∀cl j s H,PE (A6 X N scope cl j s H) vx (te cl j s H))
  (I:Inv X pins σ H s) (T:Turn X.prog X.w X.K z J j it tn) (st:tn 0 s.heap) (hf:∀b∈j,N0 X pins H b) (q:∀cl j s B,Uw J (g cl j s B) (tc cl j s B) (tk cl j s B) (te cl j s B) (K9 cap σ) Q H)
  (b9:∀d C B s' m,Inv X pins σ B s'->s'.heap.Ns C m->N0 X pins B C->Q (.ref d) B->RR (.ref d) C (.ok .next) s') :
  wpAny (model X.prog X.w) X.A newDict (λacc G=>wpAny (model X.prog X.w) X.A (newFunctionEnv scope X.env.globals (A7 X.env scope.names []) [] X.env.qual none .none (some X.env)) (λa3 s4=>
   codeAny (model X.prog X.w) X.A (.compStart (.DictComp kx vx [⟨z,a2,ab,0⟩] scope ap) 0 (.ref it) acc { a3 with scope:=relabel scope X.env }) (RR acc a3.locals) s4) E G) E s:=by
 refine vy (XC cf.nocell (by intro y hy;simp at hy) (λh1 ad ac=>?_) hk);have I3:Inv X pins σ (upd H s.heap.objs.size (.dK [])) { s with heap:=s.heap.push { cls:=.type "dict",data:=.dict #[] } }:=I.laid (a:=s.heap.objs.size) (o:=.dK []) (t':=s.toks) (λ_ _ q=>hD _ q) (oT _) (dS s.heap I.big);have b8:H s.heap.objs.size=none:=I.fresh;obtain⟨W,⟨m0,w0⟩,a0⟩:=q (A7 X.env scope.names []) j { s with heap:=s.heap.push { cls:=.type "dict",data:=.dict #[] } } (upd H s.heap.objs.size (.dK [])) s.heap.objs.size b8
 have b0:∀b∈j,b<s.heap.objs.size:=λb l=>by
  obtain⟨o,e,_⟩:=T.obj 0 _ st b l;exact t9 e
 have al:∀b∈j,N0 X pins (upd H s.heap.objs.size (.dK [])) b:=λb l=>⟨by rw[i4 (u8 (b0 b l))];exact(hf b l).1,(hf b l).2⟩
 have S:∀b∈j,b<(s.heap.push { cls:=.type "dict",data:=.dict #[] }).objs.size:=λb l=>by
  rw[KF];exact OV (b0 b l)
 dsimp only at ad ac ⊢;generalize Y:({ s with heap:=s.heap.push { cls:=.type "dict",data:=.dict #[] } }:Shared)=G at I3 a0;have M:G.heap=s.heap.push { cls:=.type "dict",data:=.dict #[] }:=by rw[<-Y]
 have c3:G.toks=s.toks:=by rw[<-Y]
 rw[<-M] at ad ac S;have R:∀b o,G.heap.get? b=some o->h1.get? b=some o:=λb o e=>ac.extBut b o (u8 (t9 e)) (hD _ e);have keep:∀b o,s.heap.get? b=some o->h1.get? b=some o:=λb o e=>R b o (by rw[M];exact hD _ e);have Ic:=jD (tk:=s.toks) I3 cf hk al S ad R;have ao:tn 0 h1:=T.keep 0 _ _ st λb _ o e=>keep b o e;have bi:∀b∈j,(upd H s.heap.objs.size (.dK [])) b=none:=λb l=>(al b l).1
 have O:∀{B:Hp},(∀b∈j,B b=none)->∀b∈j,N0 (A6 X N scope (A7 X.env scope.names []) j G (upd H s.heap.objs.size (.dK []))) [] B b:=λhn b l=>
  ⟨hn b l,u8 (S b l),Ic.ok.exfs b l,.inl l,λx c h=>(hf b l).2.2.2.2.1 x c (Z8 h),λp hp=>absurd (show p∈([]:YA) from hp) (by simp)⟩
 have ca:G.os=s.os:=by rw[<-Y]
 have cc:G.gens=s.gens:=by rw[<-Y]
 have a1:codeAny (model X.prog X.w) X.A (.compLoop (.DictComp kx vx [⟨z,a2,ab,0⟩] scope ap) 0 (.ref it) (.ref s.heap.objs.size) (compEnvC scope (A7 X.env scope.names []) G.heap.objs.size X.env))
   (RR (.ref s.heap.objs.size) G.heap.objs.size) { G with heap:=h1,toks:=s.toks }:=by
  refine mi (λn s'=>∃i B,Inv (A6 X N scope (A7 X.env scope.names []) j G (upd H s.heap.objs.size (.dK []))) [] (K9 cap σ) B s'/\tn i s'.heap/\(∀b∈j,B b=none)/\W i n B) ?_ m0 ⟨0,_,Ic,ao,bi,w0⟩;rintro n s4 ⟨i,H4,I4,an,b3,w4⟩;rcases a0 i n H4 w4 with⟨stop,qn⟩ | ⟨go,step⟩
  ·refine x4 (T.done (A6 X N scope (A7 X.env scope.names []) j G (upd H s.heap.objs.size (.dK []))) rfl rfl rfl U i [] s4 _ H4 (λ_ _=>False) I4 (O b3) an stop) λr s5 ⟨hr,I5⟩=>?_;subst hr;obtain⟨m,b7,_⟩:=I5.loc;refine b9 _ _ H4 s5 m ?_ b7 (I3.eW (oT _) I5.free) qn;exact I3.GG I5.os I5.base I5.hok I5.bare λb l=>⟨(hf b l).2.2.2.1,(hf b l).2.1,(hf b l).2.2.2.2.1,(hf b l).2.2.2.2.2⟩
  ·refine x4 (T.item (A6 X N scope (A7 X.env scope.names []) j G (upd H s.heap.objs.size (.dK []))) rfl rfl rfl U i [] s4 _ H4 (λ_ _=>False) I4 (O b3) an go) λr s5 ⟨u,hr,h5⟩=>?_;subst hr;refine x4 h5 λ_ s6 ⟨x,H6,I6,r6,y6,a5,bg⟩=>?_;have bn:=I6.pinned (O bg) (T.obj _ _ a5);refine x4 (hg _ _ _ _ _ s6 _ H6 x u _ bn r6 (step x H6 y6)) λ_ s7 ⟨a4,H7,I7,q7⟩=>?_;refine x4 (hc _ _ _ _ _ s7 a4 H7 _ I7 q7) λok s8 ⟨H8,I8,q8⟩=>?_
   have again:∀{am:St} {H9:Hp} {s9:Shared},Inv (A6 X N scope (A7 X.env scope.names []) j G (upd H s.heap.objs.size (.dK []))) ([]++aR j s6.heap) am H9 s9->(∃m',m'<n/\W (i+1) m' H9) ->
     ∃m,m<n/\∃i B,Inv (A6 X N scope (A7 X.env scope.names []) j G (upd H s.heap.objs.size (.dK []))) [] (K9 cap σ) B s9/\tn i s9.heap/\(∀b∈j,B b=none)/\W i m B:=λ{am H9 s9} I9 ⟨m',hm,w9⟩=>by
    refine⟨m',hm,i+1,H9,fR I3 cf al I9.S5,T.keep _ _ _ a5 λb l o e=>(I9.pin (b,o) (sw _ (sw _ (C3 l e)))).1,λb l=>?_,w9⟩;obtain⟨o,e,d⟩:=T.obj _ _ a5 b l;exact(I9.pin (b,o) (sw _ (sw _ (C3 l e)))).2.1
   cases ok with
   | false=>exact again I8 q8
   | true=>
    show wpAny _ _ (eval kx _) _ _ s8;refine x4 (hx _ _ _ _ _ s8 a4 H8 _ I8 q8) λy0 b4 ⟨v0,c0,bm,b5,b6⟩=>?_;refine x4 (he _ _ _ _ _ b4 a4 c0 _ bm b6) λy s9 ⟨v,H9,I9,r9,acc,k,ek,b2,b1,m',hm,w9⟩=>?_;subst ek;exact BR (X:=A6 X N scope (A7 X.env scope.names []) j G (upd H s.heap.objs.size (.dK []))) I9 b2 b1 b5 r9 λc5 bv=>again bv ⟨m',hm,w9⟩
 have e4:({ s with heap:=h1,toks:=s.toks+([]:YD).length }:Shared)={ G with heap:=h1,toks:=s.toks }:=by rw[<-Y];rfl
 rw[<-M,e4];exact codeAny_compStart_dict a1 (T.self _ 0 _ _ _ ao a1)
def Rg(cap:YB)(d:TI)(g:YC->YE->Shared->Hp->TG)(tc:YC->YE->Shared->Hp->TT)(tk te:YC->YE->Shared->Hp->TE):TE:=λc H Q=>d c H λJ e=>∀cl a s b,Uw J (g cl a s b) (tc cl a s b) (tk cl a s b) (te cl a s b) (K9 cap c) Q e
theorem Nt
  (l:X4 XN N XS scope cap=true) (hN:X.N=XN) (hS:X.env.scope=XS) (G:scope.kind=.function) (i:X.calm=true) (hi:PI X a c z)
  (hg:∀cl b s H,PG (A6 X N scope cl b s H) a (g cl b s H)) (hc:∀cl b s H,xC (A6 X N scope cl b s H) j (tc cl b s H)) (S:∀cl b s H,PE (A6 X N scope cl b s H) E (tk cl b s H)) (he:∀cl b s H,PE (A6 X N scope cl b s H) B (te cl b s H))
  (U:∀x,foldedSetIterable c X.env x=pure x:=by intro _;rfl):PE X (.DictComp E B [⟨a,c,j,0⟩] scope p) (Rg cap z g tc tk te):=by
 refine .of ?_;intro e s y H Q I h;have r:=P6 hN hS l;refine VY  rfl U (T6 (I.S8 r)) G r.loc (x4 (hi e s y H _ I h) λv s1 h1=>x4 h1 λR s2 h2=>?_);obtain⟨it,b,tn,J,H2,rfl,I2,T,o,f2,q⟩:=h2;exact nZ  i r G hg hc S he I2 T o f2 q λd C H' s' m I' Y hC O=>⟨m,Y,λh' M=>⟨.ref d,H',I'.rH hC M,rfl,O⟩⟩
theorem Bp{r p E:Pos}
  (a0:X.N.Nodup) (Y:X.N[i]?=some y) (hy:X.env.scope.names.lookup y=some .local)
  (G:X4 XN N XS scope cap=true) (hN:X.N=XN) (hS:X.env.scope=XS) (hk:scope.kind=.function) (u:X.calm=true) (hi:PI X b c wi)
  (hg:∀cl j s H,PG (A6 X N scope cl j s H) b (g cl j s H)) (hc:∀cl j s H,xC (A6 X N scope cl j s H) o (tc cl j s H)) (hx:∀cl j s H,PE (A6 X N scope cl j s H) O (tk cl j s H)) (he:∀cl j s H,PE (A6 X N scope cl j s H) M (te cl j s H))
  (U:swapsWith (.DictComp O M [⟨b,c,o,0⟩] scope r) (some (.Name y E)) p.line X.env=pure true:=by rfl)
  (hs:∀x,foldedSetIterable c X.env x=pure x:=by intro _;rfl):PS X (.Assign [.Name y E] (.DictComp O M [⟨b,c,o,0⟩] scope r) p) (oU (Rg cap wi g tc tk te) (dt i)):=by
 refine .of ?_;intro l s σ H D I h;have cf:=P6 hN hS G;rw[XA _ _ _ _ U];refine eH (PP (eH ?_));refine eH (wE (VY   rfl hs (T6 (I.S8 cf)) hk cf.loc (x4 (hi l s σ H _ I h) λv s1 h1=>x4 h1 λa2 s2 h2=>?_))
  (λ_ B hq=>hE (hE hq)) λ_ _ e=>e)
 obtain⟨it,j,tn,J,H2,rfl,I2,T,R,f2,q⟩:=h2;refine nZ  u cf hk hg hc hx he I2 T R f2 q λd C H' B m I' hn hC q'=>?_;refine Xl (bJ (v:=.ref d) I' a0 Y (.inl hy) rfl (λs2 I2 ⟨a,sb,ha⟩=>⟨m,hn.sameBut sb ?_,λh' S=>⟨_,H',I2.rH hC S,q'⟩⟩) (.inr hy));rcases ha with z | z
 ·rw[z];exact hC.2.1
 ·exactλe=>hC.2.2.2.2.1 y a z e.symm
end L2
namespace L3
open PySem PySem.Spec L2
theorem x3.same(s:e9 H b)(r:x3 K H v d A):x3 K b v d A:=
 r.mono (X7.of s) λa c=>by
  obtain⟨o,e⟩:=eX.some (r.eY a c);rw[e];exact s a o e
def oy(g:aH)(tc:aN)(tk te:TU)(e:Ev):List D->List (Key×D)->(List (Key×D)->Prop)->Prop
 | [],a,Q=>Q a
 | x::h,a,Q=>g x e λc=>tc c λb=>Br b (tk c λy=>te c λd=>∃k,ag y=some k/\r8 d=true/\oy g tc tk te e h (putD a k d) Q) (oy g tc tk te e h a Q)
def MI(cap:YB)(c:lX)(g:aH)(tc:aN)(tk te:TU):TU:=λa Q=>c a λb=>b.length<sizeLine/\oy g tc tk te (U9 cap a) b [] λd=>Q (.dic d)
theorem Vf
  (hg:∀(G:Ent) (c:Ev) (σ:St) (H:Hp) (r:YO) (v:V) (d:D) (B:YE) (Q:Ev->Prop) (R:St->Hp->Prop),G.cl=B9 cap->E3 K G c σ H r->Rep K H v d B->(∀i,G.own i->∀a∈B,a∉r i)->g3 d c Q ->
   (∀S U a3,E3 K G U S H a3->(∀i,G.own i->a3 i=r i/\S[i]?=σ[i]?)->(∀i,G.own i->U[i]?=c[i]?)->Q U->R S H)->g v σ H R)
  (hc:∀(G:Ent) (c:Ev) (σ:St) (H:Hp) (r:YO) (Q:Bool->Prop) (R:Bool->Hp->Prop),G.cl=B9 cap->E3 K G c σ H r->a0 c Q->(∀b p,e9 H p->Q b->R b p)->tc σ H R)
  (hk:∀(G:Ent) (c:Ev) (σ:St) (H:Hp) (r:YO) (Q:D->Prop) (R:VK),G.cl=B9 cap->E3 K G c σ H r->X c Q->(∀v p d B,e9 H p->Rep K p v d B->A3 G H r B fk->Q d->R v p)->tk σ H R)
  (he:∀(G:Ent) (c:Ev) (σ:St) (H:Hp) (r:YO) (Q:D->Prop) (R:VK),G.cl=B9 cap->E3 K G c σ H r->Y c Q->(∀v p d B,e9 H p->Rep K p v d B->A3 G H r B fv->Q d->R v p)->te σ H R)
  (E:E3 K G c σ z r) (it:aJ K J xs C z) (tr:∀a∈C,z a≠none) (hn:xs.length<sizeLine) (q:oy g3 a0 X Y (U9 cap c) xs [] Q)
  (k:∀d p acc ds,e9 z p->z d=none->p d=some (.dK acc)->x3 K p acc ds []->Q ds->R (.ref d) p):Uw J g tc tk te (K9 cap σ) R z:=by
 intro d hd
 refine⟨λi m H=>m=xs.length-i/\i<=xs.length/\e9 z H/\∃acc ds,H d=some (.dK acc)/\acc.length<=i/\x3 K H acc ds []/\oy g3 a0 X Y (U9 cap c) (xs.drop i) ds Q,
  ⟨xs.length,by simp,v9 _,e9.i3 hd,[],[],c8,oT _,.nil,q⟩,?_⟩
 rintro i m H ⟨rfl,ab,s1,acc,ds,M,ac,rs,q⟩;have tf:Tf z H:=⟨λb ys h=>s1 _ _ h,λb o u h=>s1 _ _ h⟩
 have kC:∀a∈C,H a=z a:=λa ha=>by
  obtain⟨o,eo⟩:=Option.ne_none_iff_exists'.mp (tr a ha);rw[eo];exact s1 a o eo
 by_cases I:i<xs.length
 ·right
  obtain⟨go,yl⟩:=(it H tf kC i).2 _ (nA I);rw[AT I] at q;refine⟨go,λy H2 hy=>?_⟩;obtain⟨s2,By,rB,sB⟩:=yl y H2 hy;have E2:=(E.same (s1.trans s2)).comp cap;refine hg (X9 cap) _ _ H2 _ y _ By _ _ rfl E2 rB (λj hj=>(G1 hj).elim) q λO T a1 a2 _ _ q3=>hc (X9 cap) T O H2 a1 _ _ rfl a2 q3 λb H3 s3 q4=>?_;have x:=s3 _ _ (s2 _ _ M)
  cases b with
  | false=>
   exact⟨xs.length-(i+1),by omega,rfl,I,(s1.trans s2).trans s3,acc,ds,x,by omega,(rs.same s2).same s3,q4.f rfl⟩
  | true=>
   rw[t4 rfl];refine hk (X9 cap) T O H3 a1 _ _ rfl (a2.same s3) (q4.t rfl) λvk H4 dk Bk s4 rk ad q5=>?_;refine he (X9 cap) T O H4 a1 _ _ rfl ((a2.same s3).same s4) q5 λv H5 dv Bv s5 rv fo q6=>?_;obtain⟨kk,ek,im,q6⟩:=q6;have l:H5 d=some (.dK acc):=s5 _ _ (s4 _ _ x);have a4:e9 z H5:=(((s1.trans s2).trans s3).trans s4).trans s5
   have st:X7 H5 (upd H5 d (.dK (putK acc kk v))):=⟨λb ys h=>by
     by_cases e:b=d
     ·subst e;rw[l] at h;cases h
     ·rw[i4 e];exact h,λb u w' h=>by
     by_cases e:b=d
     ·subst e;rw[l] at h;cases h
     ·rw[i4 e];exact h,λb h=>by
     by_cases e:b=d
     ·subst e;rw[c8] at h;cases h
     ·rw[i4 e] at h;exact h⟩
   have a5:=(((rs.same s2).same s3).same s4).same s5;have eB:=rv.D6 im;subst eB;obtain⟨C',rp,sC⟩:=a5.put kk rv;have eC:C'=[]:=List.sublist_nil.mp sC;subst eC;refine⟨acc,kk,R5 rk ek,l,by omega,xs.length-(i+1),by omega,rfl,I,λb o e=>?_,putK acc kk v,putD ds kk dv,c8,by have:=G5 acc kk v;omega,?_,q6⟩
   ·rw[i4 (p9 e hd)];exact a4 _ _ e
   ·exact rp.mono st λa ha=>by cases ha
 ·have ei:i=xs.length:=by omega
  subst ei
  left
  rw[Wr] at q;refine⟨(it H tf kC _).1 rfl,k d H acc ds s1 hd M rs q⟩
section
variable{X:Cx}{cl:List Cl}{pos:Pos}{f fk fv:Fl}{XN N:YF}{XS scope:Scope}{cap:YB}{kx vx target iter:Expr}{ifs:YH}{ui:lX}{g3:aH}{tc3:aN}{tk3 te3:TU}
theorem LL(i:X4 XN N XS scope cap=true)(hN:X.N=XN)(hS:X.env.scope=XS)(hk:scope.kind=.function)(h:X.calm=true)(p:Y8 X cl target iter f ui)
  (u:∀c b s H,zP (A6 X N scope c b s H) (B9 cap) target g3) (y:∀c b s H,tY (A6 X N scope c b s H) (B9 cap) ifs tc3) (o:∀c b s H,PU (A6 X N scope c b s H) (B9 cap) kx fk tk3) (v:∀c b s H,PU (A6 X N scope c b s H) (B9 cap) vx fv te3)
  (hs:∀x,foldedSetIterable iter X.env x=pure x:=by intro _;rfl):PU X cl (.DictComp kx vx [⟨target,iter,ifs,0⟩] scope pos) .fresh (MI cap ui g3 tc3 tk3 te3):=.of<|by
 obtain⟨wi,U,p⟩:=p.run
 refine⟨_,Fq<|Nt     i hN hS hk h U
  (λc b s H=>(sg (u c b s H).run).1) (λc b s H=>(sg (y c b s H).run).1) (λc b s H=>(sg (o c b s H).run).1) (λc b s H=>(sg (v c b s H).run).1) hs,λG I B H fa Q R hG E hu k=>p G I B H fa _ _ hG E hu λJ H1 xs C s Y tr fo q=>λc b j l=>Vf  (sg (u c b j l).run).2 (sg (y c b j l).run).2 (sg (o c b j l).run).2 (sg (v c b j l).run).2 (E.same s) Y tr q.1 q.2 λd H2 z ds O hd e S T=>⟨d,z,rfl,e,λep=>?_⟩⟩
 obtain⟨M,r⟩:=zl  O hd e S;exact k _ _ _ [d] (s.trans M) r ⟨by simp,λa ha=>by cases List.mem_singleton.mp ha;exact s.free hd⟩ T
theorem iw{e py:Pos}(S:X.N.Nodup)(z:X.N[i]?=some y)(hy:X.env.scope.names.lookup y=some .local)(O:Ah cl[i]? .fresh i=true)
  (l:X4 XN N XS scope cap=true) (hN:X.N=XN) (hS:X.env.scope=XS) (hk:scope.kind=.function) (j:X.calm=true) (B:Y8 X cl target iter f ui)
  (I:∀c b s H,zP (A6 X N scope c b s H) (B9 cap) target g3) (Q:∀c b s H,tY (A6 X N scope c b s H) (B9 cap) ifs tc3) (u:∀c b s H,PU (A6 X N scope c b s H) (B9 cap) kx fk tk3) (M:∀c b s H,PU (A6 X N scope c b s H) (B9 cap) vx fv te3)
  (v:swapsWith (.DictComp kx vx [⟨target,iter,ifs,0⟩] scope pos) (some (.Name y py)) e.line X.env=pure true:=by rfl)
  (hs:∀x,foldedSetIterable iter X.env x=pure x:=by intro _;rfl):D7 X cl (.Assign [.Name y py] (.DictComp kx vx [⟨target,iter,ifs,0⟩] scope pos) e) (o8 i (MI cap ui g3 tc3 tk3 te3)):=.of<|by
 obtain⟨wi,pi,B⟩:=B.run
 refine⟨_,xS<|Bp     S z hy l hN hS hk j pi
  (λc b s H=>(sg (I c b s H).run).1) (λc b s H=>(sg (Q c b s H).run).1) (λc b s H=>(sg (u c b s H).run).1) (λc b s H=>(sg (M c b s H).run).1) v hs,λG T ρ σ H fa R hG E hu le=>B G ρ σ H fa _ _ hG E hu λJ H1 xs C s it tr fo q=>λc b o p=>Vf  (sg (I c b o p).run).2 (sg (Q c b o p).run).2 (sg (u c b o p).run).2 (sg (M c b o p).run).2 (E.same s) it tr q.1 q.2 λd H2 U ds s2 hd h rs Y=>⟨d,U,h,λep=>?_⟩⟩
 obtain⟨s3,r⟩:=zl  s2 hd h rs;exact le.nx _ _ ⟨_,_,(E.same (s.trans s3)).set (v1 Y.1) r (cw.of (f:=.fresh) E ⟨by simp,λa ha=>by cases List.mem_singleton.mp ha;exact s.free hd⟩ (by rwa[hG])),Y.2⟩
end
mutual
def pyd:D->PyData
 | .bl b=>.bool b
 | .int i=>.int i
 | .str x=>.str x
 | .tup xs=>.tuple (M4 xs)
 | .lst xs=>.list (M4 xs)
 | .fz xs=>.list (M4 xs)
 | _=>.none
def M4:List D->List PyData
 | []=>[]
 | x::xs=>pyd x::M4 xs
end
mutual
def Fd:D->Bool
 | .p3=>true
 | .bl _=>true
 | .int _=>true
 | .str _=>true
 | .tup xs=>cE xs
 | .lst xs=>cE xs
 | .fz xs=>cE xs
 | _=>false
def cE:List D->Bool
 | []=>true
 | x::xs=>Fd x&&cE xs
end
section
variable{X:Cx}{pins:YA}{σ:St}{H:Hp}{s:Shared}
theorem dX(I:Inv X pins σ H s){v:V}{d:D}{A:YE}{u:Value}(h:Rep X.K H v d A):Fd d=true->RelV v u->∃as,Reads s.heap u (pyd d) as:=by
 revert u
 have sq:∀{p:Addr} {vs:List V} {c:List D},G3 X.K H p vs->(∀u,cE c=true->Vals vs u->∃as,ReadsAll s.heap u (M4 c) as)->∀u,cE c=true->RelV (.ref p) u->∃as,Reads s.heap u (.list (M4 c)) as:=λ{p vs c} h i u q r=>by
  cases r;obtain⟨e,rv,pl,_⟩:=I.list h;obtain⟨o,g,l,n,hd⟩:=pl.isList;obtain⟨as,q⟩:=i _ q rv;exact⟨_,.list g l hd (by simpa using q)⟩
 intro u
 refine Rep.rec   (motive_3:=λ_ _ _ _=>True)
  (λ_ _ r=>by cases r;exact⟨_,.none⟩) (λ_ _ r=>by cases r;exact⟨_,.bool _⟩) (λ_ _ r=>by obtain⟨t,rfl⟩:=r;exact⟨_,.int _ t⟩) (λ_ _ r=>by obtain⟨t,rfl⟩:=r;exact⟨_,.str _ t⟩) (λh _ i u q r=>?_)
  (λh _ i=>sq (G3.of h) i) (λh _ i=>sq h.sq i) ?_ ?_ ?_ ?_ ?_ ?_ (λ_ _ r=>by cases r;exact⟨_,.nil⟩) (λ_ _ i j u q r=>?_) trivial (λ_ _ _ _=>trivial) h u
 case refine_1=>
  cases r;obtain⟨e,rv,⟨o,g,l,n,hd⟩,_⟩:=I.tuple (R6.of h);obtain⟨as,q⟩:=i _ (by simpa[Fd] using q) rv;exact⟨_,.tuple g l hd (by simpa using q)⟩
 case refine_8=>
  cases r with
  | cons a b=>
   simp[cE] at q;obtain⟨as,y⟩:=i _ q.1 a;obtain⟨bs,x⟩:=j _ q.2 b;exact⟨_,.cons y x⟩
 all_goals intros;rename_i q _;simp[Fd] at q
end
mutual
def aK:D->Bool
 | .p3=>true
 | .bl _=>true
 | .int i=>decide (i.natAbs<10^150)
 | .str x=>x.cps.toList.all λc=>decide (c<16^8)
 | .tup xs=>lh xs
 | .lst xs=>lh xs
 | .fz xs=>lh xs
 | _=>false
def lh:List D->Bool
 | []=>true
 | x::xs=>aK x&&lh xs
end
mutual
theorem KN:∀d:D,aK d=true->Fd d=true
 | .p3,_=>rfl
 | .bl _,_=>rfl
 | .int _,_=>rfl
 | .str _,_=>rfl
 | .tup xs,h=>by rw[Fd];exact eJ xs (by simpa[aK] using h)
 | .lst xs,h=>by rw[Fd];exact eJ xs (by simpa[aK] using h)
 | .fz xs,h=>by rw[Fd];exact eJ xs (by simpa[aK] using h)
 | .dic _,h=>by simp[aK] at h
 | .st _,h=>by simp[aK] at h
 | .dn _,h=>by simp[aK] at h
 | .xc _ _ _,h=>by simp[aK] at h
 | .ty _,h=>by simp[aK] at h
 | .adr _,h=>by simp[aK] at h
theorem eJ:∀d:List D,lh d=true->cE d=true
 | [],_=>rfl
 | x::xs,h=>by
  simp only[lh,vc] at h;simp only[cE,vc];exact⟨KN x h.1,eJ xs h.2⟩
end
theorem Qf{i:Int}(h:i.natAbs<10^150):i.natAbs.log2<1920:=by
 by_cases e:i.natAbs=0
 ·rw[e];decide
 ·exact(Nat.log2_lt e).mpr (v3 h (by decide +kernel))
mutual
theorem uQ:∀d:D,aK d=true->(pyd d).showable=true/\(pyd d).leavesShort 151=true/\(pyd d).hasDict=false
 | .p3,_=>⟨by simp[pyd,PyData.showable],by simp[pyd,PyData.leavesShort],by simp[pyd,PyData.hasDict]⟩
 | .bl _,_=>⟨by simp[pyd,PyData.showable],by simp[pyd,PyData.leavesShort],by simp[pyd,PyData.hasDict]⟩
 | .int i,h=>by
  have h:i.natAbs<10^150:=by simpa[aK] using h
  refine⟨?_,?_,by simp[pyd,PyData.hasDict]⟩
  ·simp only[pyd,PyData.showable];exact uy (Qf h)
  ·simp only[pyd,PyData.leavesShort,PyData.shown];refine uy ?_;rw[ofString_length];exact int_text_length_le10 (by decide) h
 | .str x,h=>⟨by simp[pyd,PyData.showable],by simpa[pyd,PyData.leavesShort,aK] using h,by simp[pyd,PyData.hasDict]⟩
 | .tup xs,h=>by
  have:=bI xs (by simpa[aK] using h);exact⟨by simpa[pyd,PyData.showable] using this.1,by simpa[pyd,PyData.leavesShort] using this.2.1,by simpa[pyd,PyData.hasDict] using this.2.2⟩
 | .lst xs,h=>by
  have:=bI xs (by simpa[aK] using h);exact⟨by simpa[pyd,PyData.showable] using this.1,by simpa[pyd,PyData.leavesShort] using this.2.1,by simpa[pyd,PyData.hasDict] using this.2.2⟩
 | .fz xs,h=>by
  have:=bI xs (by simpa[aK] using h);exact⟨by simpa[pyd,PyData.showable] using this.1,by simpa[pyd,PyData.leavesShort] using this.2.1,by simpa[pyd,PyData.hasDict] using this.2.2⟩
 | .dic _,h=>by simp[aK] at h
 | .st _,h=>by simp[aK] at h
 | .dn _,h=>by simp[aK] at h
 | .xc _ _ _,h=>by simp[aK] at h
 | .ty _,h=>by simp[aK] at h
 | .adr _,h=>by simp[aK] at h
theorem bI:∀d:List D,lh d=true->PyData.showableAll (M4 d)=true/\PyData.leavesShortAll 151 (M4 d)=true/\PyData.hasDictAll (M4 d)=false
 | [],_=>⟨by simp[M4,PyData.showableAll],by simp[M4,PyData.leavesShortAll],by simp[M4,PyData.hasDictAll]⟩
 | x::xs,h=>by
  simp only[lh,vc] at h;have a:=uQ x h.1;have b:=bI xs h.2;exact⟨by simp[M4,PyData.showableAll,a.1,b.1],by simp[M4,PyData.leavesShortAll,a.2.1,b.2.1],by simp[M4,PyData.hasDictAll,a.2.2,b.2.2]⟩
end
def JZ(d:D):Prop:=aK d=true/\(pyd d).weight<=100000/\(pyd d).depth<=50
theorem JZ.fits(h:JZ d):(pyd d).shown.length<=sizeLine:=by
 have:=PyData.shown_le 151 (by decide) (pyd d) (uQ d h.1).2.1;rw[SC];have:=h.2.1;omega
section
variable{X:Cx}{cl:List Cl}{e a b:Expr}{es:YH}{f:Fl}{pos:Pos}{ua ub:TU}{ma mb:TM}{fa fb:Fl}
def lA(d:D):Prop:=Fd d=true/\(pyd d).canLay0=true/\(pyd d).depth<=64
def IF(X:Cx)(c:Bool):R2:=λx y H Q=>∃d e A B,Rep X.K H x d A/\Rep X.K H y e B/\lA d/\lA e/\Q (.bl (ng c (PyData.eqv (pyd d) (pyd e)))) H
theorem FN(E:K8 k X.A):O1 X (compareOp .Eq) (IF X false):=by
 intro i s G H x y v u Q I l j h;obtain⟨d,e,A,B,z,r,g,c,q⟩:=h;obtain⟨J,p⟩:=dX I z g.1 l;obtain⟨bs,o⟩:=dX I r c.1 j;have C:=E.units;exact PySem.SeqAt.compareEq_shaped p o (by unfold PySem.SeqAt.shaped;rw[g.2.1,uy g.2.2];rfl) (by unfold PySem.SeqAt.shaped;rw[c.2.1,uy c.2.2];rfl) C ⟨.bl _,H,I,rfl,q⟩
theorem NL(E:K8 k X.A):O1 X (compareOp .NotEq) (IF X true):=by
 intro i s G H x y v u Q I l j h;obtain⟨d,e,A,B,z,r,g,c,q⟩:=h;obtain⟨J,p⟩:=dX I z g.1 l;obtain⟨bs,o⟩:=dX I r c.1 j;have C:=E.units;exact PySem.SeqAt.compareNe_shaped p o (by unfold PySem.SeqAt.shaped;rw[g.2.1,uy g.2.2];rfl) (by unfold PySem.SeqAt.shaped;rw[c.2.1,uy c.2.2];rfl) C ⟨.bl _,H,I,rfl,q⟩
def Sx(c:Bool):D->D->(D->Prop)->Prop:=λd e Q=>lA d/\lA e/\Q (.bl (ng c (PyData.eqv (pyd d) (pyd e))))
theorem Rz:bR X (IF X c) (Sx c):=by
 intro H v w d e A B Q R i g q k;exact⟨d,e,A,B,i,g,q.1,q.2.1,k _ H _ _ (e9.refl H) .bl t5 (λ_ h=>(by cases h)) q.2.2⟩
end
end L3
namespace L2
open PySem PySem.Spec PySem.Builtin PySem.Builtin.Str PyProof.Rows
section
variable{X:Cx}
variable{e:Expr}{es:YH}{te:TE}{pos:Pos}
end
end L2
namespace L3
open PySem PySem.Spec L2
section
variable{X:Cx}{cl:List Cl}{e a b:Expr}{es:YH}{f:Fl}{pos:Pos}{ua ub:TU}{ma mb:TM}{fa fb:Fl}
end
end L3
namespace L2
open PySem PySem.Spec PyProof.Rows
section
variable{X:Cx}
def SJ:R2:=λx y H Q=>∃a v,x=.ref a/\Z3 H a y (some v)/\Q v H
theorem zH(l:X.A.units+1<cLine):HR X SJ:=by
 intro b c e s r H x y v u Q I j i h o;obtain⟨a,z,rfl,g,q⟩:=h;cases j;exact tail_any (qp I g) PySem.F.slot_dict_getitem.lookup (oh l I g i λB C p d=>⟨z,H,p,d,q⟩) o
def Lm(b:Bool):R2:=λy x H Q=>∃a o,x=.ref a/\Z3 H a y o/\Q (.bl (match b with | true=>!o.isSome | false=>o.isSome)) H
theorem HG(e:X.A.units+1<cLine):O1 X (compareOp .In) (Lm false):=by
 intro b s j H x y v u Q I d c h;obtain⟨a,o,rfl,g,q⟩:=h;cases c;exact UO e I g d λl i=>⟨.bl o.isSome,H,i,rfl,q⟩
theorem Bu(e:X.A.units+1<cLine):O1 X (compareOp .NotIn) (Lm true):=by
 intro b s j H x y v u Q I d c h;obtain⟨a,o,rfl,g,q⟩:=h;cases c;exact Ig e I g d λl i=>⟨.bl (!o.isSome),H,i,rfl,q⟩
end
end L2
namespace L3
open PySem PySem.Spec L2
section
variable{X:Cx}{cl:List Cl}{e a b tg:Expr}{es:YH}{f:Fl}{pos:Pos}{ua ub:TU}{ma mb:TM}{fa fb:Fl}
def p4:D->D->(D->Prop)->Prop:=λd e Q=>match d,e with
 | .int i,.int j=>Q (.int (i+j))
 | .str i,.str j=>i.length+j.length<=sizeLine/\Q (.str (i++j))
 | .lst g,.lst c=>w6 g=true/\w6 c=true/\g.length+c.length<=sizeLine/\Q (.lst (g++c))
 | .tup g,.tup c=>w6 g=true/\w6 c=true/\g.length+c.length<=sizeLine/\Q (.tup (g++c))
 | _,_=>False
abbrev QG:R2:=λx y H Q=>∃i j,x=.str i/\y=.str j/\i.length+j.length<=sizeLine/\Q (.str (i++j)) H
def MA:R2:=λx y H Q=>(Cq λi j=>.int (i+j)) x y H Q\/QG x y H Q\/NP x y H Q\/DP x y H Q
theorem yK:O1 X (binaryOp .Add) MA:=Nq.or (vn.or (OF.or Lh))
theorem GY:bR X MA p4:=by
 intro H v w d e A B Q R g c q k;cases d<;>cases e<;>first | exact(q).elim | skip
 ·exact .inl (GR H v w _ _ A B Q R g c q k)
 ·exact .inr (.inl (SH H v w _ _ A B Q R g c q k))
 ·exact .inr (.inr (.inr (OX H v w _ _ A B Q R g c q k)))
 ·exact .inr (.inr (.inl (SQ H v w _ _ A B Q R g c q k)))
theorem o6(d:PU X cl a fa ua)(c:PU X cl b fb ub):PU X cl (.BinOp a .Add b pos) .fresh (o5 p4 ua ub):=jJ yK GY d c
theorem G8(d:PN X cl a ma)(c:PN X cl b mb):PM X cl (.BinOp a .Add b pos) (aL p4 ma mb):=FZ yK GY d c
def E7:D->D->(D->Prop)->Prop:=λd e Q=>match d,e with
 | .int i,.int j=>N7 i j/\Q (.int (i*j))
 | .str z,.int n=>MulOk z n/\Q (.str (Txt.mul z n))
 | .lst c,.int n=>w6 c=true/\-(2^63)<=n/\n<2^63/\c.length*n.toNat<=sizeLine/\Q (.lst (List.replicate n.toNat c).flatten)
 | _,_=>False
abbrev Rm:R2:=λx y H Q=>∃z n,x=.str z/\y=.int n/\MulOk z n/\Q (.str (Txt.mul z n)) H
def MC:R2:=λx y H Q=>(rI N7 λi j=>.int (i*j)) x y H Q\/Rm x y H Q\/SA x y H Q
theorem yW:O1 X (binaryOp .Mult) MC:=MY.or (Ia.or NZ)
theorem nM(r:i9 K H vs xs []):∀n:Nat,i9 K H (List.replicate n vs).flatten (List.replicate n xs).flatten []
 | 0=>.nil
 | n+1=>by
  exact r.append (nM r n)
theorem Gj:bR X MC E7:=by
 intro H v w d e A B Q R h g q k;cases d<;>cases e<;>first | exact(q).elim | skip
 ·exact .inl (rf H v w _ _ A B Q R h g q k)
 ·exact .inr (.inl (Oe H v w _ _ A B Q R h g q k))
 ·obtain⟨j,y,x,u,q⟩:=q;obtain⟨p,vs,C,rfl,o,c,_⟩:=E8 h;cases w8 g;have z:=c.D6 j;subst z;refine .inr (.inr ⟨p,_,vs,rfl,rfl,o,y,x,by rwa[c.length],λl i=>k _ _ (.lst _) [l] (e9.i3 i) (.lst c8 ((nM c _).same (e9.i3 i))) (by simp) (λa r=>?_) q⟩);have:=by simpa using r
  rwa[this]
theorem J0(d:PU X cl a fa ua)(c:PU X cl b fb ub):PU X cl (.BinOp a .Mult b pos) .fresh (o5 E7 ua ub):=jJ yW Gj d c
theorem V6(d:PN X cl a ma)(c:PN X cl b mb):PM X cl (.BinOp a .Mult b pos) (aL E7 ma mb):=FZ yW Gj d c
def aQ(c:Bool):D->D->(D->Prop)->Prop:=λd e Q=>match aA d&&aA e with
 | true=>Qp c d e Q
 | false=>Sx c d e Q
theorem Dn(o:bR X r (Qp c)):bR X (λx y H Q=>r x y H Q\/IF X c x y H Q) (aQ c):=by
 intro H v w d e A B Q R h g q k;unfold aQ at q;split at q
 ·exact .inl (o H v w d e A B Q R h g q k)
 ·exact .inr (Rz H v w d e A B Q R h g q k)
section
variable{kr:Nat}(hr:K8 kr X.A)
include hr
theorem cD(g:PU X cl a fa ua)(d:PU X cl b fb ub)(c:behindInMarks .Eq b=false):Q6 X cl (.Compare a [.Eq] [b] pos) (uT (o5 (aQ false) ua ub)):=T7 (MD.or (FN hr)) (Dn Sa) g d c
theorem pD(g:PU X cl a fa ua)(d:PU X cl b fb ub)(c:behindInMarks .NotEq b=false):Q6 X cl (.Compare a [.NotEq] [b] pos) (uT (o5 (aQ true) ua ub)):=T7 (Qz.or (NL hr)) (Dn UJ) g d c
theorem Qg(g:PN X cl a ma)(d:PN X cl b mb)(c:behindInMarks .Eq b=false):Qw X cl (.Compare a [.Eq] [b] pos) (mT (aL (aQ false) ma mb)):=Ds (MD.or (FN hr)) (Dn Sa) g d c
def RG(c:Bool):D->D->(D->Prop)->Prop:=λd e Q=>match e with
 | .dic g=>∃k,ag d=some k/\Q (.bl (ng c (u7 g k).isSome))
 | _=>UW c d e Q
end
theorem SO:bR X (λx y H Q=>QE X.K c x y H Q\/Lm c x y H Q) (RG c):=by
 intro H v w d e A B Q R o l q k
 cases e with
 | dic g=>
  obtain⟨j,I,q⟩:∃k,ag d=some k/\Q (.bl (ng c (u7 g k).isSome)):=q;obtain⟨p,vs,S,rfl,E,G,rfl⟩:=V7 l;cases R5 o I;have r:=G.val j;refine .inr ?_
  cases i:u7 g j with
  | none=>
   rw[i] at q;exact⟨p,none,rfl,(by have:=Z3.k (k:=j) E;rwa [r.2 i] at this),k _ H _ _ (e9.refl H) .bl t5 (λ_ h=>(by cases h)) (by cases c<;>exact q)⟩
  | some z=>
   rw[i] at q;obtain⟨u,C,J,O,M⟩:=r.1 z i;exact⟨p,some u,rfl,(by have:=Z3.k (k:=j) E;rwa [J] at this),k _ H _ _ (e9.refl H) .bl t5 (λ_ h=>(by cases h)) (by cases c<;>exact q)⟩
 | _=>exact .inl (TV H v w _ _ A B Q R o l q k)
def OZ:D->D->(D->Prop)->Prop:=λd y Q=>match d with
 | .dic c=>∃k v,ag y=some k/\u7 c k=some v/\Q v
 | _=>Vc d y Q
theorem zg{d e:D}(i:Rep X.K H v d A)(h:Rep X.K H w e B)(q:OZ d e Q)(k:∀x z C,Rep X.K H x z C->C.Sublist A->Q z->R x H):Tq X.K v w H R\/SJ v w H R:=by
 cases d with
 | dic c=>
  obtain⟨a,u,z,C,p,g,l,j,o⟩:=IU i h (q);exact .inr ⟨a,u,p,g,k u z C l j o⟩
 | _=>exact .inl (Ot i h q k)
def g4(ua ub:TU):TU:=λc Q=>ua c λx=>ub c λy=>OZ x y Q
theorem Ny(y:X.A.units+1<cLine)(O:PU X cl a fa ua)(M:PU X cl b fb ub)(I:iC b):PU X cl (.Subscript a b pos) fa (g4 ua ub):=.of<|by
 obtain⟨ta,tb,u,p,h⟩:=u2 O M;exact⟨_,LO (Cr.or (zH y)) u p I,λG g c H T Q R S E J k=>h G g c H T _ _ S E J λv w Y d e A B s l j U f2 q=>zg l j q λx z C r i o=>k x Y z C s r (U.sub i) o⟩
def je(ma mb:TM):TM:=λh Q=>ma h λx g=>mb g λy c=>OZ x y λd=>Q d c
theorem W5(O:X.A.units+1<cLine)(j:PN X cl a ma)(Y:PN X cl b mb)(S:iC b):PN X cl (.Subscript a b pos) (je ma mb):=.of<|by
 obtain⟨ta,tb,M,J,h⟩:=m2 j Y;exact⟨_,LO (Cr.or (zH O)) M J S,λG p o H fo Q R hG E T k=>h G p o H fo _ _ hG E T λv w H' d e A B g l E' c y u n1 _ q=>zg y u q λx z C r s I=>k x H' z C g l E' c r (λi U a j=>n1 i U a (s.mem j)) I⟩
def qD(ua:TU)(lo i:OT):TU:=λg Q=>ua g λd=>lo g λl=>i g λh=>match d with
 | .tup c=>w6 c=true/\Q (.tup (cutD c l h))
 | .lst c=>w6 c=true/\Q (.lst (cutD c l h))
 | .fz c=>w6 c=true/\Q (.lst (cutD c l h))
 | _=>False
theorem cJ(z:PU X cl a fa ua)(x:To X cl lo ul)(hh:To X cl hi uh):PU X cl (.Subscript a (.Slice lo hi none p2) pos) .fresh (qD ua ul uh):=.of<|by
 obtain⟨ta,pa,z⟩:=z.run;obtain⟨tl,pl,x⟩:=x.run;obtain⟨th,ph,hh⟩:=hh.run;refine⟨_,Fz (Ik.or OG) pa pl ph,λG J I H fo Q R hG E hu k=>z G J I H fo _ _ hG E hu λv H1 d A S r1 f1 q1=>x G J I H1 fo _ _ hG (E.same S) q1 λh H2 C q2=>hh G J I H2 fo _ _ hG (E.same (S.trans C)) q2 λu H3 O i=>?_⟩;have j:=(S.trans C).trans O
 have g:∀{c:List D},kindB false d=some c->w6 c=true->Q (.lst (cutD c h u))->QQ X.K v h u H3 R:=λ{c} e1 im q=>by
  obtain⟨p,vs,B,rfl,hq,o,_⟩:=ah ((r1.same C).same O) e1;have y:=o.D6 im;subst y;refine⟨p,vs,rfl,hq,λl x=>?_⟩;obtain⟨B,M,Y⟩:=o.cut (HT.D9 c.length 0 h) (HT.D9 c.length c.length u-HT.D9 c.length 0 h);have y:=List.sublist_nil.mp M;subst y;refine k _ _ _ [l] (j.trans (e9.i3 x)) (.lst c8 ?_) ⟨by simp,λa z=>?_⟩ q
  ·have T:i9 X.K H3 (jZ vs h u) (cutD c h u) []:=by
    unfold jZ cutD;rwa[o.length]
   exact T.same (e9.i3 x)
  ·have:=by simpa using z
   rw[this];exact j.free x
 cases d<;>first | exact(i).elim | skip
 ·rename_i c
  obtain⟨im,i⟩:=i;obtain⟨p,vs,rfl,hq,o⟩:=J9 ((r1.same C).same O);have y:=o.D6 im;subst y;refine .inr ⟨p,vs,rfl,hq,λr H4 s4 hr=>?_⟩;obtain⟨B,M,Y⟩:=o.cut (HT.D9 c.length 0 h) (HT.D9 c.length c.length u-HT.D9 c.length 0 h);have y:=List.sublist_nil.mp M;subst y;refine k _ _ (.tup (cutD c h u)) [] (j.trans s4) (.tup hr ?_) (A3.nil _) i;have U:=Y.same s4;unfold jZ cutD;rwa[o.length]
 ·exact .inl (g rfl i.1 i.2)
 ·exact .inl (g rfl i.1 i.2)
end
theorem LF(h:l4 (g1 i) (l4 (g1 j) (l4 (g1 k) (l4 (g1 l) N1))) ds g Q):ds.length=4:=by
 rcases ds with _ | ⟨a,_ | ⟨b,_ | ⟨c,_ | ⟨d,_ | ⟨e,r⟩⟩⟩⟩⟩<;>first | rfl | (simp[l4,N1,g1] at h)
theorem Sj(h:l4 (g1 i) (l4 (g1 j) (l4 (g1 k) (l4 (g1 l) (l4 (g1 m) N1)))) ds g Q):ds.length=5:=by
 rcases ds with _ | ⟨a,_ | ⟨b,_ | ⟨c,_ | ⟨d,_ | ⟨e,_ | ⟨f,r⟩⟩⟩⟩⟩⟩<;>first | rfl | (simp[l4,N1,g1] at h)
end L3
namespace L2
open PySem PySem.Spec PySem.Builtin PySem.Builtin.Str PyProof.Rows
section
variable{X:Cx}
def Sd:R2:=λx y H Q=>∃i j,x=.str i/\y=.str j/\Q (.bl (!decide (j.cps.toList<i.cps.toList))) H
theorem AU:O1 X (compareOp .LtE) Sd:=by
 intro a s d H x y v u Q I c b h;obtain⟨i,j,rfl,rfl,q⟩:=h;obtain⟨t,rfl⟩:=c;obtain⟨e,rfl⟩:=b;exact PySem.P.le_str ⟨.bl _,H,I,rfl,q⟩
def JS(a:Bool):R2:=λx y H Q=>∃b,y=.bl b/\Q (.bl (match a with | true=>!decide (x=.bl b) | false=>decide (x=.bl b))) H
def Ut(x:Str):It:=⟨λi _=>i<x.cps.size,λi H v a=>a=H/\∃c,x.cps[i]?=some c/\v=.str ⟨#[c]⟩,λi _=>i=x.cps.size⟩
theorem rA{K:YQ}(it:Addr)
  (W:∀A:Around,A.handled=none->Walks P w A it [it] [it] x.cps.size (SignAt x) (λi h=>h.IsStrIter it ty x t i)) (B:["enumerate","zip","dict_itemiterator","dict_reverseitemiterator","odict_iterator","itertools.zip_longest","itertools.pairwise"].contains ty=false)
  (hs:∀(A:Around) (i:Nat) (s:Shared) (Q:YN) (E:YN),s.heap.IsStrIter it ty x t i->Q (.ref it) s->wpAny (model P w) A (pyIter (.ref it)) Q E s):Turn P w K Y (Ut x) [it] it (λi h=>h.IsStrIter it ty x t i) where
 mem:=by simp
 obj:=λi h st b g=>by
  have e:=by simpa using g
  subst e;obtain⟨o,e,c,d⟩:=st;exact⟨o,e,λv z=>by rw[d] at z;cases z⟩
 keep:=λi h q st k=>let ⟨o,ho,r⟩:=st;⟨o,k it (by simp) o ho,r⟩
 item:=by
  intro X G hw J C i a s U H E I p st l;obtain⟨T,S,f2,R,O,M⟩:=p it (by simp);refine(W X.A (I.ok.hd C)).item i s _ _ l st λv q tk hv j y=>?_;obtain⟨c,u,hx,rfl⟩:=hv;have I1:Inv X a U H { s with heap:=q,toks:=tk }:=I.turned (λb o g e=>y b o (by simpa using g) e) T S R O M;obtain⟨o,e,cc,d⟩:=id j;exact⟨_,rfl,og  e cc d B ⟨.str ⟨#[c]⟩,H,I1,⟨u,rfl⟩,⟨rfl,c,hx,rfl⟩,j,λb g=>(p b g).1⟩⟩
 done:=by
  intro X G hw J C i a s U H E I p st l;obtain⟨T,S,f2,R,O,M⟩:=p it (by simp);subst l;exact(W X.A (I.ok.hd C)).done s _ _ st λq tk y=>⟨rfl,I.turned (λb o g e=>y b o (by simpa using g) e) T S R O M⟩
 self:=hs
def Tz(K:YQ)(e:TE):TI:=λd H R=>e d H λx b=>(∃z,x=.str z/\R (Ut z) b)\/∃a,x=.ref a/\((∃c,G3 K b a c/\R (Tv K a) b)\/∃c,R6 K b a c/\R (SY K a) b)
theorem PC(hl:PE X l G):PI X U l (Tz X.K G):=.of λg s S H R I q=>by
 refine x4 (hl g s S H _ I q) λv c ⟨x,u,d,J,y⟩=>?_;rcases y with⟨z,rfl,q⟩ | ⟨a,rfl,y⟩
 ·obtain⟨t,rfl⟩:=J
  have O:∀b∈[c.heap.objs.size],N0 X g u b:=λb r=>by
   have e:=by simpa using r
   subst e;exact d.eW (oT _) (d.hok.fresh (oT _))
  cases M:z.cps.all (·<128)
  ·exact wpAny_pyIter_wide M ⟨c.heap.objs.size,[c.heap.objs.size],_,_,u,rfl,d.kept  λb o e=>hD _ e,rA  _ (λA C=>Walks.strWide C _ z t) (by decide) (λA i s Q E st h=>wpAny_pyIter_striter_wide st h),⟨_,t6 _ rfl,rfl,rfl⟩,O,q⟩
  ·exact wpAny_pyIter_ascii M ⟨c.heap.objs.size,[c.heap.objs.size],_,_,u,rfl,d.kept  λb o e=>hD _ e,rA  _ (λA C=>Walks.strAscii C _ z t) (by decide) (λA i s Q E st h=>wpAny_pyIter_striter_ascii st h),⟨_,t6 _ rfl,rfl,rfl⟩,O,q⟩
 ·cases J;rcases y with⟨T,B,q⟩ | ⟨T,B,q⟩
  ·obtain⟨j,rv,p,Y⟩:=d.list B;refine WQ p.isList (⟨c.heap.objs.size,[c.heap.objs.size],_,_,u,rfl,d.kept  λb o e=>hD _ e,BC a _,⟨_,t6 _ rfl,rfl,rfl⟩,λb r=>?_,q⟩);have e:=by simpa using r
   subst e;exact d.eW (oT _) (d.hok.fresh (oT _))
  ·obtain⟨j,rv,p,Y⟩:=d.tuple B;refine XZ (show c.heap.IsTuple a j.toArray from p) (⟨c.heap.objs.size,[c.heap.objs.size],_,_,u,rfl,d.kept (t':=c.toks) λb o e=>hD _ e,iS a _,⟨_,t6 _ rfl,rfl,rfl⟩,λb r=>?_,q⟩);have e:b=c.heap.objs.size:=by simpa using r
   subst e;exact d.eW (oT _) (d.hok.fresh (oT _))
def Mr:List V->Hp->VK->Prop:=λa H Q=>((∃i,a=[.int i]/\Q (.int i) H)\/∃k,a=[.bl k]/\Q (.int (if k then 1 else 0)) H)\/∃x n,a=[.str x]/\PySem.intText? x=some n/\x.length<=640/\Q (.int n) H
theorem fH:J1 X (.type "int") Mr:=by
 intro a s b H c d Q I r h;rcases h with h | ⟨x,n,rfl,e,g,q⟩
 ·exact AK a s b H c d Q I r h
 ·obtain⟨u,rfl,t,rfl⟩:=vals1 r;exact PySem.W.KIN.call_text e g ⟨.int n,H,I.tok _,⟨_,rfl⟩,q⟩
end
end L2
namespace L2
open PySem PySem.Spec PyProof.Rows
section
variable{X:Cx}
theorem rl(r:RelV x v)(b:Bool):(v == .bool b)=decide (x=.bl b):=by
 cases x<;>first
  | (cases r;first | rfl | (rename_i c;cases b<;>cases c<;>rfl))
  | (obtain⟨t,rfl⟩:=r)
theorem DO:O1 X (compareOp .Is) (JS false):=by
 intro a s d H x y v u Q I c e h;obtain⟨b,rfl,q⟩:=h;cases e;have f:EP X a d Q (.bool (v == .bool b)) s:=⟨.bl _,H,I,by rw[rl c];rfl,q⟩
 cases x<;>first
  | (cases c;exact hE f)
  | (obtain⟨t,rfl⟩:=c;exact hE f)
theorem CD:O1 X (compareOp .IsNot) (JS true):=by
 intro a s d H x y v u Q I c e h;obtain⟨b,rfl,q⟩:=h;cases e;have f:EP X a d Q (.bool (!(v == .bool b))) s:=⟨.bl _,H,I,by rw[rl c];rfl,q⟩
 cases x<;>first
  | (cases c;exact hE f)
  | (obtain⟨t,rfl⟩:=c;exact hE f)
end
end L2
namespace L3
open PySem PySem.Spec L2
section
variable{X:Cx}{cl:List Cl}{e a b tg:Expr}{es:YH}{f:Fl}{pos:Pos}{ua ub uc:TU}{ma mb:TM}{fa fb fc:Fl}
def vY:D->D->(D->Prop)->Prop:=λd e Q=>match d,e with
 | .int i,.int j=>Q (.bl (decide (i<=j)))
 | .str x,.str y=>Q (.bl (!decide (y.cps.toList<x.cps.toList)))
 | _,_=>False
abbrev So:R2:=λx y H Q=>(Cq λi j=>.bl (decide (i<=j))) x y H Q\/Sd x y H Q
theorem EY:O1 X (compareOp .LtE) So:=RN.or AU
theorem LZ:bR X So vY:=by
 intro H v w d e A B Q R g c q k;cases d<;>cases e<;>first | exact(q).elim | skip
 ·exact .inl (iY H v w _ _ A B Q R g c q k)
 ·cases D4 g;cases D4 c;exact .inr ⟨_,_,rfl,rfl,k _ H _ _ (e9.refl H) .bl t5 (λ_ h=>(by cases h)) q⟩
theorem OA(g:PU X cl a fa ua)(d:PU X cl b fb ub)(c:behindInMarks .LtE b=false):PU X cl (.Compare a [.LtE] [b] pos) .fresh (o5 vY ua ub):=kz EY LZ g d c
theorem vU(g:PU X cl a fa ua)(d:PU X cl b fb ub)(c:behindInMarks .LtE b=false):Q6 X cl (.Compare a [.LtE] [b] pos) (uT (o5 vY ua ub)):=T7 EY LZ g d c
def NN(d:D)(b:Bool):Bool:=match d with
 | .bl c=>c == b
 | _=>false
def Y6(c:Bool):D->D->(D->Prop)->Prop:=λd e Q=>match e with
 | .p3=>Q (.bl (ng c (zx d)))
 | .bl b=>Q (.bl (ng c (NN d b)))
 | _=>False
theorem yw(h:Rep K H v d A)(b:Bool):decide (v=.bl b)=NN d b:=by
 cases h<;>first | (simp[NN]) | skip
 rename_i c
 cases b<;>rfl
abbrev UH:R2:=λx y H Q=>y=.p3/\Q (.bl (decide (x=.p3))) H
abbrev NQ:R2:=λx y H Q=>y=.p3/\Q (.bl (!decide (x=.p3))) H
theorem Ml:bR X (λx y H Q=>UH x y H Q\/JS false x y H Q) (Y6 false):=by
 intro H v w d e A B Q R g c q k;cases e<;>first | exact(q).elim | skip
 ·exact .inl (Ul H v w d .p3 A B Q R g c q k)
 ·cases V9 c;refine .inr ⟨_,rfl,?_⟩;rw[yw g];exact k _ H _ _ (e9.refl H) .bl t5 (λ_ h=>(by cases h)) q
theorem Lg:bR X (λx y H Q=>NQ x y H Q\/JS true x y H Q) (Y6 true):=by
 intro H v w d e A B Q R g c q k;cases e<;>first | exact(q).elim | skip
 ·exact .inl (Nu H v w d .p3 A B Q R g c q k)
 ·cases V9 c;refine .inr ⟨_,rfl,?_⟩;rw[yw g];exact k _ H _ _ (e9.refl H) .bl t5 (λ_ h=>(by cases h)) q
theorem Nj(g:PU X cl a fa ua)(d:PU X cl b fb ub)(c:behindInMarks .Is b=false):PU X cl (.Compare a [.Is] [b] pos) .fresh (o5 (Y6 false) ua ub):=kz (CZ.or DO) Ml g d c
theorem uV(g:PU X cl a fa ua)(d:PU X cl b fb ub)(c:behindInMarks .Is b=false):Q6 X cl (.Compare a [.Is] [b] pos) (uT (o5 (Y6 false) ua ub)):=T7 (CZ.or DO) Ml g d c
theorem G4(g:PU X cl a fa ua)(d:PU X cl b fb ub)(c:behindInMarks .IsNot b=false):Q6 X cl (.Compare a [.IsNot] [b] pos) (uT (o5 (Y6 true) ua ub)):=T7 (IL.or CD) Lg g d c
def Vg(x y:Str):Bool:=!(Builtin.Str.occurrences x y 0 x.length 1).isEmpty
def qG(c:Bool):D->D->(D->Prop)->Prop:=λd e Q=>match e with
 | .str z=>(match d with | .str y=>Q (.bl (ng c (Vg z y))) | _=>False)
 | _=>RG c d e Q
abbrev Pq(c:Bool):R2:=λx y H Q=>∃i j,x=.str i/\y=.str j/\Q (.bl (ng c (Vg j i))) H
theorem HA:O1 X (compareOp .In) (Pq false):=AN
theorem BN:O1 X (compareOp .NotIn) (Pq true):=oF
theorem CJ:bR X (λx y H Q=>(QE X.K c x y H Q\/Lm c x y H Q)\/Pq c x y H Q) (qG c):=by
 intro H v w d e A B Q R i g q k
 cases e with
 | str z=>
  cases d<;>first | exact(q).elim | skip
  cases D4 i;cases D4 g;exact .inr ⟨_,_,rfl,rfl,k _ H _ _ (e9.refl H) .bl t5 (λ_ h=>(by cases h)) q⟩
 | _=>exact .inl (SO H v w _ _ A B Q R i g q k)
theorem Hk(c:X.A.units+1<cLine)(h:PU X cl a fa ua)(g:PU X cl b fb ub)(d:behindInMarks .In b=false):PU X cl (.Compare a [.In] [b] pos) .fresh (o5 (qG false) ua ub):=kz ((mF.or (HG c)).or HA) CJ h g d
theorem Pj(c:X.A.units+1<cLine)(h:PU X cl a fa ua)(g:PU X cl b fb ub)(d:behindInMarks .In b=false):Q6 X cl (.Compare a [.In] [b] pos) (uT (o5 (qG false) ua ub)):=T7 ((mF.or (HG c)).or HA) CJ h g d
theorem Bt(c:X.A.units+1<cLine)(h:PU X cl a fa ua)(g:PU X cl b fb ub)(d:behindInMarks .NotIn b=false):Q6 X cl (.Compare a [.NotIn] [b] pos) (uT (o5 (qG true) ua ub)):=T7 ((pI.or (Bu c)).or BN) CJ h g d
def Lc(z:Str):List D:=z.cps.toList.map λc=>.str ⟨#[c]⟩
def C6(u:TU):lX:=λg Q=>u g λd=>match d with
 | .lst c=>Q c
 | .fz c=>Q c
 | .tup c=>Q c
 | .str z=>Q (Lc z)
 | _=>False
theorem VE(z:Str):aJ K (Ut z) (Lc z) [] H:=λu tf k i=>by
 refine⟨λo=>?_,λd e=>?_⟩
 ·show i=z.cps.size;rw[<-o];simp[Lc]
 ·unfold Lc at e;rw[sj] at e
  cases g:z.cps.toList[i]? with
  | none=>rw[g] at e;cases e
  | some c=>
   rw[g] at e;cases e
   have p:=by
    have:=(List.getElem?_eq_some_iff.mp g).1;simpa using this
   have h:=by simpa using g
   refine⟨p,λx r l=>?_⟩;obtain⟨rfl,q,j,rfl⟩:=l;rw[h] at j;cases j;exact⟨e9.refl _,[],.str,Xf _⟩
theorem l9(h:PU X cl e f ua):Y8 X cl tg e f (C6 ua):=.of<|by
 obtain⟨t,p,h⟩:=h.run;refine⟨_,PC p,λG u o H fa Q R z E y k=>h G u o H fa _ _ z E y λv i d B s r l q=>?_⟩;cases d<;>first | exact(q).elim | skip
 ·cases D4 r;exact .inl ⟨_,rfl,k _ i _ [] s (VE _) (λa j=>by cases j) (A3.nil _) q⟩
 ·obtain⟨p,vs,rfl,c,g⟩:=J9 r;exact .inr ⟨p,rfl,.inr ⟨vs,R6.of c,k _ i _ _ s (Uc c g) g.there l q⟩⟩
 ·have x:=r;obtain⟨p,vs,C,rfl,c,g,rfl⟩:=E8 r;exact .inr ⟨p,rfl,.inl ⟨vs,G3.of c,k _ i _ _ s (VM c g) (λa j=>x.there j) l q⟩⟩
 ·obtain⟨p,vs,rfl,c,g⟩:=fF r;exact .inr ⟨p,rfl,.inl ⟨vs,c.sq,k _ i _ _ s (VD c g) g.there l q⟩⟩
def uK:List D->(D->Prop)->Prop
 | [.int i],Q=>Q (.int i)
 | [.bl k],Q=>Q (.int (if k then 1 else 0))
 | [.str x],Q=>x.length<=640/\∃n,PySem.intText? x=some n/\Q (.int n)
 | _,_=>False
theorem vo:Call3 X Mr uK:=by
 intro H vs i A Q R r q k;unfold uK at q;split at q
 ·exact .inl (Mf H vs _ A Q R r q k)
 ·exact .inl (Mf H vs _ A Q R r q k)
 ·obtain⟨g,n,d,q⟩:=q;obtain⟨v,rfl,c⟩:=r.one;cases D4 c;exact .inr ⟨_,n,rfl,d,g,k _ H _ _ (e9.refl H) .int t5 (λ_ h=>(by cases h)) q⟩
 ·exact q.elim
end
end L3
namespace L2
open PySem PySem.Spec PyProof.Rows
end L2
namespace L3
open PySem PySem.Spec L2
section
variable{X:Cx}{cl:List Cl}{e a b tg:Expr}{es:YH}{f:Fl}{pos:Pos}{ua ub uc:TU}{ma mb:TM}{fa fb fc:Fl}
end
end L3
namespace L2
open PySem PySem.Spec PyProof.Rows
def SX(h:Heap)(e:Addr)(b g:Value)(T:Addr):Prop:=
 ∃a vs d c,h.get? e=some a/\a.cls=b/\vs[0]?=some g/\a.data=.fields vs/\vs[1]?=some (.ref T)/\T≠e/\h.get? T=some d/\d.data=.fields c/\c[3]?=some .none
section
variable{M:Model}{A:Around}{E:YN}{s:Shared}{base:Heap}{env:Env}{outer:List Env}{L e:Addr}{Q:Unit->Shared->Prop}
end
section
variable{P:Program}{w:World}{K:YQ}{mg:YL}{base:Heap}{N:YF}{qual:Str}{scope:Scope}{f:Addr}{cd:Value}{A:Around}{outer:List Env}{s:Shared}{H:Hp}{E:XK}
 {pins:YA} {σ:St} {H1:Hp} {s1:Shared}
end
section
variable{M:Model}{A:Around}{E:YN}{s:Shared}{base:Heap}{env:Env}{outer:List Env}{L e:Addr}{Q:Unit->Shared->Prop}
end
section
variable{M:Model}{A:Around}{E:YN}{h:Heap}{g:Array GenState}{d:Drawn}{t:Nat}{os:OsState}{e C C':Addr}{oe:Obj}{Q:Bool->Shared->Prop}
 {nm q:Str} {N:Addr} {bs bm:YG} {hdct:Bool} {sn:YF} {sub:YG} {ab:Bool} {col:Option Bool} {dd:Option Addr} {k0 k1 k2 k3 k5:YR} {newId:String}
 {nm' q':Str} {N':Addr} {bs' bm':YG} {hdct':Bool} {sn':YF} {sub':YG} {ab':Bool} {col':Option Bool} {dd':Option Addr} {k0' k1' k2' k3' k5':YR} {newId':String}
end
def Cx.bo(X:Cx)(e:Addr)(a:Obj)(F:YN):Cx:={ X with A:=X.A.mark (some (.ref e)),calm:=false,pn:=X.pn++[(e,a)],xe:=F }
section
variable{X:Cx}{pins:YA}{σ:St}{H:Hp}{s:Shared}{e:Addr}{oe:Obj}{F:YN}
theorem Cx.Ok.bo(ok:X.Ok):(X.bo e oe F).Ok:=
 ⟨ok.mod,ok.kind,ok.glob,ok.blt,ok.above,ok.inj,ok.has,ok.cab,λz=>absurd (z) sK,ok.frames,ok.stk,ok.exf,ok.bs,ok.bsz,ok.noex,ok.exfs,ok.gU,ok.frf⟩
theorem Inv.bo(I:Inv X pins σ H s)(h:s.heap.get? e=some oe)(g:H e=none)(d:e≠X.env.locals)(c:e∉X.fs)(b:∀v,oe.data≠.cell v):Inv (X.bo e oe F) pins σ H s:=by
 refine⟨I.ok.bo,I.os,I.bare,I.base,I.loc,I.cell,I.free,I.freeC,λp a=>?_,I.hok,I.len⟩;rcases List.mem_append.mp a with z | z
 ·rcases List.mem_append.mp z with z | z
  ·exact I.pin p (vr _ z)
  ·rw[List.mem_singleton.mp z];exact⟨h,g,d,c,b⟩
 ·exact I.pin p (sw _ z)
end
structure PZ(X:Cx)(pins:YA)(σ:St)(H:Hp)(s:Shared)(e T:Addr)(cls a0:Value):Prop where
 inv:Inv X pins σ H s
 Mv:SX s.heap e cls a0 T
 te:H e=none
 tT:H T=none
 from_:∃H1 s1,Inv X pins σ H1 s1/\s.os=s1.os/\AllBare s.gens/\Un (wR X.stack) [] H1 H s1.heap s.heap/\s1.heap.get? e=none/\s1.heap.get? T=none
section
variable{X:Cx}{pins:YA}{σ:St}{H:Hp}{s:Shared}{e T:Addr}{cls a0:Value}{E:XK}{x:Value}{Q:Unit->Shared->Prop}{M:Model}{A:Around}{E2:YN}
theorem SX.apart(f:SX h e cls a0 T)(d:h.FunFrames base l):e∉wR l/\T∉wR l:=by
 obtain⟨q,vs,r,g,i,u,B,hd,y,j,p,c,v⟩:=f;refine⟨λz=>?_,λz=>?_⟩
 ·obtain⟨_,o,a,b⟩:=d.mem z;rw[i] at a;cases a;exact b vs hd
 ·obtain⟨_,o,a,b⟩:=d.mem z;rw[p] at a;cases a;exact b g c
theorem PZ.pin(a:PZ X pins σ H s e T cls a0):∃c,c.cls=cls/\Inv (X.bo e c F) pins σ H s:=by
 obtain⟨c,vs,l,j,g,h,p,hd,_⟩:=a.Mv;refine⟨c,h,a.inv.bo g a.te (λz=>?_) (λz=>?_) λv z=>by rw[hd] at z;cases z⟩
 ·obtain⟨m,⟨o,r,u,d,b,_⟩,_⟩:=a.inv.loc;rw[<-z,g] at d;cases d;rw[hd] at b;cases b
 ·have i:s.heap.FunFrames X.base X.outer:=by
   rcases a.inv.ok.stk with q | ⟨q,_⟩
   ·rw[<-q];exact a.inv.stack
   ·have:=a.inv.stack;rw[q] at this;exact this.2.2
  exact(a.Mv.apart i).1 z
end
section
variable{X:Cx}{pins:YA}{σ:St}{H:Hp}{s:Shared}{i:Nat}{n:Str}{M:Model}{A:Around}{E:YN}{Q:Unit->Shared->Prop}
end
end L2
namespace L3
open PySem PySem.Spec PySem.Calls PyProof.Rows L2
abbrev VF:=List D->(D->Prop)->(Str->Prop)->Prop
def calm(c:VF):Cp:=λa Q=>c a Q λ_=>False
section
variable{X:Cx}{cl:List Cl}{e:Expr}{es:YH}{pos p:Pos}{us:df}{k:Nat}{fn:Addr}{fd:FuncData}{ps:YF}{x:Str}
end
section
variable{X:Cx}{cl:List Cl}{e:Expr}{es:YH}{pos cpos hpos np p:Pos}{us:df}{k:Nat}{fn:Addr}{fd:FuncData}{ps:YF}{x y bn n:Str}{i:Nat}
end
end L3
namespace PySem.W
open PySem PySem.Calls PyProof.Rows Builtin Builtin.ObjectAttr Builtin.Getset_descriptor
section
variable{K:Frag}{prog:Program}{w:World}{A:Around}{E:YN}{s:Shared}{e D:Addr}{oe:Obj}
end
end PySem.W
namespace PySem.W
open PySem PySem.Calls PyProof.Rows
structure LM(K:Frag)(D:Addr):Prop where
 ga:findIn K (.ref D) "__getattribute__"=some (some (.builtin "BaseException.__getattribute__"))
 gn:findIn K (.ref D) "__getattr__"=some none
 cl:findIn K (.ref D) "__class__"=some (some (.builtin "object.__class__"))
 sp:specialIn K (.builtin "object.__class__") "__get__"=some (some (.builtin "getset_descriptor.__get__"))
 tk:takesIn K (.builtin "object.__class__")=some true
 ob:mroIn K D (.type "object")=some true
 be:mroIn K D (.type "BaseException")=some true
section
variable{K:Frag}{D e:Addr}
theorem LM.at(B:LM K D):∃c d b a,K.lookup D=some ⟨c,d,.cls b,a⟩:=by
 have h:=B.ob;unfold mroIn clsIn at h;split at h
 ·rename_i c d b a g
  exact⟨_,_,_,_,g⟩
 ·cases h
end
end PySem.W
namespace L3
open PySem PySem.Spec PySem.Calls PyProof.Rows PySem.W L2
section
variable{X:Cx}{cl:List Cl}{e C:Addr}{oe:Obj}{pos p p1 p2:Pos}{n y:Str}{i:Nat}{b:Bool}
end
end L3
namespace L2
open PySem PySem.Spec PyProof.Rows
def Uk(K:YQ)(a:Addr)(n:Nat):It:=
 ⟨λi H=>i<n/\∃b,G3 K H a b/\b.length=n,λi H x c=>c=H/\∀b,G3 K H a b->b[n-1-i]?=some x,λi H=>i=n⟩
theorem BO{K:YQ}(a it:Addr)(n:Nat):Turn P w K tg (Uk K a n) [it] it (λi h=>i<=n/\h.IsRevIter it a ((n:Int)-1-(i:Int))) where
 mem:=List.mem_singleton.mpr rfl
 obj:=λi h st b q=>by
  cases List.mem_singleton.mp q;obtain⟨_,o,e,c,d⟩:=st;exact⟨o,e,λv z=>by rw[d] at z;cases z⟩
 keep:=λi h y st k=>⟨st.1,st.2.at λo e=>k it (List.mem_singleton.mpr rfl) o e⟩
 item:=by
  intro X C hw G hc i j s S H E I r st B;subst C hw G;obtain⟨hi,T,Y,hn⟩:=B;obtain⟨a0,rv,p,hz⟩:=I.list Y;have U:T[n-1-i]?=some (T[n-1-i]'(by omega)):=nA (by omega);obtain⟨u,hu,ru⟩:=rv.get U;obtain⟨R,Q,f2,O,M,J⟩:=r it (List.mem_singleton.mpr rfl);have g:=st.2;rw[show(n:Int)-1-i=((n-1-i:Nat)) by omega] at g;refine wpAny_pyNext_rev_item g p.isList  (by simpa using hu) λy l sb=>?_;rw[show((n-1-i:Nat))-1=n-1-((i+1):Int) by omega] at l;have I1:=I.turned (t':=s.toks) (λb o q e=>(sb.2 b q).trans e) R Q O M J;obtain⟨o,e,c,d⟩:=id l;exact⟨u,rfl,og  e c d (by decide) ⟨_,H,I1,ru,⟨rfl,λys hy=>by rwa[I.ky hy Y]⟩,⟨hi,l⟩,λb q=>(r b q).1⟩⟩
 done:=by
  intro X C hw G hc i j s S H E I r st B;obtain rfl:i=n:=B;obtain⟨R,Q,f2,O,M,J⟩:=r it (List.mem_singleton.mpr rfl);have g:=st.2;rw[show(i:Int)-1-i=-1 by omega] at g;exact wpAny_pyNext_rev_end (I.ok.hd hc) g λy eb=>⟨rfl,I.turned (t':=s.toks) (λb o q e=>eb b o q e) R Q O M J⟩
 self:=λ_ _ _ _ _ st h=>wpAny_pyIter_revIter st.2 h
def LG(K:YQ)(e:TA):TI:=λd H R=>e d H λvs c=>∃a b,vs=[.ref a]/\G3 K c a b/\R (Uk K a b.length) c
theorem Ip     (Q:Gl X "reversed") (O:X.mg "reversed"=none) (T:PA X [a] y) (J:starEach [a] X.env=[(false,eval a X.env)]:=by rfl):PI X B (.Call (.Name "reversed" p) [a] [] d) (LG X.K y):=by
 refine .of ?_;intro g s z H R I h;refine WJ (bu I Q O Ym (callWith_type1 (x4 (T d g s z H _ I h) λY v ⟨vs,U,r,E,G⟩=>?_) J rfl) (by decide) (by decide));obtain⟨l,c,rfl,M,q⟩:=G;obtain⟨u,rfl,C⟩:=vals1 E;cases(C);obtain⟨x,rv,pl,hz⟩:=r.list M;refine call_reversed_list pl.isList ?_;have j:x.toArray.size=c.length:=by exact rv.length.symm
 rw[j];refine wpAny_pyIter_revIter   ⟨_,t6 _ rfl,rfl,rfl⟩ (⟨v.heap.objs.size,[v.heap.objs.size],_,_,U,rfl,r.kept  λb o e=>hD _ e,BO l _ c.length,⟨v9 _,?_⟩,λb S=>?_,q⟩)
 ·rw[show(c.length:Int)-1-((0:Nat))=c.length-1 by omega];exact⟨_,t6 _ rfl,rfl,rfl⟩
 ·cases List.mem_singleton.mp S;exact r.eW (oT _) (r.hok.fresh (oT _))
end L2
namespace L3
open PySem PySem.Spec PyProof.Rows L2
section
variable{X:Cx}{cl:List Cl}{tg e a kx:Expr}{f fb:Fl}{ua ub:TU}{pos p:Pos}
def Mh(u:TU):lX:=λc Q=>u c λd=>match d with
 | .lst b=>Q b.reverse
 | .fz b=>Q b.reverse
 | _=>False
theorem zm{K:YQ}(h:∀b,Tf H b->(∀a∈g,b a=H a)->G3 K b q vs)(l:C.Sublist g)(r:i9 K H vs xs C):aJ K (Uk K q vs.length) xs.reverse g H:=λb tf k i=>by
 have j:=h b tf k;have z:=r.length;refine⟨λe=>?_,λd e=>?_⟩
 ·show i=vs.length;rw[FM] at e;omega
 ·have E:=by
   have:=(List.getElem?_eq_some_iff.mp e).1
   rwa [FM] at this
  rw[Xr E] at e;obtain⟨v,B,J,x,u⟩:=Z7 r tf (λa G=>k a (l.mem G)) e;refine⟨⟨by omega,vs,j,rfl⟩,λy M c=>?_⟩;obtain⟨I,c⟩:=c;subst I;have o:=c vs j;rw[z,J] at o;cases o;exact⟨e9.refl _,B,x,u.trans l⟩
theorem Oh (h:PU X cl e f ua) (y:isStar e=false) (mk:∀{t},PA X [e] t->PI X tg (.Call (.Name "reversed" p) [e] [] pos) (LG X.K t)):Y8 X cl tg (.Call (.Name "reversed" p) [e] [] pos) f (Mh ua):=.of<|by
 obtain⟨t,q,h⟩:=h.run;refine⟨_,mk (bf q L8 y),λG o l H J Q R I E x k=>h G o l H J _ _ I E x λv j d B s r i q=>?_⟩;cases d<;>first | exact(q).elim | skip
 ·have u:=r;obtain⟨p,vs,C,rfl,b,c,rfl⟩:=E8 r;exact⟨p,vs,rfl,G3.of b,k _ j _ _ s (zm (λM tf g=>G3.of ((g p hQ).trans b)) (Tk _ _) c) (λa z=>u.there z) i q⟩
 ·obtain⟨p,vs,rfl,b,c⟩:=fF r;exact⟨p,vs,rfl,b.sq,k _ j _ _ s (zm (λM tf g=>(tf.Ta b).sq) (Wm _) c) c.there i q⟩
end
end L3
namespace PySem.SeqAt
open PySem MeetsSeq MeetsSeq2 MeetsSeq3 SeqRoads2
section
variable{A:Around}{s:Shared}
end
end PySem.SeqAt
namespace L2
open PySem PySem.Spec PyProof.Rows
section
variable{X:Cx}
end
end L2
namespace L3
open PySem PySem.Spec PyProof.Rows L2
section
variable{X:Cx}{cl:List Cl}{a b:Expr}{fa fb:Fl}{ua ub:TU}{pos:Pos}
end
end L3
namespace L2
open PySem PySem.Spec PyProof.Rows
section
variable{X:Cx}
end
end L2
namespace L3
open PySem PySem.Spec L2
section
variable{X:Cx}{cl:List Cl}{a:Expr}{fa:Fl}{ua:TU}{pos:Pos}
end
end L3
namespace PySem
theorem oQ:typeLookup (.type "list") "keys"=pure none:=by kernel_rfl
theorem Ko{prog:Program}{w:World}{A:Around}{E:YN}{s:Shared}{a:Addr}{o:Obj}{xs:YK}{k:Nat}{Q:YR->Shared->Prop}
  (l:s.heap.get? a=some o) (p:o.cls=.type "list") (b:o.data=.seq xs k) (hd:o.dict=none) (v:A.handled=none)
  (h:∀h' tk e,Heap.NewExcOf s.heap h' e "AttributeError"->Q none { s with heap:=h',toks:=tk }):wpAny (model prog w) A (getAttr? (.ref a) "keys") Q E s:=by
 obtain⟨c,x,y,r⟩:=o;simp only at p b hd;subst p b hd;obtain⟨u,g,d,tk,os⟩:=s;have q:∀i,(⟨u,g,d,i,os⟩:Shared).TypeIs (.ref a) "list":=λ_=>⟨_,l,rfl⟩
 have J:=sub_AttributeError;have I:=F.slot_list_getattribute.lookup;have H:=F.slot_list_getattribute.bind (.ref a);have G:=am_list_getattr_none;unfold getAttr? getAttrBy? getAttrBy
 repeat (any_goals (first | assumption | exact q _ | ((with_reducible show wpAny _ _ (call (Value.builtin "list.__getattribute__") _ _) _ _ _);refine call_meets F.slot_list_getattribute (q _) am_entry_list_getattribute (F.args_list_getattribute_2 _ _) (meets_getattribute_miss_list a xs k r "keys" _ oQ (by decide +kernel) (by size_fits)) ⟨l,v,λh' i e j=>?_⟩) | wp_step))
 obtain⟨B,z,C⟩:=j.there;show wpAny _ _ (getattributeRaised _ _ _ _ _ _ _) _ _ _;unfold getattributeRaised
 repeat (any_goals (first | assumption | wp_step))
 exact h _ _ _ j.of
end PySem
namespace L2
open PySem PySem.Spec PyProof.Rows
theorem uI:entryFor table "dict.update.loop"=some Builtin.«dict.update.loop»:=entryFor_of_tree (by kernel_rfl)
theorem dJ:plainId "dict.update.loop"=true:=by decide +kernel
def yq(H:Hp)(t:V)(b:Key×V):Prop:=∃a,t=.ref a/\H a=some (.tup [kV b.1,b.2])
theorem mX:∀{l:List d} {m:List c},Paired F l m->∀(i:Nat) (a:d) (b:c),l[i]?=some a->m[i]?=some b->F a b
 | _,_,.nil,i,a,b,h,_=>by simp at h
 | _,_,.cons r t,0,a,b,h,g=>by simp at h g;subst h g;exact r
 | _,_,.cons r t,i+1,a,b,h,g=>mX t i a b (by simpa using h) (by simpa using g)
section
variable{X:Cx}{pins:YA}{σ:St}
theorem yj{E:YN}(I:Inv X pins σ H s)(e:H a=some (.dK kvs))(l:kvs.length<sizeLine)(i:RelV (kV k) u)(rv:RelV v r)
  (h:∀d,Inv X pins σ (upd H a (.dK (putK kvs k v))) d->Heap.SameBut a s.heap d.heap->Q () d):wpAny (model X.prog X.w) A (dictSet a u r) Q E s:=by
 obtain⟨z,hd,vs,b,x⟩:=FT I.hok e;have j:vs.length<=sizeLine:=by rwa[<-b.length]
 have p:(putK kvs k v).length<=sizeLine:=by have:=G5 kvs k v;omega
 exact wpAny_dictSet_pairs  (bj i) x λy c g=>h _ (dw I (by rw[e];exact True.intro) g (let ⟨q,_,_,o,_⟩:=c;⟨q,o⟩) (pG p hd (b.put k rv) c)) g
theorem Jo{R:Result->Shared->Prop}{H:Hp}{d p it:Addr}{ts:List V}{kvs:List (Key×V)}(hh:A.handled=none)(hp:G3 X.K H p ts)(hd:H d=none)(C:Paired (yq H) ts kvs)(hl:kvs.length<sizeLine)(hit:it≠d)(h:∀o,N0 X pins (upd H d o) it)(z:∀j,Inv X pins σ (upd H d (.dK (F0 [] kvs))) j->R (.ok (.ret .none)) j) :
  ∀(n i:Nat) (s:Shared),kvs.length-i=n->i<=kvs.length->Inv X pins σ (upd H d (.dK (F0 [] (kvs.take i)))) s->s.heap.IsListIter it p i ->
   codeAny (model X.prog X.w) A (.builtin "dict.update.loop" ⟨[.ref d,.ref it,rawInt i,.none],[]⟩) R s:=by
 intro n
 induction n with
 | zero=>
  intro i s hn c I st;have e:i=kvs.length:=by omega
  subst e;rw[wP] at I;have hq:G3 X.K (upd H d (.dK (F0 [] kvs))) p ts:=e9.seq (e9.i3 hd) hp;obtain⟨B,rv,pl,hz⟩:=I.list hq;obtain⟨Q,O,f2,M,J,G⟩:=h (.dK (F0 [] kvs));have e1:=C.length;have e2:=rv.length;refine Op uI ?_;refine eH (wpAny_pyNext_list_end hh st pl.isList (by simp;omega) λl eb=>?_);have q:=I.turned (t':=s.toks) (h':=l) (λb o E e=>eb b o E e) Q O M J G;exact eH (hE (hE (z _ q)))
 | succ n ih=>
  intro i s hn c I st;have c:i<kvs.length:=by omega
  have sm:e9 H (upd H d (.dK (F0 [] (kvs.take i)))):=e9.i3 hd;obtain⟨B,rv,pl,hz⟩:=I.list (e9.seq sm hp);obtain⟨Q,O,f2,M,J,G⟩:=h (.dK (F0 [] (kvs.take i)));have e1:=C.length;have hx:ts[i]?=some (ts[i]'(by omega)):=nA (by omega);have hk:kvs[i]?=some (kvs[i]'c):=nA c;obtain⟨a,ea,ha⟩:=mX C i _ _ hx hk;obtain⟨u,hu,T⟩:=rv.get hx;rw[ea] at T;cases(show u=Value.ref a from T);refine Op uI ?_;rw[Fk dJ _];show wpAny _ A.in1 (pyNext (.ref it) >>= _) _ _ s;refine eH (wpAny_pyNext_list_item st pl.isList (x:=.ref a) (by simpa using hu) λl r sb=>?_);have q:=I.turned (t':=s.toks) (h':=l) (λb o E e=>(sb.2 b E).trans e) Q O M J G;obtain⟨_,Y,v,o2,g1,g2,n2,g3⟩:=(show p8 X.prog X.w _ l a (.tup _) from q.hok a _ (sm _ _ ha))
  obtain⟨U,S,rfl,rk,y⟩:=vals2 v
  have g:(F0 [] (kvs.take i)).length<sizeLine:=by
   have h1:=bV (kvs.take i) [];rw[v4] at h1;simp at h1;omega
  have em:F0 [] (kvs.take (i+1))=putK (F0 [] (kvs.take i)) (kvs[i]'c).1 (kvs[i]'c).2:=by
   rw[wl,hk];unfold F0;rw[Wk];rfl
  refine eH (BB (eH (wpAny_tryCatch ?_)));unfold Builtin.Dict.pairItems;refine eH (WO ⟨o2,g1,g2⟩ ?_);rw[t4 (by decide)];refine eH (wpAny_seqItems g1 g3 (hE ?_));show wpAny _ _ (holding [U,S] (dictSet d U S)) _ _ _;refine BB (yj q c8 g rk y λj I2 hs=>?_);rw[bF,<-em] at I2;exact hE ⟨VZ dJ _,ih (i+1) j (by omega) c I2 (r.at λo e=>(hs.2 it hit).trans e)⟩
theorem wW(G:X.calm=true):J1 X (.type "dict") (λxs H Q=>∃p ts kvs,xs=[.ref p]/\G3 X.K H p ts/\Paired (yq H) ts kvs/\kvs.length<sizeLine/\∀d,H d=none->Q (.ref d) (upd H d (.dK (F0 [] kvs)))):=by
 intro pins s σ H xs Y Q I r h;obtain⟨p,ts,kvs,rfl,E,S,T,q⟩:=h;obtain⟨u,rfl,O⟩:=vals1 r;cases(O);refine callType_codes (Q₁:=λobj C=>obj=.ref s.heap.objs.size/\C={ s with heap:=s.heap.push { cls:=.type "dict",data:=.dict #[] } }) F.kt_called_dict (F.kt_typeCall_dict_1 _) F.entry_dict_init (kt_code_dict_new _ ⟨rfl,rfl⟩) ?_;rintro obj C ⟨rfl,rfl⟩;have v:=I.hok.fresh (oT s.heap.objs.size);have M:=I.laid    (t':=s.toks) (λ_ _ q=>hD _ q) (oT _) (dS s.heap I.big);obtain⟨x,rv,pl,hz⟩:=M.list (e9.seq (e9.i3 v) E);have J:Shared.TypeIs { s with heap:=s.heap.push { cls:=.type "dict",data:=.dict #[] } } (.ref s.heap.objs.size) "dict":=⟨_,t6 _ rfl,rfl⟩
 refine⟨J,F.args_dict_init_2 _ _,?_⟩;refine eH ?_;refine eH (wpAny_notOrdered_dict J ?_);refine hE ?_;show wpAny _ _ (Builtin.Dict.updateFrom "dict.__init__" s.heap.objs.size (.ref p) [] .none) _ _ _;refine eH (WO pl.isList.typeIs ?_);obtain⟨ob,R,l,j,y,i⟩:=pl;refine eH (Ko l j i y (I.ok.hd G) λz c e2 nx=>?_);have B:=M.kept (t':=c)  nx.keeps;refine eH (WI (eH (WQ  ⟨ob,nx.keeps _ _ l,j,R,i⟩ (hE ⟨VZ dJ _,?_⟩))))
 have g:=by
  have:=t9 (nx.keeps _ _ (t6 s.heap  rfl));exact this
 refine Jo    (A:=X.A.in1)      (kvs:=kvs) (I.ok.hd G) E v S T (WB g) (λo=>B.eW (oT _) (by rw[i4 (WB g)];exact(e9.i3 v).free (B.hok.fresh (oT _)))) (λs' U=>⟨rfl,.ref s.heap.objs.size,_,U,rfl,q _ v⟩) kvs.length 0 _ rfl (v9 _) (B.kept (t':=c) λb o e=>hD _ e) ?_
 ·exact⟨_,t6 _ rfl,rfl,rfl⟩
end
end L2
namespace L3
open PySem PySem.Spec PyProof.Rows L2
def pairD:D->Option (Key×D)
 | .tup [k,v]=>(ag k).map λj=>(j,v)
 | _=>none
def cC:List D->Option (List (Key×D))
 | []=>some []
 | x::a=>match pairD x,cC a with
  | some p,some ps=>some (p::ps)
  | _,_=>none
def jQ(more:List (Key×D)):List (Key×D):=more.foldl (λa b=>putD a b.1 b.2) []
section
variable{X:Cx}
theorem qu{K:YQ}{H:Hp}:∀{ts:List V} {xs:List D} {A:YE} {ps:List (Key×D)},i9 K H ts xs A->cC xs=some ps->w6 xs=true ->
  ∃kvs:List (Key×V),Paired (yq H) ts kvs/\x3 K H kvs ps []/\kvs.length=ps.length
 | _,_,_,_,.nil,e,_=>by cases e;exact⟨[],.nil,.nil,rfl⟩
 | _,_,_,ps,.cons (d:=d) (ds:=r) h t,e,I=>by
  have g:(r8 d&&w6 r)=true:=I;rw[vc] at g;unfold cC at e
  cases i:pairD d with
  | none=>rw[i] at e;cases e
  | some p=>
   cases l:cC r with
   | none=>rw[i,l] at e;cases e
   | some Q=>
    rw[i,l] at e;cases e;obtain⟨kvs,a,b,c⟩:=qu t l g.2;unfold pairD at i;split at i
    ·rename_i k v
     obtain⟨j,M,rfl⟩:=Option.map_eq_some_iff.mp i;obtain⟨q,vs,rfl,J,u⟩:=J9 h;obtain⟨x,y,B,C,rfl,E,o,_⟩:=u.two;cases R5 E M
     have G:=by
      have z:(r8 k&&(r8 v&&true))=true:=g.1;simp only[vc] at z;exact z.2.1
     have O:=o.D6 G;subst O;exact⟨(j,y)::kvs,.cons ⟨q,rfl,J⟩ a,x3.cons   o b,by rw[wf,wf,c]⟩
    ·cases i
theorem nh{K:YQ}{H:Hp}:∀{kvs:List (Key×V)} {ps:List (Key×D)} {A:YE} {acc:List (Key×V)} {ad:List (Key×D)},x3 K H kvs ps A->A=[]->x3 K H acc ad []->x3 K H (F0 acc kvs) (ps.foldl (λa c=>putD a c.1 c.2) ad) []
 | _,_,_,_,_,.nil,_,q=>q
 | _,_,_,acc,ad,.cons (k:=k) h t,e,q=>by
  obtain⟨i,g⟩:=List.append_eq_nil_iff.mp e;subst i;obtain⟨C,b,d⟩:=q.put k h;rw[List.sublist_nil.mp d] at b;show x3 K H (F0 (putK acc k _) _) (List.foldl _ (putD ad k _) _) [];exact nh t g b
def vT:List D->(D->Prop)->Prop:=λc Q=>(∃(d:D) (b:List D) (ps:List (Key×D)),c=[d]/\kindB false d=some b/\w6 b=true/\cC b=some ps/\ps.length<sizeLine/\Q (.dic (jQ ps))) \/
 ∃a:List (Key×D),c=[.dic a]/\(a.all λe=>r8 e.2)=true/\Q (.dic a)
def vS(K:YQ)(xs:List V)(H:Hp)(Q:VK):Prop:=(∃p b a,xs=[.ref p]/\G3 K H p b/\Paired (yq H) b a/\a.length<sizeLine/\∀d,H d=none->Q (.ref d) (upd H d (.dK (F0 [] a)))) \/
  ∃p a,xs=[.ref p]/\Dd H p a/\∀d,H d=none->Q (.ref d) (upd H d (.dK a))
theorem ql(C:X.calm=true):J1 X (.type "dict") (vS X.K):=by
 intro c s g H i j Q I r h;rcases h with h | ⟨p,v,rfl,y,q⟩
 ·exact wW C c s g H i j Q I r h
 ·obtain⟨u,rfl,l⟩:=vals1 r;cases(l);obtain⟨z,hd,vs,a,J⟩:=bW I.hok (.of y);refine kt_call_dict hd J (by rwa[<-a.length]) λG d x=>?_;have B:=I.hok.fresh (oT s.heap.objs.size)
  have kp:∀b o,s.heap.get? b=some o->G.get? b=some o:=λb o e=>by
   have E:=u8 (t9 e);exact(x.2 b E).trans (hD _ e)
  have M:=(dS (P:=X.prog) (w:=X.w) (H:=H) s.heap I.big).2.1;exact⟨.ref s.heap.objs.size,_,I.laid  kp (oT _) (pG z M a d),rfl,q _ B⟩
theorem jY(a:X.calm=true):J1 X (.type "dict") (λxs H Q=>vS X.K xs H (Qv Q)):=DA (ql a)
theorem zR:Call3 X (λxs H Q=>vS X.K xs H (Qv Q)) vT:=by
 intro H vs S A Q R r q k;rcases q with⟨d,xs,ps,rfl,O,j,M,G,q⟩ | ⟨y,rfl,j,q⟩
 ·obtain⟨v,rfl,i⟩:=r.one;obtain⟨p,l,B,rfl,C,u,_⟩:=ah i O;obtain⟨c,x,h,el⟩:=qu u M j;refine .inl ⟨p,l,c,rfl,C,x,by rwa[el],λa g=>?_⟩;have o:=nh h rfl .nil;refine⟨a,_,rfl,c8,λJ=>?_⟩;rw[bF];refine k _ _ _ [a] (e9.i3 g) (.dic c8 (o.mono (X7.of (e9.i3 g)) λb e=>by cases e)) (List.nodup_cons.mpr ⟨(λz=>nomatch z),t5⟩) (λb e=>by cases List.mem_singleton.mp e;exact g) q
 ·obtain⟨v,rfl,i⟩:=r.one;obtain⟨p,c,B,rfl,E,h,_⟩:=V7 i;have I:=h.D6 j;subst I;refine .inr ⟨p,c,rfl,E,λa g=>⟨a,_,rfl,c8,λJ=>?_⟩⟩;rw[bF];exact k _ _ _ [a] (e9.i3 g) (.dic c8 (h.mono (X7.of (e9.i3 g)) λb e=>by cases e)) (List.nodup_cons.mpr ⟨(λz=>nomatch z),t5⟩) (λb e=>by cases List.mem_singleton.mp e;exact g) q
end
end L3
namespace L2
open PySem PySem.Spec PyProof.Rows
section
variable{X:Cx}{e c:Expr}{te:TE}{pos p2:Pos}
def Rb(K:YQ)(te:TE)(tc:TO):TE:=λd H Q=>te d H λx h=>tc d h λl b=>l=some (-1)/\∃a g,x=.ref a/\G3 K b a g/\∀p,b p=none->Q (.ref p) (upd b p (.lst g.reverse))
theorem Ka(R:PE X e te)(S:PO X (some c) tc):PE X (.Subscript e (.Slice none none (some c) p2) pos) (Rb X.K te tc):=by
 refine .of ?_;intro d s i H Q I h;refine Subscript_ (x4 (R d s i H _ I h) λv B ⟨x,H1,Y,C,G⟩=>wpAny_Slice ?_);refine hE (hE (x4 (S d B i H1 _ Y G) λp g ⟨l,H2,U,pc,T,a,z,ex,O,E⟩=>?_));subst T ex;cases C;have j:Inv X d i H2 { g with heap:=g.heap.push { cls:=.type "slice",data:=.fields #[.none,.none,p] } }:=U.kept  λb ob q=>hD _ q;obtain⟨J,r,u,M⟩:=j.list O;have y:=r.length;refine tail_any  u.isList.typeIs slot_list_getitem.lookup (wpAny_getItem_list_slice u.isList (Ye ..) .none .none pc (by decide) ?_ (by rw[t7];omega)) (by with_unfolding_all rfl);rw[PySem.W.krv_pick];exact⟨.ref _,_,j.laid  (o:=.lst z.reverse) (λb ob q=>hD _ q) (oT _) ⟨by rwa[FM],_,0,r.reverse,t6 _ rfl⟩,rfl,E _ (j.hok.fresh (oT _))⟩
end
end L2
namespace L3
open PySem PySem.Spec L2
section
variable{X:Cx}{cl:List Cl}{a c:Expr}{fa:Fl}{ua uc:TU}{pos p2:Pos}
def LJ(ua:TU)(uc:OT):TU:=λb Q=>ua b λd=>uc b λl=>l=some (-1)/\match d with
 | .lst e=>w6 e=true/\Q (.lst e.reverse)
 | _=>False
theorem qX(r:i9 K H vs ds []):i9 K H vs.reverse ds.reverse []:=by
 obtain⟨C,b,d,_⟩:=r.rev
 have e:C=[]:=by
  cases C with
  | nil=>rfl
  | cons a C=>exact absurd ((d a).mp hQ) (by simp)
 rwa[e] at b
theorem Kw(j:PU X cl a fa ua)(O:PU X cl c f uc):PU X cl (.Subscript a (.Slice none none (some c) p2) pos) .fresh (LJ ua (aE uc)):=.of<|by
 obtain⟨ta,I,j⟩:=j.run;obtain⟨tl,pl,g⟩:=(R3 O).run;refine⟨_,Ka I pl,λG q o H x Q R u E J k=>j G q o H x _ _ u E J λv Y d A i y f1 C=>g G q o Y x _ _ u (E.same i) C λo1 H2 h e=>?_⟩;obtain⟨U,e⟩:=e;cases d<;>first | exact(e).elim | skip
 obtain⟨p,vs,B,rfl,M,r,_⟩:=E8 (y.same h);have T:=r.D6 e.1;subst T;exact⟨U,p,vs,rfl,G3.of M,λl g=>k _ _ _ [l] ((i.trans h).trans (e9.i3 g)) (.lst c8 ((qX r).same (e9.i3 g))) ⟨List.nodup_cons.mpr ⟨(λz=>nomatch z),t5⟩,λb S=>by cases List.mem_singleton.mp S;exact(i.trans h).free g⟩ e.2⟩
end
end L3
namespace L2
open PySem PySem.Spec PySem.Calls PyProof.Rows
section
variable{X:Cx}{pins:YA}{σ:St}{H:Hp}{s:Shared}
end
end L2
namespace L3
open PySem PySem.Spec PySem.Calls PyProof.Rows L2
section
variable{X:Cx}{cl:List Cl}{e:Expr}{es:YH}{pos cpos hpos np p:Pos}{us:df}{k m:Nat}{x y bn n:Str}{i j:Nat}{AP:Addr->Prop}
end
section
variable{X:Cx}{cl:List Cl}{e:Expr}{es:YH}{pos p:Pos}{us:df}{k:Nat}{fn:Addr}{fd:FuncData}{ps:YF}{x:Str}{ua:TU}{f:Fl}{ma:TM}
structure Tj(X:Cx)(cl:List Cl)(es:YH)(u:df):Prop where
 of ::
 run:∃t,PA X es t/\∀(G:Ent) (ρ:Ev) (σ:L2.St) (H:Hp) (fa:YO) (Q:List D->Prop) (R:List V->Hp->Prop),G.cl=cl->E3 X.K G ρ σ H fa->u ρ Q ->
  (∀vs H' ds A,e9 H H'->i9 X.K H' vs ds A->ds.length=es.length->(∀i,G.own i->∀a∈A,a∉fa i)->Q ds->R vs H')->t σ H R
theorem PR:Tj X cl [] g7:=.of ⟨_,L8,λG c b H d Q R _ E a k=>k [] H [] [] (e9.refl H) .nil rfl (λ_ _ _ h=>(by cases h)) a⟩
theorem yx(b:PU X cl e f ua)(U:Tj X cl es us)(T:isStar e=false)(Y:jH f .stab=true):Tj X cl (e::es) (a9 ua us):=.of<|by
 obtain⟨t1,J,h1⟩:=b.run;obtain⟨t2,I,h2⟩:=U.run;refine⟨_,bf J I T,λG g c H q Q R o E S k=>h1 G g c H q _ _ o E S λv H1 d A j u f1 C=>h2 G g c H1 q _ _ o (E.same j) C λvs H2 ds B h r O M y=>k (v::vs) H2 (d::ds) (A++B) (j.trans h) (.cons (u.same h) r) (by simp[O]) (λi l a b=>?_) y⟩;rcases List.mem_append.mp b with z | z
 ·exact f1.weak E Y i l a z
 ·exact M i l a z
theorem Io(h:Tj X cl es us)(l:Nat.ble es.length 1000=true):PU X cl (.Tuple es d pos) .stab (U7 us):=.of<|by
 obtain⟨t,p,h⟩:=h.run;exact⟨_,oJ p,λG c b H u Q R o E j k=>h G c b H u _ _ o E j λvs y v A s r i g q=>⟨by rw[r.length,i];exact bh (v1 l),λx a=>k _ _ (.tup v) A (s.trans (e9.i3 a)) (.tup c8 (r.same (e9.i3 a))) g q⟩⟩
end
end L3
namespace L2
open PySem PySem.Spec PyProof.Rows
theorem qZ{E:YN}{s:Shared}{T d b:String}{v:Builtin}{a:YG}{Q Q1:YN}(g:TypeCalled T d b)(ct:checkTypeCall T ⟨a,[]⟩=pure ())(B:entryFor table b=some v)
  (l:codeAny (model prog w) A.in1 (.call (.builtin d) ⟨.type T::a,[]⟩) (wants Q1 E) s)
  (next:∀x j,Q1 x j->j.TypeIs x T/\(∀{H:Around} {u:Unit->Shared->Prop} {G:YN},u () j->wpAny (model prog w) H (checkBuiltinCall b ⟨x::a,[]⟩) u G j) /\
   wpAny (model prog w) A.in1.in1 (v ⟨x::a,[]⟩)
    (λf o=>match f with | .done r=>wants (λr i=>r=.none/\Q x i) E (.ok r) o | .again c=>c.quiet=true/\codeAny (model prog w) A.in1 c (wants (λr i=>r=.none/\Q x i) E) o)
    (λe o=>wants (λr i=>r=.none/\Q x i) E (.error e) o) j) :
  wpAny (model prog w) A (call (.type T) a) Q E s:=by
 have⟨c,I,f1⟩:=g.mro;have Y:=g.made;have X:=g.sub;have U:=g.notType;have S:=g.canCreate;refine wpAny_call (Xz (show wpAny _ _ (callAny (.type T) _) _ _ _ from hE ⟨Code.quiet_builtin _ (by decide +kernel),Op F.entry_type_call ?_⟩));rw[Around.under_plain (weight_type_call_type T a []) rfl];repeat (any_goals (first | assumption | wp_step))
 refine Xa l λr j p=>?_
 cases r with
 | error e=>exact p
 | ok z=>
  cases z with
  | ret x=>
   have⟨R,C,run⟩:=next _ _ p;have O:=g.init.lookup;have M:=g.init.bind x;repeat (any_goals (first | assumption | wp_step))
   refine Xa (codeAny_call_builtin g.init.plain B (C run)) λy i h=>?_
   cases y with
   | error e=>exact h
   | ok q=>
    cases q with
    | ret r=>obtain⟨rfl,J⟩:=h;repeat (any_goals (first | assumption | wp_step))
    | _=>exact h.elim
  | _=>exact p.elim
theorem tL{R:Result->Shared->Prop}{I:Addr}{O p:YE}{n:Nat}{P:Nat->Value->Prop}{St:Nat->Heap->Prop}(W:Walks prog w A.in1 I O p n P St)(S:Addr)(M:S∉O)(key:Nat->Key)(hv:∀i v,P i v->bb (key i) v=true)(c:n+1<scanBound) :
  ∀(k i:Nat) (s:Shared),n-i=k->i<=n->St i s.heap->(∃m,m<=i/\s.heap.SetOf (l3 prog w) S (λx=>((List.range i).map key).any λz=>decide (z=x)) m) ->
   (∀h' tk m,(∀b o,b∉S::p->s.heap.get? b=some o->h'.get? b=some o)->h'.SetOf (l3 prog w) S (λx=>((List.range n).map key).any λz=>decide (z=x)) m->R (.ok (.ret .none)) { s with heap:=h',toks:=tk }) ->
   codeAny (model prog w) A (.builtin "set.update.loop" ⟨[.ref S,.ref I],[]⟩) R s:=by
 have U:=λh=>M (W.sub _ h);have fV:∀{h h':Heap} {T:Key->Bool} {m:Nat},(∀b o,b∉p->h.get? b=some o->h'.get? b=some o)->h.SetOf (l3 prog w) S T m->h'.SetOf (l3 prog w) S T m:=λk ⟨o,es,ep,t,ho,r⟩=>⟨o,es,ep,t,k S _ U ho,r⟩
 have same:∀{h:Heap} {T Q:Key->Bool} {m:Nat},h.SetOf (l3 prog w) S T m->T=Q->h.SetOf (l3 prog w) S Q m:=λa e=>e▸a;intro k
 induction k with
 | zero=>
  intro i s hk hi st ⟨m,_,H⟩ d;have e:i=n:=by omega
  subst e;refine Op SZ ?_;exact eH (W.done s _ _ st λh' tk kp=>hE (d h' tk m (λb o c e=>kp b o (λz=>c (hH _ z)) e) (fV kp H)))
 | succ k Y=>
  intro i s hk hi st ⟨m,a0,H⟩ d;have l:i<n:=by omega
  refine Op SZ ?_;rw[Fk Da _];show wpAny _ A.in1 (pyNext (.ref I) >>= _) _ _ s;refine eH (W.item i s _ _ l st λv h' tk hP u kp=>?_);have g:=hv i v hP;have B:v.scannable=true:=by rcases o7 g with⟨j,t,_,rfl⟩ | ⟨x,t,_,rfl⟩<;>rfl
  have G:=fV kp H;show wpAny _ A.in1 (holding [v] (setAdd S v) >>= _) _ _ _;refine eH (BB ?_);unfold setAdd;refine BB (eH ((l3 prog w).pyHash (k:=key i) g (wpAny_setAddHashed_of (knd:=l3 prog w) (n:=m) (s:={ s with heap:=h',toks:=tk+1 }) g B G (by omega) λh2 J E=>hE ⟨VZ Da _,Y (i+1) _ (by omega) l (W.frame (i+1) h' h2 u λb c o e=>(J.2 b λz=>M (z▸c)).trans e) ⟨_,?_,same E (funext λx=>?_)⟩ λh3 q X y C=>?_⟩)))
  ·split<;>omega
  ·rw[Yb,vb];rw[List.any_append];show((_:Bool)||decide (x=key i))=(_||(decide (key i=x)||false));rw[Bool.or_false,show decide (x=key i)=decide (key i=x) from decide_eq_decide.mpr eq_comm]
  ·refine d h3 q X (λb o c e=>y b o c ?_) C;exact(J.2 b λz=>c (by rw[z];exact hQ)).trans (kp b o (λz=>c (hH _ z)) e)
theorem mU(P:Program)(w:World){a:List Key}(r:Vals ts its)(e:ts=a.map kV)(i:Nat)(v:Value)(h:its.toArray[i]?=some v):bb (a.getD i (.inl 0)) v=true:=by
 subst e;have d:=by simpa using h
 have j:=r.length;rw[dL] at j;have l:=(List.getElem?_eq_some_iff.mp d).1;have c:a[i]?=some (a[i]'(by omega)):=nA (by omega);obtain⟨u,b,g⟩:=r.get (show(a.map kV)[i]?=some (kV (a[i]'(by omega))) by rw[sj,c];rfl);rw[d] at b;cases b;rw[ue,c];exact bj (P:=P) (w:=w) g
theorem range_getD(a:List Key):(List.range a.length).map (λi=>a.getD i (.inl 0))=a:=by
 refine XH λi=>?_;rw[sj]
 by_cases h:i<a.length
 ·rw[Xv h];show some (a.getD i (.inl 0))=_;rw[ue,nA h];rfl
 ·rw[TW (by simpa using h),TW (by simpa using h)];rfl
section
variable{X:Cx}
theorem sub_tuple_set:isSubtype (.type "tuple") (.type "set")=pure false:=by kernel_rfl
theorem iR:isSubtype (.type "tuple") (.type "frozenset")=pure false:=by kernel_rfl
theorem BZ(hc:X.calm=true):J1 X (.type "set") (λxs H Q=>∃(p:Addr) (ts:List V) (l:List Key),xs=[.ref p]/\(G3 X.K H p ts\/R6 X.K H p ts)/\ts=l.map kV/\l.length+1<scanBound/\∀d n,H d=none->Q (.ref d) (upd H d (.set (λk=>l.any λz=>decide (z=k)) n))):=by
 intro U s σ H xs us Q I r h;obtain⟨p,ts,l,rfl,G,ht,hl,q⟩:=h;obtain⟨u,rfl,ru⟩:=vals1 r;cases(show u=Value.ref p from ru);refine qZ (Q1:=λx s1=>∃led:Bool,x=.ref s.heap.objs.size/\s1={ s with heap:=s.heap.push { cls:=.type "set",dict:=none,data:=.set #[] 0 (.fresh 0 0 led) } }) F.called_set (F.typeCall_set_1 _) F.entry_set_init (code_set_new_1 _ λled=>⟨led,rfl,rfl⟩) ?_;rintro x s1 ⟨led,rfl,rfl⟩;have hn:=I.hok.fresh (oT s.heap.objs.size);have hS:(s.heap.push { cls:=.type "set",dict:=none,data:=.set #[] 0 (.fresh 0 0 led) }).get? s.heap.objs.size=some { cls:=.type "set",dict:=none,data:=.set #[] 0 (.fresh 0 0 led) }:=t6 _ rfl;have hT:Shared.TypeIs { s with heap:=s.heap.push { cls:=.type "set",dict:=none,data:=.set #[] 0 (.fresh 0 0 led) } } (.ref s.heap.objs.size) "set":=⟨_,hS,rfl⟩
 refine⟨hT,λhq=>check_set_init_1 hT hq,?_⟩
 have a1:∀(y:Heap) (tk m:Nat),(∀b o,b<s.heap.objs.size->s.heap.get? b=some o->y.get? b=some o)->y.SetOf (l3 X.prog X.w) s.heap.objs.size (λx=>l.any λz=>decide (z=x)) m ->
   EP X U σ Q (.ref s.heap.objs.size) { s with heap:=y,toks:=tk }:=λy tk m kp O=>
  ⟨.ref s.heap.objs.size,_,I.laid (a:=s.heap.objs.size) (o:=.set (λk=>l.any λz=>decide (z=k)) m) (h':=y) (t':=tk) (λb o e=>kp b o (t9 e) e) (oT _) O,rfl,q _ m hn⟩
 have hh:=I.ok.hd hc;have e0:((List.range 0).map λi=>l.getD i (.inl 0))=[]:=rfl
 have start:∀{h2:Heap},h2.get? s.heap.objs.size=some { cls:=.type "set",dict:=none,data:=.set #[] 0 (.fresh 0 0 led) }->h2.SetOf (l3 X.prog X.w) s.heap.objs.size (λx=>((List.range 0).map λi=>l.getD i (.inl 0)).any λz=>decide (z=x)) 0:=λg=>
  ⟨_,#[],0,_,g,⟨rfl,rfl,rfl⟩,rfl,λe he=>by simp at he,λk=>by simp,by decide,by rfl,rfl⟩
 have T:p<s.heap.objs.size:=by
  rcases G with G | G
  ·obtain⟨_,_,pl,_⟩:=I.list G;obtain⟨o,_,e,_⟩:=pl;exact t9 e
  ·obtain⟨_,_,pl,_⟩:=I.tuple G;exact pl.lt
 have np:s.heap.objs.size∉[(s.heap.push { cls:=.type "set",dict:=none,data:=.set #[] 0 (.fresh 0 0 led) }).objs.size,p]:=by
  rw[KF];intro z;rcases List.mem_cons.mp z with z | z
  ·exact absurd z (u8 (Wo _))
  ·exact absurd (List.mem_singleton.mp z) (WB T)
 have nI:p≠(s.heap.push { cls:=.type "set",dict:=none,data:=.set #[] 0 (.fresh 0 0 led) }).objs.size:=by
  rw[KF];exact u8 (OV T)
 have Y:∀{h2 y:Heap},(∀b o,s.heap.get? b=some o->h2.get? b=some o)->(∀b o,b∉[s.heap.objs.size,(s.heap.push { cls:=.type "set",dict:=none,data:=.set #[] 0 (.fresh 0 0 led) }).objs.size]->h2.get? b=some o->y.get? b=some o)->∀b o,b<s.heap.objs.size->s.heap.get? b=some o->y.get? b=some o:=λk1 k2 b o hb e=>k2 b o (λz=>by
  rw[KF] at z;rcases List.mem_cons.mp z with z | z
  ·exact absurd z (u8 hb)
  ·exact absurd (List.mem_singleton.mp z) (u8 (OV hb))) (k1 b o e)
 rcases G with G | G
 ·obtain⟨c,rv,pl,hz⟩:=I.list G;have j:c.length=l.length:=by rw[<-rv.length,ht,dL]
  obtain⟨ob,M,R,E,a0,C⟩:=pl;obtain⟨oc,od,a2,J⟩:=ob;simp only at E a0 C;subst E a0 C;have B:(s.heap.push { cls:=.type "set",dict:=none,data:=.set #[] 0 (.fresh 0 0 led) }).get? p=some { cls:=.type "list",dict:=none,data:=.seq c.toArray M,slots:=J }:=hD _ R;have f1:=F.sub_list_set;have f2:=F.sub_list_frozenset;have f3:(Value.type "list" == Value.type "dict")=false:=by decide
  unfold Builtin.«set.__init__» noKeywords Builtin.Frozenset.updateFrom;generalize S:pyIter=PI
  wp_walk
  subst S;refine WQ (items:=c.toArray) ⟨_,B,rfl,M,rfl⟩ (eH (XB ?_));refine tL (Walks.list (by simp[hh]) _ p nI c.toArray) s.heap.objs.size np (λi=>l.getD i (.inl 0)) (λi v hv=>mU X.prog X.w rv ht i v hv) (by rw[t7,j];exact hl) c.toArray.size 0 _ (by omega) (v9 _) ⟨⟨_,t6 _ rfl,rfl,rfl⟩,⟨_,hD _ B,rfl,M,rfl⟩⟩ ⟨0,oT _,start (hD _ hS)⟩ λy tk m kp O=>?_;rw[show c.toArray.size=l.length by rw[t7];exact j,range_getD] at O;exact hE (hE ⟨rfl,a1 y tk m (Y (λb o e=>hD _ (hD _ e)) kp) O⟩)
 ·obtain⟨c,rv,pl,hz⟩:=I.tuple G;have j:c.length=l.length:=by rw[<-rv.length,ht,dL]
  obtain⟨ob,R,E,M,C⟩:=pl;obtain⟨oc,od,a2,J⟩:=ob;simp only at E C;subst E C;have B:(s.heap.push { cls:=.type "set",dict:=none,data:=.set #[] 0 (.fresh 0 0 led) }).get? p=some { cls:=.type "tuple",dict:=od,data:=.seq c.toArray M,slots:=J }:=hD _ R;have f1:=sub_tuple_set;have f2:=iR;have f3:(Value.type "tuple" == Value.type "dict")=false:=by decide
  unfold Builtin.«set.__init__» noKeywords Builtin.Frozenset.updateFrom;generalize S:pyIter=PI
  wp_walk
  subst S;refine XZ (items:=c.toArray) ⟨_,B,rfl,M,rfl⟩ (eH (XB ?_));refine tL (Walks.tuple (by simp[hh]) _ p nI c.toArray) s.heap.objs.size np (λi=>l.getD i (.inl 0)) (λi v hv=>mU X.prog X.w rv ht i v hv) (by rw[t7,j];exact hl) c.toArray.size 0 _ (by omega) (v9 _) ⟨⟨_,t6 _ rfl,rfl,rfl⟩,⟨_,hD _ B,rfl,M,rfl⟩⟩ ⟨0,oT _,start (hD _ hS)⟩ λy tk m kp O=>?_;rw[show c.toArray.size=l.length by rw[t7];exact j,range_getD] at O;exact hE (hE ⟨rfl,a1 y tk m (Y (λb o e=>hD _ (hD _ e)) kp) O⟩)
theorem Fi(r:RelV (kV k) u):u.scannable=true:=by
 cases k with
 | inl i=>obtain⟨t,rfl⟩:=r;rfl
 | inr x=>obtain⟨t,rfl⟩:=r;rfl
def Sg(a:Bool):R2:=λx y H Q=>∃k p S n,x=kV k/\y=.ref p/\H p=some (.set S n)/\Q (.bl (match a with | true=>!S k | false=>S k)) H
theorem AR:O1 X (compareOp .NotIn) (Sg true):=by
 intro b s d H x y v u Q I a c h;obtain⟨k,p,S,n,rfl,rfl,g,q⟩:=h;cases c;exact wpAny_notInSet_of (bj a) (Fi a) (I.hok p _ g) ⟨.bl (!S k),H,I.tok _,rfl,q⟩
end
end L2
namespace L3
open PySem PySem.Spec L2
def ET(a:List Key)(k:Key):Bool:=a.any λz=>decide (z=k)
def kD:Key->D
 | .inl i=>.int i
 | .inr x=>.str x
section
variable{X:Cx}{cl:List Cl}{e a b tg:Expr}{es:YH}{f:Fl}{pos:Pos}{ua ub:TU}{fa fb:Fl}{us:df}{x y:Str}
theorem OL(r:Rep K H v (kD k) A):v=kV k:=by
 cases k with
 | inl i=>cases r;rfl
 | inr x=>cases r;rfl
theorem yt:∀{vs:List V} {c:List Key} {A:YE},i9 K H vs (c.map kD) A->vs=c.map kV
 | _,[],_,.nil=>rfl
 | _,k::c,_,.cons h r=>by rw[t8,OL h,yt r]
def Nk(c:Bool):D->D->(D->Prop)->Prop:=λd e Q=>match e with
 | .st g=>∃k,ag d=some k/\Q (.bl (ng c (ET g k)))
 | _=>False
theorem RH:bR X (Sg c) (Nk c):=by
 intro H v w d e A B Q R l i q k;cases e<;>first | exact(q).elim | skip
 rename_i o
 obtain⟨j,r,q⟩:=q
 cases i with
 | st g u=>
  rename_i p S n
  refine⟨j,_,_,_,R5 l r,rfl,g,?_⟩;have z:=u j;rw[z];cases c<;>exact k _ H _ _ (e9.refl H) .bl t5 (λ_ h=>(by cases h)) q
theorem Bw(g:PU X cl a fa ua)(d:PU X cl b fb ub)(c:behindInMarks .NotIn b=false):PU X cl (.Compare a [.NotIn] [b] pos) .fresh (o5 (Nk true) ua ub):=kz AR RH g d c
def RU:List D->(D->Prop)->Prop:=λg Q=>∃d c,g=[d]/\rS d=some (c.map kD)/\c.length<4000/\Q (.st c)
theorem PX:Call3 X (λxs H Q=>∃(p:Addr) (ts:List V) (c:List Key),xs=[.ref p]/\(G3 X.K H p ts\/R6 X.K H p ts)/\ts=c.map kV/\c.length+1<scanBound/\∀d n,H d=none->Q (.ref d) (upd H d (.set (λk=>c.any λz=>decide (z=k)) n))) RU:=by
 intro H vs C A Q R r q k;obtain⟨d,c,rfl,e,g,q⟩:=q;obtain⟨v,rfl,i⟩:=r.one;obtain⟨p,h,B,rfl,o,j,_⟩:=dP i e;refine⟨p,h,c,rfl,o,yt j,by unfold scanBound;omega,λl n g=>k _ _ (.st c) [l] (e9.i3 g) (.st c8 λ_=>rfl) (by simp) (λa u=>?_) q⟩;rwa[List.mem_singleton.mp u]
def Nr(i j:Nat)(us:df):g9:=λT c=>us c λg=>∃d e,g=[d,e]/\r8 d=true/\r8 e=true/\Nat.blt i c.length=true/\Nat.blt j c.length=true/\T.nx ((c.set i (some d)).set j (some e))
theorem Lz(hc:X.calm=true)(hN:X.N.Nodup)(hi:X.N[i]?=some x)(hj:X.N[j]?=some y)(u:i≠j)(U:X.env.scope.names.lookup x=some .local)(S:X.env.scope.names.lookup y=some .local)(ha:Fv X cl [a,b] us)(ci:cl[i]?=some .bor)(cj:cl[j]?=some .bor)
  (hw:swappedStores [.Tuple [.Name x l,.Name y g] o pt] (.Tuple [a,b] p c) X.env=pure (some [x,y])) (hs:swapsWithSole [.Tuple [.Name x l,.Name y g] o pt] (.Tuple [a,b] p c) pos.line X.env=pure false:=by rfl) :
  D7 X cl (.Assign [.Tuple [.Name x l,.Name y g] o pt] (.Tuple [a,b] p c) pos) (Nr i j us):=.of<|by
 obtain⟨t,pt,h⟩:=ha.run;refine⟨_,OU hc hN hi hj u U S pt hw hs,λG T I C H fa R B E Y le=>h G I C H fa _ _ B E Y λvs H1 ds A s r n3 q=>?_⟩;obtain⟨d,e,rfl,Q,O,M,J,q⟩:=q
 cases r with
 | cons z r=>
  cases r with
  | cons v r=>
   cases r;have e1:=z.D6 Q;have e2:=v.D6 O;subst e1 e2;have ok:∀(fa:YO) (n:Nat),cl[n]?=some .bor->cw G fa [] n:=λfa n hn=>⟨λ_ _ _ _ h=>(by cases h),by rw[B,hn];trivial⟩
   have E1:=(E.same s).set (v1 M) z (ok _ i ci);have E2:=E1.set (by rw[Ix];exact v1 J) v (ok _ j cj);exact⟨_,_,rfl,le.nx _ _ ⟨_,_,E2,q⟩⟩
def yc(i:Nat)(g h:TU):g9:=λT d=>a6 i d λl=>g d λy=>match l with
 | .dic c=>∃k a,ag y=some k/\u7 c k=some (.int a)/\c.length<sizeLine/\h d λz=>∃b,z=.int b/\T.nx (d.set i (some (.dic (putD c k (.int (a+b))))))
 | _=>False
theorem Hx(hu:X.A.units+1<cLine)(i:Nat)(hv:PE X (.Name x vp) (eI i))(hi:cl[i]?=some .own)(hk:PU X cl ik fb ub)(he:PU X cl e fa ua)
  (j:∀M O new,augStore ik M O new=(do holding [new,M,O] (setItem M O new);release [new,M,O] [];pure .next):=by intros;rfl) :
  D7 X cl (.AugAssign (.Subscript (.Name x vp) ik tp) .Add e pos) (yc i ub ua):=.of<|by
 obtain⟨t,p,h⟩:=he.run;obtain⟨t2,p2,h2⟩:=hk.run;refine⟨_,xS<|KC hu hv p2 p (FX ) j,λG T ρ σ H Q R hG E a4 le=>?_⟩;have own:G.own i:=by unfold Ent.own;rwa[hG]
 obtain⟨l0,e0,q⟩:=p5 a4;obtain⟨v,o,r0⟩:=E.rep i l0 e0;refine⟨v,o,h2 G ρ σ H Q _ _ hG E q λwk H1 dk Bk s1 rk fk q=>?_⟩;obtain⟨c,rfl⟩:∃c,l0=.dic c:=by cases l0<;>first | exact⟨_,rfl⟩ | exact(q).elim
 obtain⟨k,Y,hk,r,hn,q⟩:=q;obtain⟨p,l,a5,B,rfl,hp,rs,eA⟩:=qW r0;cases R5 rk hk;obtain⟨u,C0,e1,r1,_⟩:=(rs.val k).1 _ r;cases r1;refine⟨p,_,rfl,e1▸Z3.k (.inr ⟨_,s1 _ _ hp⟩),h G ρ σ H1 Q _ _ hG (E.same s1) q λw H2 z Bz s2 rz fz q=>?_⟩;obtain⟨U,rfl,q⟩:=q;cases rz;refine⟨Y,U,rfl,rfl,?_⟩;have d:=s1.trans s2;have E2:=E.same d;have g:=d _ _ hp
 have a1:=by
  have:=(Rep.dic hp rs).same d
  cases this with
  | dic J a2=>
   rw[g] at J;cases J;exact a2
 have nd:=E2.nd i (.inl own);have pin:p∈Q i:=by rw[eA];exact hQ
 rw[eA] at nd;obtain⟨np,a3⟩:=List.nodup_cons.mp nd;obtain⟨C,rC,sC⟩:=a1.put k (.int );have I:p∉C:=λz=>np (sC.mem z);have rn:∀S,Rep X.K (upd H2 p (.dE (putK l k (.int (Y+U))) S)) (.ref p) (.dic (putD c k (.int (Y+U)))) (p::C):=λS=>.dic c8 (rC.mono (X7.PV (by rw[g];exact True.intro)) λa j=>i4 λe=>I (e▸j))
 have n3:∀a∈p::C,a∈Q i:=λa j=>by
  rcases List.mem_cons.mp j with z | z
  ·exact z▸pin
  ·rw[eA];exact hH _ (sC.mem z)
 have li:i<ρ.length:=(List.getElem?_eq_some_iff.mp e0).1;refine⟨_,pe.k (.inr ⟨_,g⟩) (by rw[rs.length];exact hn),p,_,c8,λS=>?_⟩;rw[bF];exact le.nx _ _ ⟨_,_,E2.put own li o pin bK (by rw[c8];exactλz=>nomatch z) (rn S) (List.nodup_cons.mpr ⟨I,a3.sublist sC⟩) λa j=>.inl (n3 a j),q⟩
end
end L3
namespace L2
open PySem PySem.Spec PyProof.Rows
namespace RT
theorem qT:Manifest.owners.lookup (String.ofList ['d','e','s','r','e','v','e','r'].reverse)=some Manifest.sig_reversed:=by kernel_rfl
theorem D8:Slot "reversed" "__next__" "reversed.__next__":=.of (owner:="reversed") (n:="__next__") (by kernel_rfl) (by decide +kernel) (by decide +kernel) (by decide +kernel) (by first | exact .inl (by decide +kernel) | exact .inr (by decide +kernel)) (by kernel_rfl)
theorem cH:entryFor table "reversed.__next__"=some Builtin.«reversed.__next__»:=entryFor_of_tree (by kernel_rfl)
theorem cq(a:Value):argsOk "reversed.__next__" ⟨[a],[]⟩:=by unfold argsOk;kernel_rfl
theorem kj:Slot "reversed" "__iter__" "reversed.__iter__":=.of (owner:="reversed") (n:="__iter__") (by kernel_rfl) (by decide +kernel) (by decide +kernel) (by decide +kernel) (by first | exact .inl (by decide +kernel) | exact .inr (by decide +kernel)) (by kernel_rfl)
theorem yf(a:Value):argsOk "reversed.__iter__" ⟨[a],[]⟩:=by unfold argsOk;kernel_rfl
theorem Qm:Slot "reversed" "__init__" "object.__init__":=.of (owner:="object") (n:="__init__") (by kernel_rfl) (by decide +kernel) (by decide +kernel) (by decide +kernel) (by first | exact .inl (by decide +kernel) | exact .inr (by decide +kernel)) (by kernel_rfl)
theorem called:TypeCalled "reversed" "reversed.__new__" "object.__init__":=⟨by decide +kernel,by decide +kernel,⟨_,_,F.mro_reversed⟩,F.made_reversed,by decide +kernel,F.sub_reversed_self,Qm⟩
theorem Ob:typeLookup (.type "tuple") "__reversed__"=pure none:=by kernel_rfl
theorem Il:isSubtype (.type "tuple") (.type "dict")=pure false:=by kernel_rfl
theorem vO:entryFor table "reversed.__iter__"=some Builtin.«dict_keyiterator.__iter__»:=entryFor_alias (id':="dict_keyiterator.__iter__") (by kernel_rfl) (by first | rfl | decide +kernel | (unfold String.splitOn;simp +decide [XF])) (by decide +kernel) (by kernel_rfl)
end RT
def Lf(t:Addr)(i:Int):Obj:={ cls:=.type "reversed",data:=.fields #[.ref t,rawInt i] }
def mq(h:Heap)(a t:Addr)(i:Int):Prop:=∃o,h.get? a=some o/\o.cls=.type "reversed" /\ o.data=.fields #[.ref t,rawInt i]
section
variable{prog:Program}{w:World}{A:Around}{E:YN}{s:Shared}
theorem mq.ty(x:mq s.heap a t i):s.TypeIs (.ref a) "reversed":=let ⟨o,b,c,_⟩:=x;⟨o,b,c⟩
theorem mq.at(x:mq h a t i)(e:∀o,h.get? a=some o->h'.get? a=some o):mq h' a t i:=let ⟨o,b,r⟩:=x;⟨o,e _ b,r⟩
theorem MW{items:YK}{Q1:YN}(b:IsTup s.heap t items)(c:(items.size:Int)<2^63)(h:Q1 (.ref s.heap.objs.size) { s with heap:=s.heap.push (Lf t ((items.size:Int)-1)),toks:=s.toks+1+1 }) :
  codeAny (model prog w) A (.call (.builtin "reversed.__new__") ⟨[.type "reversed",.ref t],[]⟩) (wants Q1 E) s:=by
 refine Xz (show wpAny _ A.in1 (do checkBuiltinCall "reversed.__new__" ⟨[.type "reversed",.ref t],[]⟩;again (.builtin "reversed.__new__" ⟨[.type "reversed",.ref t],[]⟩)) _ _ s from eH (VV (F.newCall_reversed_1 _) (hE ⟨VZ F.plain_reversed_new _,Op F.entry_reversed_new (eH (VV (newClass_reversed _) (eH (VV (a:=()) (by first | rfl | kernel_rfl) (eH (VV (a:=()) (by first | rfl | kernel_rfl) ?_))))))⟩)))
 try dsimp only
 refine eH (WH b.typeIs RT.Ob ?_);try dsimp only
 refine eH ?_;show wpAny _ _ (isInstance (.ref t) (.type "dict") >>= _) _ _ _;refine eH (WT b.typeIs RT.Il ?_);show wpAny _ _ (specialOf (.ref t) "__getitem__" >>= _) _ _ _;refine eH (WH b.typeIs slot_tuple_getitem.lookup (hE ?_));show wpAny _ _ (call (.builtin "len") [.ref t] >>= _) _ _ _;refine eH (len_tuple b c (eH (VV (a:=some (items.size:Int)) rfl ?_)));show wpAny _ _ (Builtin.SmallTypes.newRecord (.type "reversed") [.ref t,rawInt ((items.size:Int)-1)] >>= _) _ _ _;unfold Builtin.SmallTypes.newRecord;refine eH (vy (hE h) (by size_fits))
theorem EW{items:YK}{Q:YN}(c:IsTup s.heap t items)(d:(items.size:Int)<2^63)(h:Q (.ref s.heap.objs.size) { s with heap:=s.heap.push (Lf t ((items.size:Int)-1)),toks:=s.toks+1+1 }) :
  wpAny (model prog w) A (call (.type "reversed") [.ref t]) Q E s:=by
 refine callType_codes (Q₁:=λx a=>x=.ref s.heap.objs.size/\a={ s with heap:=s.heap.push (Lf t (items.size-1)),toks:=s.toks+1+1 }) RT.called (F.typeCall_reversed_1 _) F.entry_object_init (MW c d ⟨rfl,rfl⟩) ?_;rintro x a ⟨rfl,rfl⟩;have b:Shared.TypeIs { s with heap:=s.heap.push (Lf t (items.size-1)),toks:=s.toks+1+1 } (.ref s.heap.objs.size) "reversed":=⟨_,t6 _ rfl,rfl⟩
 exact⟨b,F.args_object_init_2 _ _,object_init_meets RT.called.init.lookup RT.called.made (by decide) prog w A.in1 _ _ ⟨b,rfl,h⟩⟩
theorem JH{i:Nat}{items:YK}{Q:YR->Shared->Prop}(hit:mq s.heap it t (i:Int))(d:IsTup s.heap t items)(l:t≠it)(c:items[i]?=some x)(q:(items.size:Int)<2^63)
  (h:∀h',mq h' it t ((i:Int)-1)->Heap.SameBut it s.heap h'->Q (some x) { s with heap:=h',toks:=s.toks+1 }):wpAny (model prog w) A (pyNext (.ref it)) Q E s:=by
 obtain⟨o,b,g,hd⟩:=id hit;refine eH (Wz (EQ  hit.ty RT.D8 (Ch RT.D8 hit.ty RT.cH (eH (VV  rfl (eH (VW b hd (x:=.ref t) rfl (eH (VW b hd (x:=rawInt (i:Int)) rfl ?_)))))) (RT.cq _))));refine eH (WH d.typeIs slot_tuple_getitem.lookup (eH (wpAny_mkInt ?_)));have p:=(Array.getElem?_eq_some_iff.mp c).1
 have e:seqIndex? (i:Int) items.size=some i:=by
  unfold seqIndex?
  simp;omega
 refine eH (Wz (getItem_tuple (j:=i) (x:=x) (s:={ s with toks:=s.toks+1 }) d (by omega) (by omega) e c ?_));refine eH (VW b hd (x:=rawInt (i:Int)) rfl ?_);exact eH (UV b hd (by simp) (hE ⟨x,rfl,hE (h _ ⟨_,A1 _ b (Sc (wT hd _)),(Xm ..).trans g,by rw[wT hd];simp⟩ (Do ..))⟩))
theorem Pf{Q:YR->Shared->Prop}(d:A.handled=none)(hit:mq s.heap it t (-1))
  (h:∀h',Heap.ExtBut it s.heap h'->Q none { s with heap:=h' }):wpAny (model prog w) A (pyNext (.ref it)) Q E s:=by
 obtain⟨o,c,i,hd⟩:=id hit;refine eH (Wz (EQ (name:=Str.ofString "__next__") hit.ty RT.D8 (Ch RT.D8 hit.ty RT.cH ?_ (RT.cq _))));refine eH (VV (a:=(Value.ref it,[])) rfl ?_);refine eH (VW c hd (x:=.ref t) rfl (eH (VW c hd (x:=rawInt (-1)) rfl ?_)));show wpAny _ _ (if (-1:Int)<0 then _ else _) _ _ s;rw[t4 (by decide)];refine eH (WI (eH ?_));show wpAny _ _ (setField (.ref it) 1 (rawInt (-1)) >>= _) _ _ s;refine eH (UV c hd (by simp) ?_);have g:=A1 (λo=>o.mapFields λe=>e.setIfInBounds 1 (rawInt (-1))) c (Sc (wT hd _));refine UV g (wT hd _) (by simp) ?_;have ex:Heap.ExtBut it s.heap ((s.heap.update it (Obj.mapFields λx=>x.setIfInBounds 1 (rawInt (-1)))).update it (Obj.mapFields λx=>x.setIfInBounds 0 Value.none)):=(Do ..).extBut.trans (Do ..).extBut;show wpAny _ _ _ _ _ { s with heap:=(s.heap.update it (Obj.mapFields λx=>x.setIfInBounds 1 (rawInt (-1)))).update it (Obj.mapFields λx=>x.setIfInBounds 0 Value.none) };generalize (s.heap.update it (Obj.mapFields λx=>x.setIfInBounds 1 (rawInt (-1)))).update it (Obj.mapFields λx=>x.setIfInBounds 0 Value.none)=j at ex;refine eH (show wpAny _ _ (newExc (.type "StopIteration") [] >>= _) _ _ _ from eH ?_);simp only[newExc,newTuple];refine eH (vy (eH (m:=firstArgMember _ _) (VV (a:=Value.none) (by first | rfl | (simp only[firstArgMember];rfl)) (vy ?_ (by size_fits)))) (by size_fits));simp only[raiseNew];refine eH (wpAny_handled ?_)
 first | rw[show A.in1.handled=none from d] | rw[d]
 refine eH (hE (wpAny_throw ?_));refine eH (WT (T:="StopIteration") (b:=true) ⟨_,t6 _ rfl,rfl⟩ isSubtype_stop (hE (h _ ((ex.push _).push _))))
theorem yu{Q:YN}(hit:mq s.heap it t i)(h:Q (.ref it) s):wpAny (model prog w) A (pyIter (.ref it)) Q E s:=by
 refine Yh hit.ty RT.kj (Ch RT.kj hit.ty RT.vO (hE ⟨_,rfl,"reversed",_,hit.ty,RT.D8.lookup,h⟩) (RT.yf _))
end
def TZ(K:YQ)(a:Addr)(n:Nat):It:=
 ⟨λi H=>i<n/\n<=sizeLine/\∃b,R6 K H a b/\b.length=n,λi H x c=>c=H/\∀b,R6 K H a b->b[n-1-i]?=some x,λi H=>i=n⟩
theorem Dg{K:YQ}(a it:Addr)(n:Nat)(ne:a≠it):Turn P w K tg (TZ K a n) [it] it (λi h=>i<=n/\mq h it a ((n:Int)-1-(i:Int))) where
 mem:=List.mem_singleton.mpr rfl
 obj:=λi h st b q=>by
  cases List.mem_singleton.mp q;obtain⟨_,o,e,c,d⟩:=st;exact⟨o,e,λv z=>by rw[d] at z;cases z⟩
 keep:=λi h y st k=>⟨st.1,st.2.at λo e=>k it (List.mem_singleton.mpr rfl) o e⟩
 item:=by
  intro X G hw J hc i j s T H E I r st C;subst G hw J;obtain⟨hi,hz,U,hq,hn⟩:=C;obtain⟨B,rv,p,_⟩:=I.tuple hq;have Y:U[n-1-i]?=some (U[n-1-i]'(by omega)):=nA (by omega);obtain⟨u,hu,ru⟩:=rv.get Y;obtain⟨S,R,f2,Q,O,M⟩:=r it (List.mem_singleton.mpr rfl);have g:=st.2;have hl:B.length=n:=by rwa[<-rv.length]
  rw[show(n:Int)-1-i=((n-1-i:Nat)) by omega] at g;refine JH g p ne  (by simpa using hu) (by rw[t7];rw[SC] at hz;omega) λy l sb=>?_;rw[show((n-1-i:Nat):Int)-1=(n:Int)-1-((i+1:Nat):Int) by omega] at l;have I1:Inv X j T H { s with heap:=y,toks:=s.toks+1 }:=I.turned (t':=s.toks+1) (λb o q e=>(sb.2 b q).trans e) S R Q O M;obtain⟨o,e,c,d⟩:=id l;exact⟨u,rfl,og (s:={ s with heap:=y,toks:=s.toks+1 }) e c d (by decide) ⟨_,H,I1,ru,⟨rfl,λys hy=>by rw[I.nG hy hq];exact Y⟩,⟨hi,l⟩,λb q=>(r b q).1⟩⟩
 done:=by
  intro X G hw J hc i j s T H E I r st C;subst G hw J;obtain rfl:i=n:=C;obtain⟨S,R,f2,Q,O,M⟩:=r it (List.mem_singleton.mpr rfl);have g:=st.2;rw[show(i:Int)-1-(i:Int)=-1 by omega] at g;exact Pf (I.ok.hd hc) g λy eb=>⟨rfl,I.turned (t':=s.toks) (λb o q e=>eb b o q e) S R Q O M⟩
 self:=λ_ _ _ _ _ st h=>yu st.2 h
def EU(K:YQ)(e:TA):TI:=λd H R=>e d H λvs c=>∃a b,vs=[.ref a]/\R6 K c a b/\R (TZ K a b.length) c
theorem EO     (S:Gl X "reversed") (Q:X.mg "reversed"=none) (U:PA X [a] y) (M:starEach [a] X.env=[(false,eval a X.env)]:=by rfl):PI X B (.Call (.Name "reversed" p) [a] [] g) (EU X.K y):=by
 refine .of ?_;intro j s z H R I h;refine WJ (bu I S Q Ym (callWith_type1 (x4 (U g j s z H _ I h) λus v ⟨vs,Y,r,E,G⟩=>?_) M rfl) (by decide) (by decide));obtain⟨l,d,rfl,O,q⟩:=G;obtain⟨u,rfl,C⟩:=vals1 E;cases(C);obtain⟨x,rv,pl,J⟩:=r.tuple O;have c:x.toArray.size=d.length:=by exact rv.length.symm
 refine EW pl (by rw[SC] at J;omega) ?_;rw[c];refine yu   ⟨_,t6 _ rfl,rfl,rfl⟩ (⟨v.heap.objs.size,[v.heap.objs.size],_,_,Y,rfl,r.kept  λb o e=>hD _ e,Dg l _ d.length (u8 pl.lt),⟨v9 _,?_⟩,λb T=>?_,q⟩)
 ·rw[show(d.length:Int)-1-((0:Nat))=d.length-1 by omega];exact⟨_,t6 _ rfl,rfl,rfl⟩
 ·cases List.mem_singleton.mp T;exact r.eW (oT _) (r.hok.fresh (oT _))
end L2
namespace L3
open PySem PySem.Spec PyProof.Rows L2
section
variable{X:Cx}{cl:List Cl}{tg e:Expr}{f:Fl}{ua:TU}{pos p:Pos}
def LC(u:TU):lX:=λb Q=>u b λd=>match d with
 | .tup a=>a.length<sizeLine/\Q a.reverse
 | _=>False
theorem Dl{K:YQ}(hz:vs.length<=sizeLine)(h:∀a,Tf H a->R6 K a q vs)(r:i9 K H vs xs C):aJ K (TZ K q vs.length) xs.reverse C H:=λa tf k i=>by
 have c:=h a tf;have o:=r.length;refine⟨λe=>?_,λd e=>?_⟩
 ·show i=vs.length;rw[FM] at e;omega
 ·have u:=by
   have:=(List.getElem?_eq_some_iff.mp e).1
   rwa [FM] at this
  rw[Xr u] at e;obtain⟨v,B,z,l,j⟩:=Z7 r tf k e;refine⟨⟨by omega,hz,vs,c,rfl⟩,λy E b=>?_⟩;obtain⟨x,b⟩:=b;subst x;have g:=b vs c;rw[o,z] at g;cases g;exact⟨e9.refl _,B,l,j⟩
theorem KY (h:PU X cl e f ua) (j:isStar e=false) (mk:∀{t},PA X [e] t->PI X tg (.Call (.Name "reversed" p) [e] [] pos) (EU X.K t)):Y8 X cl tg (.Call (.Name "reversed" p) [e] [] pos) f (LC ua):=.of<|by
 obtain⟨t,q,h⟩:=h.run;refine⟨_,mk (bf q L8 j),λG g c H u Q R l E i k=>h G g c H u _ _ l E i λv x d B s r o q=>?_⟩;cases d<;>first | exact(q).elim | skip
 obtain⟨p,vs,rfl,b,a⟩:=J9 r;exact⟨p,vs,rfl,.inl (.inl b),k _ x _ _ s (Dl (by rw[a.length];exact IR q.1) (λy tf=>.inl (.inl (tf.T3 _ _ b))) a) a.there o q.2⟩
end
end L3
namespace L2
open PySem PySem.Spec PyProof.Rows
theorem Ez:∀{ps:List (Key×Int)} {k:Key} {n:Int},(ps.map (·.1)).Nodup->(k,n)∈ps->aj (ps.map λp=>(p.1,V.int p.2)) k=some (.int n)
 | [],_,_,_,h=>by cases h
 | p::ps,k,n,nd,h=>by
  rw[t8] at nd;obtain⟨b,a⟩:=List.nodup_cons.mp nd;rcases List.mem_cons.mp h with e | e
  ·subst e;exact bx rfl
  ·have ne:¬p.1=k:=λz=>b (z▸List.mem_map.mpr ⟨_,e,rfl⟩);rw[t8,X1  ne];exact Ez a e
theorem nS{ps:List (Key×Int)}{d:List (Key×Value)}(nd:(ps.map (·.1)).Nodup)(j:KV (ps.map λp=>(p.1,V.int p.2)) d):∀{b:List (Key×Int)} {e:List (Key×Value)},(∀q∈b,q∈ps)->KV (b.map λp=>(p.1,V.int p.2)) e->PySem.W.KeqHits A s d e true
 | [],_,_,.nil=>.nil
 | q::b,_,h,.cons r t=>by
  rename_i c e
  obtain⟨k,v⟩:=c;obtain⟨x,i⟩:=r;cases(x);obtain⟨C,i⟩:=(show RelV (.int q.2) v from i)
  have o:=Ez nd (h q hQ);have a:=j.val q.1;rw[o] at a
  cases g:valueAt d q.1 with
  | none=>rw[g] at a;exact a.elim
  | some y=>
   rw[g] at a;obtain⟨B,u⟩:=(a)
   have hit:PySem.SeqAt.EqAt A s v y (q.2 == q.2):=by rw[i,u];exact PySem.SeqAt.EqAt.int_int _ _ _ _
   rw[beq_self_eq_true] at hit;exact .hit g hit (nS nd j (λz l=>h z (hH _ l)) t)
section
variable{X:Cx}
def Mc(a:Bool):R2:=λx y H Q=>∃(p q:Addr) (ps:List (Key×Int)),x=.ref p/\y=.ref q/\Dd H p (ps.map λp=>(p.1,V.int p.2))/\Dd H q (ps.map λp=>(p.1,V.int p.2))/\(ps.map (·.1)).Nodup/\Q (.bl (match a with | true=>false | false=>true)) H
theorem HW(l:X.A.units<cLine):O1 X (compareOp .NotEq) (Mc true):=by
 intro c s E H x y v u Q I i g h;obtain⟨p,q,ps,rfl,rfl,r,o,nd,k⟩:=h;cases i;cases g;obtain⟨_,n1,e,b,C⟩:=(r.ok I.hok)
 obtain⟨_,n2,d,a,B⟩:=(o.ok I.hok)
 refine PySem.W.keq_ne n1 n2 C B l (λ_=>nS nd a (λz j=>j) b) ?_;rw[show(!(e.length == d.length&&true))=false by rw[<-b.length,<-a.length];simp];exact⟨.bl false,H,I,rfl,k⟩
end
end L2
namespace L3
open PySem PySem.Spec PySem.Calls PyProof.Rows L2
section
variable{X:Cx}{cl:List Cl}{e a b:Expr}{es:YH}{pos cpos hpos np p:Pos}{us:df}{ua ub:TU}{fa fb:Fl}{ma:TM}{k:Nat}{fn:Addr}{fd:FuncData}{ps:YF}{x y bn:Str}{i:Nat}
def Df(c:Bool):D->D->(D->Prop)->Prop:=λd e Q=>∃ps:List (Key×Int),d=.dic (ps.map λp=>(p.1,D.int p.2))/\e=.dic (ps.map λp=>(p.1,D.int p.2))/\(ps.map (·.1)).Nodup/\Q (.bl (!c))
theorem fL{K:YQ}:∀{kvs:List (Key×V)} {ps:List (Key×Int)} {A:YE},x3 K H kvs (ps.map λp=>(p.1,D.int p.2)) A->kvs=ps.map λp=>(p.1,V.int p.2)
 | _,[],_,.nil=>rfl
 | _,p::ps,_,.cons h r=>by
  cases h;rw[fL r];rfl
theorem Ox:bR X (Mc c) (Df c):=by
 intro H v w d e A B Q R u r q k;obtain⟨ps,rfl,rfl,nd,q⟩:=q;obtain⟨C,G,J,rfl,o,j,_⟩:=V7 u;obtain⟨z,E,I,rfl,l,g,_⟩:=V7 r;rw[fL j] at o;rw[fL g] at l;refine⟨C,z,ps,rfl,rfl,o,l,nd,?_⟩;cases c<;>exact k _ H _ _ (e9.refl H) .bl t5 (λ_ h=>(by cases h)) q
theorem Ir(c:X.A.units<cLine)(h:PU X cl a fa ua)(g:PU X cl b fb ub)(d:behindInMarks .NotEq b=false):Q6 X cl (.Compare a [.NotEq] [b] pos) (uT (o5 (Df true) ua ub)):=T7 (HW c) Ox h g d
end
end L3
namespace L2
open PySem PySem.Spec PyProof.Rows
end L2
namespace L3
open PySem PySem.Spec PySem.Calls PyProof.Rows L2
section
variable{X:Cx}{cl:List Cl}{tg e a b:Expr}{es:YH}{pos p2 vp:Pos}{ua ub:TU}{f fa fb:Fl}{ma mb:TM}{x:Str}{i:Nat}
theorem Ek{K:YQ}(k:Key):Rep K H (kV k) (kD k) []:=by
 cases k with
 | inl i=>exact .int
 | inr x=>exact .str
def LW(u:TU):lX:=λg Q=>u g λd=>match d with
 | .dic c=>Q (c.map λh=>kD h.1)
 | _=>False
theorem x3.key{K:YQ}(r:x3 K H vs ds A):ds.map (·.1)=vs.map (·.1):=r.ind (P:=λa b _=>b.map (·.1)=a.map (·.1)) rfl λ_ _ e=>by rw[t8,t8,e]
theorem VL{K:YQ}{p ep:Nat}(h:H p=some (.dE kvs ep))(r:x3 K H kvs c C):aJ K (Uv p kvs.length ep) (c.map λj=>kD j.1) (p::C) H:=λO tf k i=>by
 have q:=(k p hQ).trans h;have z:(c.map λj=>kD j.1).length=kvs.length:=by rw[dL,<-r.length]
 refine⟨λg=>⟨kvs,q,rfl,by rw[<-z];exact Wc g⟩,λd e=>?_⟩;have g:i<kvs.length:=by rw[<-z];exact(List.getElem?_eq_some_iff.mp e).1
 refine⟨⟨kvs,kvs[i],q,rfl,nA g⟩,λy Q o=>?_⟩;obtain⟨M,o⟩:=o;subst M;have E:=o kvs q;rw[nA g] at E;have u:=GM (λl=>l[i]?) r.key;simp only[sj,nA g] at u;rw[sj] at e
 cases B:c[i]? with
 | none=>rw[B] at e;cases e
 | some v=>
  rw[B] at e u;have J:v.1=(kvs[i]).1:=wh u;have I:kD v.1=d:=wh e;have G:=wh E;subst I G;rw[J];exact⟨e9.refl _,[],Ek _,Xf _⟩
theorem Qk(h:PU X cl e f ua):Y8 X cl tg e f (LW ua):=.of<|by
 obtain⟨t,p,h⟩:=h.run;refine⟨_,JD p,λG l j H fa Q R I E y k=>h G l j H fa _ _ I E y λv O d B s r J q=>?_⟩;cases d<;>first | exact(q).elim | skip
 have u:=r;obtain⟨p,c,M,C,rfl,g,o,rfl⟩:=qW r;exact⟨p,c,M,rfl,g,k _ O _ _ s (VL g o) (λa z=>u.there z) J q⟩
theorem N8{K:YQ}:∀{vs:List V} {ns:YI} {A:YE},i9 K H vs (ns.map D.int) A->vs=ns.map V.int
 | _,[],_,.nil=>rfl
 | _,n::ns,_,.cons h r=>by cases h;rw[N8 r];rfl
end
section
variable{X:Cx}{cl:List Cl}{tg e a b:Expr}{es:YH}{pos p2 vp:Pos}{ua ub:TU}{f fa fb:Fl}{ma mb:TM}{x y:Str}{i j:Nat}
end
end L3
namespace L2
open PySem PySem.Spec PyProof.Rows PySem.SeqAt
end L2
namespace L3
open PySem PySem.Spec PySem.Calls PyProof.Rows L2
section
variable{X:Cx}{cl:List Cl}{e a b:Expr}{pos:Pos}{ua ub:TU}{fa fb:Fl}
end
end L3
namespace L2
open PySem PySem.Spec PyProof.Rows
def OP(h:Heap)(e:Addr)(b i:Value)(T:Addr)(g:Option Addr):Prop:=
 ∃a vs d c,h.get? e=some a/\a.cls=b/\a.dict=g/\vs[0]?=some i/\a.data=.fields vs/\vs[1]?=some (.ref T)/\T≠e/\h.get? T=some d/\d.data=.fields c/\c[3]?=some .none
theorem OP.Mv(f:OP h e a d T j):SX h e a d T:=
 let ⟨i,vs,l,g,o,p,_,v,hd,u,c,q,b,r⟩:=f;⟨i,vs,l,g,o,p,v,hd,u,c,q,b,r⟩
section
variable{M:Model}{A:Around}{E:YN}{s:Shared}{base:Heap}{env:Env}{outer:List Env}{L e:Addr}{Q:Unit->Shared->Prop}
end
section
variable{prog:Program}{w:World}{A:Around}{E:YN}{h:Heap}{g:Array GenState}{d:Drawn}{t:Nat}{os:OsState}
variable{nm q:Str}{C N fI:Addr}{oI:Obj}{bs bm bmB bmN:YG}{hdct:Bool}{sn:YF}{sub:YG}{ab:Bool}{col:Option Bool}{dd:Option Addr}{k0 k1 k2 k3 k5:YR}{B Bn newId nid initId inN:String}{mN:YL}{rest:YG}
end
section
variable{M:Model}{A:Around}{E:YN}{env:Env}
variable{nm q:Str}{C N:Addr}{bs bm:YG}{hdct:Bool}{sn:YF}{sub:YG}{ab:Bool}{col:Option Bool}{dd:Option Addr}{k0 k1 k2 k3 k5:YR}{newId:String}
end
section
variable{prog:Program}{w:World}{A:Around}{E:YN}{s:Shared}{K:YQ}{x C:Addr}{ox:Obj}{name:Str}{v:Value}
end
end L2
namespace PySem.W
open PySem PySem.Calls PyProof.Rows Builtin Builtin.ObjectAttr Builtin.Getset_descriptor
section
variable{K:Frag}{prog:Program}{w:World}{A:Around}{E:YN}{s:Shared}{e D dx:Addr}{oe:Obj}{name:Str}{m:YL}{v:Value}{cd:ClassData}
end
end PySem.W
namespace L2
open PySem PySem.Spec PyProof.Rows
section
variable{P:Program}{w:World}{K:YQ}{mg:YL}{base:Heap}{N:YF}{qual:Str}{scope:Scope}{f:Addr}{cd:Value}{A:Around}{outer:List Env}{s:Shared}{H:Hp}{E:XK}
 {pins:YA} {σ:St} {H1:Hp} {s1:Shared}
end
section
variable{X:Cx}{pins:YA}{σ:St}{H:Hp}{s:Shared}
end
structure LS(X:Cx)(pins:YA)(σ:St)(H:Hp)(s:Shared)(e T:Addr)(cls a0:Value)(od:Option Addr):Prop where
 held:PZ X pins σ H s e T cls a0
 Mv:OP s.heap e cls a0 T od
section
variable{X:Cx}{pins:YA}{σ:St}{H:Hp}{s:Shared}{e T:Addr}{cls a0:Value}{od:Option Addr}{E:XK}{x:Value}{Q:Unit->Shared->Prop}{M:Model}{A:Around}{E2:YN}
theorem LS.pin(c:LS X pins σ H s e T cls a0 od):∃a,a.cls=cls/\a.dict=od/\(∃vs,a.data=.fields vs)/\Inv (X.bo e a F) pins σ H s:=by
 obtain⟨a,j,I⟩:=c.held.pin ;obtain⟨b,vs,_,_,g,_,h,_,d,_⟩:=c.Mv;obtain⟨i,_⟩:=I.pin (e,a) (vr _ (sw _ (List.mem_singleton.mpr rfl)));have:=wh (g.symm.trans i);subst this;exact⟨b,j,h,⟨vs,d⟩,I⟩
end
section
variable{X:Cx}{o:Expr}{f:Str}{pos:Pos}{ta:TE}{e dx C:Addr}{oe:Obj}{vs:YK}
end
section
variable{X:Cx}{o e value:Expr}{f:Str}{pos pos':Pos}{ta tv:TE}
end
section
variable{K:YQ}{C:Addr}{f1 f2 f3:Str}{vs:List V}{H:Hp}{Q:VK}{E:XK}{N:YF}
end
end L2
namespace L3
open PySem PySem.Spec PySem.Calls PyProof.Rows L2
def SF:D->Bool
 | .int _=>true
 | .str _=>true
 | _=>false
def leafOf:D->V
 | .int i=>.int i
 | .str x=>.str x
 | _=>.p3
theorem nE{K:YQ}{H:Hp}:∀{vs:List V} {ds:List D} {A:YE},i9 K H vs ds A->ds.all SF=true->vs=ds.map leafOf
 | _,_,_,.nil,_=>rfl
 | _,_,_,.cons  h r,e=>by
  rw[We,vc] at e;rw[t8,<-nE r e.2];cases h<;>first | rfl | (have:=e.1;cases this)
section
variable{X:Cx}{cl:List Cl}{e:Expr}{es:YH}{pos cpos hpos np p p1:Pos}{us:df}{k kI:Nat}{fn:Addr}{fd:FuncData}{ps:YF}{x y bn n f:Str}{i:Nat}{Fo:Str->YF}
end
end L3
namespace PySem.W
open PySem PySem.Calls PyProof.Rows
section
variable{K:Frag}
end
end PySem.W
namespace L3
open PySem PySem.Spec PySem.Calls PyProof.Rows PySem.W L2
section
variable{X:Cx}{cl:List Cl}{e:Expr}{es:YH}{pos p:Pos}{us:df}{k:Nat}{fn:Addr}{fd:FuncData}{ps:YF}{x:Str}{Fo:Str->YF}
end
section
variable{X:Cx}{cl:List Cl}{e dx C:Addr}{oe:Obj}{pos p p1 p2:Pos}{n y:Str}{i:Nat}{b:Bool}
end
end L3
namespace PySem
open Sem (wp)
open AutoSeq1 (wpAny_loadPart')
end PySem
namespace L2
open PySem PySem.Spec PyProof.Rows
end L2
namespace L3
open PySem PySem.Spec PySem.Calls PyProof.Rows PySem.W L2
section
variable{X:Cx}{cl:List Cl}{tg e:Expr}{pos p:Pos}{f:Fl}{ua:TU}
end
section
variable{X:Cx}{cl:List Cl}{tg a b:Expr}{pos p:Pos}{us:df}
def Mk(us:df):lX:=λc Q=>us c λd=>∃i j:Int,d=[.int i,.int j]/\(-(2^62)<=i/\i<2^62/\-(2^62)<=j/\j<2^62)/\Q (kW i (j-i).toNat)
theorem Ey (h:Fv X cl [a,b] us) (mk:∀{t},PA X [a,b] t->PI X tg (.Call (.Name "range" p) [a,b] [] pos) (MB t)):Y8 X cl tg (.Call (.Name "range" p) [a,b] [] pos) .fresh (Mk us):=.of<|by
 obtain⟨t,pt,h⟩:=h.run;refine⟨_,mk pt,λG d c H u Q R o E e k=>h G d c H u _ _ o E e λvs x z A s r y q=>?_⟩;obtain⟨i,j,rfl,g,q⟩:=q;have v:=nE r rfl;subst v;exact⟨i,j,rfl,g,k _ x _ [] s (itR i _) (λa l=>(by cases l)) (A3.nil _) q⟩
end
section
variable{X:Cx}{cl:List Cl}{a b:Expr}{pos:Pos}{fa fb:Fl}{ua ub:TU}
end
end L3
namespace PySem
open Sem (wp)
open Builtin
open AutoSeq1 (wpAny_loadPart')
end PySem
namespace L2
open PySem PySem.Spec PyProof.Rows
section
variable{X:Cx}
end
end L2
namespace L3
open PySem PySem.Spec PySem.Calls PyProof.Rows PySem.W L2
section
variable{X:Cx}{cl:List Cl}{a b:Expr}{pos:Pos}{fa fb:Fl}{ua ub:TU}
end
end L3
namespace PySem
open AutoSeq1 (wpAny_loadPart')
open AutoSeq1
theorem Au(l:Addr)(items:YK)(n:Nat)(e:Array (YR))(b:Addr)(a:YK)(n2:Nat)(c:Array (YR))(j:items.size+a.size<=sizeLine) :
  Meets (Builtin.«list.__add__» ⟨[.ref l,.ref b],[]⟩) (λ_ R s=>s.heap.get? l=some { cls:=.type "list",dict:=none,data:=.seq items n,slots:=e }/\s.heap.get? b=some { cls:=.type "list",dict:=none,data:=.seq a n2,slots:=c }/\R (.ok (.ret (Value.ref s.heap.objs.size))) { s with heap:=s.heap.push { cls:=Value.type "list",data:=Data.seq (items++a) },toks:=s.toks }):=
 .of_wp λprog w A R s h=>by obtain⟨p,g,d,tk,os⟩:=s;obtain⟨i,o,h⟩:=h;have u:=sub_list_list;have r:=sub_tuple_list;have q:=sub_list_tuple;wp_walk using wpAny_loadPart' i,wpAny_loadPart' o;exact⟨_,rfl,h⟩
end PySem
namespace L2
open PySem PySem.Spec PyProof.Rows
section
variable{X:Cx}
def Md(K:YQ):R2:=λx y H Q=>∃l b c a,x=.ref l/\y=.ref b/\G3 K H l c/\G3 K H b a/\c.length+a.length<=sizeLine/\∀p,H p=none->Q (.ref p) (upd H p (.lst (c++a)))
theorem KO:O1 X (binaryOp .Add) (Md X.K):=by
 intro B s Y H x y v u Q I O M h;obtain⟨l,b,xs,zs,rfl,rfl,S,T,hz,q⟩:=h;cases O;cases M;obtain⟨c,r,⟨⟨c1,d1,G,J⟩,n,e,p,hd,o⟩,hl⟩:=I.list S;obtain⟨a,z,⟨⟨c2,d2,E,j⟩,n2,C,i,g,d⟩,R⟩:=I.list T
 subst p hd o i g d;have l1:=r.length;have l2:=z.length;refine Yj ⟨_,e,rfl⟩ ⟨_,C,rfl⟩ noFill_list_add seq_list_add F.slot_list_add F.entry_list_add (F.args_list_add_2 _ _) (Au l c.toArray n J b a.toArray n2 j (by rw[t7,t7];omega)) ⟨e,C,?_⟩;have U:c.toArray++a.toArray=(c++a).toArray:=by simp
 rw[U];exact⟨.ref _,_,I.Hi  (r.append z) (by rw[uk];omega),rfl,q _ I.fresh⟩
end
section
variable{X:Cx}{pins:YA}{σ:St}{H:Hp}{s:Shared}{a:Addr}
theorem Inv.freeze(I:Inv X pins σ H s)(e:H a=some (.lst xs)):∃ob,Inv X pins σ (upd H a (.frz ob (.lst xs))) s:=by
 obtain⟨z,c,n,r,d⟩:=(I.hok a _ e)
 exact⟨_,I.write      (by rw[e];exact True.intro) (.inl rfl) (λb q g z=>z) ⟨_,d⟩ ⟨d,z,c,n,r,d⟩⟩
def Us(Q:VK):VK:=λv c=>∃p b,v=.ref p/\c p=some (.lst b)/\∀ob,Q v (upd c p (.frz ob (.lst b)))
theorem MU(h:PE X e t):PE X e (λσ H Q=>t σ H (Us Q)):=by
 refine .of ?_;intro pins s σ H Q I q;exact x4 (h pins s σ H _ I q) λv l ⟨x,r,i,b,p,j,o,d,c⟩=>let ⟨ob,g⟩:=i.freeze d;⟨x,_,g,b,c ob⟩
theorem pY:∀{ns:YI} {its:YG},IntsAre its ns->Vals (ns.map V.int) its
 | _,_,.nil=>.nil
 | _,_,.cons n t r=>.cons ⟨t,rfl⟩ (pY r)
end
end L2
namespace L3
open PySem PySem.Spec PySem.Calls PyProof.Rows PySem.W L2
section
variable{X:Cx}{cl:List Cl}{e a b:Expr}{ua ub:TU}{fa fb:Fl}{pos:Pos}
def CB:D->D->(D->Prop)->Prop:=λd e Q=>∃g c,kindB false d=some g/\kindB false e=some c/\w6 g=true/\w6 c=true/\g.length+c.length<=sizeLine/\Q (.lst (g++c))
theorem Nm:bR X (Md X.K) CB:=by
 intro H v w d e A B Q R r p q k;obtain⟨M,J,j,i,z,y,C,q⟩:=q;obtain⟨x,vs,S,rfl,I,g,_⟩:=ah r j;obtain⟨u,o,O,rfl,G,c,_⟩:=ah p i;have j:=g.D6 z;have i:=c.D6 y;subst j;subst i;refine⟨x,u,vs,o,rfl,rfl,I,G,by rwa[g.length,c.length],λl h=>k _ _ _ [l] (e9.i3 h) (.lst c8 ((g.same (e9.i3 h)).append (c.same (e9.i3 h)))) (by simp) (λa E=>?_) q⟩;have:=by simpa using E
 rwa[this]
theorem JF(d:PU X cl a fa ua)(c:PU X cl b fb ub):PU X cl (.BinOp a .Add b pos) .fresh (o5 CB ua ub):=jJ KO Nm d c
def Pk(u:TU):TU:=λg Q=>u g λd=>∃c,d=.lst c/\w6 c=true/\Q (.fz c)
theorem Hv(h:PU X cl e .fresh ua):PU X cl e .fresh (Pk ua):=.of<|by
 obtain⟨t,J,h⟩:=h.run;refine⟨_,MU J,λG l j H T Q R S E I k=>h G l j H T _ _ S E I λv H1 d A s r U q=>?_⟩;obtain⟨x,rfl,C,q⟩:=q;obtain⟨p,vs,B,rfl,g,i,eA⟩:=E8 r;have Y:=i.D6 C;subst Y;refine⟨p,vs,rfl,g,λob=>?_⟩;have M:=U.2 p (by rw[eA];exact hQ)
 have y:e9 H (upd H1 p (.frz ob (.lst vs))):=λb o c=>by
  rw[i4 (λz=>by rw[z,M] at c;cases c)];exact s b o c
 exact k _ _ (.fz x) [] y (.frz (.inl ⟨ob,c8⟩) (i.aG ⟨λb ys c=>by rwa[i4 (sJ c g (λz=>nomatch z))],λb o u c=>by rwa[i4 (sJ c g (λz=>nomatch z))]⟩ λa O=>by cases O)) (A3.nil _) q
theorem jy{K:YQ}:∀ns:YI,i9 K H (ns.map V.int) (ns.map D.int) []
 | []=>.nil
 | n::ns=>i9.cons   .int (jy ns)
end
end L3
namespace L2
open PySem PySem.Spec PyProof.Rows
def Tc:L5->V
 | none=>.p3
 | some k=>kV k
theorem DE(r:RelV (Tc k) u):(bw P w).is k u=true:=by
 cases k with
 | none=>rw[r];rfl
 | some k=>exact bj (P:=P) (w:=w) r
theorem EZ(h:Heap)(a:sysModules<h.objs.size):p8 P w H (h.push { cls:=.type "dict",data:=.dict #[] }) h.objs.size (.dN []):=
 ⟨v9 _,beq_eq_false_iff_ne.mpr (IN (u8 a)),[],.nil,Heap.DictOf.new h⟩
section
variable{X:Cx}{o e f i value:Expr}{pos pos' apos cpos:Pos}{td ty tx tv:TE}
theorem CY:PE X (.Dict [] [] pos) (λ_ H Q=>∀p,H p=none->Q (.ref p) (upd H p (.dN []))):=.of<|λb s c H Q I h=>
 wpAny_Dict_empty ⟨.ref s.heap.objs.size,_,I.laid    (λ_ _ q=>hD _ q) (oT _) (EZ s.heap I.big),rfl,h _ (I.hok.fresh (oT _))⟩
def Om(td ty tx:TE):TE:=λc H Q=>td c H λx h=>∃a d,x=.ref a/\h a=some (.dN d)/\ty c h λy j=>tx c j λz g=>∃b k,g a=some (.dN b)/\y=Tc k/\Q ((aj b k).getD z) g
theorem Dt (ho:PE X o td) (he:PE X e ty) (hf:PE X f tx) (m:M2 X o "get" apos e f cpos):PE X (.Call (.Attribute o "get" apos) [e,f] [] cpos) (Om td ty tx):=by
 refine .of ?_;intro c s p H Q I h;refine wpAny_Call_method m.base m.few m.line PySem.F.plainAttrs_dict TD PySem.F.type_dict_get (x4 (ho c s p H _ I h) λu B ⟨x,J,E,T,a,v,ex,d,q1⟩=>?_);subst ex;obtain rfl:u=Value.ref a:=T;obtain⟨_,hd,vs,_,l⟩:=(E.hok a _ d)
 refine⟨l.typeIs,λb q=>by cases q;obtain⟨ob,_,_,h1,h2,_⟩:=l;exact⟨ob,h1,h2.2.1⟩,?_⟩;rw[m.trees]
 refine Xx rfl (XO (WL (x4 (he c B p J _ E q1) λiv O ⟨y,H2,I2,S,Y⟩=>
  WL (x4 (hf c O p H2 _ I2 Y) λfv M ⟨z,G,C,R,j,k,g,ey,U⟩=>Yp ?_))))
 subst ey;obtain⟨_,hd,vs,r,l⟩:=(C.hok a _ g)
 exact Yl TD l.typeIs WA (Wx _ _ _) (Xu (bw X.prog X.w) a (DE S) hd fv) ⟨_,l.mapOf,⟨_,G,C.tok _,(r.val k).getD R,U⟩⟩
def OY(td ty tv:TE):TS:=λD c H=>tv c H λv h=>td c h λx g=>ty c g λy d=>∃a b k,x=.ref a/\d a=some (.dN b)/\y=Tc k/\b.length<sizeLine/\D.nx c (upd d a (.dN (putK b k v)))
theorem CO(ho:PE X o td)(hi:PE X i ty)(Y:PE X value tv)(hs:swapsWith value (some (.Subscript o i pos')) pos.line X.env=pure false) :
  PS X (.Assign [.Subscript o i pos'] value pos) (OY td ty tv):=by
 refine .of ?_;intro b s p H D I h;refine wpAny_Assign_Subscript (x4 (Y b s p H _ I h) λr M ⟨v,H1,I1,rv,T⟩=>x4 (ho b M p H1 _ I1 T) λu J ⟨x,H2,I2,Q,S⟩=>x4 (hi b J p H2 _ I2 S) λiv C ⟨y,H3,G,O,a,c,k,ex,g,ey,l,R⟩=>?_) hs;subst ex ey;obtain rfl:u=Value.ref a:=Q;obtain⟨z,hd,vs,d,dd⟩:=(G.hok a _ g)
 have U:vs.length<=sizeLine:=by rwa[<-d.length]
 have hl:(putK c k v).length<=sizeLine:=by have:=G5 c k v;omega
 refine wpAny_setItem_pairs  (DE O) dd λE j B=>?_;have he:∃q,E.get? a=some q:=let ⟨q,_,_,hq,_⟩:=j;⟨q,hq⟩;exact⟨p,_,dw  G (by rw[g];exact True.intro) B he (show p8 X.prog X.w _ E a (.dN (putK c k v)) from⟨hl,hd,_,d.put k rv,j⟩),R⟩
end
end L2
namespace L3
open PySem PySem.Spec PySem.Calls PyProof.Rows PySem.W L2
def nc:D->Option L5
 | .p3=>some none
 | d=>(ag d).map some
def J3(kvs:List (L5×Int))(k:L5):Option Int:=(kvs.find? λa=>decide (a.1=k)).map (·.2)
def cg(kvs:List (L5×Int))(k:L5)(n:Int):List (L5×Int):=
 if (kvs.any λa=>decide (a.1=k))=true then kvs.map (λa=>if a.1=k then(a.1,n) else a) else kvs++[(k,n)]
def vN(kvs:List (L5×Int)):List (L5×V):=kvs.map λq=>(q.1,V.int q.2)
theorem GS{K:YQ}(h:Rep K H v (.dn kvs) A):∃p,v=.ref p/\H p=some (.dN (vN kvs))/\A=[p]:=by
 cases h with
 | dn h=>exact⟨_,rfl,h,rfl⟩
theorem rO{K:YQ}(r:Rep K H v d A)(e:nc d=some k):v=Tc k:=by
 unfold nc at e;split at e
 ·cases e;exact eR r
 ·obtain⟨b,a,rfl⟩:=Option.map_eq_some_iff.mp e;exact R5 r a
theorem PF(kvs:List (L5×Int))(k:L5):aj (vN kvs) k=(J3 kvs k).map V.int:=by
 unfold aj J3 vN
 induction kvs with
 | nil=>rfl
 | cons q kvs a=>
  rw[t8,wS,wS]
  by_cases h:q.1=k
  ·rw[uy h];rfl
  ·rwa[v5 h]
theorem Pz(kvs:List (L5×Int))(k:L5)(n:Int):putK (vN kvs) k (.int n)=vN (cg kvs k n):=by
 have e:((vN kvs).any λa=>decide (a.1=k))=kvs.any λa=>decide (a.1=k):=by unfold vN;rw[XI];rfl
 unfold putK cg;rw[e];split
 ·unfold vN;rw[vu,vu];refine Pv λq _=>?_;show(if q.1=k then(q.1,V.int n) else(q.1,V.int q.2))=_
  by_cases h:q.1=k
  ·rw[t4 h];show _=((if q.1=k then(q.1,n) else q).1,V.int (if q.1=k then(q.1,n) else q).2);rw[t4 h]
  ·rw[tz h];show _=((if q.1=k then(q.1,n) else q).1,V.int (if q.1=k then(q.1,n) else q).2);rw[tz h]
 ·unfold vN;rw[vb];rfl
section
variable{X:Cx}{cl:List Cl}{e a b c:Expr}{ua ub uc:TU}{fa fb fc:Fl}{pos:Pos}{ma:TM}{x:Str}
theorem CS:PU X cl (.Dict [] [] pos) .fresh (uC (.dn [])):=.of<|by
 refine⟨_,CY,λG j i H l Q R _ E g k p d=>k _ _ _ [p] (e9.i3 d) (.dn c8) ⟨by simp,λa h=>?_⟩ g⟩;rwa[List.mem_singleton.mp h]
def xM(ua ub uc:TU):TU:=λg Q=>ua g λx=>∃d,x=.dn d/\ub g λy=>∃k,nc y=some k/\uc g λz=>∃n,z=.int n/\Q (.int ((J3 d k).getD n))
theorem qe  (S:PU X cl a fa ua) (O:PU X cl b fb ub) (M:PU X cl c fc uc) (m:M2 X a "get" g b c pos):PU X cl (.Call (.Attribute a "get" g) [b,c] [] pos) .fresh (xM ua ub uc):=.of<|by
 obtain⟨ta,pa,S⟩:=S.run;obtain⟨tb,pb,O⟩:=O.run;obtain⟨tc,pc,M⟩:=M.run;refine⟨_,Dt pa pb pc m,λG l j H U Q R T E J k=>S G l j H U _ _ T E J λv H1 d A q r1 f1 I=>?_⟩;obtain⟨h,rfl,I⟩:=I;obtain⟨p,rfl,hp,rfl⟩:=GS r1;refine⟨p,_,rfl,hp,O G l j H1 U _ _ T (E.same q) I λw H2 e B o r2 f2 y=>?_⟩;obtain⟨i,hk,y⟩:=y;refine M G l j H2 U _ _ T (E.same (q.trans o)) y λu H3 z C Y r3 f3 r=>?_;obtain⟨n,rfl,r⟩:=r;cases w8 r3;refine⟨_,i,Y _ _ (o _ _ hp),rO r2 hk,?_⟩;rw[PF];have e:(((J3 h i).map V.int).getD (.int n))=.int ((J3 h i).getD n):=by cases J3 h i<;>rfl
 rw[e];exact k _ H3 _ [] ((q.trans o).trans Y) .int (A3.nil _) r
def Jw(i:Nat)(y:D)(n:Int)(g:Ev)(Q:Ev->Prop):D->Prop
 | .dn d=>∃k,nc y=some k/\d.length<sizeLine/\Q (g.set i (some (.dn (cg d k n))))
 | _=>False
def GO(i:Nat)(l mk:TM):g9:=λT j=>l j λd h=>∃n,d=.int n/\a6 i h λ_=>mk h λy g=>a6 i g (Jw i y n g T.nx)
theorem La(i:Nat)(hv:PE X (.Name x u) (eI i))(hi:cl[i]?=some .own)(he:PN X cl e ma)(C:PN X cl y mk)(hs:swapsWith e (some (.Subscript (.Name x u) y tp)) pos.line X.env=pure false:=by rfl) :
  D7 X cl (.Assign [.Subscript (.Name x u) y tp] e pos) (GO i ma mk):=.of<|by
 obtain⟨t,p,h⟩:=he.run;obtain⟨t2,p2,h2⟩:=C.run;refine⟨_,CO hv p2 p hs,λG T ρ O H fa R I E B le=>?_⟩;have own:G.own i:=by unfold Ent.own;rwa[I]
 refine h G ρ O H fa _ _ I E B λw H1 d B1 r M Y c1 r1 n1 q=>?_;obtain⟨n,rfl,q⟩:=q;cases w8 r1;obtain⟨l0,e0,q⟩:=p5 q;obtain⟨v,o,r0⟩:=Y.rep i l0 e0;refine⟨_,o,h2 G r O H1 M _ _ I Y q λwk H2 dk Bk l J U c2 rk nk q=>?_⟩;obtain⟨Q,S,q⟩:=p5 q;obtain⟨v',j,r2⟩:=U.rep i Q S;have ev:v'=v:=by rw[o] at j;cases j;rfl
 subst ev;cases Q<;>first | exact(q).elim | skip
 rename_i g
 obtain⟨k,C,hn,q⟩:∃k,nc dk=some k/\g.length<sizeLine/\T.nx (l.set i (some (.dn (cg g k n)))):=q;obtain⟨p,rfl,hp,eA⟩:=GS r2;cases rO rk C;have pin:p∈J i:=by rw[eA];exact hQ
 have li:=(List.getElem?_eq_some_iff.mp S).1;refine⟨p,_,k,rfl,hp,rfl,by unfold vN;rwa[dL],?_⟩;rw[Pz];exact le.nx _ _ ⟨_,_,U.put own li j pin bK (by rw[c8];exactλz=>nomatch z) (Rep.dn c8) (by simp) λa ha=>.inl (by rwa[List.mem_singleton.mp ha]),q⟩
def LH(i:Nat)(j m2:TM):g9:=λT h=>j h λd1 g=>r8 d1=true/\m2 g λd2 d=>r8 d2=true/\a6 i d λl=>T.rt (.tup [d1,d2,l]) d
theorem Pb(d:PM X cl a ma)(sa:isStar a=false)(I:PM X cl b Y)(sb:isStar b=false)(h:PE X (.Name x Q) (eI i))(hi:i≠0)(hc:cl[i]?=some .own):D7 X cl (.Return (some (.Tuple [a,b,.Name x Q] kt B)) pos) (LH i ma Y):=.of<|by
 obtain⟨t1,p1,d⟩:=d.run;obtain⟨t2,B,I⟩:=I.run;refine⟨_,oO (oJ (bf p1 (bf B (bf h L8 rfl) sb) sa)),λG T ρ p H fo R J E hu le=>?_⟩;have o:G.own i:=by unfold Ent.own;rwa[J]
 refine d G ρ p H fo _ _ J E hu λO H1 d1 B1 u M E1 c1 U _ _ q=>?_;obtain⟨i1,q⟩:=q;have e1:=U.D6 i1;subst e1;refine I G u p H1 M _ _ J E1 q λw2 H2 d2 B2 r l g c2 S _ _ q=>?_;obtain⟨i2,q⟩:=q;have e2:=S.D6 i2;subst e2;obtain⟨d0,e0,q⟩:=p5 q;obtain⟨v,hv,r0⟩:=g.rep i d0 e0;refine⟨v,hv,by show 3<=sizeLine;decide,λpp C=>?_⟩;have s:=e9.i3 (o:=.tup [O,w2,v]) C;have z:=c2.keep U λi _ a d=>(by cases d)
 refine le.rt _ _ ⟨.tup [d1,d2,d0],r,p,l,[]++([]++(l i++[])),g.same s,.tup c8 (.cons (z.same s) (.cons (S.same s) (.cons (r0.same s) .nil))),?_,?_,?_,q⟩
 ·rw[ud];exact g.nd i (.inl o)
 ·intro a d;rw[ud] at d;exact g.new i (.inr ⟨o,λy=>hi (g.po.one i y o)⟩) a d
 ·intro j hj ho a d;rw[ud] at d;exactλy=>g.dj i j (λe=>hi (e▸g.po.one j hj ho)) o a d y
end
end L3
namespace HT
open PySem PySem.Spec PyProof.Rows
section
variable{prog:Program}{w:World}{A:Around}{E:YN}{s:Shared}
theorem uO(n:Nat):Builtin.Slice.slicePlaces ((n:Int)-1) (-1) (-1)=n:=by
 unfold Builtin.Slice.slicePlaces;have a:¬((-1)>0):=by decide
 by_cases h:(n:Int)-1>-1
 ·rw[t4 h,show((n:Int)-1 - -1-1)/(- -1)+1=n from by rw[show(- -1)=1 from by decide];omega];exact FS n
 ·rw[];omega
theorem Ad(xs:YK):((List.range xs.size).filterMap λ(k:Nat)=>xs[((xs.size:Int)-1+(k:Int)*-1).toNat]?).toArray=xs.toList.reverse.toArray:=by
 have e:(List.range xs.size).filterMap (λ(k:Nat)=>xs[(xs.size-1+(k:Int)*-1).toNat]?)=((List.range xs.size).map λk=>xs.size-1-k).filterMap (xs[·]?):=by
  rw[List.filterMap_map]
  have go:∀l:YJ,(∀k∈l,k<xs.size)->l.filterMap (λ(k:Nat)=>xs[(xs.size-1+(k:Int)*-1).toNat]?)=l.filterMap ((xs[·]?)∘λk=>xs.size-1-k):=λl=>by
   induction l with
   | nil=>intro _;rfl
   | cons k l c=>
    intro a;have e:(xs.size-1+(k:Int)*-1).toNat=xs.size-1-k:=by omega
    rw[Wu,c λz d=>a z (hH _ d),e];rfl
  exact go _ λk b=>List.mem_range.mp b
 rw[e,PySem.W.krv_range,List.filterMap_reverse,PySem.W.krv_all]
theorem eM{n:Nat}(d:s.heap.IsSliceOf c .none .none vs)(ps:IsPart vs (some (-1)))
  (h:Q ((n:Int)-1,-1,n) s):wpAny (model prog w) A (Builtin.Slice.sliceApplied (.ref c) (pure (n:Int))) Q E s:=by
 obtain⟨os,a,e,b⟩:=id d;refine eH (eH (VW a b  rfl (eH (VW a b  rfl (eH (VW a b  rfl (hE (eH (T8 ps ?_)))))))));refine eH (T8 .none (eH (T8 .none (eH (hE ?_)))));show wpAny _ _ (pure ((n:Int)-1,(-1),Builtin.Slice.slicePlaces (n-1) (-1) (-1))) _ _ s;rw[uO];exact hE h
theorem cz{items:YK}{Q:YN}(b:IsTup s.heap t items)(j:s.heap.IsSliceOf c .none .none vs)(ps:IsPart vs (some (-1)))
  (h:Q (.ref s.heap.objs.size) { s with heap:=s.heap.push { cls:=.type "tuple",data:=.seq items.toList.reverse.toArray } })
  (hsz:items.size<=sizeLine):wpAny (model prog w) A (getItem (.ref t) (.ref c)) Q E s:=by
 have a:=by
  show items.toList.reverse.toArray.size<=sizeLine;rwa[t7,FM]
 obtain⟨os,d,g,l⟩:=id j;have i:s.TypeIs (.ref c) "slice":=⟨os,d,g⟩
 unfold getItem
 try with_reducible refine BB ?_
 refine eH (Yg b.typeIs (by decide) (eH (EQ  b.typeIs Go
  (Ch Go b.typeIs entry_tuple_getitem ?_ (args_tuple_getitem _ _)))))
 show wpAny _ _ (Builtin.Tuple.tupleItemsOf (.ref t) >>= _) _ _ s;refine eH (tupleItemsOf_ b (eH (WO i ?_)));refine eH (eM j ps ?_)
 have e:¬((((items.size:Int)-1) == 0&&(-1) == 1&&items.size == items.size)=true):=by
  rw[show((-1) == 1)=false from rfl,Bool.and_false];exact sK
 show wpAny _ _ (if (((items.size:Int)-1) == 0&&(-1) == 1&&items.size == items.size)=true then _ else _) _ _ s;rw[tz e,Ad]
 first
  | exact eH  (vy (hE ⟨_,rfl,hE h⟩) a)
  | exact eH (m:=Builtin.Tuple.tupleExact _) (vy (eH (hE (hE ⟨_,rfl,hE h⟩))) a)
  | exact eH (eH (m:=Builtin.Tuple.tupleExact _) (vy (hE (hE ⟨_,rfl,hE h⟩)) a))
  | exact eH (eH (m:=Builtin.Tuple.tupleExact _) (vy (hE ⟨_,rfl,hE h⟩) a))
end
end HT
namespace L2
open PySem PySem.Spec PyProof.Rows
section
variable{X:Cx}{e c:Expr}{te:TE}{pos p2:Pos}
def NV(K:YQ)(te:TE)(tc:TO):TE:=λd H Q=>te d H λx h=>tc d h λl b=>l=some (-1)/\∃a g,x=.ref a/\R6 K b a g/\∀p,b p=none->Q (.ref p) (upd b p (.tup g.reverse))
theorem CF(R:PE X e te)(S:PO X (some c) tc):PE X (.Subscript e (.Slice none none (some c) p2) pos) (NV X.K te tc):=by
 refine .of ?_;intro d s i H Q I h;refine Subscript_ (x4 (R d s i H _ I h) λv B ⟨x,H1,Y,C,G⟩=>wpAny_Slice (hE (hE (x4 (S d B i H1 _ Y G) λp g ⟨l,H2,U,pc,T,a,z,ex,O,E⟩=>?_))));subst T ex;cases C;have j:Inv X d i H2 { g with heap:=g.heap.push { cls:=.type "slice",data:=.fields #[.none,.none,p] } }:=U.kept  λb ob q=>hD _ q;obtain⟨J,r,u,M⟩:=j.tuple O;have y:=r.length;exact tail_any  u.typeIs PyProof.Rows.slot_tuple_getitem.lookup (HT.cz u (Ye ..) pc ⟨.ref _,_,j.laid  (o:=.tup z.reverse) (λb ob q=>hD _ q) (oT _) ⟨by rwa[FM],_,r.reverse,IsTup.new _ _⟩,rfl,E _ (j.hok.fresh (oT _))⟩ (by rw[t7];omega)) (by with_unfolding_all rfl)
end
end L2
namespace L3
open PySem PySem.Spec L2
section
variable{X:Cx}{cl:List Cl}{a c:Expr}{fa:Fl}{ua uc:TU}{pos p2:Pos}
def Dv(ua:TU)(uc:OT):TU:=λb Q=>ua b λd=>uc b λl=>l=some (-1)/\match d with
 | .tup e=>w6 e=true/\Q (.tup e.reverse)
 | _=>False
theorem Fh(g:PU X cl a fa ua)(I:PU X cl c f uc):PU X cl (.Subscript a (.Slice none none (some c) p2) pos) .fresh (Dv ua (aE uc)):=.of<|by
 obtain⟨T,z,g⟩:=g.run;obtain⟨S,pl,e⟩:=(R3 I).run;refine⟨_,CF z pl,λG i h H u Q R r E B k=>g G i h H u _ _ r E B λv O d A o x Y y=>e G i h O u _ _ r (E.same o) y λU H2 j b=>?_⟩;obtain⟨M,b⟩:=b;cases d<;>first | exact(b).elim | skip
 obtain⟨p,vs,rfl,C,q⟩:=J9 (x.same j);have J:=q.D6 b.1;subst J;exact⟨M,p,vs,rfl,R6.of C,λl e=>k _ _ _ [] ((o.trans j).trans (e9.i3 e)) (.tup c8 ((qX q).same (e9.i3 e))) (A3.nil _) b.2⟩
end
end L3
namespace PySem
open SetTable
theorem Gi(z:xs.toList.Pairwise (·<·))(j:Nat):∀(d lo g:Nat),g-lo<=d->lo<=g->g<=xs.size->(∀i,i<lo->xs.getD i 0<j)->(∀i,g<=i->i<xs.size->j<=xs.getD i 0) ->
  below.go xs j d lo g<=xs.size/\(∀i,i<below.go xs j d lo g->xs.getD i 0<j)/\∀i,below.go xs j d lo g<=i->i<xs.size->j<=xs.getD i 0:=by
 intro d
 induction d with
 | zero=>
  intro lo g B v o r q;have e:lo=g:=by omega
  subst e;exact⟨o,r,q⟩
 | succ d x=>
  intro lo g B v o r q;unfold below.go
  by_cases h:lo<g
  ·rw[t4 h]
   have up:∀a b,a<=b->b<xs.size->xs.getD a 0<=xs.getD b 0:=λa b E C=>by
    have y:∀k,k<xs.size->xs.getD k 0=xs.toList.getD k 0:=λk G=>by
     rw[x0,ue,T0]
    by_cases e:a=b
    ·rw[e];exact oT _
    ·rw[y a (by omega),y b C,ue,ue,nA (by rw[u0];omega),nA (by rw[u0];omega)];exact IR (List.pairwise_iff_getElem.mp z a b (by rw[u0];omega) (by rw[u0];omega) (by omega))
   by_cases c:xs.getD ((lo+g)/2) 0<j
   ·rw[show(let l:=(lo+g)/2;if xs.getD l j<j then below.go xs j d (l+1) g else below.go xs j d lo l)=below.go xs j d ((lo+g)/2+1) g from by
     have e:xs.getD ((lo+g)/2) j=xs.getD ((lo+g)/2) 0:=by
      rw[x0,x0,wn (by omega)];rfl
     show(if xs.getD ((lo+g)/2) j<j then _ else _)=_;rw[e,t4 c]]
    exact x _ _ (by omega) (by omega) o (λi p=>WX (up i _ (by omega) (by omega)) c) q
   ·rw[show(let l:=(lo+g)/2;if xs.getD l j<j then below.go xs j d (l+1) g else below.go xs j d lo l)=below.go xs j d lo ((lo+g)/2) from by
     have e:xs.getD ((lo+g)/2) j=xs.getD ((lo+g)/2) 0:=by
      rw[x0,x0,wn (by omega)];rfl
     show(if xs.getD ((lo+g)/2) j<j then _ else _)=_;rw[e,tz c]]
    exact x _ _ (by omega) (by omega) (by omega) r λi p u=>AC (by omega) (up _ i p u)
  ·rw[tz h];have e:lo=g:=by omega
   subst e;exact⟨o,r,q⟩
theorem cZ(a:xs.toList.Pairwise (·<·))(j:Nat):below xs j<=xs.size/\(∀i,i<below xs j->xs.getD i 0<j)/\∀i,below xs j<=i->i<xs.size->j<=xs.getD i 0:=
 Gi a j _ _ _ (oT _) (v9 _) (oT _) (λi h=>absurd h (Wv _)) λi c b=>by omega
theorem pA(b:xs.toList.Pairwise (·<·))(u:xs[below xs j]?≠some j):(insertAt xs (below xs j) j).toList.Pairwise (·<·):=by
 obtain⟨G,B,o⟩:=cZ b j;rw[toList_insertAt];have C:xs.toList.length=xs.size:=u0
 have ge:∀k (a:k<xs.toList.length),xs.toList[k]=xs.getD k 0:=λk a=>by
  rw[x0,<-T0,nA a];rfl
 refine List.pairwise_append.mpr ⟨b.sublist (Wi _ _),List.pairwise_cons.mpr ⟨λy c=>?_,b.sublist (List.drop_sublist _ _)⟩,λx q y c=>?_⟩
 ·obtain⟨k,a,rfl⟩:=WS c;have h:=a;rw[Tl] at h;rw[List.getElem_drop,ge _ (by omega)];have v:=o (below xs j+k) (by omega) (by omega);have E:=o (below xs j) (oT _) (by omega);have g:below xs j<xs.size:=by omega
  have l:xs[below xs j]?=some (xs.getD (below xs j) 0):=by rw[x0,wn g];rfl
  have r:xs.getD (below xs j) 0≠j:=λe=>u (by rw[l,e])
  by_cases z:k=0
  ·subst z;rw[Nat.add_zero] at v ⊢;omega
  ·have:=List.pairwise_iff_getElem.mp b (below xs j) (below xs j+k) (by omega) (by omega) (by omega);rw[ge _ (by omega),ge _ (by omega)] at this;omega
 ·obtain⟨k,a,rfl⟩:=WS q;rw[v4] at a;have d:=B k (by omega);rw[List.getElem_take,ge _ (by omega)];rcases List.mem_cons.mp c with e | e
  ·rw[e];exact d
  ·obtain⟨p,i,rfl⟩:=WS e;rw[Tl] at i;rw[List.getElem_drop,ge _ (by omega)];have:=o (below xs j+p) (by omega) (by omega);omega
def TG(t:SetTable):Prop:=t.plain=true->t.place.toList.Pairwise (·<·)/\t.dummies=#[]
theorem xA{t:SetTable}(h:t.slot j=.empty):t.place[below t.place j]?≠some j:=λe=>by
 have:t.slot j=.live (below t.place j):=by unfold SetTable.slot;simp[e]
 rw[this] at h;cases h
theorem yb{t:SetTable}(hd:t.dummies=#[])(j:Nat):t.slot j≠.dummy:=λh=>by
 unfold SetTable.slot at h;have e:has t.dummies j=false:=by rw[hd];unfold has;simp
 rw[e] at h
 by_cases c:(t.place[below t.place j]? == some j)=true
 ·rw[t4 c] at h;cases h
 ·rw[tz c] at h;cases h
theorem lF(t:SetTable)(p:Probe):(t.advance p).dummy=p.dummy:=by
 unfold SetTable.advance;split<;>rfl
theorem gh(hd:t.dummies=#[]){g:Nat->Int}{h:Int}:∀(a:Nat) (p:Probe),p.dummy=none->∀{j:Nat} {d:YS},probe.go t g h a p=some (.empty j d)->t.slot j=.empty/\d=none
 | 0,_,_,_,_,e=>by cases e
 | a+1,p,c,j,d,e=>by
  unfold probe.go at e;split at e
  ·rename_i b
   cases e;exact⟨b,c⟩
  ·rename_i b
   exact absurd b (yb hd _)
  ·split at e
   ·cases e
   ·exact gh hd a _ (by rwa[lF]) e
theorem BM{t:SetTable}(hd:t.dummies=#[])(e:t.freeSlot h=some (j,b)):t.slot j=.empty:=by
 unfold SetTable.freeSlot at e;split at e
 ·rename_i i d a
  obtain⟨g,c⟩:=gh hd _ _ rfl a;subst c;cases e;exact g
 ·cases e
theorem TG.yS(t:SetTable)(n:Nat):TG (t.standIn n):=λh=>by cases h
theorem TG.Ju(h:TG t)(n:Nat):TG (t.orStandIn n):=by
 unfold SetTable.orStandIn;split
 ·exact h
 ·exact TG.yS t n
theorem sL(t:SetTable)(n:Nat):(t.orStandIn n).led=t.led:=by
 unfold SetTable.orStandIn;split<;>rfl
theorem TG.layNew(g:TG t)(d:Array (Int×Value))(h:Int)(x:Value):TG (PySem.layNew t d h x).2.1/\(PySem.layNew t d h x).2.1.led=t.led:=by
 unfold PySem.layNew;split
 ·rename_i j b e
  refine⟨TG.Ju (λa=>?_) _,sL _ _⟩;obtain⟨g1,c⟩:=g a;refine⟨pA g1 (xA (BM c e)),?_⟩;show(if has t.dummies j=true then _ else t.dummies)=#[];have e:has t.dummies j=false:=by rw[c];unfold has;simp
  rwa[e]
 ·exact⟨TG.yS _ _,rfl⟩
theorem uY(o:Nat->YS):∀l:YJ,l.Pairwise (·<·)->((l.filterMap λj=>(o j).map (j,·)).map (·.1)).Pairwise (·<·):=λl h=>by
 rw[Wj];refine List.Pairwise.filterMap _ (λa i d b e g c=>?_) h;obtain⟨_,_,rfl⟩:=Option.map_eq_some_iff.mp e;obtain⟨_,_,rfl⟩:=Option.map_eq_some_iff.mp c;exact d
theorem TG.relayAll(g:TG t)(c:Array (Int×Value))(n:Nat):TG (PySem.relayAll t c n).2.1/\(PySem.relayAll t c n).2.1.led=t.led:=by
 unfold PySem.relayAll;split
 ·rename_i h b e
  obtain⟨a,_,d⟩:=Option.bind_eq_some_iff.mp e;cases d;dsimp only;split
  ·exact⟨λ_=>⟨by exact uY _ _ (List.pairwise_lt_range ..),rfl⟩,rfl⟩
  ·exact⟨TG.yS _ _,rfl⟩
 ·exact⟨TG.yS _ _,rfl⟩
theorem TG.fresh(a b:Nat)(led:Bool):TG (SetTable.fresh a b led):=λ_=>⟨List.Pairwise.nil,rfl⟩
end PySem
namespace PySem
section
variable{prog:Program}{w:World}{A:Around}{E:YN}{s:Shared}{a:Addr}
structure J4(prog:Program)(w:World)(led:Bool)(h:Heap)(a:Addr)(es:Array (Int×Value)):Prop where
 at_:∃o ep t,h.get? a=some o/\o.ExactSet/\o.data=.set es ep t/\t.fits es.size=true/\TG t/\t.led=led
 el:ElemsOf (intKind prog w) es.toList
 small:es.size<scanBound
theorem mG{h:Heap}(i:h.get? a=some o)(c:o.ExactSet)(hd:o.data=.set q ep t)(d:ElemsOf (intKind prog w) b.toList)(p:b.size<scanBound)(l:t'.fits b.size=true)(g:TG t')(j:t'.led=led) :
  (h.update a (Obj.putSet b t')).get? a=some { o with data:=.set b (ep+1) t' }/\J4 prog w led (h.update a (Obj.putSet b t')) a b:=by
 have e:=by
  have:=A1 (Obj.putSet b t') i (by rw[putSet_of b t' hd];rfl);rwa[putSet_of b t' hd] at this
 exact⟨e,⟨_,ep+1,t',e,c,rfl,l,g,j⟩,d,p⟩
theorem nO{g:Bool->Sem Unit}(T:∀(b:Bool) (l:Shared) (S:Unit->Shared->Prop),S () l->wpAny (model prog w) A (g b) S E l)
       (O:s.heap.get? a=some o) (y:o.ExactSet) (hd:o.data=.set X ep t)
    (q:ElemsOf (intKind prog w) c.toList)
  (u:c.size<scanBound) (G:i.fits c.size=true) (M:TG i) (Q:i.led=led)  
  (h:∀h' e,Heap.SameBut a s.heap h'->J4 prog w led h' a e->e.toList.Perm c.toList->R (some true) { s with heap:=h' }) :
  wpAny (model prog w) A (do
    storeSet a c i
    if (!d&&i.tooFull)=true then do
      g (relayAll i c (SetTable.grown c.size)).2.2
      storeSet a (relayAll i c (SetTable.grown c.size)).1 (relayAll i c (SetTable.grown c.size)).2.1
      pure (some true)
     else pure (some true)) R E s:=by
 refine eH (wpAny_storeSet_of O hd ?_ (fits_of_scanBound u));obtain⟨x,I⟩:=mG   O y hd q u G M Q;have p:=Do s.heap a (Obj.putSet c i);split
 ·have v:=relayAll_perm i c (SetTable.grown c.size);have r:=relayAll_fits i c (SetTable.grown c.size);have j:=M.relayAll c (SetTable.grown c.size);generalize U:relayAll i c (SetTable.grown c.size)=Y at v r j ⊢;obtain⟨e,t3,J⟩:=Y;have z:=q.perm v;have C:e.size=c.size:=by rw[<-u0,v.length_eq,u0]
  have B:e.size<scanBound:=by rwa[C]
  refine eH (T _ _ _ (eH (wpAny_storeSet_of x rfl ?_ (fits_of_scanBound B))));obtain⟨_,H⟩:=mG    x y rfl z B r j.1 (j.2.trans Q);exact hE (h _ _ (p.trans (Do _ a _)) H v)
 ·exact hE (h _ _ p I (List.Perm.refl _))
theorem EE(y:(intKind prog w).is k x=true)(G:x.scannable=true)(hS:J4 prog w led s.heap a p)(H:p.size+1<scanBound)
  (h:∀h' O r,Heap.SameBut a s.heap h'->J4 prog w led h' a O->((∃e∈p.toList,(intKind prog w).is k e.2=true)/\O=p\/(¬∃e∈p.toList,(intKind prog w).is k e.2=true)/\O.toList.Perm (p.toList++[((intKind prog w).hash k,x)]))->Q r { s with heap:=h' }) :
  wpAny (model prog w) A (setAddHashed a x ((intKind prog w).hash k)) Q E s:=by
 obtain⟨⟨o,ep,t,U,S,hd,hf,tg,Y⟩,J,hb⟩:=id hS;refine BB (eH (VU U hd hf ?_));dsimp only;rw[byScan_of G hb J];refine eH (eH (WI (eH (wpAny_setScan_of y U hd hf J ?_))))
 cases hr:List.findIdx? (λe=>(intKind prog w).is k e.2) p.toList with
 | some j=>
  obtain⟨hj,X,_⟩:=List.findIdx?_eq_some_iff_getElem.mp hr;exact hE (hE (h s.heap p _ (Heap.SameBut.refl a s.heap) hS (.inl ⟨⟨p.toList[j],VX hj,X⟩,rfl⟩)))
 | none=>
  have no:¬∃e∈p.toList,(intKind prog w).is k e.2=true:=λ⟨e,he,I⟩=>by
   have:=List.findIdx?_eq_none_iff.mp hr e he;rw[I] at this;exact Bool.noConfusion this
  have a0:∀(b:Bool) {g:Shared} {T:Unit->Shared->Prop},T () g->wpAny (model prog w) A (match b with | true=>rule "set.scan.the-table-gave-way" | false=>pure ()) T E g:=
   λb g T v=>by cases b<;>first | exact hE v | exact WI v
  have c:=layNew_perm t p ((intKind prog w).hash k) x;have d:=layNew_fits t p ((intKind prog w).hash k) x;have l:=tg.layNew p ((intKind prog w).hash k) x;generalize hL:layNew t p ((intKind prog w).hash k) x=L at c d l ⊢;obtain⟨M,t1,R,a1⟩:=L;rw[Array.toList_push] at c;have B:ElemsOf (intKind prog w) M.toList:=(J.push y G).perm c;have C:M.size<scanBound:=by rw[<-u0,c.length_eq,uk,u0];simpa using H
  refine eH (a0 _ ?_);have z:∀h' i,Heap.SameBut a s.heap h'->J4 prog w led h' a i->i.toList.Perm M.toList->∀r,Q r { s with heap:=h' }:=λh' i q u I r=>h h' i r q u (.inr ⟨no,I.trans c⟩);split
  ·refine eH ?_;rw[hashByValue_scannable 8 G];refine hE ?_;refine nO (led:=led) ?_ U S hd B C ?_ ?_ ?_ ?_
   ·intro b g T v;cases b<;>first | exact hE v | exact WI v
   ·split
    ·exact d
    ·exact SetTable.fits_plain_off d
   ·split
    ·exact l.1
    ·exactλh=>by cases h
   ·split
    ·exact l.2.trans Y
    ·exact l.2.trans Y
   ·intro h' i q u I;dsimp only;exact hE (z h' i q u I _)
  ·refine eH (hE ?_);simp only[↓reduceIte];refine nO (led:=led) ?_ U S hd B C d l.1 (l.2.trans Y) ?_
   ·intro b g T v;cases b<;>first | exact hE v | exact WI v
   ·intro h' i q u I;dsimp only;exact hE (z h' i q u I _)
end
end PySem
namespace L2
open PySem PySem.Spec PyProof.Rows
def U8(a:YI)(k:Int):YI:=if k∈a then a else a++[k]
def EI(c:Array (Int×Value))(b:YI):Prop:=∃a,IntsAre (c.toList.map (·.2)) a/\a.Perm b
theorem nu:Value.isInt k (.int n t)=true ↔ n=k:=by
 constructor
 ·intro h;obtain⟨a,e⟩:=Value.isInt_shape h;cases e;rfl
 ·rintro rfl;exact nr n t
theorem tO:∀{b:List (Int×Value)} {c:YI},IntsAre (b.map (·.2)) c->∀k,(∃e∈b,(intKind P w).is k e.2=true) ↔ k∈c
 | [],_,h,k=>by
  cases h;constructor
  ·rintro⟨_,h,_⟩;cases h
  ·intro h;cases h
 | e::b,c,h,k=>by
  obtain⟨n,t,ns,j,rfl,o⟩:∃n t ns,e.2=Value.int n t/\c=n::ns/\IntsAre (b.map (·.2)) ns:=by
   have g:IntsAre (e.2::b.map (·.2)) c:=h;generalize e.2=v at g;cases g with
   | cons n t l=>exact⟨n,t,_,rfl,rfl,l⟩
  have i:=tO (P:=P) (w:=w) o k;constructor
  ·rintro⟨z,d,a⟩;rcases List.mem_cons.mp d with q | q
   ·rw[q,j] at a;have a:Value.isInt k (.int n t)=true:=a;rw[nu.mp a];exact hQ
   ·exact hH _ (i.mp ⟨z,q,a⟩)
  ·intro a;rcases List.mem_cons.mp a with q | q
   ·exact⟨e,hQ,by rw[j,q];exact(nu (t:=t)).mpr rfl⟩
   ·obtain⟨z,d,a⟩:=i.mpr q;exact⟨z,hH _ d,a⟩
theorem EI.mem(h:EI b a)(k:Int):(∃e∈b.toList,(intKind P w).is k e.2=true) ↔ k∈a:=by
 obtain⟨c,g,d⟩:=h;rw[tO g,d.mem_iff]
theorem mH:∀{vs e:YG},e.Perm vs->∀{d:YI},IntsAre vs d->∃c,IntsAre e c/\c.Perm d:=λp=>by
 induction p with
 | nil=>intro d h;exact⟨d,h,.refl _⟩
 | cons v p i=>
  intro d h
  cases h with
  | cons n t h=>obtain⟨c,a,b⟩:=i h;exact⟨n::c,.cons n t a,b.cons _⟩
 | swap v u l=>
  intro d h
  cases h with
  | cons n t h=>cases h with
   | cons m q h=>exact⟨m::n::_,.cons m q (.cons n t h),.swap ..⟩
 | trans p q o j=>
  intro d h;obtain⟨B,z,x⟩:=j h;obtain⟨g,y,r⟩:=o z;exact⟨g,y,r.trans x⟩
theorem ints_app:∀{vs a:YG} {b c:YI},IntsAre vs b->IntsAre a c->IntsAre (vs++a) (b++c)
 | _,_,_,_,.nil,q=>q
 | _,_,_,_,.cons n t h,q=>.cons n t (ints_app h q)
theorem jP:∀{vs:YG} {a:YI},IntsAre vs a->vs.length=a.length
 | _,_,.nil=>rfl
 | _,_,.cons n t h=>by rw[wf,wf,jP h]
theorem EI.size(h:EI b a):b.size=a.length:=by
 obtain⟨c,e,d⟩:=h;have:=jP e;rw[dL,u0] at this;rw[this,d.length_eq]
theorem EI.add(h:EI g j)(q:((∃e∈g.toList,(intKind P w).is k e.2=true)/\c=g\/(¬∃e∈g.toList,(intKind P w).is k e.2=true)/\c.toList.Perm (g.toList++[(v,Value.int k t)]))):EI c (U8 j k):=by
 unfold U8;rcases q with⟨i,rfl⟩ | ⟨i,p⟩
 ·rwa[t4 ((h.mem k).mp i)]
 ·rw[tz λz=>i ((h.mem k).mpr z)];obtain⟨l,u,r⟩:=h;have d:=p.map (·.2);rw[vb] at d;obtain⟨o,a,b⟩:=mH d (ints_app u (.cons k t .nil));exact⟨o,a,b.trans (r.append_right _)⟩
theorem DS(a:YI)(k:Int):(U8 a k).length<=a.length+1:=by
 unfold U8;split
 ·omega
 ·rw[uk];exact oT _
theorem qR(ns:YI):∀a:YI,(ns.foldl U8 a).length<=a.length+ns.length:=by
 induction ns with
 | nil=>intro a;exact oT _
 | cons n ns b=>
  intro a;have:=b (U8 a n);have:=DS a n;rw[UF,wf];omega
theorem Ij(ns:YI):∀c:YI,c.Nodup->(ns.foldl U8 c).Nodup/\∀x,x∈ns.foldl U8 c ↔ x∈c\/x∈ns:=by
 induction ns with
 | nil=>intro c h;exact⟨h,λx=>by simp⟩
 | cons n ns g=>
  intro c h
  have o:(U8 c n).Nodup:=by
   unfold U8;split
   ·exact h
   ·rename_i d
    refine List.nodup_append.mpr ⟨h,On _ _,λa j b i e=>?_⟩;rw[List.mem_singleton.mp i] at e;exact d (e▸j)
  have l:∀x,x∈U8 c n ↔ x∈c\/x=n:=λx=>by
   unfold U8;split
   ·rename_i d;exact⟨.inl,λz=>z.elim id λe=>by rwa[e]⟩
   ·rw[Yd,List.mem_singleton]
  obtain⟨a,b⟩:=g _ o;refine⟨a,λx=>?_⟩;rw[UF,b,l,Os,or_assoc]
theorem Bh{R:Result->Shared->Prop}{I:Addr}{X q:YE}{led:Bool}{ns:YI}{P:Nat->Value->Prop}{St:Nat->Heap->Prop}(W:Walks prog w A.in1 I X q ns.length P St)(S:Addr)(U:S∉X)(hv:∀i v,P i v->∃t,v=.int (ns.getD i 0) t)(g:ns.length+1<scanBound) :
  ∀(k i:Nat) (s:Shared),ns.length-i=k->i<=ns.length->St i s.heap->(∃c,J4 prog w led s.heap S c/\EI c ((ns.take i).foldl U8 [])) ->
   (∀h' tk c,(∀b o,b∉S::q->s.heap.get? b=some o->h'.get? b=some o)->J4 prog w led h' S c->EI c (ns.foldl U8 [])->R (.ok (.ret .none)) { s with heap:=h',toks:=tk }) ->
   codeAny (model prog w) A (.builtin "set.update.loop" ⟨[.ref S,.ref I],[]⟩) R s:=by
 have Y:S∉q:=λh=>U (W.sub _ h);have fV:∀{h h':Heap} {c:Array (Int×Value)},(∀b o,b∉q->h.get? b=some o->h'.get? b=some o)->J4 prog w led h S c->J4 prog w led h' S c:=λk ⟨⟨o,ep,t,ho,r⟩,a,b⟩=>⟨⟨o,ep,t,k S _ Y ho,r⟩,a,b⟩
 intro k
 induction k with
 | zero=>
  intro i s hk hi st ⟨c,H,p⟩ j;have e:i=ns.length:=by omega
  subst e;rw[wP] at p;refine Op SZ ?_;rw[Fk Da _];show wpAny _ A.in1 (pyNext (.ref I) >>= _) _ _ s;refine eH (W.done s _ _ st λh' tk kp=>?_);exact hE (j h' tk c (λb o g e=>kp b o (λz=>g (hH _ z)) e) (fV kp H) p)
 | succ k ih=>
  intro i s hk hi st ⟨c,H,p⟩ j;have d:i<ns.length:=by omega
  refine Op SZ ?_;rw[Fk Da _];show wpAny _ A.in1 (pyNext (.ref I) >>= _) _ _ s;refine eH (W.item i s _ _ d st λv h' tk hP x kp=>?_);obtain⟨t,rfl⟩:=hv i v hP;have G:=fV kp H
  have B:c.size+1<scanBound:=by
   have h1:=p.size;have M:=qR (ns.take i) [];rw[v4] at M;have:([]:YI).length=0:=rfl;omega
  show wpAny _ A.in1 (holding [_] (setAdd S _) >>= _) _ _ _;refine eH (BB ?_);unfold setAdd;refine BB (eH ((intKind prog w).pyHash (k:=ns.getD i 0) (intKind_is _ _ _ _) ?_));refine EE (s:={ s with heap:=h',toks:=tk+1 }) (intKind_is _ _ _ _) rfl G B λM Q r T E hq=>?_;have l:=p.add hq
  have et:U8 ((ns.take i).foldl U8 []) (ns.getD i 0)=(ns.take (i+1)).foldl U8 []:=by
   rw[wl,nA d,Wk,ue,nA d];rfl
  rw[et] at l;refine hE ⟨VZ Da _,ih (i+1) _ (by omega) d (W.frame (i+1) h' M x λb g o e=>(T.2 b λz=>U (z▸g)).trans e) ⟨Q,E,l⟩ λh3 u O y C J=>?_⟩;refine j h3 u O (λb o g e=>y b o g ?_) C J;exact(T.2 b λz=>g (by rw[z];exact hQ)).trans (kp b o (λz=>g (hH _ z)) e)
end L2
namespace PySem
namespace L4
theorem D8:Slot "set_iterator" "__next__" "set_iterator.__next__":=.of (owner:="set_iterator") (n:="__next__") (by kernel_rfl) (by decide +kernel) (by decide +kernel) (by decide +kernel) (by first | exact .inl (by decide +kernel) | exact .inr (by decide +kernel)) (by kernel_rfl)
theorem kj:Slot "set_iterator" "__iter__" "set_iterator.__iter__":=.of (owner:="set_iterator") (n:="__iter__") (by kernel_rfl) (by decide +kernel) (by decide +kernel) (by decide +kernel) (by first | exact .inl (by decide +kernel) | exact .inr (by decide +kernel)) (by kernel_rfl)
theorem cH:entryFor table "set_iterator.__next__"=some Builtin.«set_iterator.__next__»:=entryFor_of_tree (by kernel_rfl)
theorem vO:entryFor table "set_iterator.__iter__"=some Builtin.«dict_keyiterator.__iter__»:=entryFor_alias (id':="dict_keyiterator.__iter__") (by kernel_rfl) (by first | rfl | decide +kernel | (unfold String.splitOn;simp +decide [XF])) (by decide +kernel) (by kernel_rfl)
theorem QL:entryFor table "set.__iter__"=some Builtin.«frozenset.__iter__»:=entryFor_alias (id':="frozenset.__iter__") (by kernel_rfl) (by first | rfl | decide +kernel | (unfold String.splitOn;simp +decide [XF])) (by decide +kernel) (by kernel_rfl)
theorem sZ:Manifest.owners.lookup (String.ofList ['r','o','t','a','r','e','t','i','_','t','e','s'].reverse)=some Manifest.sig_set_iterator:=by kernel_rfl
theorem cq(a:Value):argsOk "set_iterator.__next__" ⟨[a],[]⟩:=by unfold argsOk;kernel_rfl
theorem yf(a:Value):argsOk "set_iterator.__iter__" ⟨[a],[]⟩:=by unfold argsOk;kernel_rfl
theorem RZ:typeLookup (.type "set") "__len__"=pure (some (.builtin "set.__len__")):=by kernel_rfl
end L4
theorem cV{a:Type}:∀(l:List a) (i:Nat) (h:i<l.length),(l[i]::l.eraseIdx i).Perm l
 | [],_,h=>absurd h (Wv _)
 | x::l,0,h=>.refl _
 | x::l,i+1,h=>(List.Perm.swap x _ _).trans ((cV l i (Nat.lt_of_succ_lt_succ h)).cons x)
theorem yF(next:Nat->Nat):∀(n k:Nat) (a:List c) (out:Array c),a.length=n->(pickOrder.go next n k a out).toList.Perm (out.toList++a)
 | 0,k,a,out,h=>by
  rw[List.length_eq_zero_iff.mp h,ud];exact .refl _
 | n+1,k,a,out,h=>by
  have b:next k%a.length<a.length:=Nat.mod_lt _ (by omega)
  unfold pickOrder.go;rw[nA b];refine(yF next n (k+1) _ _ (by rw[Yn b];omega)).trans ?_;rw[Array.toList_push,v6];exact(cV _ _ b).append_left _
theorem fU(next:Nat->Nat)(xs:Array a):(pickOrder next xs).toList.Perm xs.toList:=by
 have:=yF next xs.size 0 xs.toList #[] u0
 rwa [] at this
section
variable{M:Model}{A:Around}{E:YN}
theorem pH(b:n≠0)(h:∀i d,i<n->Q i { s with drawn:=d }):wpAny M A (choose a n) Q E s:=λc p _=>by
 unfold choose;exact⟨b,h _ _ (Nat.mod_lt _ (Nat.pos_of_ne_zero b))⟩
theorem vW:∀(n:Nat) (xs:List c) {s:Shared} {Q:List c->Shared->Prop},xs.length=n->(∀a d,a.Perm xs->Q a { s with drawn:=d })->wpAny M A (drawOrder n xs) Q E s:=by
 intro n
 induction n with
 | zero=>
  intro xs s Q h q;rw[List.length_eq_zero_iff.mp h] at q;exact hE (q [] s.drawn (.refl _))
 | succ n e=>
  intro xs s Q h q
  cases xs with
  | nil=>cases h
  | cons x xs=>
   refine eH (pH (by simp) λi d b=>?_);rw[nA b];exact eH (e _ (by rw[Yn b];omega) λa j g=>hE (q _ j ((g.cons _).trans (cV _ _ b))))
end
section
variable{prog:Program}{w:World}{A:Around}{E:YN}{s:Shared}{it a:Addr}
def vJ(h:Heap)(it a:Addr)(b:Value)(i n ep:Nat):Prop:=∃o,h.get? it=some o/\o.cls=.type "set_iterator" /\ o.data=.fields #[b,.int (i:Int) 0,.ref a,.int (n:Int) 0,.int (ep:Int) 0]
def SW(h:Heap)(a:Addr)(b:Array (Int×Value))(ep:Nat)(t:SetTable):Prop:=(∃o,h.get? a=some o/\o.data=.set b ep t)/\t.fits b.size=true
theorem vJ.typeIs(x:vJ s.heap it a b i n ep):s.TypeIs (.ref it) "set_iterator":=let ⟨o,c,d,_⟩:=x;⟨o,c,d⟩
theorem vJ.at'(x:vJ h it a b i n ep)(e:∀o,h.get? it=some o->h'.get? it=some o):vJ h' it a b i n ep:=let ⟨o,c,r⟩:=x;⟨o,e _ c,r⟩
theorem SW.at'(x:SW h a b ep t)(e:∀o,h.get? a=some o->h'.get? a=some o):SW h' a b ep t:=let ⟨⟨o,c,r⟩,f⟩:=x;⟨⟨o,e _ c,r⟩,f⟩
theorem bq{Q:YN}(hit:vJ s.heap it a b i n ep)(h:Q (.ref it) s):wpAny (model prog w) A (pyIter (.ref it)) Q E s:=Yh hit.typeIs L4.kj (Ch L4.kj hit.typeIs L4.vO (hE ⟨_,rfl,"set_iterator",_,hit.typeIs,L4.D8.lookup,h⟩) (L4.yf _))
theorem mS:isSubtype (.type "StopIteration") (.type "StopIteration")=pure true:=by kernel_rfl
theorem nN{slot slot' i n ep:Nat}{Q:YR->Shared->Prop}(hit:vJ s.heap it a (.int (slot:Int) 0) i n ep)(j:SW s.heap a e ep t)(l:e.size=n)
  (h:∀(E:YN) (g:Option (Value×Nat)->Shared->Prop),g (some (x,slot')) s->wpAny (model prog w) A.in1 (setNext a slot i ep) g E s)
  (r:∀h',vJ h' it a (.int (slot':Int) 0) (i+1) n ep->Heap.SameBut it s.heap h'->Q (some x) { s with heap:=h' }) :
  wpAny (model prog w) A (pyNext (.ref it)) Q E s:=by
 obtain⟨o,b,q,hd⟩:=id hit;obtain⟨⟨os,c,d⟩,p⟩:=id j;refine eH (Wz (EQ  hit.typeIs L4.D8 (Ch L4.D8 hit.typeIs L4.cH (eH (hE (eH (XD b hd (eH (Wy c d p ?_)))))) (L4.cq _))));rw[tz (by rw[l];simp)];refine eH (h _ _ ?_);refine eH (UV b hd (by simp) (eH (UV (A1 _ b (Sc (wT hd _))) (wT hd _) (by simp) (hE ⟨_,rfl,hE (r _ ?_ ((Do ..).trans (Do ..)))⟩))));have u:=A1 (Obj.mapFields (·.setIfInBounds 0 (rawInt slot'))) b (Sc (wT hd _));refine⟨_,A1 _ u (Sc (wT (wT hd _) _)),(Xm ..).trans ((Xm ..).trans q),?_⟩
 ·rw[wT (wT hd _)];simp[rawInt]
theorem wC{tp i n ep j:Nat}{ps:YK}{Q:YR->Shared->Prop}(hit:vJ s.heap it a (.ref tp) i n ep)(r:SW s.heap a l ep t)(v:l.size=n)
  (u:∃o e,s.heap.get? tp=some o/\o.data=.seq ps e) (y:ps[i]?=some (.int (j:Int) 0)) (q:l[j]?=some x)
  (B:∀h',vJ h' it a (.ref tp) (i+1) n ep->Heap.SameBut it s.heap h'->Q (some x.2) { s with heap:=h' }) :
  wpAny (model prog w) A (pyNext (.ref it)) Q E s:=by
 obtain⟨o,g,z,hd⟩:=id hit;obtain⟨⟨os,b,c⟩,p⟩:=id r;obtain⟨C,e,d,h⟩:=u;refine eH (Wz (EQ  hit.typeIs L4.D8 (Ch L4.D8 hit.typeIs L4.cH (eH (hE (eH (XD g hd (eH (Wy b c p ?_)))))) (L4.cq _))));rw[tz (by rw[v];simp)];refine eH ?_;refine eH (wpAny_load d ?_);rw[h];refine hE ?_;dsimp only;rw[FS,y];dsimp only;rw[FS];refine eH ?_;refine eH (VU b c p ?_);dsimp only;rw[tz (by simp),q];refine hE (eH (UV g hd (by simp) (hE ⟨_,rfl,hE (B _ ⟨_,A1 _ g (Sc (wT hd _)),(Xm ..).trans z,?_⟩ (Do ..))⟩)));rw[wT hd];simp[rawInt]
theorem L9  (h:Q (w.params.followText "set-order") s):wpAny (model prog w) A setsByText Q E s:=eH (Xs (hE h))
theorem wq(g:xs.toList.Pairwise (·<·))(h:xs[i]?=some j):SetTable.below xs (j+1)=i+1:=by
 obtain⟨v,o,l⟩:=cZ g (j+1);obtain⟨d,e⟩:=Array.getElem?_eq_some_iff.mp h;have r:xs.getD i 0=j:=by rw[x0,h];rfl
 have c1:i<SetTable.below xs (j+1):=by
  rcases Nat.lt_or_ge i (SetTable.below xs (j+1)) with c | c
  ·exact c
  ·have:=l i c d;omega
 rcases Nat.lt_or_ge (i+1) (SetTable.below xs (j+1)) with c | c
 ·have q:=o (i+1) c;have b:i+1<xs.size:=by omega
  have g1:xs.getD (i+1) 0=xs.toList[i+1]'(by rwa[]):=by
   rw[x0,wn b];rfl
  have p:=List.pairwise_iff_getElem.mp g i (i+1) (by rwa[]) (by rwa[]) (by omega);have u:xs.toList[i]'(by rwa[])=j:=e;omega
 ·omega
theorem wc(b:xs.toList.Pairwise (·<·)):SetTable.below xs 0=0:=by
 obtain⟨h,d,g⟩:=cZ b 0;rcases Nat.eq_zero_or_pos (SetTable.below xs 0) with e | c
 ·exact e
 ·exact absurd (d 0 c) (Wv _)
theorem rV      (g:SW s.heap a c ep t) (u:w.params.followText "set-order"=false) (p:t.led=true)
  (hd:(!t.plain&&decide (c.size>1))=false) (y:t.place.toList.Pairwise (·<·)) (r:SetTable.below t.place slot=i) (e:c[i]?=some x)  (q:t.place[i]?=some j)
  (h:Q (some (x.2,j+1)) s):wpAny (model prog w) A (setNext a slot i ep) Q E s:=by
 obtain⟨⟨o,l,b⟩,d⟩:=id g;refine eH (VU l b d ?_);dsimp only;refine eH (L9 ?_);rw[u];show wpAny _ _ (if (!t.plain&&decide (c.size>1))=true then _ else _) _ _ s;rw[hd];refine eH ?_
 wp_delta
 rw[p];refine hE ?_;rw[r,e]
 rw[q];exact hE h
theorem gW     (d:SW s.heap a c ep t) (p:w.params.followText "set-order"=false) (i:t.led=true)
  (hd:(!t.plain&&decide (c.size>1))=false) (j:SetTable.below t.place slot=c.size)
  (h:Q none s):wpAny (model prog w) A (setNext a slot g ep) Q E s:=by
 obtain⟨⟨o,e,b⟩,l⟩:=id d;refine eH (VU e b l ?_);dsimp only;refine eH (L9 ?_);rw[p];show wpAny _ _ (if (!t.plain&&decide (c.size>1))=true then _ else _) _ _ s;rw[hd];refine eH ?_
 wp_delta
 rw[i];refine hE ?_;rw[j,WG (oT _)];exact hE h
theorem mJ     (l:SW s.heap a j ep t) (g:w.params.followText "set-order"=true)
  (h:Q ((pickOrder (w.params.setOrder a ep) j)[i]?.map λe=>(e.2,slot)) s):wpAny (model prog w) A (setNext a slot i ep) Q E s:=by
 obtain⟨⟨o,c,b⟩,d⟩:=id l;refine eH (VU c b d ?_);refine eH (L9 ?_);rw[g,t4 rfl,tz (by simp)];refine eH ?_;refine eH (VU c b d ?_);refine eH (L9 ?_);rw[g];exact eH (Xs (hE (hE h)))
theorem qP{slot i n ep:Nat}{Q:YR->Shared->Prop}(q:A.handled=none)(hit:vJ s.heap it a (.int (slot:Int) 0) i n ep)(l:SW s.heap a g ep t)(p:g.size=n)
  (j:∀(E:YN) (h:Option (Value×Nat)->Shared->Prop),h none s->wpAny (model prog w) A.in1 (setNext a slot i ep) h E s)
  (u:∀h',Heap.ExtBut it s.heap h'->Q none { s with heap:=h' }) :
  wpAny (model prog w) A (pyNext (.ref it)) Q E s:=by
 obtain⟨o,e,v,hd⟩:=id hit;obtain⟨⟨os,c,d⟩,r⟩:=id l;unfold pyNext;refine eH (Wz (EQ (name:=Str.ofString "__next__") hit.typeIs L4.D8 (Ch L4.D8 hit.typeIs L4.cH ?_ (L4.cq _))));unfold Builtin.«set_iterator.__next__»;refine eH (hE (eH (XD e hd (eH (Wy c d r ?_)))));rw[tz (by rw[p];simp)];dsimp only;rw[FS,FS,FS];refine eH (j _ _ ?_);dsimp only;refine eH (UV e hd (by simp) (eH ?_));simp only[newExc,newTuple];refine eH (vy (eH (m:=firstArgMember _ _) (VV (a:=Value.none) (by first | rfl | (simp only[firstArgMember];rfl)) (vy ?_ (by size_fits)))) (by size_fits));simp only[raiseNew];refine eH (wpAny_handled ?_);rw[show A.in1.handled=none from q];refine eH (hE (wpAny_throw ?_));exact eH (WT (T:="StopIteration") (b:=true) ⟨_,t6 _ rfl,rfl⟩ mS (hE (u _ (((Do ..).extBut.push _).push _))))
theorem jz{tp i n ep:Nat}{ps:YK}{Q:YR->Shared->Prop}(v:A.handled=none)(hit:vJ s.heap it a (.ref tp) i n ep)(p:SW s.heap a l ep t)(r:l.size=n)
  (q:∃o e,s.heap.get? tp=some o/\o.data=.seq ps e) (u:ps[i]?=none)
  (y:∀h',Heap.ExtBut it s.heap h'->Q none { s with heap:=h' }) :
  wpAny (model prog w) A (pyNext (.ref it)) Q E s:=by
 obtain⟨o,g,B,hd⟩:=id hit;obtain⟨⟨os,c,h⟩,x⟩:=id p;obtain⟨z,e,d,j⟩:=q;unfold pyNext;refine eH (Wz (EQ (name:=Str.ofString "__next__") hit.typeIs L4.D8 (Ch L4.D8 hit.typeIs L4.cH ?_ (L4.cq _))));unfold Builtin.«set_iterator.__next__»;refine eH (hE (eH (XD g hd (eH (Wy c h x ?_)))));rw[tz (by rw[r];simp)];dsimp only;refine eH ?_;unfold seqItems?
 refine eH (wpAny_load d ?_);rw[j];refine hE ?_;dsimp only;rw[FS,u];dsimp only;refine eH (UV g hd (by simp) (eH (UV (A1 _ g (Sc (wT hd _))) (wT hd _) (by simp) (eH ?_))));simp only[newExc,newTuple];refine eH (vy ?_ (by size_fits));refine eH (m:=firstArgMember _ _) (VV (a:=Value.none) (by first | rfl | (simp only[firstArgMember];rfl)) ?_);refine vy ?_ (by size_fits);simp only[raiseNew];refine eH (wpAny_handled ?_);rw[show A.in1.handled=none from v];refine eH (hE (wpAny_throw ?_));refine eH (WT (T:="StopIteration") (b:=true) ⟨_,t6 _ rfl,rfl⟩ mS ?_);exact hE (y _ ((((Do ..).trans (Do ..)).extBut.push _).push _))
end
section
variable{prog:Program}{w:World}{A:Around}{E:YN}{s:Shared}{I a:Addr}
theorem nH{t:SetTable}(b:t.fits n=true):t.place.size=n:=by
 simp[SetTable.fits] at b;exact b.1
theorem pT (O:A.handled=none) (r:a≠I)    (d:w.params.followText "set-order"=false) (G:t.led=true)
  (hd:(!t.plain&&decide (g.size>1))=false) (C:t.place.toList.Pairwise (·<·)) :
  Walks prog w A I [I,a] [I] g.size (λi v=>(g.toList.map (·.2))[i]?=some v) (λi h=>(∃slot,vJ h I a (.int ((slot:Nat):Int) 0) i g.size ep/\SetTable.below t.place slot=i)/\SW h a g ep t) where
 sub:=λb d=>by simp at d;simp[d]
 frame:=λ_ _ _ ⟨⟨slot,st,e⟩,c⟩ H=>⟨⟨slot,st.at' λo e=>H I (by simp) o e,e⟩,c.at' λo e=>H a (by simp) o e⟩
 item:=λi s Q E M ⟨⟨slot,st,e⟩,c⟩ p=>by
  have S:=nH c.2;have u:i<t.place.size:=by omega
  have J:=wn u;have B:=wn M;exact nN st c rfl   (λE R q=>rV c d G hd C e B J q) λz l j=>p _ z s.toks (by rw[sj,T0,B];rfl) ⟨⟨_,l,wq C J⟩,c.at' λo e=>j.extBut a o r e⟩ λb o d e=>j.extBut b o (λh=>d (by simp[h])) e
 done:=λs Q E ⟨⟨slot,st,e⟩,c⟩ p=>qP O st c rfl (λE R q=>gW c d G hd e q) λz y=>p z s.toks λb o d e=>y b o (λh=>d (by simp[h])) e
 self:=λ_ _ _ _ ⟨⟨_,st,_⟩,_⟩ p=>bq st p
theorem xT (G:A.handled=none) (r:a≠I)    (d:w.params.followText "set-order"=true) :
  Walks prog w A I [I,a] [I] c.size (λi v=>((pickOrder (w.params.setOrder a ep) c).toList.map (·.2))[i]?=some v) (λi h=>vJ h I a (.int ((0:Nat):Int) 0) i c.size ep/\SW h a c ep t) where
 sub:=λb d=>by simp at d;simp[d]
 frame:=λ_ _ _ ⟨st,g⟩ C=>⟨st.at' λo e=>C I (by simp) o e,g.at' λo e=>C a (by simp) o e⟩
 item:=λi s Q E J ⟨st,g⟩ p=>by
  have z:=by
   have:=(fU (w.params.setOrder a ep) c).length_eq
   rwa [u0,u0] at this
  have B:(pickOrder (w.params.setOrder a ep) c)[i]?=some (pickOrder (w.params.setOrder a ep) c)[i]:=wn (by omega);exact nN st g rfl   (λE H q=>mJ g d (by rwa[B])) λy l j=>p _ y s.toks (by rw[sj,T0,B];rfl) ⟨l,g.at' λo e=>j.extBut a o r e⟩ λb o d e=>j.extBut b o (λh=>d (by simp[h])) e
 done:=λs Q E ⟨st,g⟩ p=>by
  have z:=by
   have:=(fU (w.params.setOrder a ep) c).length_eq
   rwa [u0,u0] at this
  exact qP G st g rfl (λE H q=>mJ g d (by rw[WG (Wc z)];exact q)) λy u=>p y s.toks λb o d e=>u b o (λh=>d (by simp[h])) e
 self:=λ_ _ _ _ ⟨st,_⟩ p=>bq st p
def eE(c:Array (Int×Value))(b:YJ):YG:=b.map λj=>((c[j]?).map (·.2)).getD .none
theorem lN(d:Array (Int×Value))(h:b.Perm (List.range d.size)):(eE d b).Perm (d.toList.map (·.2)):=by
 refine(h.map _).trans ?_
 have:(List.range d.size).map (λj=>((d[j]?).map (·.2)).getD Value.none)=d.toList.map (·.2):=by
  refine XH λi=>?_;rw[sj,sj,T0 (xs:=d)]
  by_cases c:i<d.size
  ·rw[Xv c];show some (((d[i]?).map (·.2)).getD Value.none)=_;rw[wn c];rfl
  ·rw[TW (by simpa using c),WG (by omega)];rfl
 rw[this]
theorem qo(S:A.handled=none)(C:a≠I)(B:tp≠I)(z:c.Perm (List.range d.size)) :
  Walks prog w A I [I,a,tp] [I] d.size (λi v=>(eE d c)[i]?=some v) (λi h=>vJ h I a (.ref tp) i d.size ep/\SW h a d ep t/\∃o e,h.get? tp=some o/\o.data=.seq (c.map λj=>rawInt ((j:Nat):Int)).toArray e) where
 sub:=λb q=>by simp at q;simp[q]
 frame:=λ_ _ _ ⟨st,p,o,e,u,r⟩ H=>⟨st.at' λo e=>H I (by simp) o e,p.at' λo e=>H a (by simp) o e,o,e,H tp (by simp) o u,r⟩
 item:=λi s Q E T ⟨st,p,o,e,u,r⟩ y=>by
  have O:c.length=d.size:=by rw[z.length_eq,ux]
  have l:i<c.length:=by omega
  have G:=List.mem_range.mp (z.mem_iff.mp (VX l));have R:=wn G;exact wC st p rfl ⟨o,e,u,r⟩  (by simp[l,rawInt]) R λM x g=>y _ M s.toks (by unfold eE;rw[sj,nA l];show some (((d[c[i]]?).map (·.2)).getD Value.none)=_;rw[R];rfl) ⟨x,p.at' λo e=>g.extBut a o C e,o,e,g.extBut tp o B u,r⟩ λb o q e=>g.extBut b o (λh=>q (by simp[h])) e
 done:=λs Q E ⟨st,p,o,e,u,r⟩ y=>by
  have O:c.length=d.size:=by rw[z.length_eq,ux]
  exact jz S st p rfl ⟨o,e,u,r⟩ (by simp[O]) λM J=>y M s.toks λb o q e=>J b o (λh=>q (by simp[h])) e
 self:=λ_ _ _ _ ⟨st,_⟩ y=>bq st y
theorem sA(g:TG t)(e:t.fits n=true)(hd:(!t.plain&&decide (n>1))=false):t.place.toList.Pairwise (·<·):=by
 cases b:t.plain with
 | true=>exact(g b).1
 | false=>
  rw[b] at hd;have h:=nH e;have i:¬n>1:=λc=>by rw[uy c] at hd;cases hd
  have d:t.place.toList.length<=1:=by rw[u0];omega
  match t.place.toList,d with
  | [],_=>exact List.Pairwise.nil
  | [x],_=>exact On _ _
theorem xk (x:A.handled=none)  (R:J4 prog w (!w.params.followText "set-order") s.heap a l) {Q:YN}
  (h:∀(I:Addr) (h':Heap) (d:Drawn) (vs:YG) (H:YE) (St:Nat->Heap->Prop),(∀b o,s.heap.get? b=some o->h'.get? b=some o)->s.heap.objs.size<=I->(∀b∈H,b=a\/s.heap.objs.size<=b)->vs.Perm (l.toList.map (·.2)) ->
   Walks prog w A I H [I] l.size (λi v=>vs[i]?=some v) St->St 0 h'->Q (.ref I) { s with heap:=h',drawn:=d }) :
  wpAny (model prog w) A (pyIter (.ref a)) Q E s:=by
 obtain⟨⟨o,q,t,c,y,hd,g,C,J⟩,M,j⟩:=id R;have G:s.TypeIs (.ref a) "set":=⟨o,c,y.1⟩
 have p:=t9 c;refine Yh G F.slot_set_iter (Ch F.slot_set_iter G L4.QL ?_ (F.args_set_iter_1 _));refine eH (hE (eH (eH (Wy c hd g (hE (eH (eH (VU c hd g (eH (L9 (hE ?_)))))))))));show wpAny _ _ (if (!w.params.followText "set-order" && (!t.plain&&decide (l.size>1)))=true then _ else _) _ _ s
 cases B:w.params.followText "set-order" with
 | true=>
  refine eH (hE (eH (Yf c hd g ?_)));refine eH (vy (hE ⟨_,rfl,"set_iterator",_,⟨_,t6 _ rfl,rfl⟩,L4.D8.lookup,h _ _ s.drawn _ _ _ (λb o e=>hD _ e) (oT _) (λb j=>?_) ((fU (w.params.setOrder a q) l).map _) (xT (t:=t) (ep:=q) x (u8 p) B) ⟨⟨_,t6 _ rfl,rfl,rfl⟩,⟨_,hD _ c,hd⟩,g⟩⟩));simp only[Os,Wp,XE] at j;rcases j with rfl | rfl
  ·exact .inr (oT _)
  ·exact .inl rfl
 | false=>
  cases z:(!t.plain&&decide (l.size>1)) with
  | false=>
   rw[tz (by simp)];refine eH (hE ?_);refine eH (Yf c hd g ?_);unfold newFields;refine eH (vy (hE ⟨_,rfl,"set_iterator",_,⟨_,t6 _ rfl,rfl⟩,L4.D8.lookup,?_⟩));refine h _ _ s.drawn _ _ _ (λb o e=>hD _ e) (oT _) (λb j=>?_) (.refl _) (pT (ep:=q) x (u8 p) B (by rw[J,B];rfl) z (sA C g z)) ⟨⟨0,⟨_,t6 _ rfl,rfl,rfl⟩,wc (sA C g z)⟩,⟨_,hD _ c,hd⟩,g⟩;simp only[Os,Wp,XE] at j;rcases j with rfl | rfl
   ·exact .inr (oT _)
   ·exact .inl rfl
  | true=>
   rw[t4 (by simp)];refine eH (vW l.size _ ux λr d u=>?_);refine eH (wpAny_newTuple ?_ (by have O:l.size<4096:=j;rw[dL,u.length_eq,ux,SC];omega));refine eH (Yf (hD _ c) hd g ?_);unfold newFields;refine eH (vy (hE ⟨_,rfl,"set_iterator",_,⟨_,t6 _ rfl,rfl⟩,L4.D8.lookup,?_⟩))
   refine h _ _ d _ _ _ (λb o e=>hD _ (hD _ e)) (by rw[KF];exact XX _) (λb j=>?_) (lN l u) (qo (tp:=s.heap.objs.size) (t:=t) (ep:=q) x (by rw[KF];exact u8 (OV p)) (by rw[KF];exact u8 (Wo _)) u)
    ⟨⟨_,t6 _ rfl,rfl,rfl⟩,⟨⟨_,hD _ (hD _ c),hd⟩,g⟩,⟨_,0,hD _ (t6 _ rfl),rfl⟩⟩
   simp only[Os,Wp,XE] at j;rcases j with rfl | rfl | rfl
   ·exact .inr (by rw[KF];exact XX _)
   ·exact .inl rfl
   ·exact .inr (oT _)
end
end PySem
namespace PySem
open PyProof.Rows
section
variable{prog:Program}{w:World}{A:Around}{E:YN}{s:Shared}{a:Addr}
theorem EB  (g:s.TypeIs (.ref a) "set") (h:Q false s):wpAny (model prog w) A (Builtin.List.listLengthHint (.ref a)) Q E s:=by
 refine eH (WH g L4.RZ ?_);generalize d:("set.__len__")=e
 wp_delta
 subst d;exact eH (WT  (b:=true) g (by kernel_rfl) (wpAny_ite_split (λc=>absurd c (by decide)) (λ_=>wpAny_ite_split (λ_=>eH (WO g (hE h))) (λc=>absurd (by decide +kernel) c))))
theorem xE  (hh:A.handled=none)  (hS:J4 prog w (!w.params.followText "set-order") s.heap a B) (S:Addr) (M:S≠a) (q:Value) (h0:s.heap.get? S=some { cls:=.type "list",data:=.seq #[] })
  (hR:∀h' tk d g C (vs:YG),vs.Perm (B.toList.map (·.2))->(∀b o,b≠S->s.heap.get? b=some o->h'.get? b=some o)->h'.get? S=some { cls:=.type "list",dict:=none,data:=.seq g C,slots:=#[] }->ItemsOf (λi v=>vs[i]?=some v) g B.size->R (.ok (.ret q)) { s with heap:=h',toks:=tk,drawn:=d }) :
  wpAny (model prog w) A.in1 (Builtin.List.listExtendWith (.ref S) (.ref a) q)
   (λY u=>match Y with | .done f=>R (.ok f) u | .again C=>C.quiet=true/\codeAny (model prog w) A C R u) (λe u=>R (.error e) u) s:=by
 obtain⟨⟨o,ep,t,ho,G,hd,hf,tg,hl⟩,a0,r⟩:=id hS;have hn:B.size<=sizeLine:=by have a1:B.size<4096:=r;rw[SC];omega
 have hT:s.TypeIs (.ref a) "set":=⟨o,ho,G.1⟩
 unfold Builtin.List.listExtendWith;refine eH (WO (T:="set") hT ?_);have h1:Builtin.List.listSameRef (.ref S) (.ref a)=false:=by simp[Builtin.List.listSameRef,M]
 have y:(Value.type "set" == Value.type "list")=false:=by decide
 have h3:(Value.type "set" == Value.type "tuple")=false:=by decide
 simp only[h1,y,h3,Bool.or_false,Ww,WW];refine eH (xk (A:=A.in1) hh hS λI h' d vs fp St keep hI U hp W st=>?_)
 have O:S∉fp:=λz=>by
  rcases U _ z with e | e
  ·exact M e
  ·exact absurd (t9 h0) (Nat.not_lt.mpr e)
 have key:∀(y:Heap) (p:Nat),St 0 y->(∀b o,b≠S->h'.get? b=some o->y.get? b=some o) ->
   y.get? S=some { cls:=.type "list",data:=.seq #[] p }->codeAny (model prog w) A (.builtin "list.extend.loop" ⟨[.ref S,.ref I,q],[]⟩) R { s with heap:=y,drawn:=d }:=by
  intro y p Q hk c;refine codeAny_extend_loopS W.toS hn S O q B.size 0 _ #[] p rfl (v9 _) Q c (ItemsOf.nil _) λu g C hm X J=>?_;rw[Moved.eq_with hm];refine hR u.heap u.toks d g C vs hp (λb o r e=>hm.heap b o (λj=>?_) (hk b o r (keep b o e))) X J;rcases List.mem_cons.mp j with e' | j
  ·exact r e'
  ·rcases List.mem_singleton.mp j with rfl
   exact absurd (t9 e) (Nat.not_lt.mpr hI)
 have c:=keep _ _ h0;refine eH (BB (EB ⟨o,keep _ _ ho,G.1⟩ (wpAny_ite_split (λ_=>eH (WI ?_)) (λ_=>hE ⟨VZ PySem.F.plain_extend_loop _,key _ _ st (λb o _ e=>e) c⟩))));refine eH ?_;show wpAny _ _ (updateSeq S (·.push .none) >>= λ_=>updateSeq S (·.pop)) _ _ _;refine eH (wpAny_updateSeq c rfl ?_);have l:=A1 (Obj.mapSeq (·.push Value.none)) c rfl;refine wpAny_updateSeq (hz:=by seq_fits) l rfl ?_;have x:=A1 (Obj.mapSeq (·.pop)) l rfl;refine hE ⟨VZ PySem.F.plain_extend_loop _,key _ _ ?_ (λb o r e=>(Uf _ _ (IN r)).trans ((Uf _ _ (IN r)).trans e)) x⟩
 ·refine W.frame 0 _ _ st λb r o e=>?_;have H:b≠S:=λh=>O (h▸r);exact(Uf _ _ (IN H)).trans ((Uf _ _ (IN H)).trans e)
theorem J4.keep(x:J4 prog w led h a d)(k:∀o,h.get? a=some o->h'.get? a=some o):J4 prog w led h' a d:=
 let ⟨⟨o,g,t,e,r⟩,b,c⟩:=x;⟨⟨o,g,t,k o e,r⟩,b,c⟩
theorem J4.lt(x:J4 prog w led h a c):a<h.objs.size:=let ⟨⟨o,_,_,b,_⟩,_,_⟩:=x;t9 b
theorem DK  (h:A.handled=none)  (j:J4 prog w (!w.params.followText "set-order") s.heap a g) (S:Addr) (e:S≠a) (p:s.heap.get? S=some { cls:=.type "list",data:=.seq #[] })
  (l:∀h' tk d c q (vs:YG),vs.Perm (g.toList.map (·.2))->(∀b o,b≠S->s.heap.get? b=some o->h'.get? b=some o)->h'.get? S=some { cls:=.type "list",dict:=none,data:=.seq c q,slots:=#[] }->ItemsOf (λi v=>vs[i]?=some v) c g.size->R (.ok (.ret (.ref S))) { s with heap:=h',toks:=tk,drawn:=d }) :
  codeAny (model prog w) A (.builtin "list.__iadd__" ⟨[.ref S,.ref a],[]⟩) R s:=by
 refine Op F.entry_list_iadd ?_;exact xE h j S e (.ref S) p l
theorem sT (y:A.handled=none)  (v:J4 prog w (!w.params.followText "set-order") s.heap a j) {Q:YG->Shared->Prop}
  (h:∀(vs:YG) (h':Heap) (tk:Nat) (d:Drawn),vs.Perm (j.toList.map (·.2))->s.heap.objs.size<h'.objs.size->(∀b o,s.heap.get? b=some o->h'.get? b=some o)->Q vs { s with heap:=h',toks:=tk,drawn:=d }) :
  wpAny (model prog w) A (collect (.ref a)) Q E s:=by
 refine eH (XB (Op F.entry_proto_collect ?_));refine eH (vy (hE ⟨VZ F.plain_list_iadd _,DK  y (v.keep λo e=>hD _ e) s.heap.objs.size (WB v.lt) (t6 _ rfl) λh' tk d g c vs p keep r u=>?_⟩));refine eH (wpAny_load r ?_);have x:vs.length=j.size:=by rw[p.length_eq,dL,u0]
 have z:g.toList=vs:=by
  refine XH λi=>?_;rw[T0]
  by_cases q:i<g.size
  ·exact(wn q).trans (u.2 i _ (wn q)).symm
  ·rw[WG (XR q),TW (by rw[x,<-u.1];exact XR q)]
 refine hE ?_;rw[z];exact h vs h' tk d p (t9 r) λb o e=>keep b o (u8 (t9 e)) (hD _ e)
theorem wm (G:A.handled=none)   (J:J4 prog w (!w.params.followText "set-order") s.heap a y) (O:L2.EI y p) (r:p.length<64) {Q:YN}
  (M:∀(l:Addr) (h':Heap) (tk:Nat) (d:Drawn) (out:YK) (c:YI) (e:Nat),s.heap.objs.size<=l->(∀b o,s.heap.get? b=some o->h'.get? b=some o)->h'.get? l=some (seqObj "list" out e)->IntsAre out.toList c->c.Perm p->c.Pairwise (·<=·) ->
   Q (.ref l) { s with heap:=h',toks:=tk,drawn:=d }) :
  wpAny (model prog w) A (call (.builtin "sorted") [.ref a]) Q E s:=by
 refine Calls.call_function_entry kind_sorted plain_sorted entry_sorted (args_sorted1 _) (eH  (hE (eH (sT (A:=A.in1) G J λvs h' tk d C q keep=>?_))));obtain⟨z,B,v⟩:=O;obtain⟨ns,x,u⟩:=L2.mH C B;have i:vs.length<64:=by rwa[L2.jP x,u.length_eq,v.length_eq]
 refine eH (wpAny_newList ?_ (by rw[SC];omega));have g:(h'.push (seqObj "list" vs.toArray 0)).get? h'.objs.size=some (seqObj "list" vs.toArray 0):=t6 _ rfl;refine eH (BB (Ch slot_list_sort ⟨_,g,rfl⟩ entry_list_sort (list_sort_tree g x i λout c T S R=>⟨_,rfl,?_⟩) (args_list_sort _)));obtain⟨e,H⟩:=sortedHeap_at  g;refine hE ⟨_,rfl,M _ _ tk d out c e (IR q) (λb o I=>?_) H T (S.trans (u.trans v)) R⟩
 ·have j:=keep b o I;have h:=t9 j;rw[sortedHeap_old (u8 h) (by rw[size_push'];exact OV h)];exact hD _ j
end
end PySem
namespace L2
open PySem PySem.Spec PyProof.Rows
abbrev Y1(w:World):Bool:=!w.params.followText "set-order"
section
variable{prog:Program}{w:World}{A:Around}{E:YN}{s:Shared}
theorem AH{b a:YE}{St:Nat->Heap->Prop}(e:n=m)(W:Walks prog w A I b a n P St):Walks prog w A I b a m P St:=by rwa[<-e]
theorem DL(a:Value){Q1:YN}
  (h:Q1 (.ref s.heap.objs.size) { s with heap:=s.heap.push { cls:=.type "set",dict:=none,data:=.set #[] 0 (.fresh 0 0 (Y1 w)) } }) :
  codeAny (model prog w) A (.call (.builtin "set.__new__") ⟨[.type "set",a],[]⟩) (wants Q1 E) s:=by
 refine Xz (eH (VV (F.newCall_set_1 a) (hE ⟨VZ F.plain_set_new _,Op F.entry_set_new ?_⟩)));unfold Builtin.«set.__new__» Builtin.Frozenset.newClass;have b:=sub_set_self;obtain⟨c,g,d,tk,os⟩:=s;dsimp only
 wp_walk
 refine Xs (hE ?_);dsimp only;simp only[newObj];exact eH (wpAny_alloc (hE (hE h)))
end
section
variable{X:Cx}
def DD(X:Cx)(d:Addr)(b:YI)(h:Heap):Prop:=∃a,J4 X.prog X.w (Y1 X.w) h d a/\EI a b
def Rn(K:YQ)(X:Cx):List V->Hp->VK->Prop:=λa H Q=>∃(p:Addr) (ns:YI),a=[.ref p]/\G3 K H p (ns.map V.int)/\ns.length+1<scanBound/\∀d,H d=none->Q (.ref d) (upd H d (.ext (DD X d (ns.foldl U8 []))))
theorem AS(hc:X.calm=true):J1 X (.type "set") (Rn X.K X):=by
 intro E s σ H xs us Q I r h;obtain⟨p,ns,rfl,hp,hl,q⟩:=h;obtain⟨u,rfl,ru⟩:=vals1 r;cases(show u=Value.ref p from ru);refine qZ (Q1:=λx s1=>x=.ref s.heap.objs.size/\s1={ s with heap:=s.heap.push { cls:=.type "set",dict:=none,data:=.set #[] 0 (.fresh 0 0 (Y1 X.w)) } }) F.called_set (F.typeCall_set_1 _) F.entry_set_init (DL _ ⟨rfl,rfl⟩) ?_;rintro x s1 ⟨rfl,rfl⟩;have hn:=I.hok.fresh (oT s.heap.objs.size);have hS:(s.heap.push { cls:=.type "set",dict:=none,data:=.set #[] 0 (.fresh 0 0 (Y1 X.w)) }).get? s.heap.objs.size=some { cls:=.type "set",dict:=none,data:=.set #[] 0 (.fresh 0 0 (Y1 X.w)) }:=t6 _ rfl;have hT:Shared.TypeIs { s with heap:=s.heap.push { cls:=.type "set",dict:=none,data:=.set #[] 0 (.fresh 0 0 (Y1 X.w)) } } (.ref s.heap.objs.size) "set":=⟨_,hS,rfl⟩
 refine⟨hT,λhq=>check_set_init_1 hT hq,?_⟩
 have a1:∀(d:Heap) (tk:Nat) (j:Array (Int×Value)),(∀b o,b<s.heap.objs.size->s.heap.get? b=some o->d.get? b=some o)->J4 X.prog X.w (Y1 X.w) d s.heap.objs.size j->EI j (ns.foldl U8 []) ->
   EP X E σ Q (.ref s.heap.objs.size) { s with heap:=d,toks:=tk }:=λd tk j kp y l=>
  ⟨.ref s.heap.objs.size,_,I.laid (a:=s.heap.objs.size) (o:=.ext (DD X s.heap.objs.size (ns.foldl U8 []))) (h':=d) (t':=tk) (λb o e=>kp b o (t9 e) e) (oT _)
   ⟨⟨j,y,l⟩,let ⟨⟨o,_,_,ho,_⟩,_,_⟩:=y;⟨o,ho⟩,λh1 B ⟨j,y,l⟩ k=>⟨j,y.keep k,l⟩⟩,rfl,q _ hn⟩
 have hh:=I.ok.hd hc
 have start:∀{B:Heap},B.get? s.heap.objs.size=some { cls:=.type "set",dict:=none,data:=.set #[] 0 (.fresh 0 0 (Y1 X.w)) }->J4 X.prog X.w (Y1 X.w) B s.heap.objs.size #[]:=λg=>
  ⟨⟨_,0,_,g,⟨rfl,rfl,rfl⟩,rfl,by rfl,TG.fresh _ _ _,rfl⟩,λe l=>by simp at l,by decide⟩
 obtain⟨c,rv,pl,hz⟩:=I.list hp;have J:c.length=ns.length:=by rw[<-rv.length,dL]
 obtain⟨ob,U,S,R,O,M⟩:=pl;obtain⟨oc,od,a2,T⟩:=ob;simp only at R O M;subst R O M;have C:p<s.heap.objs.size:=t9 S
 have np:s.heap.objs.size∉[(s.heap.push { cls:=.type "set",dict:=none,data:=.set #[] 0 (.fresh 0 0 (Y1 X.w)) }).objs.size,p]:=by
  rw[KF];intro z;rcases List.mem_cons.mp z with z | z
  ·exact absurd z (u8 (Wo _))
  ·exact absurd (List.mem_singleton.mp z) (WB C)
 have nI:p≠(s.heap.push { cls:=.type "set",dict:=none,data:=.set #[] 0 (.fresh 0 0 (Y1 X.w)) }).objs.size:=by
  rw[KF];exact u8 (OV C)
 have Y:∀{B d:Heap},(∀b o,s.heap.get? b=some o->B.get? b=some o)->(∀b o,b∉[s.heap.objs.size,(s.heap.push { cls:=.type "set",dict:=none,data:=.set #[] 0 (.fresh 0 0 (Y1 X.w)) }).objs.size]->B.get? b=some o->d.get? b=some o)->∀b o,b<s.heap.objs.size->s.heap.get? b=some o->d.get? b=some o:=λk1 k2 b o hb e=>k2 b o (λz=>by
  rw[KF] at z;rcases List.mem_cons.mp z with z | z
  ·exact absurd z (u8 hb)
  ·exact absurd (List.mem_singleton.mp z) (u8 (OV hb))) (k1 b o e)
 have G:(s.heap.push { cls:=.type "set",dict:=none,data:=.set #[] 0 (.fresh 0 0 (Y1 X.w)) }).get? p=some { cls:=.type "list",dict:=none,data:=.seq c.toArray U,slots:=T }:=hD _ S;have f1:=F.sub_list_set;have f2:=F.sub_list_frozenset;have f3:(Value.type "list" == Value.type "dict")=false:=by decide
 unfold Builtin.«set.__init__» noKeywords Builtin.Frozenset.updateFrom;generalize a0:pyIter=PI
 wp_walk
 subst a0;refine WQ (items:=c.toArray) ⟨_,G,rfl,U,rfl⟩ (eH (XB ?_));have ez:c.toArray.size=ns.length:=by rw[t7];exact J
 refine Bh (AH ez (Walks.list (by simp[hh]) _ p nI c.toArray)) s.heap.objs.size np (λi v hv=>?_) hl ns.length 0 _ (by omega) (v9 _) ⟨⟨_,t6 _ rfl,rfl,rfl⟩,⟨_,hD _ G,rfl,U,rfl⟩⟩ ⟨#[],start (hD _ hS),⟨[],.nil,.refl _⟩⟩ λd tk j kp y l=>?_
 ·have h1:c[i]?=some v:=by simpa using hv
  have hi:=(List.getElem?_eq_some_iff.mp h1).1;obtain⟨u,hu,t,ht⟩:=rv.get (i:=i) (x:=.int (ns.getD i 0)) (by rw[sj,ue,nA (by omega)];rfl);rw[h1] at hu;cases hu;exact⟨t,ht⟩
 ·exact hE (hE ⟨rfl,a1 d tk j (Y (λb o e=>hD _ (hD _ e)) kp) y l⟩)
theorem Inv.NM{σ:St}(I:Inv X pins σ H s)(d:Drawn):Inv X pins σ H { s with drawn:=d }:=
 ⟨I.ok,I.os,I.bare,I.base,I.loc,I.cell,I.free,I.freeC,I.pin,I.hok,I.len⟩
def PJ(X:Cx):List V->Hp->VK->Prop:=λc H Q=>∃(d:Addr) (b:YI),c=[.ref d]/\H d=some (.ext (DD X d b))/\b.length<64/\∀(a:YI) l,a.Perm b->a.Pairwise (·<=·)->H l=none->Q (.ref l) (upd H l (.lst (a.map V.int)))
theorem yo(C:X.calm=true):J1 X (.builtin "sorted") (PJ X):=by
 intro j s O H R S Q I r h;obtain⟨d,y,rfl,hd,i,q⟩:=h;obtain⟨u,rfl,x⟩:=vals1 r;cases(x);obtain⟨⟨T,E,G⟩,_⟩:=(I.hok d _ hd)
 refine wm (I.ok.hd C) E G i λl J tk dr c b e v keep g B p z=>?_
 have M:=(I.laid (t':=tk)  (o:=.lst (b.map V.int))  keep v
  ⟨by rw[dL,p.length_eq,SC];omega,c.toList,e,pY B,by rwa[]⟩).NM dr
 exact⟨.ref l,_,M,rfl,q b l p z (I.hok.fresh v)⟩
end
end L2
namespace L3
open PySem PySem.Spec PySem.Calls PyProof.Rows PySem.W L2
section
variable{X:Cx}{cl:List Cl}{e:Expr}{us:df}{x y:Str}{p1 p2 pos pos2:Pos}
def si:List D->(D->Prop)->Prop:=λb Q=>∃(d:D) (ns:YI),b=[d]/\kindB false d=some (ns.map D.int)/\ns.length<64/\∀a:YI,a.Pairwise (·<·)->(∀n,n∈a ↔ n∈ns)->Q (.lst (a.map D.int))
theorem rW{l:YI}(h:l.Pairwise (·<=·))(n:l.Nodup):l.Pairwise (·<·):=by
 refine(h.and n).imp λ⟨a,b⟩=>?_;omega
theorem vG (hc:X.calm=true) (T:Gl X x) (J:X.mg x=none) (u:bootBuiltins x=some (.builtin "sorted")) (S:Gl X y) (I:X.mg y=none) (o:bootBuiltins y=some (.type "set")) (ha:Fv X cl [e] us)
  (hn:x ≠ "__name__":=by decide) (hd:(x == ("__debug__" : Str))=false:=by decide) (C:y ≠ "__name__":=by decide) (Y:(y == ("__debug__" : Str))=false:=by decide)
  (U:starEach [e] X.env=(false,eval e X.env)::starEach [] X.env:=by rfl) (g:(backTo pos2 (starEach [] X.env)).any (·.1)=false:=by rfl) (z:(backTo pos (starEach [] X.env)).any (·.1)=false:=by rfl) :
  PU X cl (.Call (.Name x p1) [.Call (.Name y p2) [e] [] pos2] [] pos) .fresh (bt si us):=.of<|by
 obtain⟨t,p,h⟩:=ha.run;refine⟨_,iJ (yo hc) T J u (yQ (fM (AS hc) S I o p C Y U g) L8 rfl) hn hd rfl z,λG ρ σ H fa Q R hG E hu k=>h G ρ σ H fa _ _ hG E hu λvs H1 ds A s r n3 q=>?_⟩;obtain⟨d,ns,rfl,ek,a0,q⟩:=q;obtain⟨v,rfl,rr⟩:=r.one;obtain⟨pp,ts,B,rfl,hq,r2,_⟩:=ah rr ek;cases N8 r2;refine⟨pp,ns,rfl,hq,by have:scanBound=4096:=rfl;omega,λj i=>?_⟩;have fl:=qR ns [];have fn:=Ij ns [] t5;refine⟨j,ns.foldl U8 [],rfl,c8,by have:([]:YI).length=0:=rfl;omega,λb l hp hs O=>?_⟩;have s2:e9 H1 (upd (upd H1 j (.ext (DD X j (ns.foldl U8 [])))) l (.lst (b.map V.int))):=(e9.i3 i).trans (e9.i3 O)
 have M:H1 l=none:=by
  by_cases c:l=j
  ·rwa[c]
  ·rwa[i4 c] at O
 refine k _ _ (.lst (b.map D.int)) [l] (s.trans s2) (.lst c8 (jy b)) ⟨by simp,λa ha=>?_⟩ (q b (rW hs (hp.nodup_iff.mpr fn.1)) λn=>by rw[hp.mem_iff,fn.2];simp);rw[List.mem_singleton.mp ha];exact s.free M
end
end L3
namespace L2
open PySem PySem.Spec PyProof.Rows
section
variable(elt t1 i1 t2 i2:Expr)(ifs1 ifs2:YH)(scope:Scope)(pos:Pos)
abbrev two:Expr:=.ListComp elt [⟨t1,i1,ifs1,0⟩,⟨t2,i2,ifs2,0⟩] scope pos
theorem FP(it acc:Value)(env:Env):compTurn (two elt t1 i1 t2 i2 ifs1 ifs2 scope pos) 0 it acc env=(do
  standAt i1.pos
  match <-pyNext it with
  | none=>pure (.done .next)
  | some v=>
   letOwnedTupleGo t1 it v
   assign t1 env v
   let mut ok:=true
   for c in ifs1 do
    if ok then ok <-isTrue c env (eval c env)
   if ok then
    let x <-eval i2 env
    standAt i2.pos
    let x <-foldedSetIterable i2 env x
    let _ <-runOwn (.compStart (two elt t1 i1 t2 i2 ifs1 ifs2 scope pos) 1 (<-holding [x] (pyIter x)) acc env) env
   again (.compLoop (two elt t1 i1 t2 i2 ifs1 ifs2 scope pos) 0 it acc env)):=by rfl
theorem Jd(it acc:Value)(env:Env):compTurn (two elt t1 i1 t2 i2 ifs1 ifs2 scope pos) 1 it acc env=(do
  standAt i2.pos
  match <-pyNext it with
  | none=>pure (.done .next)
  | some v=>
   letOwnedTupleGo t2 it v
   assign t2 env v
   let mut ok:=true
   for c in ifs2 do
    if ok then ok <-isTrue c env (eval c env)
   if ok then
    (do let _ <-call (.builtin "list.append") [acc,<-eval elt env])
   again (.compLoop (two elt t1 i1 t2 i2 ifs1 ifs2 scope pos) 1 it acc env)):=by rfl
end
section
variable{prog:Program}{w:World}{A:Around}{R:Result->Shared->Prop}{s:Shared}{elt t1 i1 t2 i2:Expr}{ifs1 ifs2:YH}{scope:Scope}{pos:Pos}{it acc:Value}{env:Env}
abbrev Vi(a:YH)(env:Env):Sem Bool:=forIn a true λc r=>if r=true then do let ok <-isTrue c env (eval c env);pure (ForInStep.yield ok) else pure (ForInStep.yield r)
theorem Cs(I:Nat->Shared->Prop)(y:∀x,foldedSetIterable i2 env x=pure x)
  (b:∀n s,I n s->wpAny (model prog w) A (pyNext it) (λr d=>match r with
   | none=>R (.ok .next) d
   | some v=>wpAny (model prog w) A (letOwnedTupleGo t1 it v) (λ_ p=>wpAny (model prog w) A (assign t1 env v) (λ_ o=>
     wpAny (model prog w) A (Vi ifs1 env) (λok c=>
      if ok=true then wpAny (model prog w) A (eval i2 env) (λx l=>wpAny (model prog w) A (pyIter x) (λj i=>
       codeAny (model prog w) A (.compStart (two elt t1 i1 t2 i2 ifs1 ifs2 scope pos) 1 j acc env) (λr g=>r=.ok .next/\∃m,m<n/\I m g) i) (λ_ _=>False) l) (λ_ _=>False) c
      else ∃m,m<n/\I m c) (λ_ _=>False) o) (λ_ _=>False) p) (λ_ _=>False) d) (λ_ _=>False) s)
  (n:Nat) (h:I n s) :
  codeAny (model prog w) A (.compLoop (two elt t1 i1 t2 i2 ifs1 ifs2 scope pos) 0 it acc env) R s:=by
 refine Yk rfl I (λn s z=>wpAny_noted (eH (PP (eH (wE (b n s z) (λr d u=>?_) λ_ _ a=>a.elim))))) n h
 cases r with
 | none=>exact hE u
 | some v=>
  refine eH (wE u (λ_ p G=>eH (wE G (λ_ o E=>eH (wE E (λok c q=>?_) λ_ _ a=>a.elim)) λ_ _ a=>a.elim)) λ_ _ a=>a.elim)
  cases ok with
  | false=>exact hE ⟨rfl,q⟩
  | true=>
   refine eH (wE q (λx l C=>eH (PP ?_)) λ_ _ a=>a.elim);rw[y];refine eH (hE (eH (BB (wE C (λj i B=>eH (wpAny_runOwn (Xa B λr g e=>?_))) λ_ _ a=>a.elim))));obtain⟨rfl,e⟩:=e;exact hE ⟨rfl,e⟩
theorem Jv(I:Nat->Shared->Prop)
  (b:∀n s,I n s->wpAny (model prog w) A (pyNext it) (λr d=>match r with
   | none=>R (.ok .next) d
   | some v=>wpAny (model prog w) A (letOwnedTupleGo t2 it v) (λ_ j=>wpAny (model prog w) A (assign t2 env v) (λ_ i=>
     wpAny (model prog w) A (Vi ifs2 env) (λok c=>
      if ok=true then wpAny (model prog w) A (eval elt env) (λx g=>
       wpAny (model prog w) A (call (.builtin "list.append") [acc,x]) (λ_ e=>∃m,m<n/\I m e) (λ_ _=>False) g) (λ_ _=>False) c
      else ∃m,m<n/\I m c) (λ_ _=>False) i) (λ_ _=>False) j) (λ_ _=>False) d) (λ_ _=>False) s)
  (n:Nat) (h:I n s) :
  codeAny (model prog w) A (.compLoop (two elt t1 i1 t2 i2 ifs1 ifs2 scope pos) 1 it acc env) R s:=by
 refine Yk rfl I (λn s p=>wpAny_noted (eH (PP (eH (wE (b n s p) (λr d o=>?_) λ_ _ a=>a.elim))))) n h
 cases r with
 | none=>exact hE o
 | some v=>
  refine eH (wE o (λ_ j z=>eH (wE z (λ_ i y=>eH (wE y (λok c l=>?_) λ_ _ a=>a.elim)) λ_ _ a=>a.elim)) λ_ _ a=>a.elim)
  cases ok with
  | false=>exact hE ⟨rfl,l⟩
  | true=>
   exact eH (eH (wE l (λx g u=>eH (wE u (λ_ e q=>hE (hE ⟨rfl,q⟩)) λ_ _ a=>a.elim)) λ_ _ a=>a.elim))
theorem Dj(b:codeAny (model prog w) A (.compLoop (two elt t1 i1 t2 i2 ifs1 ifs2 scope pos) 1 j acc env) R s)
  (h:wpAny (model prog w) A (pyIter j) (λc a=>codeAny (model prog w) A (.compLoop (two elt t1 i1 t2 i2 ifs1 ifs2 scope pos) 1 c acc env) R a) (notedBy (model prog w) A env λx a=>R (.error x) a) s) :
  codeAny (model prog w) A (.compStart (two elt t1 i1 t2 i2 ifs1 ifs2 scope pos) 1 j acc env) R s:=by
 refine Xz (wpAny_notedAt (eH (Xs (wpAny_ite ?_))));split
 ·first
   | exact eH (hE (hE (And.intro rfl b)))
   | exact hE (And.intro rfl b)
 ·exact eH (WI (eH (PP (eH (wE h (λd a e=>hE (And.intro rfl e)) λ_ _ x=>x)))))
end
def Vo(J:It)(g:TG)(tc:TT)(te:TE)(d:Addr)(h:St)(r:Hp)(Fin:Hp->Prop):Prop:=
 ∃W:Nat->Nat->St->Hp->Prop,(∃m,W 0 m h r)/\∀i m j H,W i m j H ->
  (J.stop i H/\Fin H) \/
  (J.go i H/\∀x p,J.yld i H x p->g x j p λa q=>tc a q λb o=>
   if b=true then te a o λv l=>∃c,l d=some (.lst c)/\c.length<sizeLine/\∃e,e<m/\W (i+1) e a (upd l d (.lst (c++[v])))
   else ∃e,e<m/\W (i+1) e a o)
section
variable{X:Cx}{N:YF}{scope:Scope}{cl:YC}{fp0:YE}{s0:Shared}{H0:Hp}{elt t1 i1 t2 i2:Expr}{ifs1 ifs2:YH}{pos:Pos}
theorem AG{σ:St}{Fin:Hp->Prop}(l:X.calm=true)
  (hg:PG (A6 X N scope cl fp0 s0 H0) t2 g) (hc:xC (A6 X N scope cl fp0 s0 H0) ifs2 tc) (he:PE (A6 X N scope cl fp0 s0 H0) elt te)
  (I:Inv (A6 X N scope cl fp0 s0 H0) pins σ H s) (T:Turn X.prog X.w X.K t2 J B it tn) (st:tn 0 s.heap) (hf:∀b∈B,N0 (A6 X N scope cl fp0 s0 H0) pins H b) (q:Vo J g tc te d σ H Fin)
  (hR:∀a c S,Inv (A6 X N scope cl fp0 s0 H0) pins a c S->Fin c->R (.ok .next) S) :
  codeAny (model X.prog X.w) X.A (.compStart (two elt t1 i1 t2 i2 ifs1 ifs2 scope pos) 1 (.ref it) (.ref d) (A6 X N scope cl fp0 s0 H0).env) R s:=by
 obtain⟨W,⟨m0,w0⟩,O⟩:=q;have a4:=λb p=>(hf b p).1;have j:∀{c:Hp},(∀b∈B,c b=none)->∀b∈B,N0 (A6 X N scope cl fp0 s0 H0) pins c b:=λhn b p=>⟨hn b p,(hf b p).2⟩
 have z:codeAny (model X.prog X.w) X.A (.compLoop (two elt t1 i1 t2 i2 ifs1 ifs2 scope pos) 1 (.ref it) (.ref d) (A6 X N scope cl fp0 s0 H0).env) R s:=by
  refine Jv (λn S=>∃i a c,Inv (A6 X N scope cl fp0 s0 H0) pins a c S/\tn i S.heap/\(∀b∈B,c b=none)/\W i n a c) ?_ m0 ⟨0,σ,H,I,st,a4,w0⟩;rintro n s4 ⟨i,a2,H4,I4,Q,a0,w4⟩;rcases O i n a2 H4 w4 with⟨stop,qn⟩ | ⟨go,step⟩
  ·refine x4 (T.done (A6 X N scope cl fp0 s0 H0) rfl rfl rfl l i pins s4 _ H4 (λ_ _=>False) I4 (j a0) Q stop) λr s5 ⟨hr,I5⟩=>?_;subst hr;exact hR _ _ _ I5 qn
  ·refine x4 (T.item (A6 X N scope cl fp0 s0 H0) rfl rfl rfl l i pins s4 _ H4 (λ_ _=>False) I4 (j a0) Q go) λr s5 ⟨u,hr,h5⟩=>?_;subst hr;refine x4 h5 λ_ s6 ⟨x,H6,I6,r6,y6,C,a3⟩=>?_;have ab:=I6.pinned (j a3) (T.obj _ _ C);refine x4 (hg _ s6 _ H6 x u _ ab r6 (step x H6 y6)) λ_ s7 ⟨h,H7,I7,q7⟩=>x4 (hc _ s7 h H7 _ I7 q7) λok s8 ⟨H8,I8,q8⟩=>?_
   have again:∀{E:Hp} {G:Shared},Inv (A6 X N scope cl fp0 s0 H0) (pins++aR B s6.heap) h E G->(∃M,M<n/\W (i+1) M h E) ->
     ∃m,m<n/\∃i a c,Inv (A6 X N scope cl fp0 s0 H0) pins a c G/\tn i G.heap/\(∀b∈B,c b=none)/\W i m a c:=λ{E G} I9 ⟨M,hm,w9⟩=>by
    refine⟨M,hm,i+1,h,E,I9.S5,T.keep _ _ _ C λb p o e=>(I9.pin (b,o) (sw _ (sw _ (C3 p e)))).1,λb p=>?_,w9⟩;obtain⟨o,e,_⟩:=T.obj _ _ C b p;exact(I9.pin (b,o) (sw _ (sw _ (C3 p e)))).2.1
   cases ok with
   | false=>exact again I8 q8
   | true=>
    refine x4 (he _ s8 h H8 _ I8 q8) λy G ⟨v,E,I9,r9,a1,Y,U,M,hm,w9⟩=>x4 (A5 _ G h E (.ref d) [v] (.ref d) [y] (λ_ c=>c=upd E d (.lst (a1++[v]))) I9 rfl (.cons r9 .nil) ⟨_,a1,v,rfl,rfl,Y,U,rfl⟩) λ_ ad ⟨_,al,ac,_,a5⟩=>?_;subst a5;exact again ac ⟨M,hm,w9⟩
 exact Dj z (T.self _ 0 _ _ _ st z)
end
def OK(J:It)(g:TG)(tc:TT)(o:TI)(g2:TG)(tc2:TT)(te:TE)(e:St)(Q:VK)(j:Hp):Prop:=∀d,j d=none ->
 ∃W:Nat->Nat->Hp->Prop,(∃m,W 0 m (upd j d (.lst [])))/\∀i m H,W i m H ->
  (J.stop i H/\Q (.ref d) H) \/
  (J.go i H/\∀x l,J.yld i H x l->g x e l λa u=>tc a u λb h=>
   if b=true then o a h λp r=>Vo p g2 tc2 te d a r λq=>∃c,c<m/\W (i+1) c q
   else ∃c,c<m/\W (i+1) c h)
theorem Bx{σ:St}{g:YC->YE->Shared->Hp->TG}{tc:YC->YE->Shared->Hp->TT}{wi2:YC->YE->Shared->Hp->TI}{g2:YC->YE->Shared->Hp->TG}{tc2:YC->YE->Shared->Hp->TT}{te:YC->YE->Shared->Hp->TE}{J:It}{it:Addr}{tn:Nat->Heap->Prop}
  {E:YN} {RR:Value->Addr->Result->Shared->Prop} {Q:VK} (M:X.calm=true) (cf:M7 X N scope cap) (hk:scope.kind=.function)
  (hg:∀cl a s H,PG (A6 X N scope cl a s H) l (g cl a s H)) (hc:∀cl a s H,xC (A6 X N scope cl a s H) a5 (tc cl a s H)) (b7:∀cl a s H,PI (A6 X N scope cl a s H) t2 i2 (wi2 cl a s H)) (b8:∀cl a s H,PG (A6 X N scope cl a s H) t2 (g2 cl a s H)) (bg:∀cl a s H,xC (A6 X N scope cl a s H) S (tc2 cl a s H)) (he:∀cl a s H,PE (A6 X N scope cl a s H) al (te cl a s H))
  (b5:∀cl a s H x,foldedSetIterable i2 (A6 X N scope cl a s H).env x=pure x)
  (I:Inv X pins σ H s) (T:Turn X.prog X.w X.K l J a it tn) (st:tn 0 s.heap) (hf:∀b∈a,N0 X pins H b) (q:∀cl a s z,OK J (g cl a s z) (tc cl a s z) (wi2 cl a s z) (g2 cl a s z) (tc2 cl a s z) (te cl a s z) (K9 cap σ) Q H)
  (bi:∀d C z s' m,Inv X pins σ z s'->s'.heap.Ns C m->N0 X pins z C->Q (.ref d) z->RR (.ref d) C (.ok .next) s') :
  wpAny (model X.prog X.w) X.A (newList []) (λacc B=>wpAny (model X.prog X.w) X.A (newFunctionEnv scope X.env.globals (A7 X.env scope.names []) [] X.env.qual none .none (some X.env)) (λa3 s4=>
   codeAny (model X.prog X.w) X.A (.compStart (two al l a2 t2 i2 a5 S scope b0) 0 (.ref it) acc { a3 with scope:=relabel scope X.env }) (RR acc a3.locals) s4) E B) E s:=by
 refine vy (XC cf.nocell (by intro y hy;simp at hy) (λh1 ac ab=>?_) hk);have I3:Inv X pins σ (upd H s.heap.objs.size (.lst [])) { s with heap:=s.heap.push { cls:=.type "list",data:=.seq ([]:YG).toArray } }:=I.Hi (its:=[]) (t':=s.toks) .nil (v9 _);have b9:H s.heap.objs.size=none:=I.fresh;obtain⟨W,⟨m0,w0⟩,a0⟩:=q (A7 X.env scope.names []) a { s with heap:=s.heap.push { cls:=.type "list",data:=.seq ([]:YG).toArray } } (upd H s.heap.objs.size (.lst [])) s.heap.objs.size b9
 have b1:∀b∈a,b<s.heap.objs.size:=λb j=>by
  obtain⟨o,e,_⟩:=T.obj 0 _ st b j;exact t9 e
 have ad:∀b∈a,N0 X pins (upd H s.heap.objs.size (.lst [])) b:=λb j=>⟨by rw[i4 (u8 (b1 b j))];exact(hf b j).1,(hf b j).2⟩
 have U:∀b∈a,b<(s.heap.push { cls:=.type "list",data:=.seq ([]:YG).toArray }).objs.size:=λb j=>by
  rw[KF];exact OV (b1 b j)
 dsimp only at ac ab ⊢;generalize Y:({ s with heap:=s.heap.push { cls:=.type "list",data:=.seq ([]:YG).toArray } }:Shared)=B at I3 a0;have G:B.heap=s.heap.push { cls:=.type "list",data:=.seq ([]:YG).toArray }:=by rw[<-Y]
 have ca:B.toks=s.toks:=by rw[<-Y]
 rw[<-G] at ac ab U;have R:∀b o,B.heap.get? b=some o->h1.get? b=some o:=λb o e=>ab.extBut b o (u8 (t9 e)) (hD _ e);have keep:∀b o,s.heap.get? b=some o->h1.get? b=some o:=λb o e=>R b o (by rw[G];exact hD _ e);have Ic:=jD (tk:=s.toks) I3 cf hk ad U ac R;have ap:tn 0 h1:=T.keep 0 _ _ st λb _ o e=>keep b o e;have bv:∀b∈a,(upd H s.heap.objs.size (.lst [])) b=none:=λb j=>(ad b j).1
 have O:∀{z:Hp},(∀b∈a,z b=none)->∀b∈a,N0 (A6 X N scope (A7 X.env scope.names []) a B (upd H s.heap.objs.size (.lst []))) [] z b:=λhn b j=>
  ⟨hn b j,u8 (U b j),Ic.ok.exfs b j,.inl j,λx c h=>(hf b j).2.2.2.2.1 x c (Z8 h),λp hp=>absurd (show p∈([]:YA) from hp) (by simp)⟩
 have cj:B.os=s.os:=by rw[<-Y]
 have ck:B.gens=s.gens:=by rw[<-Y]
 have a1:codeAny (model X.prog X.w) X.A (.compLoop (two al l a2 t2 i2 a5 S scope b0) 0 (.ref it) (.ref s.heap.objs.size) (compEnvC scope (A7 X.env scope.names []) B.heap.objs.size X.env))
   (RR (.ref s.heap.objs.size) B.heap.objs.size) { B with heap:=h1,toks:=s.toks }:=by
  refine Cs (λn s'=>∃i z,Inv (A6 X N scope (A7 X.env scope.names []) a B (upd H s.heap.objs.size (.lst []))) [] (K9 cap σ) z s'/\tn i s'.heap/\(∀b∈a,z b=none)/\W i n z) (λx=>b5 (A7 X.env scope.names []) a B (upd H s.heap.objs.size (.lst [])) x) ?_ m0 ⟨0,_,Ic,ap,bv,w0⟩;rintro n s4 ⟨i,H4,I4,ao,b2,w4⟩;rcases a0 i n H4 w4 with⟨stop,qn⟩ | ⟨go,step⟩
  ·refine x4 (T.done (A6 X N scope (A7 X.env scope.names []) a B (upd H s.heap.objs.size (.lst []))) rfl rfl rfl M i [] s4 _ H4 (λ_ _=>False) I4 (O b2) ao stop) λr s5 ⟨hr,I5⟩=>?_;subst hr;obtain⟨m,b6,_⟩:=I5.loc;refine bi _ _ H4 s5 m ?_ b6 (I3.eW (oT _) I5.free) qn;exact I3.GG I5.os I5.base I5.hok I5.bare λb j=>⟨(hf b j).2.2.2.1,(hf b j).2.1,(hf b j).2.2.2.2.1,(hf b j).2.2.2.2.2⟩
  ·refine x4 (T.item (A6 X N scope (A7 X.env scope.names []) a B (upd H s.heap.objs.size (.lst []))) rfl rfl rfl M i [] s4 _ H4 (λ_ _=>False) I4 (O b2) ao go) λr s5 ⟨u,hr,h5⟩=>?_;subst hr;refine x4 h5 λ_ s6 ⟨x,H6,I6,r6,y6,a4,bn⟩=>?_;have c3:=I6.pinned (O bn) (T.obj _ _ a4);refine x4 (hg _ _ _ _ _ s6 _ H6 x u _ c3 r6 (step x H6 y6)) λ_ s7 ⟨an,H7,I7,q7⟩=>?_;refine x4 (hc _ _ _ _ _ s7 an H7 _ I7 q7) λok s8 ⟨H8,I8,q8⟩=>?_
   have again:∀{am:St} {H9:Hp} {s9:Shared},Inv (A6 X N scope (A7 X.env scope.names []) a B (upd H s.heap.objs.size (.lst []))) ([]++aR a s6.heap) am H9 s9->(∃m',m'<n/\W (i+1) m' H9) ->
     ∃m,m<n/\∃i z,Inv (A6 X N scope (A7 X.env scope.names []) a B (upd H s.heap.objs.size (.lst []))) [] (K9 cap σ) z s9/\tn i s9.heap/\(∀b∈a,z b=none)/\W i m z:=λ{am H9 s9} I9 ⟨m',hm,w9⟩=>by
    refine⟨m',hm,i+1,H9,fR I3 cf ad I9.S5,T.keep _ _ _ a4 λb j o e=>(I9.pin (b,o) (sw _ (sw _ (C3 j e)))).1,λb j=>?_,w9⟩;obtain⟨o,e,d⟩:=T.obj _ _ a4 b j;exact(I9.pin (b,o) (sw _ (sw _ (C3 j e)))).2.1
   cases ok with
   | false=>exact again I8 q8
   | true=>
    show wpAny _ _ (eval i2 _) _ _ s8;refine x4 (b7 _ _ _ _ _ s8 an H8 _ I8 q8) λv s9 h9=>x4 h9 λch ce bm=>?_;obtain⟨ci,cn,cd,J2,cr,rfl,c5,T2,b3,f2,b4⟩:=bm;exact AG M (b8 _ _ _ _) (bg _ _ _ _) (he _ _ _ _) c5 T2 b3 f2 b4 λcc z s' I' c0=>⟨rfl,again I' c0⟩
 have e4:({ s with heap:=h1,toks:=s.toks+([]:YD).length }:Shared)={ B with heap:=h1,toks:=s.toks }:=by rw[<-Y];rfl
 rw[<-G,e4];exact codeAny_compStart_list a1 (T.self _ 0 _ _ _ ap a1)
def Uu(cap:YB)(d:TI)(g:YC->YE->Shared->Hp->TG)(tc:YC->YE->Shared->Hp->TT)(wi2:YC->YE->Shared->Hp->TI)(g2:YC->YE->Shared->Hp->TG)(tc2:YC->YE->Shared->Hp->TT)(te:YC->YE->Shared->Hp->TE):TE:=λc H Q=>d c H λJ e=>∀cl a s b,OK J (g cl a s b) (tc cl a s b) (wi2 cl a s b) (g2 cl a s b) (tc2 cl a s b) (te cl a s b) (K9 cap c) Q e
theorem As{B u M:Pos}
  (ab:X.N.Nodup) (a2:X.N[i]?=some y) (hy:X.env.scope.names.lookup y=some .local)
  (S:X4 XN N XS scope cap=true) (hN:X.N=XN) (hS:X.env.scope=XS) (hk:scope.kind=.function) (E:X.calm=true) (hi:PI X b c wi)
  (hg:∀cl j s H,PG (A6 X N scope cl j s H) b (g cl j s H)) (hc:∀cl j s H,xC (A6 X N scope cl j s H) p (tc cl j s H)) (a3:∀cl j s H,PI (A6 X N scope cl j s H) O R (wi2 cl j s H)) (a4:∀cl j s H,PG (A6 X N scope cl j s H) O (g2 cl j s H)) (a5:∀cl j s H,xC (A6 X N scope cl j s H) l (tc2 cl j s H)) (he:∀cl j s H,PE (A6 X N scope cl j s H) r (te cl j s H))
  (a1:∀cl j s H x,foldedSetIterable R (A6 X N scope cl j s H).env x=pure x)
  (a0:swapsWith (two r b c O R p l scope B) (some (.Name y M)) u.line X.env=pure true:=by rfl)
  (hs:∀x,foldedSetIterable c X.env x=pure x:=by intro _;rfl):PS X (.Assign [.Name y M] (two r b c O R p l scope B) u) (oU (Uu cap wi g tc wi2 g2 tc2 te) (dt i)):=by
 refine .of ?_;intro o s σ H D I h;have cf:=P6 hN hS S;rw[XA _ _ _ _ a0];refine eH (PP (eH ?_));refine eH (wE (VY   rfl hs (T6 (I.S8 cf)) hk cf.loc (x4 (hi o s σ H _ I h) λv s1 h1=>x4 h1 λad s2 h2=>?_))
  (λ_ G hq=>hE (hE hq)) λ_ _ e=>e)
 obtain⟨it,j,tn,J,H2,rfl,I2,T,U,f2,q⟩:=h2;refine Bx  E cf hk hg hc a3 a4 a5 he a1 I2 T U f2 q λd C H' G m I' hn hC q'=>?_;refine Xl (bJ (v:=.ref d) I' ab a2 (.inl hy) rfl (λs2 I2 ⟨a,sb,ha⟩=>⟨m,hn.sameBut sb ?_,λh' Y=>⟨_,H',I2.rH hC Y,q'⟩⟩) (.inr hy));rcases ha with z | z
 ·rw[z];exact hC.2.1
 ·exactλe=>hC.2.2.2.2.1 y a z e.symm
end L2
namespace L3
open PySem PySem.Spec PySem.Calls PySem.W L2
open PyProof.Rows hiding St
def FF(a:Ev):Bool:=a.all λo=>match o with
 | some d=>r8 d
 | none=>true
theorem GF(h:FF a=true){i:Nat}(e:a[i]?=some (some d)):r8 d=true:=List.all_eq_true.mp h _ (tt e)
theorem Tf.tr(a:Tf H d)(b:Tf d c):Tf H c:=⟨λ_ _ h=>b.T3 _ _ (a.T3 _ _ h),λ_ _ _ h=>b.frzs _ _ _ (a.frzs _ _ _ h)⟩
theorem ar(s:e9 H a):Tf H a:=⟨λ_ _ h=>s _ _ h,λ_ _ _ h=>s _ _ h⟩
theorem MZ(h:H d=some (.lst xs)):Tf H (upd H d o):=⟨λb a e=>by rwa[i4 (sJ e h (λz=>nomatch z))],λb _ _ e=>by rwa[i4 (sJ e h (λz=>nomatch z))]⟩
theorem E3.QS{K:YQ}(E:E3 K (X9 cap) c σ H j)(h:FF c=true)(tf:Tf H l):E3 K (X9 cap) c σ l j:=by
 refine⟨λi d e=>?_,E.emp,E.len,E.nd,E.dj,E.par,E.old,E.new,λa o h=>(nomatch h),⟨λb q h=>(nomatch h),λb o u h=>(nomatch h),λ_ _=>rfl⟩,λa z=>z.elim,λa z=>z.elim,E.zo,E.po⟩;obtain⟨v,p,r⟩:=E.rep i d e;refine⟨v,p,r.aG tf λa g=>?_⟩;rw[r.D6 (GF h e)] at g;cases g
def Hr(g2:aH)(tc2:aN)(te:TU):List D->Ev->List D->(List D->Prop)->Prop
 | [],_,c,Q=>Q c
 | y::e,g,c,Q=>g2 y g λa=>FF a=true/\tc2 a λb=>Br b (c.length<sizeLine/\te a λd=>r8 d=true/\Hr g2 tc2 te e a (c++[d]) Q) (Hr g2 tc2 te e a c Q)
def kP(g:aH)(tc:aN)(e:lX)(g2:aH)(tc2:aN)(te:TU)(d:Ev):List D->List D->(List D->Prop)->Prop
 | [],c,Q=>Q c
 | x::i,c,Q=>g x d λa=>tc a λb=>Br b (FF a=true/\e a λj=>Hr g2 tc2 te j a c λh=>kP g tc e g2 tc2 te d i h Q) (kP g tc e g2 tc2 te d i c Q)
theorem Ux{K:YQ}
  (hg:∀(G:Ent) (l:Ev) (σ:St) (H:Hp) (z:YO) (v:V) (d:D) (B:YE) (Q:Ev->Prop) (R:St->Hp->Prop),G.cl=B9 cap->E3 K G l σ H z->Rep K H v d B->(∀i,G.own i->∀a∈B,a∉z i)->g3 d l Q ->
   (∀p h u,E3 K G h p H u->(∀i,G.own i->u i=z i/\p[i]?=σ[i]?)->(∀i,G.own i->h[i]?=l[i]?)->Q h->R p H)->g v σ H R)
  (hc:∀(G:Ent) (l:Ev) (σ:St) (H:Hp) (z:YO) (Q:Bool->Prop) (R:Bool->Hp->Prop),G.cl=B9 cap->E3 K G l σ H z->a2 l Q->(∀b r,e9 H r->Q b->R b r)->tc σ H R)
  (bi:∀(G:Ent) (l:Ev) (σ:St) (H:Hp) (z:YO) (Q:List D->Prop) (R:It->Hp->Prop),G.cl=B9 cap->E3 K G l σ H z->a0 l Q->(∀J O xs,e9 H O->aJ K J xs [] O->Q xs->R J O)->wi σ H R)
  (bm:∀(G:Ent) (l:Ev) (σ:St) (H:Hp) (z:YO) (v:V) (d:D) (B:YE) (Q:Ev->Prop) (R:St->Hp->Prop),G.cl=B9 cap->E3 K G l σ H z->Rep K H v d B->(∀i,G.own i->∀a∈B,a∉z i)->U d l Q ->
   (∀p h u,E3 K G h p H u->(∀i,G.own i->u i=z i/\p[i]?=σ[i]?)->(∀i,G.own i->h[i]?=l[i]?)->Q h->R p H)->g2 v σ H R)
  (bn:∀(G:Ent) (l:Ev) (σ:St) (H:Hp) (z:YO) (Q:Bool->Prop) (R:Bool->Hp->Prop),G.cl=B9 cap->E3 K G l σ H z->I l Q->(∀b r,e9 H r->Q b->R b r)->tc2 σ H R)
  (he:∀(G:Ent) (l:Ev) (σ:St) (H:Hp) (z:YO) (Q:D->Prop) (R:VK),G.cl=B9 cap->E3 K G l σ H z->S l Q->(∀v r d B,e9 H r->Rep K r v d B->A3 G H z B .fresh->Q d->R v r)->te σ H R)
  (E:E3 K G l σ O z) (it:aJ K J xs C O) (tr:∀a∈C,O a≠none) (q:kP g3 a2 a0 U I S (U9 cap l) xs [] Q)
  (k:∀d r ds,e9 O r->Rep K r (.ref d) (.lst ds) [d]->O d=none->Q ds->R (.ref d) r):OK J g tc wi g2 tc2 te (K9 cap σ) R O:=by
 intro d hd
 refine⟨λi m H=>m=xs.length-i/\i<=xs.length/\e9 O H/\∃x ds,H d=some (.lst x)/\i9 K H x ds []/\kP g3 a2 a0 U I S (U9 cap l) (xs.drop i) ds Q,
  ⟨xs.length,by simp,v9 _,e9.i3 hd,[],[],c8,.nil,q⟩,?_⟩
 rintro i m H ⟨rfl,ca,s1,x,ds,ab,rs,q⟩;have tf:Tf O H:=ar s1
 have kC:∀a∈C,H a=O a:=λa ha=>by
  obtain⟨o,eo⟩:=Option.ne_none_iff_exists'.mp (tr a ha);rw[eo];exact s1 a o eo
 by_cases a4:i<xs.length
 ·right
  obtain⟨go,yl⟩:=(it H tf kC i).2 _ (nA a4);rw[AT a4] at q;refine⟨go,λy H2 hy=>?_⟩;obtain⟨s2,By,rB,sB⟩:=yl y H2 hy;have E2:=(E.same (s1.trans s2)).comp cap;refine hg (X9 cap) _ _ H2 _ y _ By _ _ rfl E2 rB (λj hj=>(G1 hj).elim) q λb0 ac am ao _ _ q3=>?_;refine hc (X9 cap) ac b0 H2 am _ _ rfl ao q3 λb H3 s3 q4=>?_;have T:H3 d=some (.lst x):=s3 _ _ (s2 _ _ ab)
  cases b with
  | false=>
   rw[tz sK];exact⟨xs.length-(i+1),by omega,rfl,a4,(s1.trans s2).trans s3,x,ds,T,(rs.same s2).same s3,q4.f rfl⟩
  | true=>
   rw[t4 rfl];obtain⟨bg,q5⟩:=q4.t rfl;refine bi (X9 cap) ac b0 H3 am _ _ rfl (ao.same s3) q5 λJ2 H4 ys s4 b1 q6=>?_
   refine⟨λj m2 p r=>m2=ys.length-j/\j<=ys.length/\∃h u x ds,E3 K (X9 cap) h p r u/\FF h=true/\e9 O r/\Tf H4 r/\r d=some (.lst x)/\i9 K r x ds []/\Hr U I S (ys.drop j) h ds λc=>kP g3 a2 a0 U I S (U9 cap l) (xs.drop (i+1)) c Q,
    ⟨ys.length,by simp,v9 _,ac,am,x,ds,(ao.same s3).same s4,bg,((s1.trans s2).trans s3).trans s4,ar (e9.refl _),s4 _ _ T,((rs.same s2).same s3).same s4,q6⟩,?_⟩
   rintro j m2 p r ⟨rfl,hj,h,u,c,an,E',c5,ad,a1,b4,a3,q'⟩
   by_cases M:j<ys.length
   ·right
    obtain⟨bv,b5⟩:=(b1 r a1 (λa ha=>nomatch ha) j).2 _ (nA M);rw[AT M] at q';refine⟨bv,λy2 H5 b9=>?_⟩;obtain⟨s5,c0,b7,c3⟩:=b5 y2 H5 b9;refine bm (X9 cap) h p H5 u y2 _ c0 _ _ rfl (E'.same s5) b7 (λj hj=>(G1 hj).elim) q' λap Y a5 E6 _ _ q6=>?_;obtain⟨al,q6⟩:=q6;refine bn (X9 cap) Y ap H5 a5 _ _ rfl E6 q6 λb H6 X q7=>?_;have b3:H6 d=some (.lst c):=X _ _ (s5 _ _ b4)
    cases b with
    | false=>
     rw[tz sK];exact⟨ys.length-(j+1),by omega,rfl,M,Y,a5,c,an,E6.same X,al,(ad.trans s5).trans X,(a1.tr (ar s5)).tr (ar X),b3,(a3.same s5).same X,q7.f rfl⟩
    | true=>
     obtain⟨hl,q8⟩:=q7.t rfl;rw[t4 rfl];refine he (X9 cap) Y ap H6 a5 _ _ rfl (E6.same X) q8 λv H7 dv Bv s7 rv fo q9=>?_;obtain⟨b8,q9⟩:=q9;have eB:=rv.D6 b8;subst eB;have b2:H7 d=some (.lst c):=s7 _ _ b3;have td:Tf H7 (upd H7 d (.lst (c++[v]))):=MZ b2;have b6:=(((a3.same s5).same X).same s7).aG td (λa ha=>nomatch ha);refine⟨c,b2,by rw[a3.length];exact hl,ys.length-(j+1),by omega,rfl,M,Y,a5,c++[v],an++[dv],((E6.same X).same s7).QS al td,al,λb o e=>?_,((((a1.tr (ar s5)).tr (ar X)).tr (ar s7)).tr td),c8,b6.append (B:=[]) (i9.cons (A:=[]) (B:=[]) (rv.aG td λa ha=>nomatch ha) .nil),q9⟩;rw[i4 (p9 e hd)];exact(((ad.trans s5).trans X).trans s7) _ _ e
   ·left
    have ej:j=ys.length:=by omega
    subst ej;rw[Wr] at q';exact⟨(b1 r a1 (λa ha=>nomatch ha) _).1 rfl,xs.length-(i+1),by omega,rfl,a4,ad,c,an,b4,a3,q'⟩
 ·have ei:i=xs.length:=by omega
  subst ei
  left
  rw[Wr] at q;exact⟨(it H tf kC _).1 rfl,k d H ds s1 (.lst ab rs) hd q⟩
structure Vn(X:Cx)(cl:List Cl)(tg iter:Expr)(u:lX):Prop where
 of ::
 run:∃wi,PI X tg iter wi/\∀(G:Ent) (ρ:Ev) (σ:St) (H:Hp) (fa:YO) (Q:List D->Prop) (R:It->Hp->Prop),G.cl=cl->E3 X.K G ρ σ H fa->u ρ Q ->
  (∀J H1 xs,e9 H H1->aJ X.K J xs [] H1->Q xs->R J H1)->wi σ H R
def tupI(u:TU):lX:=λb Q=>u b λd=>match d with
 | .tup a=>w6 a=true/\Q a
 | _=>False
section
variable{X:Cx}{cl:List Cl}{tg e:Expr}{f:Fl}{pos:Pos}{ua:TU}
theorem Pp(h:PU X cl e f ua):Vn X cl tg e (tupI ua):=.of<|by
 obtain⟨t,p,h⟩:=h.run;refine⟨_,Np p,λG g c H o Q R l E j k=>h G g c H o _ _ l E j λv x d B s r y q=>?_⟩;cases d<;>first | exact(q).elim | skip
 obtain⟨i,q⟩:=q;obtain⟨p,vs,rfl,b,a⟩:=J9 r;have u:=a.D6 i;subst u;exact⟨p,rfl,⟨vs,R6.of b⟩,k _ x _ s (Uc b a) q⟩
def RS(cap:YB)(d:lX)(g:aH)(tc:aN)(a:lX)(g2:aH)(tc2:aN)(te:TU):TU:=λb Q=>d b λc=>kP g tc a g2 tc2 te (U9 cap b) c [] λh=>Q (.lst h)
variable{XN N:YF}{XS scope:Scope}{cap:YB}{elt target iter t2 i2:Expr}{ifs ifs2:YH}{ui ui2:lX}{g3 g23:aH}{tc3 tc23:aN}{te3:TU}
theorem Ed{h py:Pos}(a0:X.N.Nodup)(M:X.N[i]?=some y)(hy:X.env.scope.names.lookup y=some .local)(U:Ah cl[i]? .fresh i=true)
  (z:X4 XN N XS scope cap=true) (hN:X.N=XN) (hS:X.env.scope=XS) (hk:scope.kind=.function) (o:X.calm=true) (O:Y8 X cl target iter f ui)
  (Q:∀c b s H,zP (A6 X N scope c b s H) (B9 cap) target g3) (Y:∀c b s H,tY (A6 X N scope c b s H) (B9 cap) ifs tc3)
  (j:∀c b s H,Vn (A6 X N scope c b s H) (B9 cap) t2 i2 ui2) (l:∀c b s H,zP (A6 X N scope c b s H) (B9 cap) t2 g23) (p:∀c b s H,tY (A6 X N scope c b s H) (B9 cap) ifs2 tc23) (S:∀c b s H,PU (A6 X N scope c b s H) (B9 cap) elt .fresh te3)
  (B:swapsWith (.ListComp elt [⟨target,iter,ifs,0⟩,⟨t2,i2,ifs2,0⟩] scope pos) (some (.Name y py)) h.line X.env=pure true:=by rfl)
  (hs:∀x,foldedSetIterable iter X.env x=pure x:=by intro _;rfl) (I:∀c b s H x,foldedSetIterable i2 (A6 X N scope c b s H).env x=pure x:=by intro _ _ _ _ _;rfl) :
  D7 X cl (.Assign [.Name y py] (.ListComp elt [⟨target,iter,ifs,0⟩,⟨t2,i2,ifs2,0⟩] scope pos) h) (o8 i (RS cap ui g3 tc3 ui2 g23 tc23 te3)):=.of<|by
 obtain⟨wi,pi,O⟩:=O.run
 exact⟨_,As       a0 M hy z hN hS hk o pi
  (λc b s H=>(sg (Q c b s H).run).1) (λc b s H=>(sg (Y c b s H).run).1) (λc b s H=>(sg (j c b s H).run).1) (λc b s H=>(sg (l c b s H).run).1) (λc b s H=>(sg (p c b s H).run).1) (λc b s H=>(sg (S c b s H).run).1) I B hs,λG T ρ σ H fa R hG E hu le=>O G ρ σ H fa _ _ hG E hu λJ H1 xs C s it tr fo q=>λc b u v=>Ux  (sg (Q c b u v).run).2 (sg (Y c b u v).run).2 (sg (j c b u v).run).2 (sg (l c b u v).run).2 (sg (p c b u v).run).2 (sg (S c b u v).run).2 (E.same s) it tr q λd H2 ds s2 r n q2=>le.nx _ _ ⟨_,_,(E.same (s.trans s2)).set (v1 q2.1) r (cw.of (f:=.fresh) E ⟨by simp,λa ha=>by rw[List.mem_singleton.mp ha];exact s.free n⟩ (by rwa[hG])),q2.2⟩⟩
end
end L3
namespace PySem
open PyProof.Rows PySem.SeqAt
section
variable{prog:Program}{w:World}{A:Around}{E:YN}
end
end PySem
namespace L2
open PySem PySem.Spec PyProof.Rows
section
variable{X:Cx}
end
end L2
namespace L3
open PySem PySem.Spec PySem.Calls PyProof.Rows PySem.W L2
section
variable{X:Cx}
theorem Qj(h:l4 (g1 i) (l4 (gT (l4 (g1 j) (l4 (g1 k) N1))) N1) ds d Q):ds.length=2:=by
 match ds,h with
 | [_,_],_=>rfl
 | [_],h=>exact h.2.elim
 | a::b::c::ds,h=>
  obtain⟨_,h⟩:=h
  cases b with
  | tup e=>
   match e,h with
   | [_,_],h=>exact h.2.2.elim
   | [_],h=>exact h.2.elim
   | [],h=>exact(h).elim
   | _::_::_::_,h=>exact h.2.2.elim
  | _=>exact(h).elim
 | [],h=>exact(h).elim
end
end L3
namespace L3
open PySem PySem.Spec PySem.Calls PyProof.Rows L2
section
variable{X:Cx}{cl:List Cl}{e a b:Expr}{es:YH}{f fa fb:Fl}{pos pos' p vp:Pos}{ua ub:TU}{us:df}{ms:oH}{k k':Nat}{fn:Addr}{fd:FuncData}{ps:YF}{x y:Str}
theorem uv (i:Nat) (g:NI cl[i]?=f) (h:X.N[i]?=some x:=by rfl) (d:Qu X.env.scope x:=by first | exact Or.inl rfl | exact Or.inr (Or.inl rfl) | exact Or.inr (Or.inr rfl)) (hd:(x == ("__debug__" : Str))=false:=by decide) (c:(x == ("__classdict__" : Str))=false:=by decide):PU X cl (.Name x pos) f (a6 i):=Pg i (pv i h d hd c) g
theorem o4(d:K8 k X.A)(h:PU X cl a fa ua)(g:PU X cl b fb ub)(c:iC b:=by exactλ_ _=>rfl):PU X cl (.Subscript a b pos) fa (g4 ua ub):=Ny (B6 d) h g c
theorem gn(i:Nat)(j:X.N.Nodup)(d:X.N[i]?=some x:=by rfl)(c:Loc X.env.scope x:=by exact Or.inl rfl)(g:X.fn x=true\/X.env.scope.names.lookup x=some .local:=by first | exact .inl rfl | exact .inr rfl | assumption)(h:cl[i]?=some .bor:=by rfl):zP X cl (.Name x pos) (g1 i):=Hc (dq j d c g) h
theorem ss(i:Nat)(o:X.N.Nodup)(j:PU X cl e f ua)(l:Ah cl[i]? f i=true)(g:X.N[i]?=some x:=by rfl)(c:Loc X.env.scope x:=by exact Or.inl rfl)(d:swapsWith e (some (.Name x pos')) pos.line X.env=pure false:=by rfl)(h:X.fn x=true\/X.env.scope.names.lookup x=some .local:=by first | exact .inl rfl | exact .inr rfl | assumption) :
  D7 X cl (.Assign [.Name x pos'] e pos) (o8 i ua):=dm o g c j l d h
theorem pc  (C:ME X.prog X.w X.K X.mg X.base x k ps (Q3 X.K c) fn fd) (i:K8 k' X.A) (o:Fv X cl (e::es) us) (d:isStar e=false) (j:k<=k':=by decide) (l:Gl X x:=by rfl) (h:(x == ("__debug__" : Str))=false:=by decide)
  (g:(backTo pos (starEach es X.env)).any (·.1)=false:=by rfl):PU X cl (.Call (.Name x p) (e::es) [] pos) .fresh (j4 c us):=KJ C (i.mono j) l o d h g
theorem pl  (j:Nat) (C:ME X.prog X.w X.K X.mg X.base x k ps (HQ X.K c) fn fd) (i:K8 k' X.A) (r:IS X cl es ms) (h:PE X (.Name y vp) (eI j):=by exact pv _) (o:cl[j]?=some .own:=by rfl) (l:k<=k':=by decide) (q:Gl X x:=by rfl) (g:(x == ("__debug__" : Str))=false:=by decide)
  (d:(backTo pos (starEach es X.env)).any (·.1)=false:=by rfl):PM X cl (.Call (.Name x p) (.Name y vp::es) [] pos) (u4 j c ms):=Kr j h o C (i.mono l) q r g d
end
end L3
namespace L3
open PySem PySem.Spec L2
section
variable{X:Cx}{cl:List Cl}{pos:Pos}{x:Str}
end
end L3
namespace L3
open PySem PySem.Spec PySem.Calls PyProof.Rows L2
section
variable{X:Cx}{cl:List Cl}{tg e:Expr}{pos:Pos}{ma:TM}{i j k:Nat}
def Ff(i j k:Nat)(u:TM):g9:=λT b=>u b λd a=>match d with
 | .tup [d1,d2,d3]=>r8 d1=true/\r8 d2=true/\Nat.blt i a.length=true/\Nat.blt j a.length=true/\Nat.blt k a.length=true/\T.nx (((a.set i (some d1)).set j (some d2)).set k (some d3))
 | _=>False
theorem IH(he:PM X cl e ma)(ci:ai cl[i]? i=true)(cj:ai cl[j]? j=true)(ck:ai cl[k]? k=true)
  (C:PG X tg (Qb X.K 3 (yH (dt i) (yH (dt j) (yH (dt k) QP))))) (mk:∀{te g},PE X e te->PG X tg g->PS X (.Assign [tg] e pos) (oU te g)):D7 X cl (.Assign [tg] e pos) (Ff i j k ma):=.of<|by
 obtain⟨t,p,h⟩:=he.run;refine⟨_,mk p C,λG T ρ σ H fo R u E hu le=>h G ρ σ H fo _ _ u E hu λv H' d B b I Y c r n1 n2 q=>?_⟩;cases d<;>first | exact(q).elim | skip
 rename_i Q
 obtain⟨d1,d2,d3,rfl,i1,i2,q1,q2,q3,q⟩:∃d1 d2 d3,Q=[d1,d2,d3]/\r8 d1=true/\r8 d2=true/\Nat.blt i b.length=true/\Nat.blt j b.length=true/\Nat.blt k b.length=true/\T.nx (((b.set i (some d1)).set j (some d2)).set k (some d3)):=by
  match Q,q with
  | [d1,d2,d3],q=>exact⟨d1,d2,d3,rfl,q⟩
  | [],q=>exact(q).elim
  | [_],q=>exact(q).elim
  | [_,_],q=>exact(q).elim
  | _::_::_::_::_,q=>exact(q).elim
 obtain⟨a,vs,rfl,l,o⟩:=J9 r
 cases o with
 | cons O o=>
  cases o with
  | cons M o=>
   cases o with
   | cons r3 o=>
    cases o;have b1:=O.D6 i1;have b2:=M.D6 i2;subst b1 b2;rw[ud] at n1 n2;have U:=Y.set (v1 q1) O (cw.new Y E t5 (λa l=>(by cases l)) (by rw[u];exact U1 ci));have hl:j<(b.set i (some d1)).length:=by rw[Ix];exact v1 q2
    have S:=U.set hl M (cw.new U E t5 (λa l=>(by cases l)) (by rw[u];exact U1 cj));have x:k<((b.set i (some d1)).set j (some d2)).length:=by rw[Ix,Ix];exact v1 q3
    have J:=S.set x r3 (cw.new S E n1 (λa l=>⟨(n2 a l).1,λq=>by
     by_cases z:q=j
     ·rw[t4 z];exactλy=>(by cases y)
     ·rw[tz z]
      by_cases z:q=i
      ·rw[t4 z];exactλy=>(by cases y)
      ·rw[tz z];exact(n2 a l).2 q⟩) (by rw[u];exact U1 ck))
    exact⟨a,_,rfl,R6.of l,rfl,_,_,rfl,_,_,rfl,_,_,rfl,rfl,le.nx _ _ ⟨_,_,J,q⟩⟩
end
end L3
namespace My
open PySem L2 L3
theorem L1(x:a)(xs:List a):P4 (x::xs) 0=some x:=by
 have:0<((xs.length+1:Nat):Int):=by omega
 unfold P4 oB;rw[wf,t4 this];rfl
theorem J5{e:Type}{g:aH}{tc:aN}{te:TU}{d:Ev}{F f:e->D}{Q:List D->Prop}:∀(as:List e) (acc:List D),(∀a∈as,∀(K:D->Prop) (R:Prop),K (f a)->g (F a) d λc=>tc c λb=>Br b (te c K) R)->Q (acc++as.map f)->um g tc te d (as.map F) acc Q
 | [],acc,_,q=>by
  rwa[Xi,ud] at q
 | a::as,acc,h,q=>by
  refine h a hQ _ _ (J5 as (acc++[f a]) (λb i=>h b (hH _ i)) ?_);rwa[v6]
theorem O3{i:Type}{g:aH}{tc:aN}{te:TU}{d:Ev}{F f:i->D}{Q:List D->Prop}(p:i->Bool):∀(as:List i) (acc:List D),(∀a∈as,∀(K:D->Prop) (R:Prop),(p a=true->K (f a))->(p a=false->R)->g (F a) d λc=>tc c λb=>Br b (te c K) R)->Q (acc++(as.filter p).map f)->um g tc te d (as.map F) acc Q
 | [],acc,_,q=>by
  rwa[List.filter_nil,Xi,ud] at q
 | a::as,acc,h,q=>by
  refine h a hQ _ _ (λe=>O3 p as (acc++[f a]) (λb j=>h b (hH _ j)) ?_) (λe=>O3 p as acc (λb j=>h b (hH _ j)) ?_)
  ·rw[Re,t4 e] at q;rwa[v6]
  ·rwa[Re,tz (by rw[e];exact sK)] at q
theorem get_map{b:Type}{F:b->D}{as:List b}{i:Nat}(h:(as.map F)[i]?=some d):∃a,as[i]?=some a/\d=F a:=by
 rw[sj] at h
 cases e:as[i]? with
 | none=>rw[e] at h;cases h
 | some a=>rw[e] at h;cases h;exact⟨a,rfl,rfl⟩
theorem g6(h:n<=100000):n<sizeLine:=by rw[SC];omega
theorem Fy(ns:YI):w6 (ns.map D.int)=true:=by
 induction ns with
 | nil=>rfl
 | cons n ns a=>rwa[]
theorem aY(ns:YF):w6 (ns.map D.str)=true:=by
 induction ns with
 | nil=>rfl
 | cons n ns a=>rwa[]
theorem qb(h:∀x∈xs,r8 x=true):w6 xs=true:=by
 induction xs with
 | nil=>rfl
 | cons n ns a=>
  show(r8 n&&w6 ns)=true;rw[h n hQ,a λx b=>h x (hH _ b)];rfl
theorem G9{b:Type}{f:b->D}{xs:List b}{i:Int}(d:0<=i)(c:i<xs.length):∃x,x∈xs/\xs[i.toNat]?=some x/\P4 (xs.map f) i=some (f x):=by
 have a:i.toNat<xs.length:=by omega
 refine⟨xs[i.toNat],VX a,nA a,?_⟩;unfold P4 oB;rw[t4 d,dL,t4 c];simp[a]
theorem QF{n:Int}(h:n<=10^70)(b:0<n):n.natAbs.log2<9000:=by
 have a:n.natAbs<2^9000:=WX (m:=10^70) (by omega) (by decide +kernel);exact(Nat.log2_lt (by omega)).mpr a
abbrev EM(Q:D->D->Prop):V3:={ nx:=λa=>a6 0 a λl=>Q .p3 l,rt:=λd a=>a6 0 a λl=>Q d l }
abbrev EP(Q:D->Prop):V3:={ nx:=λ_=>Q .p3,rt:=λd _=>Q d }
def nums(xs:YI):D:=.lst (xs.map D.int)
theorem y9(n:Nat):kW 0 n=(List.range n).map λ(k:Nat)=>D.int (0+(k:Int)):=rfl
theorem fm(p:Key×D)(r:List (Key×D))(j:Key):u7 (p::r) j=if p.1=j then some p.2 else u7 r j:=by
 unfold u7;rw[wS]
 by_cases e:p.1=j
 ·rw[t4 e,uy e];rfl
 ·rw[tz e,v5 e]
theorem ou(k j:Key)(y:D):∀kvs:List (Key×D),u7 (kvs.map λc=>if c.1=k then(c.1,y) else c) j=if j=k then(u7 kvs j).map (λ_=>y) else u7 kvs j
 | []=>by simp[u7]
 | p::r=>by
  rw[t8,fm,fm,ou k j y r]
  by_cases b:p.1=k
  ·rw[t4 b]
   by_cases a:p.1=j
   ·have d:=a.symm.trans b;simp[a,d]
   ·simp[a]
  ·rw[tz b]
   by_cases a:p.1=j
   ·have d:¬j=k:=λz=>b (a.trans z);simp[d]
   ·simp[a]
theorem jk(k:Key):∀kvs:List (Key×D),(kvs.any λa=>decide (a.1=k))=(u7 kvs k).isSome
 | []=>rfl
 | p::r=>by
  rw[VR,jk k r,fm]
  by_cases e:p.1=k
  ·simp[e]
  ·simp[e]
theorem qF(k j:Key)(y:D):∀kvs:List (Key×D),u7 (kvs++[(k,y)]) j=(u7 kvs j).or (if k=j then some y else none)
 | []=>by simp[u7]
 | p::r=>by
  rw[List.cons_append,fm,fm,qF k j y r]
  by_cases e:p.1=j
  ·simp[e]
  ·simp[e]
theorem uR(kvs:List (Key×D))(k j:Key)(y:D):u7 (putD kvs k y) j=if j=k then some y else u7 kvs j:=by
 unfold putD
 by_cases a:(kvs.any λb=>decide (b.1=k))=true
 ·rw[t4 a,ou];rw[jk] at a;obtain⟨v,c⟩:=Option.isSome_iff_exists.mp a
  by_cases e:j=k
  ·subst e;simp[c]
  ·simp[e]
 ·rw[tz a,qF];rw[jk] at a
  have d:u7 kvs k=none:=by
   cases q:u7 kvs k with
   | none=>rfl
   | some v=>rw[q] at a;exact(a rfl).elim
  by_cases e:j=k
  ·subst e;simp[d]
  ·have g:¬k=j:=λz=>e z.symm;simp[e,g]
theorem aI(a b:D)(l:List D):P4 (a::b::l) 1=some b:=by
 unfold P4 oB;rw[t4 (by decide),t4 (by simp[];omega)];rfl
theorem kg{i:Type}{g:aH}{tc:aN}{tk te:TU}{e:Ev}{F v:i->D}{k:i->Key}{Q:List (Key×D)->Prop}:∀(as:List i) (acc:List (Key×D)),(∀a∈as,∀(K:Key->D->Prop) (R:Prop),K (k a) (v a)->g (F a) e λc=>tc c λb=>Br b (tk c λy=>te c λd=>∃k,ag y=some k/\r8 d=true/\K k d) R) ->
  Q (as.foldl (λacc a=>putD acc (k a) (v a)) acc)->oy g tc tk te e (as.map F) acc Q
 | [],acc,_,q=>q
 | a::as,acc,h,q=>by
  exact h a hQ (λk d=>oy g tc tk te e (as.map F) (putD acc k d) Q) _ (kg as _ (λb j=>h b (hH _ j)) q)
theorem fW{c:Type}{v:c->D}{k:c->Key}(j:Key):∀(as:List c) (acc:List (Key×D)),(∀a∈as,k a≠j)->u7 (as.foldl (λacc a=>putD acc (k a) (v a)) acc) j=u7 acc j
 | [],acc,_=>rfl
 | a::as,acc,h=>by
  rw[UF,fW j as _ λb d=>h b (hH _ d),uR,tz λz=>h a hQ z.symm]
theorem iI{d:Type}{v:d->D}{k:d->Key}:∀(as:List d) (acc:List (Key×D)),(as.map k).Nodup->∀a∈as,u7 (as.foldl (λacc a=>putD acc (k a) (v a)) acc) (k a)=some (v a)
 | [],_,_,a,g=>by cases g
 | b::as,acc,h,a,g=>by
  obtain⟨l,j⟩:=List.nodup_cons.mp h;rw[UF];rcases List.mem_cons.mp g with e | e
  ·subst e;rw[fW (k a) as _ λc i z=>l (List.mem_map.mpr ⟨c,i,z⟩),uR,t4 rfl]
  ·exact iI as _ j a e
def Kc(d:D)(ns:YI):Prop:=d=.fz (ns.map D.int)\/d=.lst (ns.map D.int)
def feed(c d k:Int):D:=.lst [.int c,.int d,.int k]
abbrev Rw:=Str×List D
def row(r:Rw):D:=.tup (.str r.1::r.2)
def kT(xs:YF):D:=.lst (xs.map D.str)
def uD:Option Str->D
 | none=>.p3
 | some x=>.str x
abbrev Pr:=Int×Int
def pr(p:Pr):D:=.tup [.int p.1,.int p.2]
def gz(ps:List Pr):D:=.tup (ps.map pr)
def Ub(p:Pr):Prop:=1<=p.1/\p.1<10^59/\0<=p.2/\p.2<10^60
theorem X3:∀ps:List Pr,w6 (ps.map pr)=true
 | []=>rfl
 | p::ps=>by
  show((true&&(true&&true))&&w6 (ps.map pr))=true;rw[X3 ps];rfl
def T9(ps:List Pr):Prop:=1<=ps.length/\ps.length<=5/\(∀p∈ps,1<=p.1/\p.1<10^60/\1<=p.2/\p.2<10^60)/\ps.Pairwise λp q=>p.1<q.1/\q.2<p.2
def nm(n:Nat)(x:Str):Prop:=1<=x.cps.toList.length/\x.cps.toList.length<=n/\∀c∈x.cps.toList,97<=c/\c<=122
instance (n:Nat) (x:Str):Decidable (nm n x):=by unfold nm;infer_instance
theorem Z4(ps:List Pr):r8 (gz ps)=true:=X3 ps
def ax:Cp:=λa Q=>∃(d:D) (ns:YI) (k:Int),a=[d,.int k]/\Kc d ns/\0<=k/\∀c,Q (.int c)
def aC:Cp:=λa Q=>∃(d:D) (ns:YI) (k:Int),a=[d,.int k]/\Kc d ns/\0<=k/\k<=1000/\∀c,Q (feed c c (100*k))
def p7:Cm:=λa Q=>∃(c d k n:Int),a=[feed c d k,.int n]/\0<=k/\k<=10^9/\0<n/\n<=10^70/\∀(r b:Int),0<=r->r<n->Q (.int r) (feed c b (k+1))
def oG:g9:=(u9 (u6 (g4 (a6 0) (a6 1))))
def BJ:g9:=(u9 (uC (.int 0)))
def yZ:g9:=(e7 (dg (tP (uT (o5 Tp (a6 1) (bt hW (a9 (a6 0) g7))))) oG C5) BJ)
def JY:g9:=(u9 (S9 (a9 (u6 (a6 2)) (a9 (u6 (a6 2)) (a9 (o5 E7 (uC (.int 100)) (a6 1)) g7)))))
def LY:g9:=(e7 (o8 2 (j4 ax (a9 (a6 0) (a9 (a6 1) g7)))) JY)
def uZ:g9:=(u9 (u6 (a6 2)))
def xO:g9:=(e7 (BG 0 (mP (o5 Ln (g4 (a6 0) (uC (.int 1))) (a6 1))) (mP (uC (.int 1)))) uZ)
def wZ:g9:=(e7 (o8 2 (o5 jj (g4 (a6 0) (uC (.int 1))) (a6 1))) xO)
def Jp:g9:=(u9 (o5 jj (o5 Ln (o5 jj (o5 E7 (a6 3) (o5 p4 (o5 jj (a6 3) (uC (.int 65521))) (uC (.int 3)))) (uC (.int 2147483629))) (uC (.int 5))) (a6 1)))
def HV:g9:=(e7 (o8 3 (o5 jj (o5 p4 (o5 p4 (a6 3) (o5 E7 (o5 E7 (g4 (a6 0) (uC (.int 2))) (g4 (a6 0) (uC (.int 2)))) (uC (.int 69621)))) (uC (.int 11))) (uC (.int 2147483647)))) Jp)
def Iv:g9:=(e7 (o8 3 (o5 p4 (o5 E7 (o5 jj (g4 (a6 0) (uC (.int 0))) (uC (.int 2147483629))) (uC (.int 48271))) (o5 E7 (uC (.int 7919)) (g4 (a6 0) (uC (.int 2)))))) HV)
def Lj:g9:=(e7 (dg (tP (kJ (uT (o5 Ug (g4 (a6 0) (uC (.int 0))) (o5 Cn (uC (.int 10)) (uC (.int 18))))) (uT (o5 LP (g4 (a6 0) (uC (.int 1))) (uC (.int 0)))))) wZ C5) Iv)
def Mt:g9:=(e7 (BG 0 (mP (o5 p4 (g4 (a6 0) (uC (.int 2))) (uC (.int 1)))) (mP (uC (.int 2)))) Lj)
abbrev HP(n:Str)(k:Nat)(ps:YF)(c:Cp)(P:Program)(w:World)(K:YQ)(mg:YL)(base:Heap)(f:Addr)(a:FuncData):=ME P w K mg base n k ps (Q3 K c) f a
abbrev HM(n:Str)(k:Nat)(ps:YF)(c:Cm)(P:Program)(w:World)(K:YQ)(mg:YL)(base:Heap)(f:Addr)(a:FuncData):=ME P w K mg base n k ps (HQ K c) f a
abbrev B0(c:Cp)(n:Nat):Prop:=∀a Q,c a Q->a.length=n
abbrev Ly(c:Cm)(n:Nat):Prop:=∀a Q,c a Q->a.length=n
abbrev U6(c:Cp)(t:g9)(n:Nat):Prop:=∀a Q,c a Q->t (EP Q) (i7 n a)
abbrev Ts(c:Cm)(t:g9)(n:Nat):Prop:=∀a Q,c a Q->t (EM Q) (i7 n a)
def Q9(K:YQ)(f:Addr)(x:Str)(st:Stmt):Prop:=PySem.W.nsIn K mainGlobals x=some (some (.ref f))/\∃(e:Value) (d h:Option Addr) (b:Array (YR)) (kV g c a ct:Value),K.lookup f=some ⟨e,d,.func (PySem.W.fnOf x x (Z1 st) (O9 st) (c6 st) .none kV g c h a ct),b⟩/\PySem.W.codeIn K a x=true/\PySem.W.keepIn K (.ref f)=true
theorem Q9.mk{mg:YL}(X:K.In h)(G:h.Ns mainGlobals mg)(d:Q9 K f x st):∃b,M9 K x x st f b/\mg x=some (.ref f)/\PySem.W.keepIn K (.ref f)=true:=
 let ⟨a,_,_,_,_,_,_,_,_,_,l,c,k⟩:=d;⟨_,Gg l c k,PySem.W.mg_of X G a,k⟩
def pM:Str:="abcdefghijklmnopqrstuvwxyz"
def kR(i:Int):Nat:=(P4 pM.cps.toList i).getD 0
theorem Kv:∀n:Nat,n<26->kR (n:Int)=97+n:=by decide +kernel
theorem pf(a:0<=i)(b:i<26):kR i=97+i.toNat:=by
 have e:=Int.toNat_of_nonneg a;have q:=Kv i.toNat (by omega);rwa[e] at q
theorem yP(d:0<=i)(c:i<26)(b:0<=j)(a:j<26)(h:kR i=kR j):i=j:=by
 rw[pf d c,pf b a] at h;omega
theorem yd(b:0<=i)(a:i<26):97<=kR i/\kR i<=122:=by rw[pf b a];omega
theorem zu(b:0<=n)(a:n<=4):(Txt.mul ⟨#[c]⟩ n).cps.toList=List.replicate n.toNat c:=by
 have h:n=0\/n=1\/n=2\/n=3\/n=4:=by omega
 rcases h with rfl | rfl | rfl | rfl | rfl
 all_goals rfl
theorem Ar(xs:YI):∀acc:Array Nat,((xs.map λb=>(⟨#[kR b]⟩:Str)).foldl (λacc p=>acc++(Str.cps "")++p.cps) acc).toList=acc.toList++xs.map kR:=by
 induction xs with
 | nil=>intro acc;simp
 | cons b B a=>
  intro acc;rw[t8,UF,a];show(acc++#[]++#[kR b]).toList++_=_;simp
theorem HN(xs:YI):(Txt.join "" (xs.map λb=>(⟨#[kR b]⟩:Str))).cps.toList=xs.map kR:=by
 cases xs with
 | nil=>rfl
 | cons b B=>
  exact(Ar B #[kR b]).trans rfl
theorem Jq(x y:Str):(x++y).cps.toList=x.cps.toList++y.cps.toList:=by
 show(x.cps++y.cps).toList=_;simp
theorem aD{d:Type}(f:Nat->d)(n:Nat)(h:∀i j,i<n->j<n->f i=f j->i=j):((List.range n).map f).Nodup:=by
 rw[List.Nodup,Wj];refine List.Pairwise.imp_of_mem ?_ (List.nodup_range );intro a b l g c e;exact c (h a b (List.mem_range.mp l) (List.mem_range.mp g) e)
theorem mI{b:Type}{x:b}:∀{xs:List b} (i:Nat),xs.Nodup->x∉xs->(xs.set i x).Nodup
 | [],_,_,_=>t5
 | y::c,0,h,a=>List.nodup_cons.mpr ⟨λz=>a (hH _ z),(List.nodup_cons.mp h).2⟩
 | y::c,i+1,h,a=>by
  refine List.nodup_cons.mpr ⟨λz=>?_,mI i (List.nodup_cons.mp h).2 λz=>a (hH _ z)⟩;rcases P3 z with w | w
  ·exact(List.nodup_cons.mp h).1 w
  ·exact a (w▸hQ)
def nameA(f:Int)(i:Nat):Str:=Txt.mul ⟨#[kR ((f+(0+(i:Int)))%26)]⟩ (1+(0+(i:Int))/26)
theorem fX(a:i<100):(nameA f i).cps.toList=List.replicate (1+i/26) (kR ((f+(0+(i:Int)))%26)):=by
 unfold nameA;rw[zu (by omega) (by omega)];congr 1;omega
theorem BL(b:i<100)(a:j<100)(h:nameA f i=nameA f j):i=j:=by
 have e:=GM (λx=>x.cps.toList) h;rw[fX b,fX a] at e;have el:=GM List.length e;rw[Wg,Wg] at el;have d:=by
  have c:=GM (λl=>l.head?) e;simpa[Nat.add_comm 1,Ps] using c
 have g:=yP (Fa _ (by decide)) (At _ (by decide)) (Fa _ (by decide)) (At _ (by decide)) d;omega
theorem DU(a:i<100)(h:1+i/26<=n):nm n (nameA f i):=by
 unfold nm;rw[fX a,Wg];refine⟨by omega,h,λc b=>?_⟩;rw[(List.mem_replicate.mp b).2];exact yd (Fa _ (by decide)) (At _ (by decide))
def gO(bs:YI)(a o c b:Int)(i:Nat):YI:=(bs.set a.toNat ((c+(0+(i:Int)))%26)).set o.toNat ((b+(0+(i:Int))/26)%26)
def gJ(bs:YI)(a o d c f l:Int)(i:Nat):Str:=Txt.join "" ((gO bs a o d c i).map λb=>(⟨#[kR b]⟩:Str))++Txt.mul ⟨#[kR f]⟩ (l*((0+(i:Int))%2))
theorem br:(gO bs a o c b i).length=bs.length:=by unfold gO;rw[Ix,Ix]
theorem pq(d:∀b∈bs,0<=b/\b<26):∀b∈gO bs a o g e i,0<=b/\b<26:=λb c=>by
 rcases P3 c with w | w
 ·rcases P3 w with w | w
  ·exact d b w
  ·rw[w];exact⟨Fa _ (by decide),At _ (by decide)⟩
 ·rw[w];exact⟨Fa _ (by decide),At _ (by decide)⟩
theorem QN(a:0<=l)(l1:l<=1)(i:Nat):0<=l*((0+(i:Int))%2)/\l*((0+(i:Int))%2)<=1:=by
 have h:l=0\/l=1:=by omega
 rcases h with rfl | rfl<;>omega
theorem fu(d:0<=l)(l1:l<=1):(gJ bs a o c b f l i).cps.toList=(gO bs a o c b i).map kR++List.replicate (l*((0+(i:Int))%2)).toNat (kR f):=by
 unfold gJ;have:=QN d l1 i;rw[Jq,HN,zu this.1 (by omega)]
theorem BH(I:i<100)(H:j<100)(g:0<=l)(l1:l<=1)(O:0<=a)(M:a<bs.length)(G:0<=o)(E:o<bs.length)(J:a≠o)(r:∀b∈bs,0<=b/\b<26)
  (h:gJ bs a o d c f l i=gJ bs a o d c f l j):i=j:=by
 have e:=GM (λx=>x.cps.toList) h;rw[fu g l1,fu g l1] at e;have v:=(List.append_inj e (by rw[dL,dL,br,br])).1
 have at_:∀(n:Nat) (x y:Int),(gO bs a o d c i)[n]?=some x->(gO bs a o d c j)[n]?=some y->x=y:=λn x y q p=>by
  have u:=GM (λz=>z[n]?) v;rw[sj,sj,q,p] at u;have:=pq r x (tt q);have:=pq r y (tt p);exact yP (by omega) (by omega) (by omega) (by omega) (wh u)
 have ga:∀k,(gO bs a o d c k)[a.toNat]?=some ((d+(0+k))%26):=λk=>by
  unfold gO;rw[wr (by omega),v7 (by omega)]
 have go:∀k,(gO bs a o d c k)[o.toNat]?=some ((c+(0+k)/26)%26):=λk=>by
  unfold gO;rw[v7 (by rw[Ix];omega)]
 have C:=at_ _ _ _ (ga i) (ga j);have B:=at_ _ _ _ (go i) (go j);omega
theorem HD{a o u r f l:Int}{i n:Nat}(e:0<=l)(l1:l<=1)(q:0<=f)(p:f<26)(j:∀b∈bs,0<=b/\b<26)(x:1<=bs.length)(v:bs.length+l<=n):nm n (gJ bs a o u r f l i):=by
 have h:l=0\/l=1:=by omega
 unfold nm;rw[fu e l1,uk,dL,br,Wg];refine⟨by omega,?_,λc g=>?_⟩
 ·rcases h with rfl | rfl
  ·rw[];omega
  ·omega
 ·rcases List.mem_append.mp g with w | w
  ·obtain⟨b,d,rfl⟩:=List.mem_map.mp w;have:=pq j b d;exact yd this.1 this.2
  ·rw[(List.mem_replicate.mp w).2];exact yd q p
theorem Gw{a r n:Int}(i:0<=a)(g:a<n)(d:0<=r)(c:r<n-1):a≠(a+1+r)%n:=by
 by_cases h:a+1+r<n
 ·rw[Int.emod_eq_of_lt (by omega) h];omega
 ·have e:(a+1+r)%n=a+1+r-n:=by
   have b:a+1+r=(a+1+r-n)+n:=by omega
   rw[b,Int.add_emod_right,Int.emod_eq_of_lt (by omega) (by omega)];omega
  omega
def cB:Cm:=λe Q=>∃(c d k m:Int),e=[feed c d k,.int m]/\0<=k/\k<=10^6/\1<=m/\m<=100/\∀(a:YF) (g b:Int),a.length=m->a.Nodup->(∀x∈a,nm 8 x)->Q (kT a) (feed c g b)
local macro_rules | `(tactic| walk_at "w")=>`(tactic| conv=>whnf)
local macro_rules | `(tactic| walk_at "a")=>`(tactic| first | refine⟨rfl,?_⟩ | refine⟨_,rfl,?_⟩ | refine Br.yes rfl ?_ | refine Br.no rfl ?_ | refine⟨(show(0:Int)<_ from by decide),?_⟩ | refine⟨(show V4 _ _ from⟨by decide,by decide⟩),?_⟩ | refine⟨(show aV _ _ from⟨by decide,by decide,by decide⟩),?_⟩ | refine⟨(show N7 _ _ from .inr ⟨by decide,by decide⟩),?_⟩ | refine⟨(show N7 _ _ from .inl ⟨by decide,by decide⟩),?_⟩ | refine⟨_,_,_,rfl,rfl,rfl,?_⟩ | refine⟨_,L1 _ _,?_⟩ | refine⟨_,aI _ _ _,?_⟩ | refine⟨_,_,rfl,rfl,?_⟩)
local macro_rules | `(tactic| walk_at "r")=>`(tactic| ((repeat ((conv=>whnf);(walk_at "a")));(try (conv=>whnf))))
structure Sw(xs:YF)(gs:List Rw)(ds:YJ)(i:Nat)(g:Rw)(u:Option Str)(e:Nat)(cv:List Pr)(n1 n2:Int):Prop where
 name:xs[i]?=some g.1
 row:g.2=[uD u,gz cv,.int n1,.int n2]
 cv:T9 cv
 n1:0<=n1/\n1<10^60
 n2:0<=n2/\n2<10^60
 dep:ds[i]?=some e
 top:u=none->e=1
 under:∀y,u=some y->∃j f gj,j<i/\gs[j]?=some gj/\gj.1=y/\ds[j]?=some f/\e=f+1
 ge:1<=e
 le:e<=8
def RY(xs:YF)(gs:List Rw)(ds:YJ):Prop:=ds.length=gs.length/\∀i g,gs[i]?=some g->∃u e cv n1 n2,Sw xs gs ds i g u e cv n1 n2
theorem RY.w6(h:RY xs gs ds):∀g∈gs,w6 g.2=true:=λg c=>by
 obtain⟨i,b⟩:=xi c;obtain⟨u,e,cv,n1,n2,a⟩:=h.2 i g b;rw[a.row];show(r8 (uD u)&&(r8 (gz cv)&&(true&&(true&&true))))=true;rw[Z4];cases u<;>rfl
theorem Sw.more{cv:List Pr}{n1 n2:Int}(a:Sw xs gs ds i g u e cv n1 n2)(b:List Rw)(c:YJ):Sw xs (gs++b) (ds++c) i g u e cv n1 n2:=by
 refine⟨a.name,a.row,a.cv,a.n1,a.n2,?_,a.top,λy l=>?_,a.ge,a.le⟩
 ·rw[v2 (List.getElem?_eq_some_iff.mp a.dep).1];exact a.dep
 ·obtain⟨j,f,r,q,h,p,d,o⟩:=a.under y l;exact⟨j,f,r,q,by rwa[v2 (List.getElem?_eq_some_iff.mp h).1],p,by rwa[v2 (List.getElem?_eq_some_iff.mp d).1],o⟩
theorem RY.snoc(h:RY xs gs ds)(a:Sw xs (gs++[g]) (ds++[e]) gs.length g u e cv n1 n2):RY xs (gs++[g]) (ds++[e]):=by
 refine⟨by simp[h.1],λi x b=>?_⟩
 by_cases p:i<gs.length
 ·rw[v2 p] at b;obtain⟨o,r,l,d,c,v⟩:=h.2 i x b;exact⟨o,r,l,d,c,v.more _ _⟩
 ·have j:=(List.getElem?_eq_some_iff.mp b).1;rw[uk,C2] at j;have q:i=gs.length:=by omega
  subst q;rw[Db (oT _),WU] at b;cases b;exact⟨_,_,_,_,_,a⟩
structure TY(xs:YF)(gs:List Rw)(i:Nat)(l:Rw)(y:Str)(ps:List Pr)(n:Int)(b:Bool):Prop where
 name:xs[i]?=some l.1
 row:l.2=[.str y,gz ps,.int n,.bl b]
 at_:∃g∈gs,g.1=y
 len:ps.length<=4
 ja:∀p∈ps,Ub p
 n:0<=n/\n<10^60
def UX(xs:YF)(gs ls:List Rw):Prop:=ls.length=xs.length/\∀i l,ls[i]?=some l->∃y ps n b,TY xs gs i l y ps n b
theorem TY.w6{n:Int}(a:TY xs gs i l y ps n b):w6 l.2=true:=by
 rw[a.row];show(true&&(L3.w6 (ps.map pr)&&(true&&(true&&true))))=true;rw[X3];rfl
theorem UX.w6(h:UX xs gs ls):∀l∈ls,w6 l.2=true:=λl c=>by
 obtain⟨i,d⟩:=xi c;obtain⟨y,ps,n,b,a⟩:=h.2 i l d;exact a.w6
structure Gd where
 nm:Str
 un:Option Str
 cv:List Pr
 de:Int
 wa:Int
structure Ld where
 nm:Str
 at_:Str
 cs:List Pr
 la:Int
 on:Bool
structure Bd where
 gs:List Gd
 ls:List Ld
def gD(g:Gd):D:=.tup [.str g.nm,uD g.un,gz g.cv,.int g.de,.int g.wa]
def lD(l:Ld):D:=.tup [.str l.nm,.str l.at_,gz l.cs,.int l.la,.bl l.on]
def bD(b:Bd):D:=.tup [.tup (b.gs.map gD),.tup (b.ls.map lD)]
def Jf(gs:List Gd):Prop:=∃dp:Nat->Nat,∀i g,gs[i]?=some g->1<=dp i/\dp i<=8/\(g.un=none->dp i=1)/\∀y,g.un=some y->∃j a,j<i/\gs[j]?=some a/\a.nm=y/\dp i=dp j+1
abbrev Rc:Int:=10^90
structure j6(b:Bd):Prop where
 g1:1<=b.gs.length
 g16:b.gs.length<=16
 l24:b.ls.length<=24
 nd:(b.gs.map (·.nm)++b.ls.map (·.nm)).Nodup
 nmg:∀g∈b.gs,nm 8 g.nm
 nml:∀l∈b.ls,nm 8 l.nm
 cv:∀g∈b.gs,T9 g.cv
 de:∀g∈b.gs,0<=g.de/\g.de<Rc
 wa:∀g∈b.gs,0<=g.wa/\g.wa<10^60
 un:Jf b.gs
 cs4:∀l∈b.ls,l.cs.length<=4
 cs:∀l∈b.ls,∀p∈l.cs,1<=p.1/\p.1<10^60/\0<=p.2/\p.2<10^60
 la:∀l∈b.ls,0<=l.la/\l.la<10^60
 at_:∀l∈b.ls,∃g∈b.gs,g.nm=l.at_
theorem fO(u:Option Str):r8 (uD u)=true:=by cases u<;>rfl
theorem Q5(g:Gd):r8 (gD g)=true:=by
 show(true&&(r8 (uD g.un)&&(r8 (gz g.cv)&&(true&&(true&&true)))))=true;rw[fO,Z4];rfl
theorem xq(g:Ld):r8 (lD g)=true:=by
 show(true&&(true&&(r8 (gz g.cs)&&(true&&(true&&true)))))=true;rw[Z4];rfl
theorem G6{b:Type}{f:b->D}(h:∀a,r8 (f a)=true)(as:List b):w6 (as.map f)=true:=qb λx c=>by
 obtain⟨a,_,rfl⟩:=List.mem_map.mp c;exact h a
theorem bP(gs:List Gd):w6 (gs.map gD)=true:=G6 Q5 gs
theorem pL(gs:List Ld):w6 (gs.map lD)=true:=G6 xq gs
theorem iZ(b:Bd):r8 (bD b)=true:=by
 show(w6 (b.gs.map gD)&&(w6 (b.ls.map lD)&&true))=true;rw[bP,pL];rfl
abbrev cs(x:Str):YJ:=x.cps.toList
def nt(n:Int):Str:=Str.ofString (toString n)
theorem MV(h:0<=n)(a:n<10^60):(nt n).length<=61:=by
 unfold nt;rw[ofString_length];exact int_text_length_le10 (by decide) (by omega)
def num(n:Int):Prop:=0<=n/\n<10^60
def HJ(ps:List Pr):Prop:=ps.length<=5/\∀p∈ps,num p.1/\num p.2
structure GT(g:Gd):Prop where
 nm:nm 8 g.nm
 un:∀y,g.un=some y->My.nm 8 y
 cv:HJ g.cv
 de:num g.de
 wa:num g.wa
structure LT(l:Ld):Prop where
 nm:nm 8 l.nm
 at_:My.nm 8 l.at_
 cs:HJ l.cs
 la:num l.la
theorem num.len(h:num n):(nt n).length<=61:=MV h.1 h.2
theorem Pn(h:nm n x):x.length<=n:=by
 have:=h.2.1;simpa[Str.length] using this
def Sk(x:Str):Prop:=10∉cs x
instance (x:Str):Decidable (Sk x):=by unfold Sk;infer_instance
theorem j6.lt(h:j6 b):∀l∈b.ls,LT l:=λl a=>by
 refine⟨h.nml l a,?_,⟨AC (h.cs4 l a) (by decide),λp c=>?_⟩,h.la l a⟩
 ·obtain⟨g,d,e⟩:=h.at_ l a;rw[<-e];exact h.nmg g d
 ·have:=h.cs l a p c;unfold num;omega
mutual
def kn:D->Bool
 | .p3=>true
 | .bl _=>true
 | .int _=>true
 | .str x=>decide (x.length<=100000)
 | .tup xs=>Uj xs
 | .lst xs=>Uj xs
 | .dic _=>true
 | _=>false
def Uj:List D->Bool
 | []=>true
 | x::xs=>kn x&&Uj xs
end
theorem Mo(h:kn d=true):∃a,tyName d=some a:=by
 cases d<;>first | exact⟨_,rfl⟩ | (simp[kn] at h)
def Cd(q:D)(xs:List D):Prop:=q=.tup xs\/q=.lst xs
def Qt:D->Str
 | .tup (.str x::_)=>x
 | _=>Str.empty
def Oz(d:D):Prop:=∃x r,d=.tup (.str x::r)
def P1:Cp:=λb Q=>∃(q:D) (a:List D),b=[q]/\Cd q a/\a.length<=100/\(∀x∈a,Oz x)/\Q (kT (a.map Qt))
structure QJ(gs:List Gd):Prop where
 len:gs.length<=16
 nd:(gs.map (·.nm)).Nodup
 un:Jf gs
def lR(gs:List Gd)(x:Str):Option Str:=match gs.find? (λg=>decide (g.nm=x)) with
 | some g=>g.un
 | none=>none
def ups(gs:List Gd):Nat->Option Str->YF
 | 0,_=>[]
 | _+1,none=>[]
 | n+1,some x=>x::ups gs n (lR gs x)
def cu:Cp:=λa Q=>∃(q:D) (gs:List Gd) (x:Str),a=[q,.str x]/\Cd q (gs.map gD)/\QJ gs/\(∃g∈gs,g.nm=x)/\Q (kT (ups gs 8 (some x)))
def l7(b:Bd):YF:=b.gs.map (·.nm)
def L0(b:Bd):YF:=b.ls.map (·.nm)
def FD(xs:YF):D->Bool
 | .str x=>decide (x∈xs)
 | _=>false
def S1(b:Bd)(x:Str):Str:=match b.ls.find? (λl=>decide (l.nm=x)) with
 | some l=>l.at_
 | none=>x
def j8(b:Bd)(x:Str):YF:=ups b.gs 8 (some (S1 b x))
def B3:Cp:=λa Q=>∃(b:Bd),a=[bD b]/\j6 b/\Q (kT (l7 b))
def U2:Cp:=λa Q=>∃(b:Bd),a=[bD b]/\j6 b/\Q (kT (L0 b))
def O5:Cp:=λa Q=>∃(b:Bd) (d:D),a=[bD b,d]/\j6 b/\kn d=true/\Q (.bl (FD (l7 b) d))
def S3:Cp:=λa Q=>∃(b:Bd) (d:D),a=[bD b,d]/\j6 b/\kn d=true/\Q (.bl (FD (L0 b) d))
def N6:Cp:=λa Q=>∃(b:Bd) (d:D),a=[bD b,d]/\j6 b/\kn d=true/\Q (.bl (FD (l7 b) d||FD (L0 b) d))
def OS(d:D)(xs:YF):Prop:=d=.lst (xs.map D.str)\/d=.tup (xs.map D.str)
def E9(b:Bd)(a:YF)(x:Str):Bool:=(j8 b x).all λg=>decide (g∉a)
def Pd(kvs:List (Key×D))(x:Str):Int:=match u7 kvs (.inr x) with
 | some (.int n)=>n
 | _=>0
def vM(kvs:List (Key×D)):Prop:=∀a∈kvs,∃n,a.2=.int n
def uP(b:Bd)(a:YF):List (Key×D):=b.gs.map λg=>(.inr g.nm,.bl (E9 b a g.nm))
def i6(b:Bd)(v:Str->Int):List (Key×D):=b.gs.map λg=>(.inr g.nm,.int (v g.nm))
def N2(b:Bd)(a:YF)(P:Str->Int)(y:Str):Int:=((l7 b++L0 b).map λx=>if E9 b a x then(((j8 b x).count y:Nat):Int)*P x else 0).sum
def lo(cv:List Pr):Int:=(cv.head?.map (·.1)).getD 0
def gH(b:Bd)(x:Str):Int:=match b.ls.find? (λl=>decide (l.nm=x)) with
 | some l=>if l.on then l.la else 0
 | none=>0
def j5(b:Bd):Str->Int:=N2 b [] (gH b)
def y8(b:Bd)(v:Str->Int):YF:=(b.gs.filter λg=>decide (lo g.cv<=v g.nm)).map (·.nm)
def P2:Cp:=λa Q=>∃(cv:List Pr),a=[gz cv]/\T9 cv/\Q (.int (lo cv))
def K3:Cp:=λc Q=>∃(b:Bd) (o:D) (a:YF),c=[bD b,o]/\j6 b/\OS o a/\a.length<4000/\Q (.dic (uP b a))
def O2:Cp:=λd Q=>∃(b:Bd) (c:YF) (a:List (Key×D)),d=[bD b,.dic (uP b c),.dic a]/\j6 b/\vM a/\Q (.dic (i6 b (N2 b c (Pd a))))
def cx:Cp:=λd Q=>∃(b:Bd) (o:D) (c:YF) (a:List (Key×D)),d=[bD b,o,.dic a]/\j6 b/\OS o c/\c.length<4000/\vM a/\Q (.dic (i6 b (N2 b c (Pd a))))
def gp:Cp:=λa Q=>∃(b:Bd),a=[bD b]/\j6 b/\Q (.dic (i6 b (j5 b)))
def cR:Cp:=λa Q=>∃(b:Bd) (v:Str->Int),a=[bD b,.dic (i6 b v)]/\j6 b/\Q (kT (y8 b v))
def we:YF->D
 | []=>.p3
 | x::_=>.str x
def cQ:Cp:=λa Q=>∃(b:Bd),a=[bD b]/\j6 b/\Q (we (y8 b (j5 b)))
def rq:g9:=(u9 (u6 (g4 (g4 (a6 0) (uC (.int 0))) (uC (.int 0)))))
def aB:g9:=(aX 3 (mP (u6 (KG (o5 (Nk true) (a6 5) (a6 2)) (Ui (o5 (Y6 false) (a6 6) (uC .p3)) (g4 (a6 3) (a6 6)))))) (mP (a6 5)))
def gP:g9:=(e7 (Nr 5 6 (a9 (g4 (a6 4) (uC (.int 0))) (a9 (g4 (a6 4) (uC (.int 1))) g7))) aB)
def oP:g9:=(u9 (a6 3))
def pQ:g9:=(e7 (N4 (iP (C6 (g4 (a6 0) (uC (.int 0))))) (g1 4) gP) oP)
def ow:g9:=(e7 (o8 3 (uC (.dic []))) pQ)
def jX:g9:=(e7 (o8 2 (bt RU (a9 (a6 1) g7))) ow)
def iT:g9:=(yc 3 (g4 (a6 5) (uC (.int 1))) (jU (a6 2) (g4 (a6 5) (uC (.int 0))) (uC (.int 0))))
def kc:g9:=(aX 3 (mP (uC (.int 0))) (mP (a6 6)))
def iL:g9:=(yc 3 (a6 7) (g4 (a6 3) (a6 6)))
def ke:g9:=(dg (tP (uT (o5 (Y6 true) (a6 7) (uC .p3)))) iL C5)
def jA:g9:=(dg (tP (DG (ve (g4 (a6 1) (a6 6))))) kc ke)
def aO:g9:=(e7 (Nr 6 7 (a9 (g4 (a6 4) (uC (.int 0))) (a9 (g4 (a6 4) (uC (.int 1))) g7))) jA)
def qi:g9:=(u9 (a6 3))
def gL:g9:=(e7 (N4 (iP (LC (g4 (a6 0) (uC (.int 0))))) (g1 4) aO) qi)
def qQ:g9:=(e7 (N4 (iP (C6 (g4 (a6 0) (uC (.int 1))))) (g1 5) iT) gL)
def nJ:g9:=(e7 (o8 3 (MI [none,some 2] (C6 (g4 (a6 0) (uC (.int 0)))) (g1 0) N5 (g4 (a6 0) (uC (.int 0))) (jU (a6 1) (g4 (a6 0) (uC (.int 0))) (uC (.int 0))))) qQ)
def Gy:g9:=(u9 (j4 O2 (a9 (a6 0) (a9 (j4 K3 (a9 (a6 0) (a9 (a6 1) g7))) (a9 (a6 2) g7)))))
def LR:g9:=(u9 (j4 cx (a9 (a6 0) (a9 (S9 g7) (a9 (MI [none] (C6 (g4 (a6 0) (uC (.int 1)))) (g1 0) (ve (g4 (a6 0) (uC (.int 4)))) (g4 (a6 0) (uC (.int 0))) (g4 (a6 0) (uC (.int 3)))) g7)))))
def Gf:g9:=(u9 (kU [none,some 1] (C6 (g4 (a6 0) (uC (.int 0)))) (g1 0) (uT (o5 Ug (g4 (a6 1) (g4 (a6 0) (uC (.int 0)))) (j4 P2 (a9 (g4 (a6 0) (uC (.int 2))) g7)))) (u6 (g4 (a6 0) (uC (.int 0))))))
def FH:g9:=(u9 (u6 (Vt (ve (a6 1)) (g4 (a6 1) (uC (.int 0))) (uC .p3))))
def FA:g9:=(e7 (o8 1 (j4 cR (a9 (a6 0) (a9 (j4 gp (a9 (a6 0) g7)) g7)))) FH)
def Vb(q:D)(b:Bd):Prop:=∃x y:D,q=.tup [x,y]/\Cd x (b.gs.map gD)/\Cd y (b.ls.map lD)
def kQ(b:Bd)(a:YF):List (Key×D):=a.map λx=>(.inr x,.fz ((j8 b x).map D.str))
def W4(u t:Int):Prop:=1<=u/\u<=10^50+3/\1<=t/\t<=10^40
structure TC(gs:List Gd)(u t:Int):Prop where
 c1:∀g∈gs,∀p∈g.cv,p.1<=46*u
 c2:∀g∈gs,∀p∈g.cv,p.2<=15*t
 de:∀g∈gs,g.de<=3*t
 wa:∀g∈gs,g.wa<=2*t
structure TK(ls:List Ld)(u t:Int):Prop where
 la:∀l∈ls,l.la<=3*u
 cs:∀l∈ls,∀p∈l.cs,p.1<=3*t/\p.2<=11*u
structure Tu(b:Bd)(u t:Int):Prop where
 g8:b.gs.length<=8
 l8:b.ls.length<=8
 c1:∀g∈b.gs,∀p∈g.cv,p.1<=70*u
 c2:∀g∈b.gs,∀p∈g.cv,p.2<=15*t
 de:∀g∈b.gs,g.de<=3*t
 wa:∀g∈b.gs,g.wa<=2*t
 ls:TK b.ls u t
def U0(g:Gd)(n:Int):Gd:={ g with cv:=g.cv.map λp=>(p.1+n,p.2) }
def aP:Cp:=λa Q=>∃(q:D) (b:Bd),a=[q]/\Vb q b/\j6 b/\Q (.dic (kQ b (l7 b++L0 b)))
def T5:Cm:=λb Q=>∃(c d k u t:Int),b=[feed c d k,.int u,.int t]/\0<=k/\k<=10^6/\W4 u t/\∀(cv:List Pr) (e a:Int),T9 cv->(∀p∈cv,p.1<=46*u)->(∀p∈cv,p.2<=15*t)->k<=a->a<=k+50->Q (gz cv) (feed c e a)
def V2:Cp:=λa Q=>∃(g:Gd) (n:Int),a=[gD g,.int n]/\g.cv.length<=5/\Q (gD (U0 g n))
def W6:Cp:=λa Q=>∃(q:D) (b:Bd),a=[q]/\Vb q b/\j6 b/\Q (.dic (i6 b (j5 b)))
def N3:Cp:=λb Q=>∃(d:D) (ns:YI) (a:YF) (u t:Int),b=[d,kT a,.int u,.int t]/\Kc d ns/\1<=a.length/\a.length<=8/\a.Nodup/\W4 u t/\∀gs:List Gd,gs.map (·.nm)=a->Jf gs->(∀g∈gs,T9 g.cv)->(∀g∈gs,0<=g.de)->(∀g∈gs,0<=g.wa)->TC gs u t->Q (.lst (gs.map gD))
def T4:Cp:=λb Q=>∃(d:D) (ns:YI) (a:YF) (gs:List Gd) (u t:Int),b=[d,kT a,.lst (gs.map gD),.int u,.int t]/\Kc d ns/\1<=gs.length/\gs.length<=8/\a.length<=8/\W4 u t/\∀ls:List Ld,ls.map (·.nm)=a->(∀l∈ls,l.cs.length<=4)->(∀l∈ls,∀p∈l.cs,1<=p.1/\0<=p.2)->(∀l∈ls,0<=l.la)->(∀l∈ls,∃g∈gs,g.nm=l.at_)->TK ls u t->Q (.lst (ls.map lD))
def S2:Cp:=λa Q=>∃(d:D) (ns:YI) (u t:Int),a=[d,.int u,.int t]/\Kc d ns/\W4 u t/\∀b,j6 b->Tu b u t->Q (bD b)
def cU:Cp:=λa Q=>∃(d:D) (ns:YI),a=[d]/\Kc d ns/\∀(b:Bd) (u t:Int),j6 b->Tu b u t->W4 u t->Q (.tup [bD b,.int u])
def wY(b:Bd)(x:Str):Gd:=(b.gs.find? λg=>decide (g.nm=x)).getD ⟨x,none,[],0,0⟩
def X8(b:Bd)(x:Str):Bool:=b.ls.any λl=>decide (l.nm=x)&&!l.on
def M8(b:Bd)(x:Str):List (Gd×Int):=bif X8 b x then[] else(j8 b x).map λy=>(wY b y,j5 b y)
def kS(ps:List (Gd×Int)):D:=.lst (ps.map λr=>.tup [gD r.1,.int r.2])
structure wI(ps:List (Gd×Int)):Prop where
 len:ps.length<=16
 cv:∀r∈ps,T9 r.1.cv
def fw(cv:List Pr)(n:Int):Option Int:=((cv.filter λp=>decide (p.1<=n)).getLast?).map (·.2)
def Y4:Option Int->D
 | none=>.p3
 | some n=>.int n
structure BE(ps:List (Gd×Int))(m:Int)(ls:YI):Prop where
 up:ls.Pairwise (·<·)
 mem:∀x,x∈ls ↔ x=1\/∃r∈ps,∃s∈r.1.cv,x=s.1-r.2/\x<=m
def cA:Cp:=λa Q=>∃(b:Bd),a=[bD b]/\j6 b/\Q (we (y8 b (j5 b)))
def kH:Cp:=λa Q=>∃(b:Bd) (x:Str),a=[bD b,.str x]/\j6 b/\x∈l7 b++L0 b/\Q (kS (M8 b x))
def au:Cp:=λa Q=>∃(b:Bd),a=[bD b]/\j6 b/\Q (kT (l7 b++L0 b))
def iH:Cm:=λb Q=>∃(c d k u:Int) (ps:List (Gd×Int)),b=[feed c d k,kS ps,.int u]/\0<=k/\k<=10^6/\1<=u/\u<=10^50+3/\wI ps/\∀(m e a:Int),1<=m->(m<10^60\/∃r∈ps,∃s∈r.1.cv,m<=s.1-r.2+1)->k<=a->a<=k+5->Q (.int m) (feed c e a)
def K2:Cp:=λa Q=>∃(b:Bd),a=[bD b]/\j6 b/\y8 b (j5 b)=[]/\Q (.dic (i6 b (j5 b)))
def bp:Cp:=λa Q=>∃(b:Bd) (x:Str),a=[bD b,.str x]/\j6 b/\x∈l7 b++L0 b/\y8 b (j5 b)=[]/\Q (kS (M8 b x))
def J6:Cp:=λa Q=>∃(g:Gd) (n:Int),a=[.tup [gD g,.int n]]/\T9 g.cv/\Q (.int (lo g.cv-n))
def hX(cv:List Pr)(n:Int):Int:=(cv.filter λp=>decide (p.1<=n)).length
def wD:Cp:=λa Q=>∃(cv:List Pr) (n:Int),a=[.tup (cv.map pr),.int n]/\T9 cv/\Q (.int (hX cv n))
def S6:Cp:=λa Q=>∃(cv:List Pr) (n:Int),a=[.tup (cv.map pr),.int n]/\T9 cv/\Q (Y4 (fw cv n))
def Y9:Cp:=λa Q=>∃(ps:List (Gd×Int)) (m:Int),a=[kS ps,.int m]/\wI ps/\ps.length<=8/\∀ls,BE ps m ls->Q (.lst (ls.map D.int))
def G2(r:Gd×Int)(n:Int)(a:Bool):Option Int:=(fw r.1.cv (r.2+n)).map λt=>bif a then t+r.1.wa else t
def x5(n:Int):Bool->List (Gd×Int)->List (Option Int)
 | _,[]=>[]
 | a,r::b=>G2 r n a::x5 n (fw r.1.cv (r.2+n)).isSome b
def U5:Cp:=λa Q=>∃(ps:List (Gd×Int)) (n:Int),a=[kS ps,.int n]/\wI ps/\Q (.lst ((x5 n false ps).map Y4))
def Rf:g9:=(u9 (bt hW (a9 (kU [none,some 1] (C6 (a6 0)) (g1 0) (uT (o5 vY (g4 (a6 0) (uC (.int 0))) (a6 1))) (u6 (a6 0))) g7)))
def lW:g9:=(u9 (uC .p3))
def yi:g9:=(u9 (u6 (g4 (g4 (a6 0) (o5 Z6 (a6 2) (uC (.int 1)))) (uC (.int 1)))))
def vZ:g9:=(e7 (dg (tP (uT (o5 (aQ false) (a6 2) (uC (.int 0))))) lW C5) yi)
def uM:g9:=(e7 (o8 2 (j4 wD (a9 (a6 0) (a9 (a6 1) g7)))) vZ)
def Ba:g9:=(u9 (bt si (a9 (o5 p4 (S9 (a9 (uC (.int 1)) g7)) (kU [none,some 1] (C6 (a6 2)) (g1 0) (uT (o5 vY (a6 0) (a6 1))) (u6 (a6 0)))) g7)))
def yr:g9:=(e7 (o8 2 (RS [none,none,none] (C6 (a6 0)) (gT (l4 (g1 0) (l4 (g1 1) N1))) N5 (tupI (g4 (a6 0) (uC (.int 2)))) (g1 2) N5 (o5 Z6 (g4 (a6 2) (uC (.int 0))) (a6 1)))) Ba)
def lq:g9:=(MJ 6 (λi j=>i+j) (g4 (a6 4) (uC (.int 4))))
def W8:g9:=(aF (gN 2 (mP (u6 (a6 6)))))
def lC:g9:=(e7 (dg (tP (kJ (uT (o5 (Y6 true) (a6 6) (uC .p3))) (kJ (uT (o5 LP (a6 3) (uC (.int 0)))) (uT (o5 (Y6 true) (g4 (a6 2) (o5 Z6 (a6 3) (uC (.int 1)))) (uC .p3)))))) lq C5) W8)
def mf:g9:=(e7 (o8 6 (j4 S6 (a9 (g4 (a6 4) (uC (.int 2))) (a9 (o5 p4 (a6 5) (a6 1)) g7)))) lC)
def vz:g9:=(u9 (a6 2))
def vB:g9:=(e7 (N4 (iP (RP (a6 0))) (gT (l4 (g1 3) (l4 (gT (l4 (g1 4) (l4 (g1 5) N1))) N1))) mf) vz)
def uF:g9:=(e7 (o8 2 (S9 g7)) vB)
def uz:g9:=(u9 (kU [none] (C6 (a6 0)) (g1 0) N5 (u6 (g4 (a6 0) (uC (.int 0))))))
def sU:g9:=(o8 1 (g4 (a6 2) (a6 1)))
def sX:g9:=(e7 (aF (gN 4 (mP (u6 (a6 1))))) sU)
def Cw:g9:=(u9 (a6 4))
def Er:g9:=(e7 (FY (tP (uT (o5 (Y6 true) (a6 1) (uC .p3)))) sX) Cw)
def qK:g9:=(e7 (o8 4 (S9 g7)) Er)
def DM:g9:=(e7 (o8 2 (MI [none] (C6 (a6 0)) (g1 0) N5 (g4 (a6 0) (uC (.int 0))) (g4 (a6 0) (uC (.int 1))))) qK)
def om:g9:=(u9 (j4 P1 (a9 (g4 (a6 0) (uC (.int 0))) g7)))
def rF:g9:=(u9 (j4 P1 (a9 (g4 (a6 0) (uC (.int 1))) g7)))
def mM:g9:=(u9 (KG (bt Py (a9 (a6 1) (a9 (uC (.ty "str")) g7))) (o5 (qG false) (a6 1) (j4 B3 (a9 (a6 0) g7)))))
def qL:g9:=(u9 (KG (bt Py (a9 (a6 1) (a9 (uC (.ty "str")) g7))) (o5 (qG false) (a6 1) (j4 U2 (a9 (a6 0) g7)))))
def mV:g9:=(u9 (Ui (j4 O5 (a9 (a6 0) (a9 (a6 1) g7))) (j4 S3 (a9 (a6 0) (a9 (a6 1) g7)))))
def cW:Cp:=λa Q=>∃(b:Bd) (x:Str),a=[bD b,.str x]/\j6 b/\x∈l7 b++L0 b/\Q (kT (j8 b x))
def sO:g9:=pO
def FJ:g9:=(u9 (j4 cu (a9 (g4 (a6 0) (uC (.int 0))) (a9 (jU (a6 2) (a6 1) (a6 1)) g7))))
def Gr:g9:=(e7 (o8 2 (MI [none] (C6 (g4 (a6 0) (uC (.int 1)))) (g1 0) N5 (g4 (a6 0) (uC (.int 0))) (g4 (a6 0) (uC (.int 1))))) FJ)
def En:g9:=(e7 (dg (tP (DG (ve (j4 N6 (a9 (a6 0) (a9 (a6 1) g7)))))) sO C5) Gr)
def rg:g9:=(u9 (u6 (g4 (a6 2) (uC (.int 0)))))
def sV:g9:=(dg (tP (uT (o5 Ug (g4 (a6 1) (g4 (a6 2) (uC (.int 0)))) (g4 (g4 (g4 (a6 2) (uC (.int 2))) (uC (.int 0))) (uC (.int 0)))))) rg C5)
def Fp:g9:=(u9 (uC .p3))
def Gk:g9:=(e7 (N4 (iP (C6 (g4 (a6 0) (uC (.int 0))))) (g1 2) sV) Fp)
def Ea:g9:=(e7 (o8 1 (j4 W6 (a9 (a6 0) g7))) Gk)
def vg:g9:=(u9 (S9 g7))
def wO:g9:=(dg (tP (kJ (uT (o5 (aQ false) (g4 (a6 4) (uC (.int 0))) (a6 1))) (DG (ve (g4 (a6 4) (uC (.int 4))))))) vg C5)
def yz:g9:=(u9 (kU [none,some 2,some 3] (C6 (g4 (j4 aP (a9 (a6 0) g7)) (a6 1))) (g1 0) N5 (U7 (a9 (u6 (g4 (a6 1) (a6 0))) (a9 (u6 (g4 (a6 2) (a6 0))) g7)))))
def IP:g9:=(e7 (N4 (iP (C6 (g4 (a6 0) (uC (.int 1))))) (g1 4) wO) yz)
def JV:g9:=(e7 (o8 3 (j4 W6 (a9 (a6 0) g7))) IP)
def MO:g9:=(e7 (o8 2 (bt vT (a9 (kU [none] (C6 (g4 (a6 0) (uC (.int 0)))) (g1 0) N5 (U7 (a9 (u6 (g4 (a6 0) (uC (.int 0)))) (a9 (u6 (a6 0)) g7)))) g7))) JV)
def yB:g9:=(u9 (o5 p4 (kU [none] (C6 (g4 (a6 0) (uC (.int 0)))) (g1 0) N5 (u6 (g4 (a6 0) (uC (.int 0))))) (kU [none] (C6 (g4 (a6 0) (uC (.int 1)))) (g1 0) N5 (u6 (g4 (a6 0) (uC (.int 0)))))))
def wd:g9:=(u9 (o5 Z6 (o5 Cn (uC (.int 10)) (uC (.int 60))) (uC (.int 1))))
def jq:g9:=(GK (aL p4 (mP (uC (.int 1))) (aL E7 (u4 0 p7 (j7 (mP (uC (.int 60))) y1)) (mP (a6 2)))))
def Lu:g9:=(GK (QD (Qx λi j=>if j>i then j else i) (j7 (mP (uC (.int 1))) (j7 (aL p4 (mP (o5 Z6 (o5 Z6 (g4 (a6 6) (uC (.int 0))) (a6 5)) (uC (.int 1)))) (u4 0 p7 (j7 (mP (uC (.int 3))) y1))) y1))))
def Jz:g9:=(e7 (G0 6 (vK (je (mP (g4 (a6 4) (uC (.int 2)))) (u4 0 p7 (j7 (mP (bt hW (a9 (g4 (a6 4) (uC (.int 2))) g7))) y1))))) Lu)
def zK:g9:=(e7 (Mm (gT (l4 (g1 4) (l4 (g1 5) N1))) (je (mP (a6 1)) (u4 0 p7 (j7 (mP (bt hW (a9 (a6 1) g7))) y1)))) Jz)
def Je:g9:=(e7 (dg (tP (Te (uT (o5 Tp (a6 3) (uC (.int 3)))) (uT (o5 (aQ false) (bt hW (a9 (a6 1) g7)) (uC (.int 0)))))) jq C5) zK)
def Kp:g9:=(e7 (dg (tP (uT (o5 (aQ false) (a6 3) (uC (.int 0))))) wd C5) Je)
def Me:g9:=(e7 (G0 3 (u4 0 p7 (j7 (mP (uC (.int 8))) y1))) Kp)
def gQ:g9:=pO
def pJ:g9:=(u9 (j4 gp (a9 (a6 0) g7)))
def pP:g9:=(e7 (dg (tP (uT (o5 (Y6 true) (a6 1) (uC .p3)))) gQ C5) pJ)
def kh:g9:=(e7 (o8 1 (j4 cQ (a9 (a6 0) g7))) pP)
def tD:g9:=(u9 (S9 g7))
def Fe:g9:=(u9 (kU [none,some 4,some 3] (C6 (a6 2)) (g1 0) N5 (U7 (a9 (u6 (g4 (a6 1) (a6 0))) (a9 (u6 (g4 (a6 2) (a6 0))) g7)))))
def Hj:g9:=(e7 (o8 4 (MI [none] (C6 (g4 (a6 0) (uC (.int 0)))) (g1 0) N5 (g4 (a6 0) (uC (.int 0))) (a6 0))) Fe)
def GD:g9:=(e7 (dg (tP (uT (o5 (qG false) (a6 1) (kU [none] (C6 (g4 (a6 0) (uC (.int 1)))) (g1 0) (DG (ve (g4 (a6 0) (uC (.int 4))))) (u6 (g4 (a6 0) (uC (.int 0)))))))) tD C5) Hj)
def FO:g9:=(e7 (o8 3 (j4 K2 (a9 (a6 0) g7))) GD)
def GW:g9:=(e7 (o8 2 (j4 cW (a9 (a6 0) (a9 (a6 1) g7)))) FO)
def xH:g9:=(u9 (o5 Z6 (j4 P2 (a9 (g4 (a6 1) (uC (.int 2))) g7)) (a6 2)))
def sP:g9:=(e7 (Nd (gT (l4 (g1 1) (l4 (g1 2) N1))) (a6 0)) xH)
def Q0(ps:List (Gd×Int))(n:Int)(j:Nat):Option Int:=(ps[j]?).bind λr=>fw r.1.cv (r.2+n)
def O8(ps:List (Gd×Int))(i:Nat)(n:Int):Option Int:=match Q0 ps n 0,Q0 ps n i,ps[i]? with
 | some a,some b,some r=>some (a-(bif (Q0 ps n (i-1)).isSome then b+r.1.wa else b)+1)
 | _,_,_=>none
def w5(ps:List (Gd×Int))(i:Nat)(o:Option (Int×Int))(low:Int):Option (Int×Int):=match O8 ps i low with
 | none=>o
 | some k=>match o with
  | none=>some (k,low)
  | some (a,b)=>if a<k then some (k,low) else some (a,b)
open Classical in
def eO(ps:List (Gd×Int))(m:Int):YI:=if h:∃l,BE ps m l then h.choose else[]
def Q8(ps:List (Gd×Int))(i:Nat)(m:Int):Option (Int×Int):=(eO ps m).foldl (w5 ps i) none
def Cy:Option (Int×Int)->D
 | none=>.p3
 | some (k,l)=>.tup [.int k,.int l]
def C1:Cp:=λa Q=>∃(ps:List (Gd×Int)) (i:Nat) (m:Int),a=[kS ps,.int i,.int m]/\wI ps/\ps.length<=8/\1<=i/\i<ps.length/\Q (Cy (Q8 ps i m))
def M0(b:Bd)(x:Str)(o:Option (Int×Int))(i:Nat):List D:=match o,(M8 b x)[i]? with
 | some (k,l),some r=>[.tup [.str x,.str r.1.nm,.int k,.int l]]
 | _,_=>[]
def D5(b:Bd)(m:Int)(x:Str):List D:=(List.range ((M8 b x).length-1)).flatMap λk=>M0 b x (Q8 (M8 b x) (1+k) m) (1+k)
def M3:Cp:=λa Q=>∃(b:Bd) (m:Int),a=[bD b,.int m]/\j6 b/\b.gs.length<=8/\y8 b (j5 b)=[]/\Q (.lst ((l7 b).flatMap (D5 b m)))
def cK:g9:=(o8 3 (U7 (a9 (u6 (a6 6)) (a9 (u6 (a6 4)) g7))))
def cT:g9:=(dg (tP (Te (uT (o5 (Y6 false) (a6 3) (uC .p3))) (uT (o5 LP (a6 6) (g4 (a6 3) (uC (.int 0))))))) cK C5)
def cI:g9:=(e7 (o8 6 (o5 p4 (o5 Z6 (g4 (a6 5) (uC (.int 0))) (g4 (a6 5) (a6 1))) (uC (.int 1)))) cT)
def cL:g9:=(dg (tP (kJ (uT (o5 (Y6 true) (g4 (a6 5) (uC (.int 0))) (uC .p3))) (uT (o5 (Y6 true) (g4 (a6 5) (a6 1)) (uC .p3))))) cI C5)
def cX:g9:=(e7 (o8 5 (j4 U5 (a9 (a6 0) (a9 (a6 4) g7)))) cL)
def gR:g9:=(u9 (u6 (a6 3)))
def gY:g9:=(e7 (N4 (iP (C6 (j4 Y9 (a9 (a6 0) (a9 (a6 2) g7))))) (g1 4) cX) gR)
def cb:g9:=(e7 (o8 3 (uC .p3)) gY)
def lT:g9:=(aF (gN 2 (mP (U7 (a9 (u6 (a6 3)) (a9 (u6 (g4 (g4 (g4 (a6 4) (a6 5)) (uC (.int 0))) (uC (.int 0)))) (a9 (u6 (g4 (a6 6) (uC (.int 0)))) (a9 (u6 (g4 (a6 6) (uC (.int 1)))) g7))))))))
def mh:g9:=(dg (tP (uT (o5 (Y6 true) (a6 6) (uC .p3)))) lT C5)
def kZ:g9:=(e7 (o8 6 (j4 C1 (a9 (a6 4) (a9 (a6 5) (a9 (a6 1) g7))))) mh)
def lQ:g9:=(N4 (iP (Mk (a9 (uC (.int 1)) (a9 (bt hW (a9 (a6 4) g7)) g7)))) (g1 5) kZ)
def mr:g9:=(e7 (o8 4 (j4 bp (a9 (a6 0) (a9 (a6 3) g7)))) lQ)
def xK:g9:=(u9 (a6 2))
def xN:g9:=(e7 (N4 (iP (C6 (j4 B3 (a9 (a6 0) g7)))) (g1 3) mr) xK)
def tj:g9:=(e7 (o8 2 (S9 g7)) xN)
def wk(r:Gd×Int):Int:=lo r.1.cv-r.2
def cy(m:Int):List (Gd×Int)->Option (Str×Int)
 | []=>none
 | p::ps=>(ps.find? λr=>decide (wk r<=m)&&decide (wk r<wk p)).map λr=>(r.1.nm,wk r)
def D3(b:Bd)(m:Int)(xs:YF):Option (Str×Str×Int):=xs.findSome? λx=>(cy m (M8 b x)).map λq=>(x,q.1,q.2)
def Tg:Option (Str×Str×Int)->D
 | none=>.p3
 | some (x,y,n)=>.tup [.str x,.str y,.int n]
def Z9:Cp:=λa Q=>∃(b:Bd) (m:Int),a=[bD b,.int m]/\j6 b/\y8 b (j5 b)=[]/\Q (Tg (D3 b m (l7 b)))
def S4:Cp:=λc Q=>∃(b:Bd) (u t:Int),c=[bD b]/\j6 b/\Tu b u t/\W4 u t/\∀a,j6 a->a.gs.length<=8->Q (bD a)
def jF:Cp:=λe Q=>∃(d:D) (ns:YI),e=[d]/\Kc d ns/\∀(b:Bd) (m c g a:Int),j6 b->b.gs.length<=8->1<=m->m<=10^60->0<=a->a<=10^5->Q (.tup [bD b,.int m,feed c g a])
def qv:g9:=(u9 (U7 (a9 (u6 (a6 2)) (a9 (u6 (g4 (g4 (a6 5) (uC (.int 0))) (uC (.int 0)))) (a9 (j4 J6 (a9 (a6 5) g7)) g7)))))
def tK:g9:=(dg (tP (kJ (uT (o5 vY (j4 J6 (a9 (a6 5) g7)) (a6 1))) (uT (o5 Tp (j4 J6 (a9 (a6 5) g7)) (a6 4))))) qv C5)
def uG:g9:=(N4 (iP (C6 (qD (a6 3) (aE (uC (.int 1))) gK))) (g1 5) tK)
def sr:g9:=(e7 (o8 4 (j4 J6 (a9 (g4 (a6 3) (uC (.int 0))) g7))) uG)
def gv:g9:=(e7 (o8 3 (j4 bp (a9 (a6 0) (a9 (a6 2) g7)))) sr)
def Fx:g9:=(u9 (uC .p3))
def Dx:g9:=(e7 (N4 (iP (C6 (j4 B3 (a9 (a6 0) g7)))) (g1 2) gv) Fx)
def lL:g9:=(GO 2 (mP (bt (Qx λi j=>if j>i then j else i) (a9 (xM (a6 2) (g4 (a6 4) (uC (.int 1))) (uC (.int 0))) (a9 (a6 6) g7)))) (mP (g4 (a6 4) (uC (.int 1)))))
def lM:g9:=(e7 (aF (gN 3 (mP (j4 V2 (a9 (a6 4) (a9 (o5 Z6 (a6 6) (a6 5)) g7)))))) lL)
def mw:g9:=(e7 (o8 6 (bt (Qx λi j=>if j>i then j else i) (a9 (xM (a6 2) (g4 (a6 4) (uC (.int 0))) (uC (.int 0))) (a9 (a6 5) g7)))) lM)
def lz:g9:=(e7 (o8 5 (o5 Z6 (g4 (g4 (g4 (a6 4) (uC (.int 2))) (uC (.int 0))) (uC (.int 0))) (g4 (a6 1) (g4 (a6 4) (uC (.int 0)))))) mw)
def xD:g9:=(u9 (U7 (a9 (bt Z2 (a9 (LJ (a6 3) (aE (Sl GZ (uC (.int 1))))) g7)) (a9 (u6 (g4 (a6 0) (uC (.int 1)))) g7))))
def ym:g9:=(e7 (N4 (iP (C6 (Dv (g4 (a6 0) (uC (.int 0))) (aE (Sl GZ (uC (.int 1))))))) (g1 4) lz) xD)
def xR:g9:=(e7 (o8 3 (S9 g7)) ym)
def xp:g9:=(e7 (o8 2 (uC (.dn []))) xR)
def sd:g9:=(e7 (o8 1 (j4 W6 (a9 (a6 0) g7))) xp)
def vf:g9:=(o8 1 (j4 S4 (a9 (a6 1) g7)))
def Jy:g9:=(LH 3 (mP (u6 (a6 1))) (u4 3 iH (j7 (FG kH (j7 (mP (a6 1)) (j7 (je (mP (a6 4)) (u4 3 p7 (j7 (mP (bt hW (a9 (a6 4) g7))) y1))) y1))) (j7 (mP (a6 2)) y1))))
def yJ:g9:=(e7 (o8 4 (j4 au (a9 (a6 1) g7))) Jy)
def KA:g9:=(e7 (dg (mT (aL LP (u4 3 p7 (j7 (mP (uC (.int 4))) y1)) (mP (uC (.int 0))))) vf C5) yJ)
def IW:g9:=(e7 (o8 3 (j4 aC (a9 (a6 0) (a9 (uC (.int 19)) g7)))) KA)
def LN:g9:=(e7 (Nd (gT (l4 (g1 1) (l4 (g1 2) N1))) (j4 cU (a9 (a6 0) g7))) IW)
abbrev Pa:=Str×Str×Int×Int
def LI(r:Pa):D:=.tup [.str r.1,.str r.2.1,.int r.2.2.1,.int r.2.2.2]
def nq(b:Bd)(x:Str)(o:Option (Int×Int))(i:Nat):List Pa:=match o,(M8 b x)[i]? with
 | some (k,l),some r=>[(x,r.1.nm,k,l)]
 | _,_=>[]
def ja(b:Bd)(m:Int):List Pa:=(l7 b).flatMap λx=>(List.range ((M8 b x).length-1)).flatMap λk=>nq b x (Q8 (M8 b x) (1+k) m) (1+k)
def hV(xs:YF)(r:Pa):Prop:=∃i j:Nat,i<j/\xs[i]?=some r.2.1/\xs[j]?=some r.1
structure IsL(xs:YF)(rs:List Pa)(f:Str->Int):Prop where
 nn:∀x∈xs,0<=f x
 ge:∀r∈rs,f r.1+r.2.2.1<=f r.2.1
 at_:∀x∈xs,0<f x->∃r∈rs,r.2.1=x/\f r.1+r.2.2.1=f x
def gX(f:Str->Int)(x:Str)(r:Pa):Bool:=decide (r.2.1=x)&&decide (f r.1+r.2.2.1=f x)
def af(a:List Pa)(f:Str->Int)(x:Str):List D:=bif decide (f x>0) then((a.find? (gX f x)).map λr=>D.tup [.str x,.str r.1,.int r.2.2.2]).toList else[]
def B7:Cp:=λa Q=>∃(b:Bd) (m:Int),a=[bD b,.int m]/\j6 b/\b.gs.length<=8/\y8 b (j5 b)=[]/\D3 b m (l7 b)=none/\Q (.lst ((ja b m).map LI))
def P7:Cp:=λc Q=>∃(b:Bd) (a:List Pa),c=[bD b,.lst (a.map LI)]/\j6 b/\(∀r∈a,hV (l7 b) r)/\∀f,IsL (l7 b) a f->Q (.dic (i6 b f))
def aU:Cp:=λa Q=>∃(b:Bd) (m:Int),a=[bD b,.int m]/\j6 b/\b.gs.length<=8/\y8 b (j5 b)=[]/\D3 b m (l7 b)=none/\∀f,IsL (l7 b) (ja b m) f->Q (.lst ((l7 b).flatMap (af (ja b m) f)))
def eN:g9:=pO
def jR:g9:=(u9 (j4 M3 (a9 (a6 0) (a9 (a6 1) g7))))
def iM:g9:=(e7 (dg (tP (uT (o5 (Y6 true) (a6 2) (uC .p3)))) eN C5) jR)
def eP:g9:=(e7 (o8 2 (j4 Z9 (a9 (a6 0) (a9 (a6 1) g7)))) iM)
def mz:g9:=(aX 2 (mP (bt (Qx λi j=>if j>i then j else i) (a9 (g4 (a6 2) (a6 3)) (a9 (o5 p4 (g4 (a6 2) (a6 4)) (a6 6)) g7)))) (mP (a6 3)))
def kY:g9:=(dg (tP (uT (o5 (aQ false) (a6 5) (a6 3)))) mz C5)
def lU:g9:=(N4 (iP (C6 (a6 1))) (gT (l4 (g1 4) (l4 (g1 5) (l4 (g1 6) (l4 (g1 7) N1))))) kY)
def wV:g9:=(u9 (a6 2))
def vj:g9:=(e7 (N4 (iP (Mh (j4 B3 (a9 (a6 0) g7)))) (g1 3) lU) wV)
def tG:g9:=(e7 (o8 2 (MI [none] (C6 (j4 B3 (a9 (a6 0) g7))) (g1 0) N5 (a6 0) (uC (.int 0)))) vj)
def qr:g9:=(aF (gN 4 (mP (u6 (g4 (a6 6) (uC (.int 0)))))))
def sI:g9:=(dg (tP (uT (o5 LP (g4 (a6 3) (a6 5)) (uC (.int 0))))) qr C5)
def sx:g9:=(e7 (o8 6 (kU [none,none,none,none,some 5,some 3] (C6 (a6 2)) (gT (l4 (g1 0) (l4 (g1 1) (l4 (g1 2) (l4 (g1 3) N1))))) (kJ (uT (o5 (aQ false) (a6 1) (a6 4))) (uT (o5 (aQ false) (o5 p4 (g4 (a6 5) (a6 0)) (a6 2)) (g4 (a6 5) (a6 4))))) (U7 (a9 (u6 (a6 4)) (a9 (u6 (a6 0)) (a9 (u6 (a6 3)) g7)))))) sI)
def Gq:g9:=(u9 (a6 4))
def CW:g9:=(e7 (N4 (iP (C6 (j4 B3 (a9 (a6 0) g7)))) (g1 5) sx) Gq)
def Ct:g9:=(e7 (o8 4 (S9 g7)) CW)
def Fc:g9:=(e7 (o8 3 (j4 P7 (a9 (a6 0) (a9 (a6 2) g7)))) Ct)
def Dw:g9:=(e7 (o8 2 (j4 B7 (a9 (a6 0) (a9 (a6 1) g7)))) Fc)
def bS(b:Bd)(v:Str->Int):Bd:=⟨b.gs.map λg=>{ g with de:=v g.nm },b.ls⟩
def y3:Cp:=λa Q=>∃(b:Bd) (m:Int),a=[bD b,.int m]/\j6 b/\b.gs.length<=8/\y8 b (j5 b)=[]/\D3 b m (l7 b)=none/\∀f,IsL (l7 b) (ja b m) f->Q (.dic (i6 b f))
def jN:Cp:=λa Q=>∃(b:Bd) (v:Str->Int),a=[bD b,.dic (i6 b v)]/\j6 b/\Q (bD (bS b v))
def cP:Cp:=λa Q=>∃(d:D) (ns:YI),a=[d]/\Kc d ns/\ns.length<=63/\Q (.bl true)
def dR:g9:=(u9 (j4 P7 (a9 (a6 0) (a9 (j4 B7 (a9 (a6 0) (a9 (a6 1) g7))) g7))))
def Iq:g9:=(u9 (U7 (a9 (bt Z2 (a9 (a6 2) g7)) (a9 (u6 (g4 (a6 0) (uC (.int 1)))) g7))))
def Mq:g9:=(e7 (o8 2 (kU [none,some 1] (C6 (g4 (a6 0) (uC (.int 0)))) (g1 0) N5 (o5 p4 (o5 p4 (qD (a6 0) gK (aE (uC (.int 3)))) (U7 (a9 (u6 (g4 (a6 1) (g4 (a6 0) (uC (.int 0))))) g7))) (qD (a6 0) (aE (uC (.int 4))) gK)))) Iq)
def tB:g9:=(o8 4 (kU [none,some 2,some 3] (gF (a6 1)) (g1 0) N5 (o5 E7 (g4 (a6 1) (o5 jj (o5 p4 (a6 2) (a6 0)) (uC (.int 26)))) (o5 p4 (uC (.int 1)) (o5 Ln (a6 0) (uC (.int 26)))))))
def uf:g9:=(aF (gN 4 (mP (o5 p4 (DN (uC (.str "")) (kU [none,some 2] (C6 (a6 11)) (g1 0) N5 (u6 (g4 (a6 1) (a6 0))))) (o5 E7 (g4 (a6 2) (a6 3)) (o5 E7 (a6 9) (o5 jj (a6 10) (uC (.int 2)))))))))
def qN:g9:=(e7 (BG 11 (mP (o5 jj (o5 p4 (g4 (a6 6) (a6 8)) (o5 Ln (a6 10) (uC (.int 26)))) (uC (.int 26)))) (mP (a6 8))) uf)
def tX:g9:=(e7 (BG 11 (mP (o5 jj (o5 p4 (g4 (a6 6) (a6 7)) (a6 10)) (uC (.int 26)))) (mP (a6 7))) qN)
def pX:g9:=(e7 (o8 11 (bt Mn (a9 (a6 6) g7))) tX)
def rT:g9:=(N4 (iP (gF (a6 1))) (g1 10) pX)
def uE:g9:=(e7 (o8 4 (S9 g7)) rT)
def sM:g9:=(e7 (G0 9 (aL E7 (u4 0 p7 (j7 (mP (uC (.int 2))) y1)) (mP (bt uK (a9 (o5 Tp (a6 5) (uC (.int 8))) g7))))) uE)
def qE:g9:=(e7 (G0 8 (aL jj (aL p4 (mP (o5 p4 (a6 7) (uC (.int 1)))) (u4 0 p7 (j7 (mP (o5 Z6 (a6 5) (uC (.int 1)))) y1))) (mP (a6 5)))) sM)
def sQ:g9:=(e7 (G0 7 (u4 0 p7 (j7 (mP (a6 5)) y1))) qE)
def tW:g9:=(e7 (G0 6 (Vj 1 0 [none,some 0] (iP (gF (a6 5))) (g1 0) RB (u4 1 p7 (j7 (mP (uC (.int 26))) y1)))) sQ)
def qY:g9:=(e7 (G0 5 (aL p4 (mP (uC (.int 2))) (u4 0 p7 (j7 (mP (uC (.int 7))) y1)))) tW)
def sG:g9:=(BG 4 (mP (u6 (a6 12))) (u4 0 p7 (j7 (mP (a6 1)) y1)))
def DI:g9:=(u9 (a6 4))
def qh:g9:=(e7 (dg (tP (kJ (uT (o5 (aQ true) (a6 12) (uC (.str "")))) (uT (o5 (qG true) (a6 12) (a6 4))))) sG C5) DI)
def uH:g9:=(e7 (G0 12 (vK (je (mP (S9 (a9 (uC (.str "guard")) (a9 (uC (.str "load")) (a9 (uC (.str "on")) (a9 (uC (.str "off")) (a9 (uC (.str "board")) (a9 (uC (.str "map")) (a9 (uC (.str "least")) (a9 (uC (.str "")) (a9 (uC (.str "")) (a9 (uC (.str "")) (a9 (uC (.str "")) g7))))))))))))) (u4 0 p7 (j7 (mP (uC (.int 11))) y1))))) qh)
def Hl:g9:=(e7 (dg (mT (aL (aQ false) (u4 0 p7 (j7 (mP (uC (.int 5))) y1)) (mP (uC (.int 0))))) tB qY) uH)
def Eh:g9:=(e7 (G0 3 (u4 0 p7 (j7 (mP (uC (.int 26))) y1))) Hl)
def DV:g9:=(e7 (o8 2 (uC (.str "abcdefghijklmnopqrstuvwxyz"))) Eh)
def gf:g9:=(aX 1 (mP (Pk (o5 CB (S9 (a9 (u6 (g4 (a6 2) (uC (.int 0)))) g7)) (jU (a6 1) (g4 (a6 2) (uC (.int 1))) (Pk (S9 g7)))))) (mP (g4 (a6 2) (uC (.int 0)))))
def gg:g9:=(aX 1 (mP (u6 (g4 (a6 1) (g4 (a6 3) (uC (.int 1)))))) (mP (g4 (a6 3) (uC (.int 0)))))
def Dh:g9:=(u9 (a6 1))
def uw:g9:=(e7 (N4 (iP (C6 (g4 (a6 0) (uC (.int 1))))) (g1 3) gg) Dh)
def CN:g9:=(e7 (N4 (iP (C6 (g4 (a6 0) (uC (.int 0))))) (g1 2) gf) uw)
def CL:g9:=(e7 (o8 1 (uC (.dic []))) CN)
def lI:g9:=(aF (gN 5 (aL p4 (mP (o5 p4 (g4 (a6 5) (Sl GZ (uC (.int 1)))) (uC (.int 1)))) (u4 0 p7 (j7 (mP (uC (.int 3))) y1)))))
def kX:g9:=(e7 (aF (gN 4 (aL p4 (mP (o5 p4 (g4 (a6 4) (Sl GZ (uC (.int 1)))) (uC (.int 1)))) (u4 0 p7 (j7 (mP (uC (.int 9))) y1))))) lI)
def ki:g9:=(u9 (bt Z2 (a9 (kU [none,some 1,some 2,some 4,some 5,some 3] (gF (a6 3)) (g1 0) N5 (U7 (a9 (o5 E7 (g4 (a6 3) (a6 0)) (a6 1)) (a9 (o5 E7 (g4 (a6 4) (o5 Z6 (o5 Z6 (a6 5) (uC (.int 1))) (a6 0))) (a6 2)) g7)))) g7)))
def xg:g9:=(e7 (N4 (iP (gF (o5 Z6 (a6 3) (uC (.int 1))))) (g1 6) kX) ki)
def xP:g9:=(e7 (G0 5 (IB (j7 (aL p4 (mP (uC (.int 1))) (u4 0 p7 (j7 (mP (uC (.int 3))) y1))) y1))) xg)
def vq:g9:=(e7 (G0 4 (IB (j7 (aL p4 (mP (uC (.int 1))) (u4 0 p7 (j7 (mP (uC (.int 10))) y1))) y1))) xP)
def rG:g9:=(e7 (G0 3 (aL p4 (mP (uC (.int 1))) (u4 0 p7 (j7 (mP (uC (.int 5))) y1)))) vq)
def zD:g9:=(u9 (o5 p4 (o5 p4 (qD (a6 0) gK (aE (uC (.int 2)))) (U7 (a9 (bt Z2 (a9 (kU [none,some 1] (C6 (g4 (a6 0) (uC (.int 2)))) (g1 0) N5 (U7 (a9 (o5 p4 (g4 (a6 0) (uC (.int 0))) (a6 1)) (a9 (u6 (g4 (a6 0) (uC (.int 1)))) g7)))) g7)) g7))) (qD (a6 0) (aE (uC (.int 3))) gK)))
def qc:g9:=(aX 2 (mP (o5 p4 (g4 (a6 2) (a6 4)) (o5 E7 (g4 (a6 3) (uC (.int 3))) (bt uK (a9 (g4 (a6 3) (uC (.int 4))) g7))))) (mP (a6 4)))
def gB:g9:=(N4 (iP (C6 (g4 (a6 1) (g4 (a6 3) (uC (.int 0)))))) (g1 4) qc)
def HK:g9:=(u9 (a6 2))
def rX:g9:=(e7 (N4 (iP (C6 (g4 (a6 0) (uC (.int 1))))) (g1 3) gB) HK)
def GQ:g9:=(e7 (o8 2 (bt vT (a9 (kU [none] (C6 (g4 (a6 0) (uC (.int 0)))) (g1 0) N5 (U7 (a9 (u6 (g4 (a6 0) (uC (.int 0)))) (a9 (uC (.int 0)) g7)))) g7))) rX)
def FU:g9:=(e7 (o8 1 (j4 aP (a9 (a6 0) g7))) GQ)
def ju:g9:=(aF (gN 4 (IK (j7 (mP (u6 (g4 (a6 1) (a6 5)))) (j7 (mP (g4 (o5 p4 (S9 (a9 (uC .p3) g7)) (a6 1)) (a6 7))) (j7 (mP (u6 (a6 8))) (j7 (mP (u6 (a6 9))) (j7 (aL E7 (u4 6 p7 (j7 (mP (uC (.int 3))) y1)) (mP (a6 3))) y1))))))))
def jm:g9:=(e7 (G0 9 (aL E7 (u4 6 p7 (j7 (mP (uC (.int 4))) y1)) (mP (a6 3)))) ju)
def kG:g9:=(e7 (G0 8 (u4 6 T5 (j7 (mP (a6 2)) (j7 (mP (a6 3)) y1)))) jm)
def jn:g9:=(e7 (G0 7 (vK (je (IB (j7 (u4 6 p7 (j7 (mP (o5 p4 (a6 5) (uC (.int 1)))) y1)) (j7 (mP (u6 (a6 5))) y1))) (QD uK (j7 (aL LP (u4 6 p7 (j7 (mP (uC (.int 3))) y1)) (mP (uC (.int 0)))) y1))))) kG)
def kq:g9:=(e7 (o8 6 (j4 aC (a9 (a6 0) (a9 (o5 p4 (uC (.int 2)) (a6 5)) g7)))) jn)
def uj:g9:=(u9 (a6 4))
def tI:g9:=(e7 (N4 (iP (gF (bt hW (a9 (a6 1) g7)))) (g1 5) kq) uj)
def ni:g9:=(e7 (o8 4 (S9 g7)) tI)
def mm:g9:=(aF (gN 9 (IK (j7 (aL E7 (aL p4 (mP (uC (.int 1))) (u4 7 p7 (j7 (mP (uC (.int 3))) y1))) (mP (a6 4))) (j7 (aL E7 (u4 7 p7 (j7 (mP (uC (.int 12))) y1)) (mP (a6 3))) y1)))))
def lB:g9:=(aF (gN 5 (IK (j7 (mP (u6 (g4 (a6 1) (a6 6)))) (j7 (mP (u6 (a6 8))) (j7 (mP (bt Z2 (a9 (a6 9) g7))) (j7 (aL E7 (u4 7 p7 (j7 (mP (uC (.int 4))) y1)) (mP (a6 3))) (j7 (aL LP (u4 7 p7 (j7 (mP (uC (.int 4))) y1)) (mP (uC (.int 0)))) y1))))))))
def lS:g9:=(e7 (N4 (RW (u4 7 p7 (j7 (mP (uC (.int 5))) y1))) (g1 10) mm) lB)
def lP:g9:=(e7 (o8 9 (S9 g7)) lS)
def lO:g9:=(e7 (G0 8 (vK (je (je (mP (a6 2)) (u4 7 p7 (j7 (mP (bt hW (a9 (a6 2) g7))) y1))) (mP (uC (.int 0)))))) lP)
def lE:g9:=(e7 (o8 7 (j4 aC (a9 (a6 0) (a9 (o5 p4 (uC (.int 10)) (a6 6)) g7)))) lO)
def xu:g9:=(u9 (a6 5))
def xB:g9:=(e7 (N4 (iP (gF (bt hW (a9 (a6 1) g7)))) (g1 6) lE) xu)
def sN:g9:=(e7 (o8 5 (S9 g7)) xB)
def lH:g9:=(o8 6 (kU [none,some 8] (C6 (a6 6)) (g1 0) N5 (j4 V2 (a9 (a6 0) (a9 (g4 (a6 1) (g4 (a6 0) (uC (.int 0)))) g7)))))
def jG:g9:=(u9 (U7 (a9 (bt Z2 (a9 (a6 6) g7)) (a9 (bt Z2 (a9 (a6 7) g7)) g7))))
def xo:g9:=(e7 (dg (mT (aL LP (u4 3 p7 (j7 (mP (uC (.int 8))) y1)) (mP (uC (.int 0))))) lH C5) jG)
def yh:g9:=(e7 (o8 8 (j4 W6 (a9 (U7 (a9 (a6 6) (a9 (a6 7) g7))) g7))) xo)
def wy:g9:=(e7 (o8 7 (j4 T4 (a9 (a6 0) (a9 (qD (a6 5) (aE (a6 4)) gK) (a9 (a6 6) (a9 (a6 1) (a9 (a6 2) g7))))))) yh)
def xZ:g9:=(e7 (o8 6 (j4 N3 (a9 (a6 0) (a9 (qD (a6 5) gK (aE (a6 4))) (a9 (a6 1) (a9 (a6 2) g7)))))) wy)
def vV:g9:=(e7 (G0 5 (CQ cB (mP (j4 aC (a9 (a6 0) (a9 (uC (.int 1)) g7)))) (j7 (aL p4 (mP (a6 4)) (u4 3 p7 (j7 (mP (uC (.int 9))) y1))) y1))) xZ)
def xX:g9:=(e7 (G0 4 (aL p4 (mP (uC (.int 1))) (u4 3 p7 (j7 (mP (uC (.int 8))) y1)))) vV)
def qm:g9:=(e7 (o8 3 (j4 aC (a9 (a6 0) (a9 (uC (.int 0)) g7)))) xX)
def HL:g9:=(u9 (U7 (a9 (j4 S2 (a9 (a6 0) (a9 (a6 2) (a9 (a6 3) g7)))) (a9 (u6 (a6 2)) g7))))
def Hf:g9:=(e7 (G0 3 (vK (je (mP (S9 (a9 (uC (.int 1)) (a9 (uC (.int 1)) (a9 (uC (.int 5)) (a9 (o5 Cn (uC (.int 10)) (uC (.int 40))) g7)))))) (u4 1 p7 (j7 (mP (uC (.int 4))) y1))))) HL)
def Ej:g9:=(e7 (G0 2 (vK (je (mP (S9 (a9 (uC (.int 1)) (a9 (uC (.int 1)) (a9 (uC (.int 7)) (a9 (o5 p4 (o5 Cn (uC (.int 10)) (uC (.int 50))) (uC (.int 3))) g7)))))) (u4 1 p7 (j7 (mP (uC (.int 4))) y1))))) Hf)
def Hg:g9:=(e7 (o8 1 (j4 aC (a9 (a6 0) (a9 (uC (.int 18)) g7)))) Ej)
def tV:g9:=(u9 (uC (.bl true)))
def rN:g9:=(aX 4 (aL E7 (u4 3 p7 (j7 (mP (uC (.int 9))) y1)) (je (mP (S9 (a9 (uC (.int 1)) (a9 (u6 (a6 2)) (a9 (o5 E7 (o5 Cn (uC (.int 10)) (uC (.int 60))) (o5 Cn (uC (.int 10)) (uC (.int 10)))) g7))))) (u4 3 p7 (j7 (mP (uC (.int 3))) y1)))) (mP (g4 (a6 5) (uC (.int 0)))))
def tF:g9:=(u9 (uC (.bl false)))
def tw:g9:=(u9 (uC (.bl false)))
def uB:g9:=(u9 (uC (.bl false)))
def qg:g9:=(dg (tP (kJ (uT (o5 (Y6 false) (a6 8) (uC .p3))) (uT (o5 (aQ true) (j4 aU (a9 (a6 9) (a9 (a6 2) g7))) (j4 aU (a9 (a6 1) (a9 (a6 2) g7))))))) uB C5)
def sv:g9:=(e7 (dg (tP (kJ (uT (o5 (Y6 false) (a6 8) (uC .p3))) (uT (o5 (Df true) (j4 y3 (a9 (a6 9) (a9 (a6 2) g7))) (j4 y3 (a9 (a6 1) (a9 (a6 2) g7))))))) tw C5) qg)
def tu:g9:=(e7 (dg (tP (Te (uT (o5 (aQ true) (j4 M3 (a9 (a6 9) (a9 (a6 2) g7))) (j4 M3 (a9 (a6 1) (a9 (a6 2) g7))))) (uT (o5 (aQ true) (j4 Z9 (a9 (a6 9) (a9 (a6 2) g7))) (a6 8))))) tF C5) sv)
def tZ:g9:=(u9 (uC (.bl true)))
def nV:g9:=(u9 (bt RF (a9 (kU [none,some 11,some 10] (LW (a6 10)) (g1 0) N5 (o5 vY (g4 (a6 1) (a6 0)) (g4 (a6 2) (a6 0)))) g7)))
def AM:g9:=(e7 (G0 11 (FG y3 (j7 (mP (a6 1)) (j7 (aL p4 (mP (uC (.int 1))) (u4 3 p7 (j7 (mP (a6 2)) y1))) y1)))) nV)
def Bc:g9:=(e7 (o8 10 (j4 y3 (a9 (a6 1) (a9 (a6 2) g7)))) AM)
def DW:g9:=(e7 (dg (tP (uT (o5 (Y6 true) (a6 8) (uC .p3)))) tZ C5) Bc)
def Gn:g9:=(e7 (N4 (iP (C6 (S9 (a9 (u6 (a6 6)) (a9 (u6 (a6 7)) g7))))) (g1 9) tu) DW)
def qM:g9:=(e7 (o8 8 (j4 Z9 (a9 (a6 1) (a9 (a6 2) g7)))) Gn)
def HI:g9:=(e7 (o8 7 (U7 (a9 (u6 (g4 (a6 1) (uC (.int 0)))) (a9 (bt Z2 (a9 (kU [none,none,none,none,none] (C6 (g4 (a6 1) (uC (.int 1)))) (gT (l4 (g1 0) (l4 (g1 1) (l4 (g1 2) (l4 (g1 3) (l4 (g1 4) N1)))))) N5 (U7 (a9 (u6 (a6 0)) (a9 (u6 (a6 1)) (a9 (U7 g7) (a9 (u6 (a6 3)) (a9 (u6 (a6 4)) g7))))))) g7)) g7)))) qM)
def rP:g9:=(e7 (o8 6 (j4 jN (a9 (a6 1) (a9 (a6 4) g7)))) HI)
def GV:g9:=(e7 (N4 (iP (C6 (g4 (a6 1) (uC (.int 0))))) (g1 5) rN) rP)
def Hd:g9:=(e7 (o8 4 (uC (.dic []))) GV)
def EN:g9:=(e7 (dg (tP (uT (o5 (Y6 true) (j4 cA (a9 (a6 1) g7)) (uC .p3)))) tV C5) Hd)
def HB:g9:=(e7 (Ff 1 2 3 (mP (j4 jF (a9 (a6 0) g7)))) EN)
def top(i:Nat):Stmt:=PySem.Challenge.pw_fuseboard_k55_delays_of_the_board_have_n.main.body.getD i (.Pass ⟨0,0,0,0⟩)
abbrev kE:Stmt:=top 1
abbrev Iz:Stmt:=top 2
abbrev kO:Stmt:=top 3
abbrev eu:Stmt:=top 10
abbrev fA:Stmt:=top 11
abbrev iQ:Stmt:=top 12
abbrev fT:Stmt:=top 13
abbrev km:Stmt:=top 14
abbrev fK:Stmt:=top 15
abbrev oE:Stmt:=top 16
abbrev oz:Stmt:=top 17
abbrev cM:Stmt:=top 19
abbrev bN:Stmt:=top 21
abbrev vI:Stmt:=top 20
abbrev ze:Stmt:=top 22
abbrev pV:Stmt:=top 23
abbrev xQ:Stmt:=top 24
abbrev cY:Stmt:=top 25
abbrev fY:Stmt:=top 27
abbrev eS:Stmt:=top 28
abbrev jC:Stmt:=top 29
abbrev W2:Stmt:=top 32
abbrev kN:Stmt:=top 31
abbrev jK:Stmt:=top 34
abbrev wb:Stmt:=top 33
abbrev ay:Stmt:=top 38
abbrev dF:Stmt:=top 39
abbrev ae:Stmt:=top 36
abbrev oV:Stmt:=top 37
abbrev pF:Stmt:=top 41
abbrev Fs:Stmt:=top 42
abbrev Dc:Stmt:=top 43
abbrev fq:Stmt:=top 44
abbrev xh:Stmt:=top 45
abbrev dH:Stmt:=top 46
abbrev hZ:Stmt:=top 47
abbrev pE:Stmt:=top 48
abbrev fS:Stmt:=top 49
abbrev jd:Stmt:=top 50
abbrev dD:Stmt:=top 51
abbrev sR:Stmt:=top 52
abbrev wB:Stmt:=top 55
abbrev dQ:Stmt:=top 56
abbrev xJ:Stmt:=top 57
abbrev DY:Stmt:=top 58
abbrev kL:Stmt:=top 59
abbrev FC:Stmt:=top 60
abbrev yD:Stmt:=top 61
abbrev U3:Stmt:=top 62
abbrev QW:=HP "met" 1 ["curve","draw"] wD
abbrev jV:=HP "names_of" 1 ["rows"] P1
abbrev S0:=HP "guards_of" 2 ["board"] B3
abbrev uu:=HP "loads_of" 2 ["board"] U2
abbrev oq:=HP "has_guard" 3 ["board","thing"] O5
abbrev ur:=HP "has_load" 3 ["board","thing"] S3
abbrev mO:=HP "has_place" 4 ["board","thing"] N6
abbrev Cu:=HP "climb" 1 ["guards","name"] cu
abbrev jl:=HP "fed_guards" 1 ["board","opened"] K3
abbrev nP:=HP "draws_fed" 1 ["board","lit","pulls"] O2
abbrev DZ:=HP "draws" 2 ["board","opened","pulls"] cx
abbrev ji:=HP "least_of" 1 ["curve"] P2
abbrev GP:=HP "rest" 3 ["board"] gp
abbrev Ge:=HP "awake" 2 ["board","found"] cR
abbrev Ft:=HP "loud" 4 ["board"] cQ
abbrev EA:=HP "over" 5 ["board","place"] cW
abbrev jT:=HP "quiet_rest" 5 ["board"] K2
abbrev qt:=HP "turns_at" 2 ["curve","draw"] S6
abbrev zQ:=HP "lows_of" 1 ["way","most"] Y9
abbrev qx:=HP "spans_of" 3 ["way","greatness"] U5
abbrev vA:=HP "way_of" 6 ["board","place"] bp
abbrev bY:=HP "greatest_lack" 4 ["way","at","most"] C1
abbrev se:=HP "wakes_at" 2 ["row"] J6
abbrev jr:=HP "pairs_of" 7 ["board","most"] M3
abbrev vC:=HP "blind" 7 ["board","most"] Z9
abbrev av:=HP "seeing_pairs" 8 ["board","most"] B7
abbrev jI:=HP "least_by" 3 ["board","pairs"] P7
abbrev zb:=HP "_law_cell_at" 1 ["_law_script","_law_k"] ax
abbrev cp:=HM "_law_take" 1 ["_law_feed_here","_law_many"] p7
abbrev xV:=HP "_law_overs" 1 ["_law_board"] aP
abbrev oj:=HP "_law_feed" 2 ["_law_script","_law_k"] aC
abbrev sH:=HM "_law_small_curve" 2 ["_law_feed_here","_law_unit","_law_time"] T5
abbrev Ep:=HM "_law_names" 2 ["_law_feed_here","_law_many"] cB
abbrev pB:=HP "_law_lifted" 1 ["_law_guard","_law_more"] V2
abbrev iN:=HP "_law_rest" 2 ["_law_board"] W6
abbrev mE:=HP "_law_small_guards" 3 ["_law_script","_law_names_here","_law_unit","_law_time"] N3
abbrev qk:=HP "_law_small_loads" 3 ["_law_script","_law_names_here","_law_guards","_law_unit","_law_time"] T4
abbrev sE:=HP "_law_small_board" 4 ["_law_script","_law_unit","_law_time"] S2
abbrev LQ:=HP "_law_path" 3 ["_law_board","_law_place"] kH
abbrev zE:=HP "_law_places" 1 ["_law_board"] au
abbrev Fu:=HP "_law_sized" 5 ["_law_script"] cU
abbrev Ms:=HM "_law_most" 2 ["_law_feed_here","_law_path_here","_law_unit"] iH
abbrev rE:=HP "_law_sighted" 3 ["_law_board"] S4
abbrev eU:=HP "least_delays" 9 ["board","most"] y3
abbrev Hm:=HP "needs" 9 ["board","most"] aU
abbrev Ha:=HP "_law_loud" 3 ["_law_board"] cA
abbrev Mb:=HP "_law_case" 6 ["_law_script"] jF
abbrev Mj:=HP "_law_with" 1 ["_law_board","_law_delays"] jN
section
variable{P:Program}{w:World}{K:YQ}{mg:YL}{base:Heap}
local macro_rules | `(tactic| walk_at "s") => `(tactic| exact ⟨rfl,rfl,rfl,by decide +kernel,rfl,by decide +kernel,by decide +kernel⟩)
theorem Av:i5 ["curve"] ["curve"] (c6 kE):=by walk_at "s"
theorem AV (F:M9 K "least_of" "least_of" kE f c)
  (len:B0 P2 1) (b:U6 P2 rq 1):u3 P w K mg base L6 1 f c ["curve"] (Q3 K P2):=
 V0 (cl:=[.bor]) F Av rfl len (λd A outer e H E a=>(P0 rfl (o9 (PU.r8 (o4 a (o4 a (uv 0 rfl) a7) a7)) rfl))) b
theorem Sb:i5 ["curve","draw"] ["curve","draw"] (c6 Iz):=by walk_at "s"
theorem Ow:(["step","draw"]:YF).Nodup:=by decide +kernel
theorem Sr (F:M9 K "met" "met" Iz f d) (a:mg "len"=none)
  (len:B0 wD 2) (b:U6 wD Rf 2):u3 P w K mg base L6 1 f d ["curve","draw"] (Q3 K wD):=
 V0 (cl:=[.bor,.bor]) F Sb rfl len (λe A outer g H E c=>(P0 rfl (o9 (A2 J7 bT (by rfl) a Rs (a8 (R1 (XN:=["curve","draw"])  (XS:=c6 Iz)  (by decide +kernel) rfl rfl rfl rfl (l9 (uv 0 rfl)) (λ_ _ _ _=>(gn 0 Ow)) (λ_ _ _ _=>(fP (vU (o4 c (uv 0 rfl) a7) (uv 1 rfl) (j9 _)))) (λ_ _ _ _=>(PU.r8 (uv 0 rfl)))) c7 rfl)) rfl))) b
theorem oi:i5 ["curve","draw","many"] ["curve","draw"] (c6 kO):=by walk_at "s"
theorem BX (F:M9 K "turns_at" "turns_at" kO f g) (a:QW P w K mg base d c)
  (len:B0 S6 2) (e:U6 S6 uM 3):u3 P w K mg base L6 2 f g ["curve","draw"] (Q3 K S6):=
 V0 (cl:=[.bor,.bor,.bor]) F oi rfl len (λh A outer i H E b=>(xa rfl (ss 2 oi.nd (pc a b (a8 (uv 0 rfl) (a8 (uv 1 rfl) c7 rfl) rfl) rfl) rfl)
   (M5 (Q6.m (cD b (uv 2 rfl) a7 (j9 _))) (P0 rfl (o9 C4 rfl)) C9)
   (o9 (PU.r8 (o4 b (o4 b (uv 0 rfl) (M1 (uv 2 rfl) a7)) a7)) rfl))) e
theorem Ax:i5 ["rows"] ["rows"] (c6 eu):=by walk_at "s"
theorem wG:(["row"]:YF).Nodup:=by decide +kernel
theorem BP (F:M9 K "names_of" "names_of" eu f c)
  (len:B0 P1 1) (a:U6 P1 uz 1):u3 P w K mg base L6 1 f c ["rows"] (Q3 K P1):=
 V0 (cl:=[.bor]) F Ax rfl len (λd A outer e H E b=>(P0 rfl (o9 (R1 (XN:=["rows"])  (XS:=c6 eu)  (by decide +kernel) rfl rfl rfl rfl (l9 (uv 0 rfl)) (λ_ _ _ _=>(gn 0 wG)) (λ_ _ _ _=>A8) (λ_ _ _ _=>(PU.r8 (o4 b (uv 0 rfl) a7)))) rfl))) a
theorem vX:i5 ["board"] ["board"] (c6 fA):=by walk_at "s"
theorem xb (F:M9 K "guards_of" "guards_of" fA f g) (a:jV P w K mg base c b)
  (len:B0 B3 1) (e:U6 B3 om 1):u3 P w K mg base L6 2 f g ["board"] (Q3 K B3):=
 V0 (cl:=[.bor]) F vX rfl len (λh A outer i H E d=>(P0 rfl (o9 (pc a d (a8 (o4 d (uv 0 rfl) a7) c7 rfl) rfl) rfl))) e
theorem AE:i5 ["board"] ["board"] (c6 iQ):=by walk_at "s"
theorem AW (F:M9 K "loads_of" "loads_of" iQ f g) (a:jV P w K mg base c b)
  (len:B0 U2 1) (e:U6 U2 rF 1):u3 P w K mg base L6 2 f g ["board"] (Q3 K U2):=
 V0 (cl:=[.bor]) F AE rfl len (λh A outer i H E d=>(P0 rfl (o9 (pc a d (a8 (o4 d (uv 0 rfl) a7) c7 rfl) rfl) rfl))) e
theorem xr:i5 ["board","thing"] ["board","thing"] (c6 fT):=by walk_at "s"
theorem xt (F:M9 K "has_guard" "has_guard" fT f i) (b:S0 P w K mg base d c) (a:mg "isinstance"=none) (e:mg "str"=none)
  (len:B0 O5 2) (h:U6 O5 mM 2):u3 P w K mg base L6 3 f i ["board","thing"] (Q3 K O5):=
 V0 (cl:=[.bor,.bor]) F xr rfl len (λj A outer l H E g=>(P0 rfl (o9 (vm (A2 gr Ma (by rfl) a Ya (a8 (uv 1 rfl) (a8 (LB (yI  rfl e PyProof.Rows.boot_str rfl)) c7 rfl) rfl)) (jM (Hk (B6 g) (uv 1 rfl) (pc b g (a8 (uv 0 rfl) c7 rfl) rfl) rfl))) rfl))) h
theorem AO:i5 ["board","thing"] ["board","thing"] (c6 km):=by walk_at "s"
theorem BW (F:M9 K "has_load" "has_load" km f i) (b:uu P w K mg base d c) (a:mg "isinstance"=none) (e:mg "str"=none)
  (len:B0 S3 2) (h:U6 S3 qL 2):u3 P w K mg base L6 3 f i ["board","thing"] (Q3 K S3):=
 V0 (cl:=[.bor,.bor]) F AO rfl len (λj A outer l H E g=>(P0 rfl (o9 (vm (A2 gr Ma (by rfl) a Ya (a8 (uv 1 rfl) (a8 (LB (yI  rfl e PyProof.Rows.boot_str rfl)) c7 rfl) rfl)) (jM (Hk (B6 g) (uv 1 rfl) (pc b g (a8 (uv 0 rfl) c7 rfl) rfl) rfl))) rfl))) h
theorem uW:i5 ["board","thing"] ["board","thing"] (c6 fK):=by walk_at "s"
theorem xF (F:M9 K "has_place" "has_place" fK f j) (a:oq P w K mg base e c) (b:ur P w K mg base g d)
  (len:B0 N6 2) (i:U6 N6 mV 2):u3 P w K mg base L6 4 f j ["board","thing"] (Q3 K N6):=
 V0 (cl:=[.bor,.bor]) F uW rfl len (λl A outer o H E h=>(P0 rfl (o9 (MM (pc a h (a8 (uv 0 rfl) (a8 (uv 1 rfl) c7 rfl) rfl) rfl) (jM (pc b h (a8 (uv 0 rfl) (a8 (uv 1 rfl) c7 rfl) rfl) rfl))) rfl))) i
abbrev zG:YF:=["guards","name","unders","guard","found"]
theorem iq:i5 zG ["guards","name"] (c6 oE):=by walk_at "s"
theorem Ec:(["guard"]:YF).Nodup:=by decide +kernel
theorem Ll (F:M9 K "climb" "climb" oE f d)
  (len:B0 cu 2) (b:U6 cu DM 5):u3 P w K mg base L6 1 f d ["guards","name"] (Q3 K cu):=
 V0 (cl:=[.bor,.bor,.bor,.bor,.own]) F iq rfl len (λe A outer g H E a=>(Kz rfl (iw  (XN:=zG)  (XS:=c6 oE)  iq.nd rfl rfl rfl (by decide +kernel) rfl rfl rfl rfl (l9 (uv 0 rfl)) (λ_ _ _ _=>(gn 0 Ec)) (λ_ _ _ _=>A8) (λ_ _ _ _=>(o4 a (uv 0 rfl) a7)) (λ_ _ _ _=>(o4 a (uv 0 rfl) a7)))
   (ss 4 iq.nd (A9 n9 rfl) rfl)
   (Kk vv (Q6.m (G4 (uv 1 rfl) C4 (j9 _))) (uS rfl (T1 (PM.n (C7 (r:=I0) 4 (pv 4) rfl (PU.m (PU.r8 (uv 1 rfl))) rfl (λc=>az xz PySem.F.slot_list_append PySem.F.type_list_append A5 (pv 4) c))))
   (ss 1 iq.nd (o4 a (uv 2 rfl) (uv 1 rfl)) rfl)))
   (Q4 4 (pv 4) (by decide) rfl))) b
theorem yU:i5 ["board","place","ats","load"] ["board","place"] (c6 oz):=by walk_at "s"
theorem Dr:(["load"]:YF).Nodup:=by decide +kernel
theorem Kd (F:M9 K "over" "over" oz f l) (a:mO P w K mg base e c) (b:Cu P w K mg base h g)
  (len:B0 cW 2) (j:U6 cW En 4):u3 P w K mg base L6 5 f l ["board","place"] (Q3 K cW):=
 V0 (cl:=[.bor,.bor,.bor,.bor]) F yU rfl len (λo A outer p H E d=>(xa rfl (M5 (Q6.m (oX (W9 (pc a d (a8 (uv 0 rfl) (a8 (uv 1 rfl) c7 rfl) rfl) rfl) (λ_=>rfl)))) (P0 rfl pw) C9)
   (iw  (XN:=["board","place","ats","load"])  (XS:=c6 oz)  yU.nd rfl rfl rfl (by decide +kernel) rfl rfl rfl rfl (l9 (o4 d (uv 0 rfl) a7)) (λ_ _ _ _=>(gn 0 Dr)) (λ_ _ _ _=>A8) (λ_ _ _ _=>(o4 d (uv 0 rfl) a7)) (λ_ _ _ _=>(o4 d (uv 0 rfl) a7)))
   (o9 (pc b d (a8 (o4 d (uv 0 rfl) a7) (a8 (eL (B6 d) (uv 2 rfl) (uv 1 rfl) (uv 1 rfl) ⟨rfl,rfl,rfl,rfl⟩) c7 rfl) rfl) rfl) rfl))) j
theorem Q2:i5 ["board","opened","apart","found","guard","name","under"] ["board","opened"] (c6 cM):=by walk_at "s"
theorem rM (F:M9 K "fed_guards" "fed_guards" cM f h) (d:mg "set"=none)
  (len:B0 K3 2) (g:U6 K3 jX 7):u3 P w K mg base L6 1 f h ["board","opened"] (Q3 K K3):=
 V0 (cl:=[.bor,.bor,.bor,.own,.bor,.bor,.bor]) F Q2 rfl len (λl A outer o H E e=>(Kz rfl (ss 2 Q2.nd (y7 (BZ rfl) PX (by rfl) d PyProof.Rows.boot_set (a8 (uv 1 rfl) c7 rfl)) rfl)
   (ss 3 Q2.nd pd rfl)
   (D1 (Y8.m (l9 (o4 e (uv 0 rfl) a7)) rfl) (gn 4 Q2.nd)
    (uS rfl (Lz   rfl Q2.nd rfl rfl (by decide) rfl rfl (a8 (o4 e (uv 4 rfl) a7) (a8 (o4 e (uv 4 rfl) a7) c7 rfl) rfl) rfl rfl rfl)
   (cN (B6 e) 3 (pv 3) rfl (PM.n (PU.m (PU.r8 (vm (Bw (uv 5 rfl) (uv 2 rfl) rfl) (jM (MM (Nj (uv 6 rfl) C4 (j9 _)) (jM (o4 e (uv 3 rfl) (uv 6 rfl))))))))) (PU.n (uv 5 rfl) rfl))) (λa b c=>y4 vv rfl a b c))
   (Q4 3 (pv 3) (by decide) rfl))) g
abbrev ku:YF:=["board","lit","pulls","found","guard","load","name","under"]
theorem U4:i5 ku ["board","lit","pulls"] (c6 bN):=by walk_at "s"
theorem rR:(["guard","pulls"]:YF).Nodup:=by decide +kernel
theorem vh (F:M9 K "draws_fed" "draws_fed" bN f l) (e:mg "reversed"=none)
  (len:B0 O2 3) (g:U6 O2 nJ 8):u3 P w K mg base L6 1 f l ["board","lit","pulls"] (Q3 K O2):=
 V0 (cl:=[.bor,.bor,.bor,.own,.bor,.bor,.bor,.bor]) F U4 rfl len (λo A outer p H E d=>(Kz rfl (iw  (XN:=ku)  (XS:=c6 bN)  U4.nd rfl rfl rfl (by decide +kernel) rfl rfl rfl rfl (l9 (o4 d (uv 0 rfl) a7)) (λ_ _ _ _=>(gn 0 rR)) (λ_ _ _ _=>A8) (λ_ _ _ _=>(o4 d (uv 0 rfl) a7)) (λ_ _ _ _=>(eL (B6 d) (uv 1 rfl) (o4 d (uv 0 rfl) a7) a7 ⟨rfl,rfl,rfl,rfl⟩)))
   (D1 (Y8.m (l9 (o4 d (uv 0 rfl) a7)) rfl) (gn 5 U4.nd)
    (P0 rfl (Hx (B6 d) 3 (pv 3) rfl (o4 d (uv 5 rfl) a7) (eL (B6 d) (uv 2 rfl) (o4 d (uv 5 rfl) a7) a7 ⟨rfl,rfl,rfl,rfl⟩))) (λa b c=>y4 vv rfl a b c))
   (D1 (Y8.m (KY (o4 d (uv 0 rfl) a7) rfl (λh=>EO (by rfl) e h)) rfl) (gn 4 U4.nd)
    (uS rfl (Lz   rfl U4.nd rfl rfl (by decide) rfl rfl (a8 (o4 d (uv 4 rfl) a7) (a8 (o4 d (uv 4 rfl) a7) c7 rfl) rfl) rfl rfl rfl)
   (M5 (Q6.m (oX (W9 (o4 d (uv 1 rfl) (uv 6 rfl)) (λ_=>rfl)))) (P0 rfl (cN (B6 d) 3 (pv 3) rfl (PU.n a7 rfl) (PU.n (uv 6 rfl) rfl))) (P0 rfl (M5 (Q6.m (G4 (uv 7 rfl) C4 (j9 _))) (P0 rfl (Hx (B6 d) 3 (pv 3) rfl (uv 7 rfl) (o4 d (uv 3 rfl) (uv 6 rfl)))) C9)))) (λa b c=>y4 vv rfl a b c))
   (Q4 3 (pv 3) (by decide) rfl))) g
theorem JQ:i5 ["board","opened","pulls"] ["board","opened","pulls"] (c6 vI):=by walk_at "s"
theorem Lr (F:M9 K "draws" "draws" vI f j) (a:jl P w K mg base e c) (b:nP P w K mg base g d)
  (len:B0 cx 3) (i:U6 cx Gy 3):u3 P w K mg base L6 2 f j ["board","opened","pulls"] (Q3 K cx):=
 V0 (cl:=[.bor,.bor,.bor]) F JQ rfl len (λl A outer o H E h=>(P0 rfl (o9 (pc b h (a8 (uv 0 rfl) (a8 (pc a h (a8 (uv 0 rfl) (a8 (uv 1 rfl) c7 rfl) rfl) rfl) (a8 (uv 2 rfl) c7 rfl) rfl) rfl) rfl) rfl))) i
theorem Qc:i5 ["board","load"] ["board"] (c6 ze):=by walk_at "s"
theorem IM:(["load"]:YF).Nodup:=by decide +kernel
theorem PB (F:M9 K "rest" "rest" ze f g) (a:DZ P w K mg base d c)
  (len:B0 gp 1) (e:U6 gp LR 2):u3 P w K mg base L6 3 f g ["board"] (Q3 K gp):=
 V0 (cl:=[.bor,.bor]) F Qc rfl len (λh A outer i H E b=>(P0 rfl (o9 (pc a b (a8 (uv 0 rfl) (a8 (A9 n9 rfl) (a8 (LL (XN:=["board","load"])  (XS:=c6 ze)  (by decide +kernel) rfl rfl rfl rfl (l9 (o4 b (uv 0 rfl) a7)) (λ_ _ _ _=>(gn 0 IM)) (λ_ _ _ _=>(fP (W9 (o4 b (uv 0 rfl) a7) (λ_=>rfl)))) (λ_ _ _ _=>(o4 b (uv 0 rfl) a7)) (λ_ _ _ _=>(o4 b (uv 0 rfl) a7))) c7 rfl) rfl) rfl) rfl) rfl))) e
theorem IQ:i5 ["board","found"] ["board","found"] (c6 pV):=by walk_at "s"
theorem Gx:(["guard","found"]:YF).Nodup:=by decide +kernel
theorem Lo (F:M9 K "awake" "awake" pV f g) (a:ji P w K mg base d b)
  (len:B0 cR 2) (e:U6 cR Gf 2):u3 P w K mg base L6 2 f g ["board","found"] (Q3 K cR):=
 V0 (cl:=[.bor,.bor]) F IQ rfl len (λh A outer i H E c=>(P0 rfl (o9 (R1 (XN:=["board","found"])  (XS:=c6 pV)  (by decide +kernel) rfl rfl rfl rfl (l9 (o4 c (uv 0 rfl) a7)) (λ_ _ _ _=>(gn 0 Gx)) (λ_ _ _ _=>(fP (Cz (o4 c (uv 1 rfl) (o4 c (uv 0 rfl) a7)) (pc a c (a8 (o4 c (uv 0 rfl) a7) c7 rfl) rfl) (j9 _)))) (λ_ _ _ _=>(PU.r8 (o4 c (uv 0 rfl) a7)))) rfl))) e
theorem zd:i5 ["board","names"] ["board"] (c6 xQ):=by walk_at "s"
theorem IY (F:M9 K "loud" "loud" xQ f l) (b:GP P w K mg base i d) (a:Ge P w K mg base e c)
  (len:B0 cQ 1) (j:U6 cQ FA 2):u3 P w K mg base L6 4 f l ["board"] (Q3 K cQ):=
 V0 (cl:=[.bor,.bor]) F zd rfl len (λo A outer p H E h=>(uS rfl (ss 1 zd.nd (pc a h (a8 (uv 0 rfl) (a8 (pc b h (a8 (uv 0 rfl) c7 rfl) rfl) c7 rfl) rfl) rfl) rfl)
   (o9 (PU.r8 (Rj (W9 (uv 1 rfl) (λ_=>rfl)) (o4 h (uv 1 rfl) a7) (PU.weak  C4 rfl))) rfl))) j
theorem gG:i5 ["board","first"] ["board"] (c6 cY):=by walk_at "s"
theorem tm (F:M9 K "quiet_rest" "quiet_rest" cY f j) (b:GP P w K mg base g d) (a:Ft P w K mg base e c)
  (len:B0 K2 1) (i:U6 K2 kh 2):u3 P w K mg base L6 5 f j ["board"] (Q3 K K2):=
 V0 (cl:=[.bor,.bor]) F gG rfl len (λl A outer o H E h=>(xa rfl (ss 1 gG.nd (pc a h (a8 (uv 0 rfl) c7 rfl) rfl) rfl)
   (M5 (Q6.m (G4 (uv 1 rfl) C4 (j9 _))) (P0 rfl pw) C9)
   (o9 (pc b h (a8 (uv 0 rfl) c7 rfl) rfl) rfl))) i
abbrev iy:YF:=["board","place","names","found","guards","guard"]
theorem iE:i5 iy ["board","place"] (c6 fY):=by walk_at "s"
theorem HF:(["load"]:YF).Nodup:=by decide +kernel
theorem EJ:(["guard"]:YF).Nodup:=by decide +kernel
theorem DB:(["name","guards","found"]:YF).Nodup:=by decide +kernel
theorem Ji (F:M9 K "way_of" "way_of" fY f l) (d:EA P w K mg base h g) (a:jT P w K mg base e c)
  (len:B0 bp 2) (j:U6 bp GW 6):u3 P w K mg base L6 6 f l ["board","place"] (Q3 K bp):=
 V0 (cl:=[.bor,.bor,.bor,.bor,.bor,.bor]) F iE rfl len (λo A outer p H E b=>(ML rfl (ss 2 iE.nd (pc d b (a8 (uv 0 rfl) (a8 (uv 1 rfl) c7 rfl) rfl) rfl) rfl)
   (dm  iE.nd rfl (Or.inr rfl) (pc a b (a8 (uv 0 rfl) c7 rfl) rfl) rfl)
   (M5 (Q6.m (Pj (B6 b) (uv 1 rfl) (R1 (XN:=iy)  (XS:=c6 fY)  (by decide +kernel) rfl rfl rfl rfl (l9 (o4 b (uv 0 rfl) a7)) (λ_ _ _ _=>(gn 0 HF)) (λ_ _ _ _=>(fP (oX (W9 (o4 b (uv 0 rfl) a7) (λ_=>rfl))))) (λ_ _ _ _=>(PU.r8 (o4 b (uv 0 rfl) a7)))) rfl)) (P0 rfl (o9 (A9 n9 rfl) rfl)) C9)
   (dm  iE.nd rfl (Or.inr rfl) (LL (XN:=iy)  (XS:=c6 fY)  (by decide +kernel) rfl rfl rfl rfl (l9 (o4 b (uv 0 rfl) a7)) (λ_ _ _ _=>(gn 0 EJ)) (λ_ _ _ _=>A8) (λ_ _ _ _=>(o4 b (uv 0 rfl) a7)) (λ_ _ _ _=>(uv 0 rfl))) rfl)
   (o9 (R1 (XN:=iy)  (XS:=c6 fY)  (by decide +kernel) rfl rfl rfl rfl (l9 (uv 2 rfl)) (λ_ _ _ _=>(gn 0 DB)) (λ_ _ _ _=>A8) (λ_ _ _ _=>(D2 (c9 (PU.r8 (o4 b (uv 1 rfl) (uv 0 rfl))) (c9 (PU.r8 (o4 b (uv 2 rfl) (uv 0 rfl))) n9 rfl) rfl) rfl))) rfl))) j
abbrev jS:YF:=["way","most","lows"]
theorem qH:i5 jS ["way","most"] (c6 eS):=by walk_at "s"
theorem fN:(["guard","drawn","step"]:YF).Nodup:=by decide +kernel
theorem BS:(["low","most"]:YF).Nodup:=by decide +kernel
theorem EX (F:M9 K "lows_of" "lows_of" eS f e) (b:mg "set"=none) (a:mg "sorted"=none)
  (len:B0 Y9 2) (d:U6 Y9 yr 3):u3 P w K mg base L6 1 f e ["way","most"] (Q3 K Y9):=
 V0 (cl:=[.bor,.bor,.bor]) F qH rfl len (λg A outer j H E c=>(uS rfl (Ed  (XN:=jS)  (XS:=c6 eS)  qH.nd rfl rfl rfl (by decide +kernel) rfl rfl rfl rfl (l9 (uv 0 rfl)) (λ_ _ _ _=>(dM  (u5 (gn 0 fN) (u5 (gn 1 fN) aa)) (λ_ _ _ h=>tM h) (λp=>W0 rfl p))) (λ_ _ _ _=>A8) (λ_ _ _ _=>(Pp (o4 c (uv 0 rfl) a7))) (λ_ _ _ _=>(gn 2 fN)) (λ_ _ _ _=>A8) (λ_ _ _ _=>(M1 (o4 c (uv 2 rfl) a7) (uv 1 rfl))))
   (o9 (vG rfl (by rfl) a PyProof.Rows.boot_sorted (by rfl) b PyProof.Rows.boot_set (a8 (o6 (A9 (c9 a7 n9 rfl) rfl) (R1 (XN:=jS)  (XS:=c6 eS)  (by decide +kernel) rfl rfl rfl rfl (l9 (uv 2 rfl)) (λ_ _ _ _=>(gn 0 BS)) (λ_ _ _ _=>(fP (vU (uv 0 rfl) (uv 1 rfl) (j9 _)))) (λ_ _ _ _=>(PU.r8 (uv 0 rfl))))) c7 rfl)) rfl))) d
theorem O6:i5 ["way","greatness","spans","at","guard","drawn","span"] ["way","greatness"] (c6 jC):=by walk_at "s"
theorem zV (F:M9 K "spans_of" "spans_of" jC f x) (e:qt P w K mg base o l) (d:mg "enumerate"=none)
  (len:B0 U5 2) (v:U6 U5 uF 7):u3 P w K mg base L6 3 f x ["way","greatness"] (Q3 K U5):=
 V0 (cl:=[.bor,.bor,.own,.bor,.bor,.bor,.bor]) F O6 rfl len (λy A outer z H E q=>(xa rfl (ss 2 O6.nd (A9 n9 rfl) rfl)
   (D1 (Y8.m (MP (uv 0 rfl) rfl (λu=>JP (by rfl) d u)) rfl) (dM  (u5 (gn 3 O6.nd) (u5 (dM  (u5 (gn 4 O6.nd) (u5 (gn 5 O6.nd) aa)) (λ_ _ _ h=>tM h) (λp=>W0 rfl p)) aa)) (λ_ _ _ h=>Qj h) (λp=>W0 rfl p))
    (xa rfl (ss 6 O6.nd (pc e q (a8 (o4 q (uv 4 rfl) a7) (a8 (o6 (uv 5 rfl) (uv 1 rfl)) c7 rfl) rfl) rfl) rfl)
   (M5 (Q6.m (mK.pt (W7 (G4 (uv 6 rfl) C4 (j9 _)) (W7 (zi (uv 3 rfl) a7 (j9 _)) (R4 (G4 (o4 q (uv 2 rfl) (M1 (uv 3 rfl) a7)) C4 (j9 _))))))) (P0 rfl (NX   (o4 q (uv 4 rfl) a7) rfl (λp=>OH O6.nd rfl (Or.inl rfl) p FX))) C9)
   (T1 (PM.n (C7 (r:=I0) 2 (pv 2) rfl (PU.m (PU.r8 (uv 6 rfl))) rfl (λu=>az xz PySem.F.slot_list_append PySem.F.type_list_append A5 (pv 2) u))))) (λa b c=>y4 vv rfl a b c))
   (Q4 2 (pv 2) (by decide) rfl))) v
theorem D0:i5 ["way","at","most","best","low","spans","lack"] ["way","at","most"] (c6 W2):=by walk_at "s"
theorem kF (F:M9 K "greatest_lack" "greatest_lack" W2 f p) (e:zQ P w K mg base l i) (d:qx P w K mg base j h)
  (len:B0 C1 3) (o:U6 C1 cb 7):u3 P w K mg base L6 4 f p ["way","at","most"] (Q3 K C1):=
 V0 (cl:=[.bor,.bor,.bor,.bor,.bor,.bor,.bor]) F D0 rfl len (λq A outer r H E g=>(xa rfl (ss 3 D0.nd C4 rfl)
   (D1 (Y8.m (l9 (pc e g (a8 (uv 0 rfl) (a8 (uv 2 rfl) c7 rfl) rfl) rfl)) rfl) (gn 4 D0.nd)
    (uS rfl (ss 5 D0.nd (pc d g (a8 (uv 0 rfl) (a8 (uv 4 rfl) c7 rfl) rfl) rfl) rfl)
   (M5 (Q6.m (mK.pt (W7 (G4 (o4 g (uv 5 rfl) a7) C4 (j9 _)) (R4 (G4 (o4 g (uv 5 rfl) (uv 1 rfl)) C4 (j9 _)))))) (uS rfl (ss 6 D0.nd (o6 (M1 (o4 g (uv 5 rfl) a7) (o4 g (uv 5 rfl) (uv 1 rfl))) a7) rfl)
   (M5 (Q6.m (mK.pt (DJ (uV (uv 3 rfl) C4 (j9 _)) (wH (zi (uv 6 rfl) (o4 g (uv 3 rfl) a7) (j9 _)))))) (P0 rfl (ss 3 D0.nd (D2 (c9 (PU.r8 (uv 6 rfl)) (c9 (PU.r8 (uv 4 rfl)) n9 rfl) rfl) rfl) rfl)) C9)) C9)) (λa b c=>y4 vv rfl a b c))
   (o9 (PU.r8 (uv 3 rfl)) rfl))) o
theorem R8:i5 ["board","most","found","lower","way","at","lack"] ["board","most"] (c6 kN):=by walk_at "s"
theorem Cb (F:M9 K "pairs_of" "pairs_of" kN f z) (e:S0 P w K mg base p o) (j:vA P w K mg base v u) (d:bY P w K mg base h g) (q:mg "len"=none) (i:mg "range"=none)
  (len:B0 M3 2) (y:U6 M3 tj 7):u3 P w K mg base L6 7 f z ["board","most"] (Q3 K M3):=
 V0 (cl:=[.bor,.bor,.own,.bor,.bor,.bor,.bor]) F R8 rfl len (λB A outer C H E l=>(xa rfl (ss 2 R8.nd (A9 n9 rfl) rfl)
   (D1 (Y8.m (l9 (pc e l (a8 (uv 0 rfl) c7 rfl) rfl)) rfl) (gn 3 R8.nd)
    (uS rfl (ss 4 R8.nd (pc j l (a8 (uv 0 rfl) (a8 (uv 3 rfl) c7 rfl) rfl) rfl) rfl)
   (D1 (Y8.m (Ey (a8 a7 (a8 (A2 J7 bT (by rfl) q Rs (a8 (uv 4 rfl) c7 rfl)) c7 rfl) rfl) (λx=>Ab (by rfl) i x)) rfl) (gn 5 R8.nd)
    (uS rfl (ss 6 R8.nd (pc d l (a8 (uv 4 rfl) (a8 (uv 5 rfl) (a8 (uv 1 rfl) c7 rfl) rfl) rfl) rfl) rfl)
   (M5 (Q6.m (G4 (uv 6 rfl) C4 (j9 _))) (P0 rfl (T1 (PM.n (C7 (r:=I0) 2 (pv 2) rfl (PU.m (D2 (c9 (PU.r8 (uv 3 rfl)) (c9 (PU.r8 (o4 l (o4 l (o4 l (uv 4 rfl) (uv 5 rfl)) a7) a7)) (c9 (PU.r8 (o4 l (uv 6 rfl) a7)) (c9 (PU.r8 (o4 l (uv 6 rfl) a7)) n9 rfl) rfl) rfl) rfl) rfl)) rfl (λx=>az xz PySem.F.slot_list_append PySem.F.type_list_append A5 (pv 2) x))))) C9)) (λa b c=>y4 vv rfl a b c))) (λa b c=>y4 vv rfl a b c))
   (Q4 2 (pv 2) (by decide) rfl))) y
theorem fE:i5 ["row","guard","drawn"] ["row"] (c6 jK):=by walk_at "s"
theorem Ac (F:M9 K "wakes_at" "wakes_at" jK f i) (a:ji P w K mg base c b)
  (len:B0 J6 1) (e:U6 J6 sP 3):u3 P w K mg base L6 2 f i ["row"] (Q3 K J6):=
 V0 (cl:=[.bor,.bor,.bor]) F fE rfl len (λj A outer l H E d=>(uS rfl (LX (uv 0 rfl) rfl (dM  (u5 (gn 1 fE.nd) (u5 (gn 2 fE.nd) aa)) (λ_ _ _ h=>tM h) (λp=>W0 rfl p)) (λp g=>ak p g))
   (o9 (M1 (pc a d (a8 (o4 d (uv 1 rfl) a7) c7 rfl) rfl) (uv 2 rfl)) rfl))) e
theorem dZ:i5 ["board","most","lower","way","first","row"] ["board","most"] (c6 wb):=by walk_at "s"
theorem HZ (F:M9 K "blind" "blind" wb f u) (e:S0 P w K mg base l i) (h:vA P w K mg base q p) (d:se P w K mg base o j)
  (len:B0 Z9 2) (r:U6 Z9 Dx 6):u3 P w K mg base L6 7 f u ["board","most"] (Q3 K Z9):=
 V0 (cl:=[.bor,.bor,.bor,.bor,.bor,.bor]) F dZ rfl len (λv A outer x H E g=>(uS rfl (D1 (Y8.m (l9 (pc e g (a8 (uv 0 rfl) c7 rfl) rfl)) rfl) (gn 2 dZ.nd)
    (xa rfl (ss 3 dZ.nd (pc h g (a8 (uv 0 rfl) (a8 (uv 2 rfl) c7 rfl) rfl) rfl) rfl)
   (ss 4 dZ.nd (pc d g (a8 (o4 g (uv 3 rfl) a7) c7 rfl) rfl) rfl)
   (D1 (Y8.m (l9 (cJ (uv 3 rfl) (R3 a7) Z0)) rfl) (gn 5 dZ.nd)
    (P0 rfl (M5 (Q6.m (mK.pt (W7 (vU (pc d g (a8 (uv 5 rfl) c7 rfl) rfl) (uv 1 rfl) (j9 _)) (R4 (Gm (pc d g (a8 (uv 5 rfl) c7 rfl) rfl) (uv 4 rfl) (j9 _)))))) (P0 rfl (o9 (D2 (c9 (PU.r8 (uv 2 rfl)) (c9 (PU.r8 (o4 g (o4 g (uv 5 rfl) a7) a7)) (c9 (pc d g (a8 (uv 5 rfl) c7 rfl) rfl) n9 rfl) rfl) rfl) rfl) rfl)) C9)) (λa b c=>y4 vv rfl a b c))) (λa b c=>y4 vv rfl a b c))
   (o9 C4 rfl))) r
theorem cm:i5 ["board","most","pair"] ["board","most"] (c6 ay):=by walk_at "s"
theorem mj (F:M9 K "seeing_pairs" "seeing_pairs" ay f j) (a:jr P w K mg base d c) (b:vC P w K mg base g e)
  (len:B0 B7 2) (i:U6 B7 eP 3):u3 P w K mg base L6 8 f j ["board","most"] (Q3 K B7):=
 V0 (cl:=[.bor,.bor,.bor]) F cm rfl len (λl A outer o H E h=>(xa rfl (ss 2 cm.nd (pc b h (a8 (uv 0 rfl) (a8 (uv 1 rfl) c7 rfl) rfl) rfl) rfl)
   (M5 (Q6.m (G4 (uv 2 rfl) C4 (j9 _))) (P0 rfl pw) C9)
   (o9 (pc a h (a8 (uv 0 rfl) (a8 (uv 1 rfl) c7 rfl) rfl) rfl) rfl))) i
abbrev mQ:YF:=["board","pairs","least","name","lower","upper","more","greatness"]
theorem O0:i5 mQ ["board","pairs"] (c6 dF):=by walk_at "s"
theorem yg:(["name"]:YF).Nodup:=by decide +kernel
theorem zW (F:M9 K "least_by" "least_by" dF f u) (d:S0 P w K mg base j g) (o:mg "max"=none) (e:mg "reversed"=none)
  (len:B0 P7 2) (q:U6 P7 tG 8):u3 P w K mg base L6 3 f u ["board","pairs"] (Q3 K P7):=
 V0 (cl:=[.bor,.bor,.own,.bor,.bor,.bor,.bor,.bor]) F O0 rfl len (λv A outer x H E l=>(xa rfl (iw  (XN:=mQ)  (XS:=c6 dF)  O0.nd rfl rfl rfl (by decide +kernel) rfl rfl rfl rfl (l9 (pc d l (a8 (uv 0 rfl) c7 rfl) rfl)) (λ_ _ _ _=>(gn 0 yg)) (λ_ _ _ _=>A8) (λ_ _ _ _=>(uv 0 rfl)) (λ_ _ _ _=>a7))
   (D1 (Y8.m (Oh (pc d l (a8 (uv 0 rfl) c7 rfl) rfl) rfl (λr=>Ip (by rfl) e r)) rfl) (gn 3 O0.nd)
    (P0 rfl (D1 (Y8.m (l9 (uv 1 rfl)) rfl) (dM  (u5 (gn 4 O0.nd) (u5 (gn 5 O0.nd) (u5 (gn 6 O0.nd) (u5 (gn 7 O0.nd) aa)))) (λ_ _ _ h=>LF h) (λp=>W0 rfl p))
    (P0 rfl (M5 (Q6.m (cD l (uv 5 rfl) (uv 3 rfl) (j9 _))) (P0 rfl (cN (B6 l) 2 (pv 2) rfl (PU.n (A2 (bH rfl) JB (by rfl) o WM (a8 (o4 l (uv 2 rfl) (uv 3 rfl)) (a8 (o6 (o4 l (uv 2 rfl) (uv 4 rfl)) (uv 6 rfl)) c7 rfl) rfl)) rfl) (PU.n (uv 3 rfl) rfl))) C9)) (λa b c=>y4 vv rfl a b c))) (λa b c=>y4 vv rfl a b c))
   (Q4 2 (pv 2) (by decide) rfl))) q
theorem lV:i5 ["board","most"] ["board","most"] (c6 ae):=by walk_at "s"
theorem lp (F:M9 K "least_delays" "least_delays" ae f j) (a:av P w K mg base d c) (b:jI P w K mg base g e)
  (len:B0 y3 2) (i:U6 y3 dR 2):u3 P w K mg base L6 9 f j ["board","most"] (Q3 K y3):=
 V0 (cl:=[.bor,.bor]) F lV rfl len (λl A outer o H E h=>(P0 rfl (o9 (pc b h (a8 (uv 0 rfl) (a8 (pc a h (a8 (uv 0 rfl) (a8 (uv 1 rfl) c7 rfl) rfl) rfl) c7 rfl) rfl) rfl) rfl))) i
abbrev zt:YF:=["board","most","pairs","least","found","guard","faults"]
theorem bG:i5 zt ["board","most"] (c6 oV):=by walk_at "s"
theorem dG:(["lower","upper","more","greatness","guard","least"]:YF).Nodup:=by decide +kernel
theorem Kx (F:M9 K "needs" "needs" oV f B) (e:S0 P w K mg base v q) (d:av P w K mg base l j) (g:jI P w K mg base x u)
  (len:B0 aU 2) (y:U6 aU Dw 7):u3 P w K mg base L6 9 f B ["board","most"] (Q3 K aU):=
 V0 (cl:=[.bor,.bor,.bor,.bor,.own,.bor,.bor]) F bG rfl len (λC A outer G H E o=>(ML rfl (ss 2 bG.nd (pc d o (a8 (uv 0 rfl) (a8 (uv 1 rfl) c7 rfl) rfl) rfl) rfl)
   (dm  bG.nd rfl (Or.inr rfl) (pc g o (a8 (uv 0 rfl) (a8 (uv 2 rfl) c7 rfl) rfl) rfl) rfl)
   (ss 4 bG.nd (A9 n9 rfl) rfl)
   (D1 (Y8.m (l9 (pc e o (a8 (uv 0 rfl) c7 rfl) rfl)) rfl) (Hc (dq  bG.nd rfl (Or.inr rfl)) rfl)
    (uS rfl (iG  (XN:=zt)  (XS:=c6 oV)  bG.nd rfl rfl rfl (by decide +kernel) rfl rfl rfl rfl (l9 (uv 2 rfl)) (λ_ _ _ _=>(dM  (u5 (gn 0 dG) (u5 (gn 1 dG) (u5 (gn 2 dG) (u5 (gn 3 dG) aa)))) (λ_ _ _ h=>LF h) (λp=>W0 rfl p))) (λ_ _ _ _=>(fP (mK.pt (W7 (cD o (uv 1 rfl) (uv 4 rfl) (j9 _)) (R4 (cD o (o6 (o4 o (uv 5 rfl) (uv 0 rfl)) (uv 2 rfl)) (o4 o (uv 5 rfl) (uv 4 rfl)) (j9 _))))))) (λ_ _ _ _=>(D2 (c9 (PU.r8 (uv 4 rfl)) (c9 (PU.r8 (uv 0 rfl)) (c9 (PU.r8 (uv 3 rfl)) n9 rfl) rfl) rfl) rfl)))
   (M5 (Q6.m (zi (o4 o (uv 3 rfl) (uv 5 rfl)) a7 (j9 _))) (P0 rfl (T1 (PM.n (C7 (r:=I0) 4 (pv 4) rfl (PU.m (PU.r8 (o4 o (uv 6 rfl) a7))) rfl (λz=>az xz PySem.F.slot_list_append PySem.F.type_list_append A5 (pv 4) z))))) C9)) (λa b c=>y4 vv rfl a b c))
   (Q4 4 (pv 4) (by decide) rfl))) y
theorem CC:i5 ["_law_script","_law_k"] ["_law_script","_law_k"] (c6 pF):=by walk_at "s"
theorem GI (F:M9 K "_law_cell_at" "_law_cell_at" pF f d) (a:mg "len"=none)
  (len:B0 ax 2) (b:U6 ax yZ 2):u3 P w K mg base L6 1 f d ["_law_script","_law_k"] (Q3 K ax):=
 V0 (cl:=[.bor,.bor]) F CC rfl len (λe A outer g H E c=>(uS rfl (M5 (Q6.m (Gm (uv 1 rfl) (A2 J7 bT (by rfl) a Rs (a8 (uv 0 rfl) c7 rfl)) (j9 _))) (P0 rfl (o9 (PU.r8 (o4 c (uv 0 rfl) (uv 1 rfl))) rfl)) C9)
   (o9 a7 rfl))) b
theorem Fb:i5 ["_law_script","_law_k","_law_cell"] ["_law_script","_law_k"] (c6 Fs):=by walk_at "s"
theorem Pm (F:M9 K "_law_feed" "_law_feed" Fs f g) (a:zb P w K mg base c b)
  (len:B0 aC 2) (d:U6 aC LY 3):u3 P w K mg base L6 2 f g ["_law_script","_law_k"] (Q3 K aC):=
 V0 (cl:=[.bor,.bor,.bor]) F Fb rfl len (λh A outer i H E e=>(uS rfl (ss 2 Fb.nd (pc a e (a8 (uv 0 rfl) (a8 (uv 1 rfl) c7 rfl) rfl) rfl) rfl)
   (o9 (A9 (c9 (PU.r8 (uv 2 rfl)) (c9 (PU.r8 (uv 2 rfl)) (c9 (J0 a7 (uv 1 rfl)) n9 rfl) rfl) rfl) rfl) rfl))) d
theorem pU:i5 ["_law_feed_here","_law_many","_law_digit","_law_number"] ["_law_feed_here","_law_many"] (c6 Dc):=by walk_at "s"
theorem PL (F:M9 K "_law_take" "_law_take" Dc f d)
  (len:Ly p7 2) (c:Ts p7 Mt 4):u3 P w K mg base L6 1 f d ["_law_feed_here","_law_many"] (HQ K p7):=
 Ti (cl:=[.bor,.bor,.bor]) F pU rfl len (λe A outer g H E a=>(ML rfl (rY 0 (pv 0) rfl (PU.m (o6 (o4 a (uv 0 rfl) a7) a7)) (PU.n a7 rfl) (λp b=>ak p (iK (pv 0) b set_list)))
   (M5 (Q6.m (mK.pt (W7 (Cz (o4 a (uv 0 rfl) a7) (eZ a7 a7) (j9 _)) (R4 (zi (o4 a (uv 0 rfl) a7) a7 (j9 _)))))) (xa rfl (ss 2 pU.nd (W3 (o4 a (uv 0 rfl) a7) (uv 1 rfl)) rfl)
   (rY 0 (pv 0) rfl (PU.m (ib (o4 a (uv 0 rfl) a7) (uv 1 rfl))) (PU.n a7 rfl) (λp b=>ak p (iK (pv 0) b set_list)))
   (o9 (PU.r8 (uv 2 rfl)) rfl)) C9)
   (ss 3 pU.nd (o6 (J0 (W3 (o4 a (uv 0 rfl) a7) a7) a7) (J0 a7 (o4 a (uv 0 rfl) a7))) rfl)
   (ss 3 pU.nd (W3 (o6 (o6 (uv 3 rfl) (J0 (J0 (o4 a (uv 0 rfl) a7) (o4 a (uv 0 rfl) a7)) a7)) a7) a7) rfl)
   (o9 (W3 (ib (W3 (J0 (uv 3 rfl) (o6 (W3 (uv 3 rfl) a7) a7)) a7) a7) (uv 1 rfl)) rfl))) c
abbrev iA:YF:=["_law_feed_here","_law_many","_law_letters","_law_first","_law_names_here","_law_size","_law_base","_law_at","_law_other","_law_longer","_law_k","_law_some","_law_word"]
theorem G7:i5 iA ["_law_feed_here","_law_many"] (c6 fq):=by walk_at "s"
theorem EL:(["_law_k","_law_letters","_law_first"]:YF).Nodup:=by decide +kernel
theorem Gu:(["_law_k","_law_feed_here"]:YF).Nodup:=by decide +kernel
theorem FQ:(["_law_one","_law_letters"]:YF).Nodup:=by decide +kernel
theorem Jn (F:M9 K "_law_names" "_law_names" fq f x) (d:cp P w K mg base u q) (o:mg "int"=none) (j:mg "list"=none) (e:mg "range"=none)
  (len:Ly cB 2) (v:Ts cB DV 13):u3 P w K mg base L6 2 f x ["_law_feed_here","_law_many"] (HQ K cB):=
 Ti (cl:=[.bor,.bor,.bor,.own,.bor,.bor,.bor,.bor,.bor,.bor,.own,.bor]) F G7 rfl len (λy A outer z H E g=>(UZ rfl (dm  G7.nd rfl (Or.inr rfl) L7 rfl)
   (C8  G7.nd rfl (Or.inr rfl) (pl 0 d g (i8 (PU.n a7 rfl) l6 rfl)) rfl)
   (M5 (Qg g (PM.n (pl 0 d g (i8 (PU.n a7 rfl) l6 rfl))) (PU.n a7 rfl) (j9 _)) (P0 rfl (iG  (XN:=iA) (N:=["_law_k","_law_letters","_law_first"]) (XS:=c6 fq) (cap:=[none,some 2,some 3]) G7.nd rfl rfl rfl (by decide +kernel) rfl rfl rfl rfl (S7 (by rfl) e (uv 1 rfl) rfl (λh=>K6 (by rfl) e h)) (λ_ _ _ _=>(gn 0 EL)) (λ_ _ _ _=>A8) (λ_ _ _ _=>(J0 (o4 g (uv 1 rfl) (W3 (o6 (uv 2 rfl) (uv 0 rfl)) a7)) (o6 a7 (ib (uv 0 rfl) a7)))))) (Vy rfl (C8 (i:=5) G7.nd rfl (Or.inl rfl) (G8 (PU.n a7 rfl) (PM.n (pl 0 d g (i8 (PU.n a7 rfl) l6 rfl)))) rfl)
   (Hy (i:=6) (XN:=iA) (N:=["_law_k","_law_feed_here"]) (XS:=c6 fq) (cap:=[none,some 0]) 1 0 G7.nd rfl rfl rfl rfl rfl rfl (by decide +kernel) rfl rfl rfl rfl (Y8.m (S7 (by rfl) e (uv 5 rfl) rfl (λh=>K6 (by rfl) e h)) rfl) (λ_ _ _ _=>(gn 0 Gu)) (λ_ _ _ _=>Le) (λ_ _ _ _=>(pl 1 d g (i8 (PU.n a7 rfl) l6 rfl))))
   (C8 (i:=7) G7.nd rfl (Or.inl rfl) (pl 0 d g (i8 (PU.n (uv 5 rfl) rfl) l6 rfl)) rfl)
   (C8 (i:=8) G7.nd rfl (Or.inl rfl) (Oi (PM.n (G8 (PU.n (o6 (uv 7 rfl) a7) rfl) (PM.n (pl 0 d g (i8 (PU.n (M1 (uv 5 rfl) a7) rfl) l6 rfl))))) (PU.n (uv 5 rfl) rfl)) rfl)
   (C8 (i:=9) G7.nd rfl (Or.inl rfl) (V6 (PM.n (pl 0 d g (i8 (PU.n a7 rfl) l6 rfl))) (PU.n (y7 fH vo (by rfl) o Xp (a8 (QZ (uv 5 rfl) a7 (j9 _)) c7 rfl)) rfl)) rfl)
   (ss 4 G7.nd (A9 n9 rfl) rfl)
   (D1 (Y8.m (S7 (by rfl) e (uv 1 rfl) rfl (λh=>K6 (by rfl) e h)) rfl) (gn 10 G7.nd)
    (Kz rfl (ss 11 G7.nd (y7 pC MR (by rfl) j PyProof.Rows.boot_list (a8 (uv 6 rfl) c7 rfl)) rfl)
   (rY 11 (pv 11) rfl (PU.m (W3 (o6 (o4 g (uv 6 rfl) (uv 7 rfl)) (uv 10 rfl)) a7)) (PU.n (uv 7 rfl) rfl) (λp l=>ak p (iK (pv 11) l set_list)))
   (rY 11 (pv 11) rfl (PU.m (W3 (o6 (o4 g (uv 6 rfl) (uv 8 rfl)) (ib (uv 10 rfl) a7)) a7)) (PU.n (uv 8 rfl) rfl) (λp l=>ak p (iK (pv 11) l set_list)))
   (T1 (PM.n (C7 (r:=I0) 4 (pv 4) rfl (PU.m (o6 (Jb L7 (R1 (XN:=iA) (N:=["_law_one","_law_letters"]) (XS:=c6 fq) (cap:=[none,some 2]) (by decide +kernel) rfl rfl rfl rfl (l9 (uv 11 rfl)) (λ_ _ _ _=>(gn 0 FQ)) (λ_ _ _ _=>A8) (λ_ _ _ _=>(PU.r8 (o4 g (uv 1 rfl) (uv 0 rfl))))) rfl (λpo h=>az PySem.F.plainAttrs_str PySem.F.slot_str_join PySem.F.type_str_join KW po h)) (J0 (o4 g (uv 2 rfl) (uv 3 rfl)) (J0 (uv 9 rfl) (W3 (uv 10 rfl) a7))))) rfl (λh=>az xz PySem.F.slot_list_append PySem.F.type_list_append A5 (pv 4) h))))) (λa b c=>y4 vv rfl a b c))))
   (C8 (i:=12) G7.nd rfl (Or.inl rfl) (PN.r8 (W5 (B6 g) (PU.n (A9 (c9 L7 (c9 L7 (c9 L7 (c9 L7 (c9 L7 (c9 L7 (c9 L7 (c9 L7 (c9 L7 (c9 L7 (c9 L7 n9 rfl) rfl) rfl) rfl) rfl) rfl) rfl) rfl) rfl) rfl) rfl) rfl) rfl) (PM.n (pl 0 d g (i8 (PU.n a7 rfl) l6 rfl))) (λ_ _=>rfl))) rfl)
   (M5 (Q6.m (mK.pt (W7 (pD g (uv 12 rfl) L7 (j9 _)) (R4 (Bt (B6 g) (uv 12 rfl) (uv 4 rfl) rfl))))) (P0 rfl (rY 4 (pv 4) rfl (PU.m (PU.r8 (uv 12 rfl))) (PM.n (pl 0 d g (i8 (PU.n (uv 1 rfl) rfl) l6 rfl))) (λp l=>ak p (iK (pv 4) l set_list)))) C9)
   (Q4 4 (pv 4) (by decide) rfl))) v
theorem ie:i5 ["_law_board","_law_overs_here","_law_guard","_law_load"] ["_law_board"] (c6 xh):=by walk_at "s"
theorem Lv (F:M9 K "_law_overs" "_law_overs" xh f g)
  (len:B0 aP 1) (e:U6 aP CL 4):u3 P w K mg base L6 1 f g ["_law_board"] (Q3 K aP):=
 V0 (cl:=[.bor,.own,.bor,.bor]) F ie rfl len (λh A outer i H E d=>(Kz rfl (ss 1 ie.nd pd rfl)
   (D1 (Y8.m (l9 (o4 d (uv 0 rfl) a7)) rfl) (gn 2 ie.nd)
    (P0 rfl (cN (B6 d) 1 (pv 1) rfl (PU.n (Hv (JF (A9 (c9 (PU.r8 (o4 d (uv 2 rfl) a7)) n9 rfl) rfl) (eL (B6 d) (uv 1 rfl) (o4 d (uv 2 rfl) a7) (Hv (A9 n9 rfl)) ⟨rfl,rfl,rfl,rfl⟩))) rfl) (PU.n (o4 d (uv 2 rfl) a7) rfl))) (λa b c=>y4 vv rfl a b c))
   (D1 (Y8.m (l9 (o4 d (uv 0 rfl) a7)) rfl) (gn 3 ie.nd)
    (P0 rfl (cN (B6 d) 1 (pv 1) rfl (PM.n (PU.m (PU.r8 (o4 d (uv 1 rfl) (o4 d (uv 3 rfl) a7))))) (PU.n (o4 d (uv 3 rfl) a7) rfl))) (λa b c=>y4 vv rfl a b c))
   (Q4 1 (pv 1) (by decide) rfl))) e
abbrev nD:YF:=["_law_feed_here","_law_unit","_law_time","_law_many","_law_some","_law_times","_law_k"]
theorem Y0:i5 nD ["_law_feed_here","_law_unit","_law_time"] (c6 dH):=by walk_at "s"
theorem wA:(["_law_k","_law_unit","_law_time","_law_some","_law_times","_law_many"]:YF).Nodup:=by decide +kernel
theorem Ap (F:M9 K "_law_small_curve" "_law_small_curve" dH f q) (e:cp P w K mg base o l) (d:mg "range"=none) (g:mg "tuple"=none)
  (len:Ly T5 3) (p:Ts T5 rG 7):u3 P w K mg base L6 2 f q ["_law_feed_here","_law_unit","_law_time"] (HQ K T5):=
 Ti (cl:=[.bor,.bor,.bor,.own,.own,.bor]) F Y0 rfl len (λu A outer v H E h=>(ML rfl (C8  Y0.nd rfl (Or.inr rfl) (G8 (PU.n a7 rfl) (PM.n (pl 0 e h (i8 (PU.n a7 rfl) l6 rfl)))) rfl)
   (C8  Y0.nd rfl (Or.inr rfl) (xf (B4 (G8 (PU.n a7 rfl) (PM.n (pl 0 e h (i8 (PU.n a7 rfl) l6 rfl)))) cS rfl) rfl) rfl)
   (C8  Y0.nd rfl (Or.inr rfl) (xf (B4 (G8 (PU.n a7 rfl) (PM.n (pl 0 e h (i8 (PU.n a7 rfl) l6 rfl)))) cS rfl) rfl) rfl)
   (D1 (Y8.m (S7 (by rfl) d (M1 (uv 3 rfl) a7) rfl (λj=>K6 (by rfl) d j)) rfl) (gn 6 Y0.nd)
    (uS rfl (T1 (PM.n (C7 (r:=I0) 4 (pv 4) rfl (G8 (PU.n (o6 (o4 h (uv 4 rfl) (pS a7)) a7) rfl) (PM.n (pl 0 e h (i8 (PU.n a7 rfl) l6 rfl)))) rfl (λj=>az xz PySem.F.slot_list_append PySem.F.type_list_append A5 (pv 4) j))))
   (T1 (PM.n (C7 (r:=I0) 5 (pv 5) rfl (G8 (PU.n (o6 (o4 h (uv 5 rfl) (pS a7)) a7) rfl) (PM.n (pl 0 e h (i8 (PU.n a7 rfl) l6 rfl)))) rfl (λj=>az xz PySem.F.slot_list_append PySem.F.type_list_append A5 (pv 5) j))))) (λa b c=>y4 vv rfl a b c))
   (o9 (y7 A4 V8 (by rfl) g Gc (a8 (R1 (XN:=nD)  (XS:=c6 dH)  (by decide +kernel) rfl rfl rfl rfl (S7 (by rfl) d (uv 3 rfl) rfl (λj=>K6 (by rfl) d j)) (λ_ _ _ _=>(gn 0 wA)) (λ_ _ _ _=>A8) (λ_ _ _ _=>(D2 (c9 (J0 (o4 h (uv 3 rfl) (uv 0 rfl)) (uv 1 rfl)) (c9 (J0 (o4 h (uv 4 rfl) (M1 (M1 (uv 5 rfl) a7) (uv 0 rfl))) (uv 2 rfl)) n9 rfl) rfl) rfl))) c7 rfl)) rfl))) p
theorem De:i5 ["_law_guard","_law_more"] ["_law_guard","_law_more"] (c6 hZ):=by walk_at "s"
theorem BU:(["_law_step","_law_more"]:YF).Nodup:=by decide +kernel
theorem GU (F:M9 K "_law_lifted" "_law_lifted" hZ f d) (a:mg "tuple"=none)
  (len:B0 V2 2) (c:U6 V2 zD 2):u3 P w K mg base L6 1 f d ["_law_guard","_law_more"] (Q3 K V2):=
 V0 (cl:=[.bor,.bor]) F De rfl len (λe A outer g H E b=>(P0 rfl (o9 (o6 (o6 (cJ (uv 0 rfl) Z0 (R3 a7)) (D2 (c9 (y7 A4 V8 (by rfl) a Gc (a8 (R1 (XN:=["_law_guard","_law_more"])  (XS:=c6 hZ)  (by decide +kernel) rfl rfl rfl rfl (l9 (o4 b (uv 0 rfl) a7)) (λ_ _ _ _=>(gn 0 BU)) (λ_ _ _ _=>A8) (λ_ _ _ _=>(D2 (c9 (o6 (o4 b (uv 0 rfl) a7) (uv 1 rfl)) (c9 (PU.r8 (o4 b (uv 0 rfl) a7)) n9 rfl) rfl) rfl))) c7 rfl)) n9 rfl) rfl)) (cJ (uv 0 rfl) (R3 a7) Z0)) rfl))) c
abbrev zA:YF:=["_law_board","_law_overs_here","_law_found","_law_load","_law_name"]
theorem eh:i5 zA ["_law_board"] (c6 pE):=by walk_at "s"
theorem DF:(["_law_guard"]:YF).Nodup:=by decide +kernel
theorem JU (F:M9 K "_law_rest" "_law_rest" pE f o) (e:xV P w K mg base j i) (g:mg "dict"=none) (h:mg "int"=none)
  (len:B0 W6 1) (l:U6 W6 FU 5):u3 P w K mg base L6 2 f o ["_law_board"] (Q3 K W6):=
 V0 (cl:=[.bor,.bor,.own,.bor,.bor]) F eh rfl len (λp A outer q H E d=>(Kz rfl (ss 1 eh.nd (pc e d (a8 (uv 0 rfl) c7 rfl) rfl) rfl)
   (ss 2 eh.nd (y7 (jY rfl) zR (by rfl) g PyProof.Rows.boot_dict (a8 (R1 (XN:=zA)  (XS:=c6 pE)  (by decide +kernel) rfl rfl rfl rfl (l9 (o4 d (uv 0 rfl) a7)) (λ_ _ _ _=>(gn 0 DF)) (λ_ _ _ _=>A8) (λ_ _ _ _=>(D2 (c9 (PU.r8 (o4 d (uv 0 rfl) a7)) (c9 a7 n9 rfl) rfl) rfl))) c7 rfl)) rfl)
   (D1 (Y8.m (l9 (o4 d (uv 0 rfl) a7)) rfl) (gn 3 eh.nd)
    (P0 rfl (D1 (Y8.m (l9 (o4 d (uv 1 rfl) (o4 d (uv 3 rfl) a7))) rfl) (gn 4 eh.nd)
    (P0 rfl (cN (B6 d) 2 (pv 2) rfl (PU.n (o6 (o4 d (uv 2 rfl) (uv 4 rfl)) (J0 (o4 d (uv 3 rfl) a7) (y7 fH vo (by rfl) h Xp (a8 (o4 d (uv 3 rfl) a7) c7 rfl)))) rfl) (PU.n (uv 4 rfl) rfl))) (λa b c=>y4 vv rfl a b c))) (λa b c=>y4 vv rfl a b c))
   (Q4 2 (pv 2) (by decide) rfl))) l
theorem K1:i5 ["_law_script","_law_names_here","_law_unit","_law_time","_law_guards","_law_k","_law_feed_here","_law_at","_law_curve","_law_delay"] ["_law_script","_law_names_here","_law_unit","_law_time"] (c6 fS):=by walk_at "s"
theorem vP (F:M9 K "_law_small_guards" "_law_small_guards" fS f C) (l:oj P w K mg base z v) (d:cp P w K mg base y u) (g:sH P w K mg base o j) (q:mg "int"=none) (p:mg "len"=none) (e:mg "range"=none)
  (len:B0 N3 4) (B:U6 N3 ni 10):u3 P w K mg base L6 3 f C ["_law_script","_law_names_here","_law_unit","_law_time"] (Q3 K N3):=
 V0 (cl:=[.bor,.bor,.bor,.bor,.own,.bor,.own,.bor,.bor,.bor]) F K1 rfl len (λG A outer I H E h=>(xa rfl (ss 4 K1.nd (A9 n9 rfl) rfl)
   (D1 (Y8.m (S7 (by rfl) e (A2 J7 bT (by rfl) p Rs (a8 (uv 1 rfl) c7 rfl)) rfl (λx=>K6 (by rfl) e x)) rfl) (gn 5 K1.nd)
    (ML rfl (ss 6 K1.nd (pc l h (a8 (uv 0 rfl) (a8 (o6 a7 (uv 5 rfl)) c7 rfl) rfl) rfl) rfl)
   (C8  K1.nd rfl (Or.inl rfl) (PN.r8 (W5 (B6 h) (PM.n (xf (B4 (pl 6 d h (i8 (PU.n (o6 (uv 5 rfl) a7) rfl) l6 rfl)) (B4 (PU.m (PU.r8 (uv 5 rfl))) cS rfl) rfl) rfl)) (PM.n (Ck fH vo (by rfl) q Xp (i8 (PM.n (LK (PM.n (pl 6 d h (i8 (PU.n a7 rfl) l6 rfl))) (PU.n a7 rfl) (j9 _))) l6 rfl))) (λ_ _=>rfl))) rfl)
   (C8  K1.nd rfl (Or.inl rfl) (pl 6 g h (i8 (PU.n (uv 2 rfl) rfl) (i8 (PU.n (uv 3 rfl) rfl) l6 rfl) rfl)) rfl)
   (C8  K1.nd rfl (Or.inl rfl) (V6 (PM.n (pl 6 d h (i8 (PU.n a7 rfl) l6 rfl))) (PU.n (uv 3 rfl) rfl)) rfl)
   (T1 (PM.n (C7 (r:=I0) 4 (pv 4) rfl (xj (B4 (PU.m (PU.r8 (o4 h (uv 1 rfl) (uv 5 rfl)))) (B4 (PU.m (o4 h (o6 (A9 (c9 C4 n9 rfl) rfl) (uv 1 rfl)) (uv 7 rfl))) (B4 (PU.m (PU.r8 (uv 8 rfl))) (B4 (PU.m (PU.r8 (uv 9 rfl))) (B4 (V6 (PM.n (pl 6 d h (i8 (PU.n a7 rfl) l6 rfl))) (PU.n (uv 3 rfl) rfl)) cS rfl) rfl) rfl) rfl) rfl) rfl) rfl (λx=>az xz PySem.F.slot_list_append PySem.F.type_list_append A5 (pv 4) x))))) (λa b c=>y4 vv rfl a b c))
   (Q4 4 (pv 4) (by decide) rfl))) B
theorem O7:i5 ["_law_script","_law_names_here","_law_guards","_law_unit","_law_time","_law_loads","_law_k","_law_feed_here","_law_at","_law_course","_law_j"] ["_law_script","_law_names_here","_law_guards","_law_unit","_law_time"] (c6 jd):=by walk_at "s"
theorem Bg (F:M9 K "_law_small_loads" "_law_small_loads" jd f y) (o:oj P w K mg base v q) (d:cp P w K mg base u p) (j:mg "len"=none) (e:mg "range"=none) (h:mg "tuple"=none)
  (len:B0 T4 5) (x:U6 T4 sN 11):u3 P w K mg base L6 3 f y ["_law_script","_law_names_here","_law_guards","_law_unit","_law_time"] (Q3 K T4):=
 V0 (cl:=[.bor,.bor,.bor,.bor,.bor,.own,.bor,.own,.bor,.own,.bor]) F O7 rfl len (λz A outer B H E g=>(xa rfl (ss 5 O7.nd (A9 n9 rfl) rfl)
   (D1 (Y8.m (S7 (by rfl) e (A2 J7 bT (by rfl) j Rs (a8 (uv 1 rfl) c7 rfl)) rfl (λl=>K6 (by rfl) e l)) rfl) (gn 6 O7.nd)
    (ML rfl (ss 7 O7.nd (pc o g (a8 (uv 0 rfl) (a8 (o6 a7 (uv 6 rfl)) c7 rfl) rfl) rfl) rfl)
   (C8  O7.nd rfl (Or.inl rfl) (PN.r8 (W5 (B6 g) (W5 (B6 g) (PU.n (uv 2 rfl) rfl) (PM.n (pl 7 d g (i8 (PU.n (A2 J7 bT (by rfl) j Rs (a8 (uv 2 rfl) c7 rfl)) rfl) l6 rfl))) (λ_ _=>rfl)) (PU.n a7 rfl) (λ_ _=>rfl))) rfl)
   (ss 9 O7.nd (A9 n9 rfl) rfl)
   (D1 (BY (by rfl) e (PM.n (pl 7 d g (i8 (PU.n a7 rfl) l6 rfl))) rfl (λl=>K6 (by rfl) e l)) (gn 10 O7.nd)
    (P0 rfl (T1 (PM.n (C7 (r:=I0) 9 (pv 9) rfl (xj (B4 (V6 (PM.n (G8 (PU.n a7 rfl) (PM.n (pl 7 d g (i8 (PU.n a7 rfl) l6 rfl))))) (PU.n (uv 4 rfl) rfl)) (B4 (V6 (PM.n (pl 7 d g (i8 (PU.n a7 rfl) l6 rfl))) (PU.n (uv 3 rfl) rfl)) cS rfl) rfl) rfl) rfl (λl=>az xz PySem.F.slot_list_append PySem.F.type_list_append A5 (pv 9) l))))) (λa b c=>y4 vv rfl a b c))
   (T1 (PM.n (C7 (r:=I0) 5 (pv 5) rfl (xj (B4 (PU.m (PU.r8 (o4 g (uv 1 rfl) (uv 6 rfl)))) (B4 (PU.m (PU.r8 (uv 8 rfl))) (B4 (PU.m (y7 A4 V8 (by rfl) h Gc (a8 (uv 9 rfl) c7 rfl))) (B4 (V6 (PM.n (pl 7 d g (i8 (PU.n a7 rfl) l6 rfl))) (PU.n (uv 3 rfl) rfl)) (B4 (LK (PM.n (pl 7 d g (i8 (PU.n a7 rfl) l6 rfl))) (PU.n a7 rfl) (j9 _)) cS rfl) rfl) rfl) rfl) rfl) rfl) rfl (λl=>az xz PySem.F.slot_list_append PySem.F.type_list_append A5 (pv 5) l))))) (λa b c=>y4 vv rfl a b c))
   (Q4 5 (pv 5) (by decide) rfl))) x
abbrev nY:YF:=["_law_script","_law_unit","_law_time","_law_feed_here","_law_many","_law_names_here","_law_guards","_law_loads","_law_found"]
theorem K4:i5 nY ["_law_script","_law_unit","_law_time"] (c6 dD):=by walk_at "s"
theorem vR:(["_law_guard","_law_found"]:YF).Nodup:=by decide +kernel
theorem BV (F:M9 K "_law_small_board" "_law_small_board" dD f O) (h:oj P w K mg base J B) (a:cp P w K mg base I z) (l:Ep P w K mg base G x) (g:pB P w K mg base y r) (j:iN P w K mg base C v) (b:mE P w K mg base q o) (d:qk P w K mg base u p) (c:mg "tuple"=none)
  (len:B0 S2 3) (M:U6 S2 qm 9):u3 P w K mg base L6 4 f O ["_law_script","_law_unit","_law_time"] (Q3 K S2):=
 V0 (cl:=[.bor,.bor,.bor,.own,.bor,.bor,.bor,.bor,.bor]) F K4 rfl len (λQ A outer R H E e=>(VN rfl (ss 3 K4.nd (pc h e (a8 (uv 0 rfl) (a8 a7 c7 rfl) rfl) rfl) rfl)
   (C8  K4.nd rfl (Or.inl rfl) (G8 (PU.n a7 rfl) (PM.n (pl 3 a e (i8 (PU.n a7 rfl) l6 rfl)))) rfl)
   (C8  K4.nd rfl (Or.inl rfl) (FV l (e.mono (by decide)) (by rfl) (PU.m (pc h e (a8 (uv 0 rfl) (a8 a7 c7 rfl) rfl) rfl)) (B4 (G8 (PU.n (uv 4 rfl) rfl) (PM.n (pl 3 a e (i8 (PU.n a7 rfl) l6 rfl)))) cS rfl) rfl) rfl)
   (ss 6 K4.nd (pc b e (a8 (uv 0 rfl) (a8 (cJ (uv 5 rfl) Z0 (R3 (uv 4 rfl))) (a8 (uv 1 rfl) (a8 (uv 2 rfl) c7 rfl) rfl) rfl) rfl) rfl) rfl)
   (ss 7 K4.nd (pc d e (a8 (uv 0 rfl) (a8 (cJ (uv 5 rfl) (R3 (uv 4 rfl)) Z0) (a8 (uv 6 rfl) (a8 (uv 1 rfl) (a8 (uv 2 rfl) c7 rfl) rfl) rfl) rfl) rfl) rfl) rfl)
   (dm  K4.nd rfl (Or.inr rfl) (pc j e (a8 (Io (yx (uv 6 rfl) (yx (uv 7 rfl) PR rfl rfl) rfl rfl) rfl) c7 rfl) rfl) rfl)
   (M5 (Mi (PM.n (pl 3 a e (i8 (PU.n a7 rfl) l6 rfl))) (PU.n a7 rfl) (j9 _)) (P0 rfl (iG  (XN:=nY)  (XS:=c6 dD) (cap:=[none,some 8]) K4.nd rfl rfl rfl (by decide +kernel) rfl rfl rfl rfl (l9 (uv 6 rfl)) (λ_ _ _ _=>(gn 0 vR)) (λ_ _ _ _=>A8) (λ_ _ _ _=>(pc g e (a8 (uv 0 rfl) (a8 (o4 e (uv 1 rfl) (o4 e (uv 0 rfl) a7)) c7 rfl) rfl) rfl)))) C9)
   (o9 (D2 (c9 (y7 A4 V8 (by rfl) c Gc (a8 (uv 6 rfl) c7 rfl)) (c9 (y7 A4 V8 (by rfl) c Gc (a8 (uv 7 rfl) c7 rfl)) n9 rfl) rfl) rfl) rfl))) M
abbrev yn:YF:=["_law_board","_law_place","_law_known","_law_found","_law_load"]
theorem pj:i5 yn ["_law_board","_law_place"] (c6 sR):=by walk_at "s"
theorem Ie:(["_law_guard"]:YF).Nodup:=by decide +kernel
theorem KS:(["_law_name","_law_known","_law_found"]:YF).Nodup:=by decide +kernel
theorem Qa (F:M9 K "_law_path" "_law_path" sR f r) (g:xV P w K mg base p l) (e:iN P w K mg base o j) (h:mg "dict"=none)
  (len:B0 kH 2) (q:U6 kH MO 5):u3 P w K mg base L6 3 f r ["_law_board","_law_place"] (Q3 K kH):=
 V0 (cl:=[.bor,.bor,.bor,.bor,.bor]) F pj rfl len (λu A outer v H E d=>(Kz rfl (dm  pj.nd rfl (Or.inr rfl) (y7 (jY rfl) zR (by rfl) h PyProof.Rows.boot_dict (a8 (R1 (XN:=yn)  (XS:=c6 sR)  (by decide +kernel) rfl rfl rfl rfl (l9 (o4 d (uv 0 rfl) a7)) (λ_ _ _ _=>(gn 0 Ie)) (λ_ _ _ _=>A8) (λ_ _ _ _=>(D2 (c9 (PU.r8 (o4 d (uv 0 rfl) a7)) (c9 (PU.r8 (uv 0 rfl)) n9 rfl) rfl) rfl))) c7 rfl)) rfl)
   (dm  pj.nd rfl (Or.inr rfl) (pc e d (a8 (uv 0 rfl) c7 rfl) rfl) rfl)
   (D1 (Y8.m (l9 (o4 d (uv 0 rfl) a7)) rfl) (gn 4 pj.nd)
    (P0 rfl (M5 (Q6.m (mK.pt (W7 (cD d (o4 d (uv 4 rfl) a7) (uv 1 rfl) (j9 _)) (R4 (oX (W9 (o4 d (uv 4 rfl) a7) (λ_=>rfl))))))) (P0 rfl (o9 (A9 n9 rfl) rfl)) C9)) (λa b c=>y4 vv rfl a b c))
   (o9 (R1 (XN:=yn)  (XS:=c6 sR)  (by decide +kernel) rfl rfl rfl rfl (l9 (o4 d (pc g d (a8 (uv 0 rfl) c7 rfl) rfl) (uv 1 rfl))) (λ_ _ _ _=>(gn 0 KS)) (λ_ _ _ _=>A8) (λ_ _ _ _=>(D2 (c9 (PU.r8 (o4 d (uv 1 rfl) (uv 0 rfl))) (c9 (PU.r8 (o4 d (uv 2 rfl) (uv 0 rfl))) n9 rfl) rfl) rfl))) rfl))) q
theorem pN:i5 ["_law_board","_law_found","_law_guard"] ["_law_board"] (c6 wB):=by walk_at "s"
theorem KI (F:M9 K "_law_loud" "_law_loud" wB f j) (d:iN P w K mg base h g)
  (len:B0 cA 1) (i:U6 cA Ea 3):u3 P w K mg base L6 3 f j ["_law_board"] (Q3 K cA):=
 V0 (cl:=[.bor,.bor,.bor]) F pN rfl len (λl A outer o H E e=>(xa rfl (ss 1 pN.nd (pc d e (a8 (uv 0 rfl) c7 rfl) rfl) rfl)
   (D1 (Y8.m (l9 (o4 e (uv 0 rfl) a7)) rfl) (gn 2 pN.nd)
    (P0 rfl (M5 (Q6.m (Cz (o4 e (uv 1 rfl) (o4 e (uv 2 rfl) a7)) (o4 e (o4 e (o4 e (uv 2 rfl) a7) a7) a7) (j9 _))) (P0 rfl (o9 (PU.r8 (o4 e (uv 2 rfl) a7)) rfl)) C9)) (λa b c=>y4 vv rfl a b c))
   (o9 C4 rfl))) i
theorem DQ:i5 ["_law_board"] ["_law_board"] (c6 dQ):=by walk_at "s"
theorem An:(["_law_guard"]:YF).Nodup:=by decide +kernel
theorem Al:(["_law_load"]:YF).Nodup:=by decide +kernel
theorem Gb (F:M9 K "_law_places" "_law_places" dQ f c)
  (len:B0 au 1) (b:U6 au yB 1):u3 P w K mg base L6 1 f c ["_law_board"] (Q3 K au):=
 V0 (cl:=[.bor]) F DQ rfl len (λd A outer e H E a=>(P0 rfl (o9 (o6 (R1 (XN:=["_law_board"])  (XS:=c6 dQ)  (by decide +kernel) rfl rfl rfl rfl (l9 (o4 a (uv 0 rfl) a7)) (λ_ _ _ _=>(gn 0 An)) (λ_ _ _ _=>A8) (λ_ _ _ _=>(PU.r8 (o4 a (uv 0 rfl) a7)))) (R1 (XN:=["_law_board"])  (XS:=c6 dQ)  (by decide +kernel) rfl rfl rfl rfl (l9 (o4 a (uv 0 rfl) a7)) (λ_ _ _ _=>(gn 0 Al)) (λ_ _ _ _=>A8) (λ_ _ _ _=>(PU.r8 (o4 a (uv 0 rfl) a7))))) rfl))) b
theorem iz:i5 ["_law_script","_law_feed_here","_law_unit","_law_time"] ["_law_script"] (c6 xJ):=by walk_at "s"
theorem IJ (F:M9 K "_law_sized" "_law_sized" xJ f q) (d:oj P w K mg base o j) (b:cp P w K mg base l h) (a:sE P w K mg base g c)
  (len:B0 cU 1) (p:U6 cU Hg 4):u3 P w K mg base L6 5 f q ["_law_script"] (Q3 K cU):=
 V0 (cl:=[.bor,.own,.bor,.bor]) F iz rfl len (λr A outer u H E e=>(Kz rfl (ss 1 iz.nd (pc d e (a8 (uv 0 rfl) (a8 a7 c7 rfl) rfl) rfl) rfl)
   (C8  iz.nd rfl (Or.inl rfl) (PN.r8 (W5 (B6 e) (PU.n (A9 (c9 a7 (c9 a7 (c9 a7 (c9 (o6 (eZ a7 a7) a7) n9 rfl) rfl) rfl) rfl) rfl) rfl) (PM.n (pl 1 b e (i8 (PU.n a7 rfl) l6 rfl))) (λ_ _=>rfl))) rfl)
   (C8  iz.nd rfl (Or.inl rfl) (PN.r8 (W5 (B6 e) (PU.n (A9 (c9 a7 (c9 a7 (c9 a7 (c9 (eZ a7 a7) n9 rfl) rfl) rfl) rfl) rfl) rfl) (PM.n (pl 1 b e (i8 (PU.n a7 rfl) l6 rfl))) (λ_ _=>rfl))) rfl)
   (o9 (D2 (c9 (pc a e (a8 (uv 0 rfl) (a8 (uv 2 rfl) (a8 (uv 3 rfl) c7 rfl) rfl) rfl) rfl) (c9 (PU.r8 (uv 2 rfl)) n9 rfl) rfl) rfl) rfl))) p
theorem jL:i5 ["_law_feed_here","_law_path_here","_law_unit","_law_way","_law_guard","_law_one","_law_step"] ["_law_feed_here","_law_path_here","_law_unit"] (c6 DY):=by walk_at "s"
theorem Nx (F:M9 K "_law_most" "_law_most" DY f o) (a:cp P w K mg base j e) (c:mg "len"=none) (d:mg "max"=none)
  (len:Ly iH 3) (l:Ts iH Me 7):u3 P w K mg base L6 2 f o ["_law_feed_here","_law_path_here","_law_unit"] (HQ K iH):=
 Ti (cl:=[.bor,.bor,.bor,.bor,.bor,.bor]) F jL rfl len (λq A outer r H E b=>(UZ rfl (C8  jL.nd rfl (Or.inl rfl) (pl 0 a b (i8 (PU.n a7 rfl) l6 rfl)) rfl)
   (M5 (Q6.m (cD b (uv 3 rfl) a7 (j9 _))) (P0 rfl (o9 (M1 (eZ a7 a7) a7) rfl)) C9)
   (M5 (Q6.m (mK.pt (DJ (Gm (uv 3 rfl) a7 (j9 _)) (wH (cD b (A2 J7 bT (by rfl) c Rs (a8 (uv 1 rfl) c7 rfl)) a7 (j9 _)))))) (P0 rfl (Dk (G8 (PU.n a7 rfl) (PM.n (V6 (PM.n (pl 0 a b (i8 (PU.n a7 rfl) l6 rfl))) (PU.n (uv 2 rfl) rfl)))))) C9)
   (OQ (W5 (B6 b) (PU.n (uv 1 rfl) rfl) (PM.n (pl 0 a b (i8 (PU.n (A2 J7 bT (by rfl) c Rs (a8 (uv 1 rfl) c7 rfl)) rfl) l6 rfl))) (λ_ _=>rfl)) (dM  (u5 (gn 4 jL.nd) (u5 (gn 5 jL.nd) aa)) (λ_ _ _ h=>tM h) (λp=>W0 rfl p)) (λp g=>ak p g))
   (C8  jL.nd rfl (Or.inl rfl) (PN.r8 (W5 (B6 b) (PU.n (o4 b (uv 4 rfl) a7) rfl) (PM.n (pl 0 a b (i8 (PU.n (A2 J7 bT (by rfl) c Rs (a8 (o4 b (uv 4 rfl) a7) c7 rfl)) rfl) l6 rfl))) (λ_ _=>rfl))) rfl)
   (Dk (FW (bH rfl) JB (by rfl) d WM (i8 (PU.n a7 rfl) (i8 (PM.n (G8 (PU.n (M1 (M1 (o4 b (uv 6 rfl) a7) (uv 5 rfl)) a7) rfl) (PM.n (pl 0 a b (i8 (PU.n a7 rfl) l6 rfl))))) l6 rfl) rfl))))) l
theorem N9:i5 ["_law_board","_law_found","_law_lows_here","_law_guards","_law_guard","_law_mine","_law_low"] ["_law_board"] (c6 kL):=by walk_at "s"
theorem Co (F:M9 K "_law_sighted" "_law_sighted" kL f v) (e:pB P w K mg base o j) (h:iN P w K mg base p l) (i:mg "max"=none) (g:mg "tuple"=none)
  (len:B0 S4 1) (q:U6 S4 sd 7):u3 P w K mg base L6 3 f v ["_law_board"] (Q3 K S4):=
 V0 (cl:=[.bor,.bor,.own,.own,.bor,.bor,.bor]) F N9 rfl len (λx A outer y H E d=>(ML rfl (ss 1 N9.nd (pc h d (a8 (uv 0 rfl) c7 rfl) rfl) rfl)
   (ss 2 N9.nd CS rfl)
   (ss 3 N9.nd (A9 n9 rfl) rfl)
   (D1 (Y8.m (l9 (Fh (o4 d (uv 0 rfl) a7) (pS a7))) rfl) (gn 4 N9.nd)
    (Kz rfl (ss 5 N9.nd (M1 (o4 d (o4 d (o4 d (uv 4 rfl) a7) a7) a7) (o4 d (uv 1 rfl) (o4 d (uv 4 rfl) a7))) rfl)
   (ss 6 N9.nd (A2 (bH rfl) JB (by rfl) i WM (a8 (qe (uv 2 rfl) (o4 d (uv 4 rfl) a7) a7 ⟨rfl,rfl,rfl,rfl⟩) (a8 (uv 5 rfl) c7 rfl) rfl)) rfl)
   (T1 (PM.n (C7 (r:=I0) 3 (pv 3) rfl (PU.m (pc e d (a8 (uv 4 rfl) (a8 (M1 (uv 6 rfl) (uv 5 rfl)) c7 rfl) rfl) rfl)) rfl (λu=>az xz PySem.F.slot_list_append PySem.F.type_list_append A5 (pv 3) u))))
   (La 2 (pv 2) rfl (PU.n (A2 (bH rfl) JB (by rfl) i WM (a8 (qe (uv 2 rfl) (o4 d (uv 4 rfl) a7) a7 ⟨rfl,rfl,rfl,rfl⟩) (a8 (uv 6 rfl) c7 rfl) rfl)) rfl) (PU.n (o4 d (uv 4 rfl) a7) rfl))) (λa b c=>y4 vv rfl a b c))
   (o9 (D2 (c9 (y7 A4 V8 (by rfl) g Gc (a8 (Kw (uv 3 rfl) (pS a7)) c7 rfl)) (c9 (PU.r8 (o4 d (uv 0 rfl) a7)) n9 rfl) rfl) rfl) rfl))) q
theorem fJ:i5 ["_law_script","_law_board","_law_unit","_law_feed_here","_law_places_here"] ["_law_script"] (c6 FC):=by walk_at "s"
theorem NY (F:M9 K "_law_case" "_law_case" FC f S) (q:oj P w K mg base Q G) (b:cp P w K mg base J z) (l:LQ P w K mg base M B) (c:zE P w K mg base y r) (e:Fu P w K mg base I x) (o:Ms P w K mg base O C) (a:rE P w K mg base u j) (v:mg "len"=none)
  (len:B0 jF 1) (R:U6 jF LN 5):u3 P w K mg base L6 6 f S ["_law_script"] (Q3 K jF):=
 V0 (cl:=[.bor,.bor,.bor,.own,.bor]) F fJ rfl len (λT A outer U H E d=>(ML rfl (LX (pc e d (a8 (uv 0 rfl) c7 rfl) rfl) rfl (dM  (u5 (gn 1 fJ.nd) (u5 (gn 2 fJ.nd) aa)) (λ_ _ _ h=>tM h) (λp=>W0 rfl p)) (λp g=>ak p g))
   (ss 3 fJ.nd (pc q d (a8 (uv 0 rfl) (a8 a7 c7 rfl) rfl) rfl) rfl)
   (M5 (Mi (PM.n (pl 3 b d (i8 (PU.n a7 rfl) l6 rfl))) (PU.n a7 rfl) (j9 _)) (P0 rfl (ss 1 fJ.nd (pc a d (a8 (uv 1 rfl) c7 rfl) rfl) rfl)) C9)
   (ss 4 fJ.nd (pc c d (a8 (uv 1 rfl) c7 rfl) rfl) rfl)
   (Pb  (PU.m (PU.r8 (uv 1 rfl))) rfl (pl 3 o d (i8 (PM.n (tJ l (d.mono (by decide)) (by rfl) (i8 (PU.n (uv 1 rfl) rfl) (i8 (W5 (B6 d) (PU.n (uv 4 rfl) rfl) (PM.n (pl 3 b d (i8 (PU.n (A2 J7 bT (by rfl) v Rs (a8 (uv 4 rfl) c7 rfl)) rfl) l6 rfl))) (λ_ _=>rfl)) l6 rfl) rfl) rfl)) (i8 (PU.n (uv 2 rfl) rfl) l6 rfl) rfl)) rfl (pv 3) (by decide) rfl))) R
abbrev EV:YF:=["_law_board","_law_delays","_law_guards"]
theorem Dz:i5 EV ["_law_board","_law_delays"] (c6 yD):=by walk_at "s"
theorem Ke:(["_law_guard","_law_delays"]:YF).Nodup:=by decide +kernel
theorem OE (F:M9 K "_law_with" "_law_with" yD f d) (a:mg "tuple"=none)
  (len:B0 jN 2) (c:U6 jN Mq 3):u3 P w K mg base L6 1 f d ["_law_board","_law_delays"] (Q3 K jN):=
 V0 (cl:=[.bor,.bor,.bor]) F Dz rfl len (λe A outer g H E b=>(uS rfl (iG  (XN:=EV)  (XS:=c6 yD)  Dz.nd rfl rfl rfl (by decide +kernel) rfl rfl rfl rfl (l9 (o4 b (uv 0 rfl) a7)) (λ_ _ _ _=>(gn 0 Ke)) (λ_ _ _ _=>A8) (λ_ _ _ _=>(o6 (o6 (cJ (uv 0 rfl) Z0 (R3 a7)) (D2 (c9 (PU.r8 (o4 b (uv 1 rfl) (o4 b (uv 0 rfl) a7))) n9 rfl) rfl)) (cJ (uv 0 rfl) (R3 a7) Z0))))
   (o9 (D2 (c9 (y7 A4 V8 (by rfl) a Gc (a8 (uv 2 rfl) c7 rfl)) (c9 (PU.r8 (o4 b (uv 0 rfl) a7)) n9 rfl) rfl) rfl) rfl))) c
abbrev oY:YF:=["_law_script","_law_board","_law_most_here","_law_feed_here","_law_delays","_law_guard","_law_other","_law_bare","_law_found","_law_some","_law_least","_law_lower"]
theorem J8:i5 oY ["_law_script"] (c6 U3):=by walk_at "s"
theorem aW:(["_law_name","_law_at","_law_course","_law_last","_law_on"]:YF).Nodup:=by decide +kernel
theorem Gv:(["_law_name","_law_lower","_law_least"]:YF).Nodup:=by decide +kernel
theorem Ja (F:M9 K "law" "law" U3 f fd) (l:jr P w K mg base G z) (r:vC P w K mg base X O) (d:eU P w K mg base v u) (q:Hm P w K mg base T J) (o:cp P w K mg base a0 R) (y:Ha P w K mg base U M) (C:Mb P w K mg base a1 S) (B:Mj P w K mg base Y Q) (I:mg "all"=none) (x:mg "tuple"=none)
  (len:B0 cP 1) (rd:U6 cP HB 12):u3 P w K mg base L6 10 f fd ["_law_script"] (Q3 K cP):=
 V0 (cl:=[.bor,.bor,.bor,.own,.own,.bor,.bor,.bor,.bor,.bor,.bor,.bor]) F J8 rfl len (λa2 A outer s0 H E e=>(Ua rfl (IH    (PU.m (pc C e (a8 (uv 0 rfl) c7 rfl) rfl)) rfl rfl rfl (W0 rfl (eF (dq J8.nd rfl (Or.inl rfl)) (eF (dq J8.nd rfl (Or.inl rfl)) (eF (dq J8.nd rfl (Or.inl rfl)) zI)))) (λp g=>ak p g))
   (M5 (Q6.m (G4 (pc y e (a8 (uv 1 rfl) c7 rfl) rfl) C4 (j9 _))) (P0 rfl (o9 sD rfl)) C9)
   (ss 4 J8.nd pd rfl)
   (D1 (Y8.m (l9 (o4 e (uv 1 rfl) a7)) rfl) (gn 5 J8.nd)
    (P0 rfl (cN (B6 e) 4 (pv 4) rfl (PM.n (V6 (PM.n (pl 3 o e (i8 (PU.n a7 rfl) l6 rfl))) (W5 (B6 e) (PU.n (A9 (c9 a7 (c9 (PU.r8 (uv 2 rfl)) (c9 (J0 (eZ a7 a7) (eZ a7 a7)) n9 rfl) rfl) rfl) rfl) rfl) (PM.n (pl 3 o e (i8 (PU.n a7 rfl) l6 rfl))) (λ_ _=>rfl)))) (PU.n (o4 e (uv 5 rfl) a7) rfl))) (λa b c=>y4 vv rfl a b c))
   (ss 6 J8.nd (pc B e (a8 (uv 1 rfl) (a8 (uv 4 rfl) c7 rfl) rfl) rfl) rfl)
   (ss 7 J8.nd (D2 (c9 (PU.r8 (o4 e (uv 1 rfl) a7)) (c9 (y7 A4 V8 (by rfl) x Gc (a8 (R1 (XN:=oY) (N:=["_law_name","_law_at","_law_course","_law_last","_law_on"]) (XS:=c6 U3) (cap:=[none,none,none,none,none]) (by decide +kernel) rfl rfl rfl rfl (l9 (o4 e (uv 1 rfl) a7)) (λ_ _ _ _=>(dM (n:=5) (u5 (gn 0 aW) (u5 (gn 1 aW) (u5 (gn 2 aW) (u5 (gn 3 aW) (u5 (gn 4 aW) aa))))) (λ_ _ _ h=>Sj h) (λp=>W0 rfl p))) (λ_ _ _ _=>A8) (λ_ _ _ _=>(D2 (c9 (PU.r8 (uv 0 rfl)) (c9 (PU.r8 (uv 1 rfl)) (c9 (D2 n9 rfl) (c9 (PU.r8 (uv 3 rfl)) (c9 (PU.r8 (uv 4 rfl)) n9 rfl) rfl) rfl) rfl) rfl) rfl))) c7 rfl)) n9 rfl) rfl) rfl) rfl)
   (ss 8 J8.nd (pc r e (a8 (uv 1 rfl) (a8 (uv 2 rfl) c7 rfl) rfl) rfl) rfl)
   (D1 (Y8.m (l9 (A9 (c9 (PU.r8 (uv 6 rfl)) (c9 (PU.r8 (uv 7 rfl)) n9 rfl) rfl) rfl)) rfl) (gn 9 J8.nd)
    (xa rfl (M5 (Q6.m (mK.pt (DJ (pD e (pc l e (a8 (uv 9 rfl) (a8 (uv 2 rfl) c7 rfl) rfl) rfl) (pc l e (a8 (uv 1 rfl) (a8 (uv 2 rfl) c7 rfl) rfl) rfl) (j9 _)) (wH (pD e (pc r e (a8 (uv 9 rfl) (a8 (uv 2 rfl) c7 rfl) rfl) rfl) (uv 8 rfl) (j9 _)))))) (P0 rfl (o9 sD rfl)) C9)
   (M5 (Q6.m (mK.pt (W7 (uV (uv 8 rfl) C4 (j9 _)) (R4 (Ir (Nat.lt_of_succ_lt (B6 e)) (pc d e (a8 (uv 9 rfl) (a8 (uv 2 rfl) c7 rfl) rfl) rfl) (pc d e (a8 (uv 1 rfl) (a8 (uv 2 rfl) c7 rfl) rfl) rfl) (j9 _)))))) (P0 rfl (o9 sD rfl)) C9)
   (M5 (Q6.m (mK.pt (W7 (uV (uv 8 rfl) C4 (j9 _)) (R4 (pD e (pc q e (a8 (uv 9 rfl) (a8 (uv 2 rfl) c7 rfl) rfl) rfl) (pc q e (a8 (uv 1 rfl) (a8 (uv 2 rfl) c7 rfl) rfl) rfl) (j9 _)))))) (P0 rfl (o9 sD rfl)) C9)) (λa b c=>y4 vv rfl a b c))
   (M5 (Q6.m (G4 (uv 8 rfl) C4 (j9 _))) (P0 rfl (o9 sD rfl)) C9)
   (dm (i:=10) J8.nd rfl (Or.inr rfl) (pc d e (a8 (uv 1 rfl) (a8 (uv 2 rfl) c7 rfl) rfl) rfl) rfl)
   (C8 (i:=11) J8.nd rfl (Or.inr rfl) (tJ d (e.mono (by decide)) (by rfl) (i8 (PU.n (uv 1 rfl) rfl) (i8 (PM.n (G8 (PU.n a7 rfl) (PM.n (pl 3 o e (i8 (PU.n (uv 2 rfl) rfl) l6 rfl))))) l6 rfl) rfl) rfl) rfl)
   (o9 (A2 (Es rfl) RK (by rfl) I PyProof.Rows.boot_all (a8 (R1 (XN:=oY) (N:=["_law_name","_law_lower","_law_least"]) (XS:=c6 U3) (cap:=[none,some 11,some 10]) (by decide +kernel) rfl rfl rfl rfl (Qk (uv 10 rfl)) (λ_ _ _ _=>(gn 0 Gv)) (λ_ _ _ _=>A8) (λ_ _ _ _=>(OA (o4 e (uv 1 rfl) (uv 0 rfl)) (o4 e (uv 2 rfl) (uv 0 rfl)) (j9 _)))) c7 rfl)) rfl))) rd
end
theorem sz(h:n<=100000):n<=sizeLine:=by rw[SC];omega
theorem ir(x:Str):∀a:YF,inD (.str x) (a.map D.str)=decide (x∈a)
 | []=>rfl
 | y::a=>by
  have b:=ir x a;unfold inD at b ⊢;rw[t8,VR,b];show(decide (y=x)||decide (x∈a))=_
  by_cases h:y=x
  ·subst h;simp
  ·have c:¬x=y:=λz=>h z.symm;simp[h,c]
theorem bL:∀a:YF,(a.map D.str).all aA=true
 | []=>rfl
 | y::a=>by
  rw[t8,We,bL a];rfl
theorem Be(ds:List D)(Q:D->Prop)(h:P1 ds Q):uz (EP Q) (i7 1 ds):=by
 obtain⟨d,b,rfl,g,o,i,q⟩:=h
 have body:b.length<sizeLine/\um (g1 0) N5 (u6 (g4 (a6 0) (uC (.int 0)))) (U9 [none] [some d]) b [] λds=>(EP Q).rt (.lst ds) [some d]:=by
  refine⟨g6 (by omega),?_⟩;have e:b=b.map id:=by simp
  rw[e];refine J5  (f:=λd=>.str (Qt d)) b [] (λa j K R c=>?_) ?_
  ·obtain⟨x,r,rfl⟩:=i a j;walk_at "r";exact c
  ·have l:b.map (λd=>D.str (Qt d))=(b.map Qt).map D.str:=by rw[vu];rfl
   rwa[l]
 rcases g with rfl | rfl
 ·exact body
 ·exact body
theorem pK:∀{gs:List Gd} {g:Gd},(gs.map (·.nm)).Nodup->g∈gs->gs.find? (λh=>decide (h.nm=g.nm))=some g
 | [],_,_,h=>by cases h
 | a::i,g,h,b=>by
  rw[t8] at h;obtain⟨d,c⟩:=List.nodup_cons.mp h;rw[wS];rcases List.mem_cons.mp b with e | e
  ·subst e;rw[uy rfl]
  ·have ne:¬a.nm=g.nm:=λz=>d (z▸List.mem_map.mpr ⟨g,e,rfl⟩);rw[v5 ne];exact pK c e
theorem ba(h:(gs.map (·.nm)).Nodup)(a:g∈gs):lR gs g.nm=g.un:=by
 unfold lR;rw[pK h a]
def sh(gs:List Gd)(dp:Nat->Nat)(n:Nat)(y:Str):Prop:=∃(j:Nat) (g:Gd),gs[j]?=some g/\g.nm=y/\1<=dp j/\dp j<=n
def pZ(gs:List Gd)(dp:Nat->Nat):Prop:=∀i g,gs[i]?=some g->1<=dp i/\dp i<=8/\(g.un=none->dp i=1)/\∀y,g.un=some y->∃j a,j<i/\gs[j]?=some a/\a.nm=y/\dp i=dp j+1
theorem sh.next(h:pZ gs dp)(o:(gs.map (·.nm)).Nodup)(d:sh gs dp (n+1) y)(e:lR gs y=some z):sh gs dp n z:=by
 obtain⟨j,g,c,rfl,r,q⟩:=d;rw[ba o (tt c)] at e;obtain⟨_,_,_,a⟩:=h j g c;obtain⟨b,i,_,l,p,u⟩:=a z e;exact⟨b,i,l,p,(h b i l).1,by omega⟩
theorem ID(ds:List D)(Q:D->Prop)(h:cu ds Q):DM (EP Q) (i7 5 ds):=by
 obtain⟨d,gs,x,rfl,hs,O,⟨g0,M,e0⟩,q⟩:=h;obtain⟨dp,B⟩:=O.un;have hl:=O.len;have I:=O.nd
 have l:∀c,(∀g∈gs,u7 c (.inr g.nm)=some (uD g.un))->qK (EP Q) [some d,some (.str x),some (.dic c),none,none]:=λc hv=>by
  walk_at "r";refine⟨λm T=>∃(b:YF) (a:Option Str) (E:Option D),T=[some d,some (uD a),some (.dic c),E,some (kT b)]/\b++ups gs m a=ups gs 8 (some x)/\b.length<=8-m/\m<=8/\(∀y,a=some y->sh gs dp m y),⟨8,[],some x,none,rfl,rfl,v9 _,oT _,λy hy=>?_⟩,?_⟩
  ·cases hy;obtain⟨j,U⟩:=xi M;obtain⟨a1,a2,_⟩:=B j g0 U;exact⟨j,g0,U,e0,a1,a2⟩
  ·rintro m T ⟨b,a,E,rfl,i,ha,hm,hd⟩
   cases a with
   | none=>
    walk_at "r";have e:ups gs m none=[]:=by cases m<;>rfl
    rw[e,ud] at i;rwa[<-i] at q
   | some y=>
    have S:=hd y rfl
    have J:∃G,m=G+1:=by
     obtain⟨_,_,_,_,Y,X⟩:=S;exact⟨m-1,by omega⟩
    obtain⟨G,rfl⟩:=J
    have C:∃g∈gs,g.nm=y:=by
     obtain⟨j,g,Y,X,_⟩:=S;exact⟨g,tt Y,X⟩
    obtain⟨g,p,rfl⟩:=C;have o:=ba I p;walk_at "r";refine⟨by rw[dL];exact g6 (by omega),?_⟩;refine⟨_,_,rfl,hv g p,rfl,?_⟩;refine⟨G,Wo _,b++[g.nm],g.un,E,?_,?_,?_,by omega,λz hz=>S.next B I (o.trans hz)⟩
    ·unfold kT;rw[vb];rfl
    ·rw[v6,<-o];exact i
    ·rw[uk,C2];omega
 rcases hs with rfl | rfl
 all_goals
  refine⟨by rw[dL];exact g6 (by omega),?_⟩;refine kg (k:=λg:Gd=>.inr g.nm) (v:=λg:Gd=>uD g.un) gs [] (λg C K R H=>?_) ⟨rfl,?_⟩
  ·obtain⟨n,u,cv,de,wa⟩:=g;have H:K (.inr n) (uD u):=H;have iU:r8 (uD u)=true:=fO u;walk_at "r";exact⟨iU,H⟩
  ·refine l _ λg C=>iI (k:=λg:Gd=>(.inr g.nm:Key)) (v:=λg:Gd=>uD g.un) gs [] ?_ g C;have e:gs.map (λg:Gd=>(.inr g.nm:Key))=(gs.map (·.nm)).map (λy=>(.inr y:Key)):=by rw[vu];rfl
   rw[e,List.Nodup,Wj];exact I.imp λh z=>h (Wa z)
theorem Ro(gs:List Gd):(gs.map gD).map Qt=gs.map (·.nm):=by rw[vu];rfl
theorem Jh(gs:List Gd):∀x∈gs.map gD,Oz x:=λx a=>by
 obtain⟨g,_,rfl⟩:=List.mem_map.mp a;exact⟨_,_,rfl⟩
theorem Rv(gs:List Ld):(gs.map lD).map Qt=gs.map (·.nm):=by rw[vu];rfl
theorem Jt(gs:List Ld):∀x∈gs.map lD,Oz x:=λx a=>by
 obtain⟨g,_,rfl⟩:=List.mem_map.mp a;exact⟨_,_,rfl⟩
theorem j6.du(h:j6 b):QJ b.gs:=⟨h.g16,(List.nodup_append.mp h.nd).1,h.un⟩
theorem vD(ds:List D)(Q:D->Prop)(h:B3 ds Q):om (EP Q) (i7 1 ds):=by
 obtain⟨b,rfl,a,q⟩:=h;have:=a.g16;walk_at "r";refine⟨_,_,rfl,.inl rfl,by rw[dL];omega,Jh _,?_⟩;rwa[Ro]
theorem Bb(ds:List D)(Q:D->Prop)(h:U2 ds Q):rF (EP Q) (i7 1 ds):=by
 obtain⟨b,rfl,a,q⟩:=h;have:=a.l24;walk_at "r";refine⟨_,_,rfl,.inl rfl,by rw[dL];omega,Jt _,?_⟩;rwa[Rv]
theorem wL(ds:List D)(Q:D->Prop)(h:O5 ds Q):mM (EP Q) (i7 2 ds):=by
 obtain⟨b,d,rfl,g,e,q⟩:=h;obtain⟨a,c⟩:=Mo e;refine⟨d,a,"str",rfl,c,rfl,?_⟩;cases d<;>first | (cases c;done) | skip
 case str x=>
  cases c;refine Br.yes rfl ?_;have q:Q (.bl (decide (x∈l7 b))):=q;rw[<-ir] at q;exact⟨b,rfl,g,⟨rfl,_,rfl,bL _,q⟩⟩
 all_goals
  cases c;exact Br.no (by decide) q
theorem AX(ds:List D)(Q:D->Prop)(h:S3 ds Q):qL (EP Q) (i7 2 ds):=by
 obtain⟨b,d,rfl,g,e,q⟩:=h;obtain⟨a,c⟩:=Mo e;refine⟨d,a,"str",rfl,c,rfl,?_⟩;cases d<;>first | (cases c;done) | skip
 case str x=>
  cases c;refine Br.yes rfl ?_;have q:Q (.bl (decide (x∈L0 b))):=q;rw[<-ir] at q;exact⟨b,rfl,g,⟨rfl,_,rfl,bL _,q⟩⟩
 all_goals
  cases c;exact Br.no (by decide) q
theorem xY(ds:List D)(Q:D->Prop)(h:N6 ds Q):mV (EP Q) (i7 2 ds):=by
 obtain⟨b,d,rfl,c,a,q⟩:=h;refine⟨b,d,rfl,c,a,⟨λe=>?_,λe=>⟨b,d,rfl,c,a,?_⟩⟩⟩
 ·rwa[e] at q
 ·rwa[e] at q
theorem IV(a:j6 b):(b.ls.map (·.nm)).Nodup:=(List.nodup_append.mp a.nd).2.1
theorem P8:∀{ls:List Ld} {l:Ld},(ls.map (·.nm)).Nodup->l∈ls->ls.find? (λh=>decide (h.nm=l.nm))=some l
 | [],_,_,h=>by cases h
 | a::i,g,h,b=>by
  rw[t8] at h;obtain⟨d,c⟩:=List.nodup_cons.mp h;rw[wS];rcases List.mem_cons.mp b with e | e
  ·subst e;rw[uy rfl]
  ·have ne:¬a.nm=g.nm:=λz=>d (z▸List.mem_map.mpr ⟨g,e,rfl⟩);rw[v5 ne];exact P8 c e
theorem bz{ls:List Ld}(h:x∉ls.map (·.nm)):ls.find? (λh=>decide (h.nm=x))=none:=by
 rw[List.find?_eq_none];intro l a e;exact h (List.mem_map.mpr ⟨l,a,z0 e⟩)
theorem tR(a:j6 b)(d:x∈l7 b++L0 b):∃g∈b.gs,g.nm=S1 b x:=by
 unfold S1;rcases List.mem_append.mp d with h | h
 ·have i:=λz=>(List.nodup_append.mp a.nd).2.2 x h x z rfl;rw[bz i];obtain⟨g,j,e⟩:=List.mem_map.mp h;exact⟨g,j,e⟩
 ·obtain⟨l,c,rfl⟩:=List.mem_map.mp h;rw[P8 (IV a) c];exact a.at_ l c
theorem JN(g:j6 b)(a:List (Key×D))(d:∀l∈b.ls,u7 a (.inr l.nm)=some (.str l.at_))(e:∀x,x∉L0 b->u7 a (.inr x)=none)(x:Str):(u7 a (.inr x)).getD (.str x)=.str (S1 b x):=by
 unfold S1
 by_cases h:x∈L0 b
 ·obtain⟨l,c,rfl⟩:=List.mem_map.mp h;rw[P8 (IV g) c,d l c];rfl
 ·rw[bz h,e x h];rfl
theorem sum_add{a:Type}(f g:a->Int):∀l:List a,(l.map λx=>f x+g x).sum=(l.map f).sum+(l.map g).sum
 | []=>rfl
 | x::l=>by
  rw[t8,t8,t8,Rl,Rl,Rl,sum_add f g l];omega
theorem P5{a:Type}(l:List a)(f:a->Int)(h:∀x∈l,f x=0):(l.map f).sum=0:=by
 induction l with
 | nil=>rfl
 | cons x l b=>rw[t8,Rl,h x hQ,b λy c=>h y (hH _ c)];rfl
theorem K5{a:Type}{l:List a}{f g:a->Int}(h:∀x∈l,f x=g x):(l.map f).sum=(l.map g).sum:=by
 rw[Pv h]
theorem sS{b a:Type}(f:b->a->Int)(m:List a):∀l:List b,(l.map λx=>(m.map λy=>f x y).sum).sum=(m.map λy=>(l.map λx=>f x y).sum).sum
 | []=>(P5 m (λ_=>0) λ_ _=>rfl).symm
 | x::l=>by
  rw[t8,Rl,sS f m l,<-sum_add];rfl
theorem zM{a:Type}(f:a->Int)(c:Int):∀l:List a,(l.map f).sum*c=(l.map λx=>f x*c).sum
 | []=>WV c
 | x::l=>by rw[t8,t8,Rl,Rl,XY,zM f c l]
theorem pz{b:Type}{nm:b->Str}(f:b->Int):∀{l:List b} {a:b},(l.map nm).Nodup->a∈l->(l.map λx=>if nm x=nm a then f x else 0).sum=f a
 | [],_,_,h=>by cases h
 | x::l,a,nd,h=>by
  obtain⟨c,g⟩:=List.nodup_cons.mp nd;rw[t8,Rl];rcases List.mem_cons.mp h with e | e
  ·subst e;rw[t4 rfl,P5 l _ λy d=>tz λz:nm y=nm a=>c (z▸List.mem_map.mpr ⟨y,d,rfl⟩)];omega
  ·have ne:¬nm x=nm a:=λz=>c (z▸List.mem_map.mpr ⟨a,e,rfl⟩);rw[tz ne,pz f g e];omega
theorem gM(y x:Str)(l:YF):(((x::l).count y:Nat):Int)=(if x=y then 1 else 0)+((l.count y:Nat):Int):=by
 by_cases h:x=y
 ·subst h;simp;omega
 ·simp[h]
theorem zN(b:pZ gs dp)(nd:(gs.map (·.nm)).Nodup)(y:Str):∀(n:Nat) (x:Str),sh gs dp n x ->
  (((ups gs n (some x)).count y:Nat):Int)=(if x=y then 1 else 0)+(gs.map λh=>if h.un=some y then(((ups gs n (some x)).count h.nm:Nat):Int) else 0).sum
 | 0,x,d=>by
  obtain⟨_,_,_,_,p,o⟩:=d;omega
 | n+1,x,d=>by
  obtain⟨j,g,l,rfl,p,o⟩:=id d;have c:=tt l;have a:=ba nd c
  have C:ups gs (n+1) (some g.nm)=g.nm::ups gs n g.un:=by
   show g.nm::ups gs n (lR gs g.nm)=_;rw[a]
  rw[C,gM]
  have B:(gs.map λh=>if h.un=some y then(((g.nm::ups gs n g.un).count h.nm):Int) else 0).sum=(if g.un=some y then 1 else 0)+(gs.map λh=>if h.un=some y then(((ups gs n g.un).count h.nm):Int) else 0).sum:=by
   have v:=pz  (λh=>if h.un=some y then 1 else 0) nd c;rw[<-v,<-sum_add];refine K5 λh _=>?_;rw[gM]
   by_cases z:h.un=some y
   ·rw[t4 z,t4 z,t4 z]
    by_cases z2:g.nm=h.nm
    ·rw[t4 z2,t4 z2.symm]
    ·rw[tz z2,tz λw=>z2 w.symm]
   ·rw[tz z];split<;>rfl
  rw[B]
  cases i:g.un with
  | none=>
   have u:ups gs n none=[]:=by cases n<;>rfl
   rw[u,P5 gs _ λh _=>by split<;>rfl];simp
  | some z=>
   have E:=d.next b nd (a.trans i)
   have e:=zN b nd y n z E;rw[e]
   have r:(if (some z)=some y then(1:Int) else 0)=if z=y then 1 else 0:=by
    by_cases w:z=y
    ·rw[t4 w,t4 (by rw[w])]
    ·rw[tz w,tz λq=>w (wh q)]
   rw[r]
theorem V5(d:j6 b)(a:x∈l7 b):S1 b x=x:=by
 have c:=λz=>(List.nodup_append.mp d.nd).2.2 x a x z rfl;unfold S1;rw[bz c]
theorem yM(c:j6 b)(a:l∈b.ls):S1 b l.nm=l.at_:=by
 unfold S1;rw[P8 (IV c) a]
theorem zh(h:j6 b):∃dp,pZ b.gs dp/\∀x∈l7 b,sh b.gs dp 8 x:=by
 obtain⟨dp,a⟩:=h.du.un;refine⟨dp,a,λx d=>?_⟩;obtain⟨g,e,rfl⟩:=List.mem_map.mp d;obtain⟨j,c⟩:=xi e;obtain⟨l,i,_⟩:=a j g c;exact⟨j,g,c,rfl,l,i⟩
theorem uq(d:j6 b)(a:x∈l7 b++L0 b):S1 b x∈l7 b:=by
 obtain⟨g,c,e⟩:=tR d a;rw[<-e];exact List.mem_map.mpr ⟨g,c,rfl⟩
theorem ER(a:j6 b)(d:x∈l7 b++L0 b)(y:Str) :
  (((j8 b x).count y:Nat):Int)=(if S1 b x=y then 1 else 0)+(b.gs.map λh=>if h.un=some y then(((j8 b x).count h.nm:Nat):Int) else 0).sum:=by
 obtain⟨dp,c,e⟩:=zh a;exact zN c a.du.nd y 8 _ (e _ (uq a d))
theorem dh(a:pZ gs dp)(nd:(gs.map (·.nm)).Nodup):∀(n m:Nat) (x:Str),sh gs dp n x->n<=m->ups gs m (some x)=ups gs n (some x)
 | 0,_,_,d,_=>by
  obtain⟨_,_,_,_,e,c⟩:=d;omega
 | n+1,0,_,_,h=>by omega
 | n+1,m+1,x,d,h=>by
  show x::ups gs m (lR gs x)=x::ups gs n (lR gs x)
  cases b:lR gs x with
  | none=>cases m<;>cases n<;>rfl
  | some z=>rw[dh a nd n m z (d.next a nd b) (by omega)]
theorem zj(b:pZ gs dp)(nd:(gs.map (·.nm)).Nodup):∀(n:Nat) (x y:Str),n<=8->sh gs dp n x->y∈ups gs n (some x)->∀z∈ups gs 8 (some y),z∈ups gs n (some x)
 | 0,_,_,_,d,_=>by
  obtain⟨_,_,_,_,j,i⟩:=d;omega
 | n+1,x,y,h,d,g=>by
  rcases List.mem_cons.mp g with e | e
  ·subst e;rw[dh b nd (n+1) 8 y d h];exactλz c=>c
  ·cases a:lR gs x with
   | none=>
    rw[a] at e;cases n<;>cases e
   | some w=>
    rw[a] at e;intro z c;show z∈x::ups gs n (lR gs x);rw[a];exact hH _ (zj b nd n w y (by omega) (d.next b nd a) e z c)
theorem Kq(a:j6 b)(e:x∈l7 b++L0 b)(d:y∈l7 b)(h:y∈j8 b x):∀z∈j8 b y,z∈j8 b x:=by
 obtain⟨dp,c,g⟩:=zh a;unfold j8;rw[V5 a d];exact zj c a.du.nd 8 _ y (oT _) (g _ (uq a e)) h
theorem Fm(g:j6 b)(e:x∈l7 b++L0 b)(d:y∈l7 b)(h:y∈j8 b x)(f:E9 b a x=true):E9 b a y=true:=by
 unfold E9 at f ⊢;rw[Ws] at f ⊢;exactλz c=>f z (Kq g e d h z c)
theorem OJ(c:j6 b)(d:x∈l7 b++L0 b):E9 b a x=E9 b a (S1 b x):=by
 unfold E9 j8;rw[V5 c (uq c d)]
def vd(b:Bd)(P:Str->Int)(y:Str):Int:=P y+(b.ls.map λl=>if l.at_=y then P l.nm else 0).sum
theorem Ii(c:j6 b)(P:Str->Int)(d:y∈l7 b):((l7 b++L0 b).map λx=>if S1 b x=y then P x else 0).sum=vd b P y:=by
 rw[vb,WR]
 have i:((l7 b).map λx=>if S1 b x=y then P x else 0).sum=P y:=by
  have:=pz  P   (by rw[XG];exact c.du.nd) d;rw[<-this];exact K5 λx e=>by rw[V5 c e]
 have h:((L0 b).map λx=>if S1 b x=y then P x else 0).sum=(b.ls.map λl=>if l.at_=y then P l.nm else 0).sum:=by
  unfold L0;rw[vu]
  exact K5 λl g=>by
   show(if S1 b l.nm=y then P l.nm else 0)=_;rw[yM c g]
 rw[i,h];rfl
theorem Eb(e:j6 b)(c:YF)(P:Str->Int)(g:y∈l7 b) :
  N2 b c P y=if E9 b c y then vd b P y+(b.gs.map λh=>if h.un=some y then N2 b c P h.nm else 0).sum else 0:=by
 by_cases f:E9 b c y=true
 ·rw[t4 f,<-Ii e P g]
  have l:(b.gs.map λh=>if h.un=some y then N2 b c P h.nm else 0).sum=((l7 b++L0 b).map λx=>(b.gs.map λh=>if h.un=some y then(if E9 b c x then(((j8 b x).count h.nm))*P x else 0) else 0).sum).sum:=by
   rw[sS];refine K5 λh _=>?_
   by_cases z:h.un=some y
   ·rw[t4 z];exact K5 λx _=>by rw[t4 z]
   ·rw[tz z];exact(P5 _ _ λx _=>tz z).symm
  rw[l,<-sum_add];refine K5 λx d=>?_;rw[ER e d y,XY,zM]
  by_cases a:E9 b c x=true
  ·rw[t4 a];have j:(if S1 b x=y then(1:Int) else 0)*P x=if S1 b x=y then P x else 0:=by split<;>simp
   congr 1;refine K5 λh _=>?_
   by_cases z:h.un=some y
   ·rw[t4 z,t4 z,t4 a]
   ·rw[tz z,tz z];simp
  ·rw[tz a];have i:¬S1 b x=y:=λz=>a (by rwa[OJ e d,z]);rw[tz i,P5 b.gs _ λh _=>by split<;>rfl];rfl
 ·rw[tz f];refine P5 _ _ λx d=>?_
  by_cases a:E9 b c x=true
  ·have:=λz=>f (Fm e d g z a);rw[List.count_eq_zero.mpr this];simp
  ·rw[tz a]
theorem Cv(h:OS o a):rS o=some (a.map D.str):=by
 rcases h with rfl | rfl<;>rfl
theorem fC{b:Type}(k:b->Str)(v:b->D):∀as:List b,cC (as.map λa=>.tup [.str (k a),v a])=some (as.map λa=>((.inr (k a):Key),v a))
 | []=>rfl
 | a::as=>by
  rw[t8];unfold cC;rw[fC k v as];rfl
theorem oo{b:Type}(k:b->Str)(v:b->D)(as:List b):jQ (as.map λa=>((.inr (k a):Key),v a))=as.foldl (λacc a=>putD acc (.inr (k a)) (v a)) []:=by
 unfold jQ;rw[List.foldl_map]
theorem R7{b:Type}{k:b->Str}{v:b->D}{as:List b}(nd:(as.map k).Nodup){a:b}(c:a∈as):u7 (as.map λa=>((.inr (k a):Key),v a)) (.inr (k a))=some (v a):=by
 induction as with
 | nil=>cases c
 | cons x as d=>
  obtain⟨h,g⟩:=List.nodup_cons.mp nd;unfold u7;rw[t8,wS];rcases List.mem_cons.mp c with e | e
  ·subst e;rw[uy rfl];rfl
  ·have ne:¬(Sum.inr (k x):Key)=Sum.inr (k a):=λz=>h (Wa z▸List.mem_map.mpr ⟨a,e,rfl⟩);rw[v5 ne];exact d g e
theorem kM{b:Type}{k:b->Str}{v:b->D}{as:List b}(h:x∉as.map k):u7 (as.map λa=>((.inr (k a):Key),v a)) (.inr x)=none:=by
 unfold u7;rw[Option.map_eq_none_iff,List.find?_eq_none];intro g c e;obtain⟨a,d,rfl⟩:=List.mem_map.mp c;exact h (List.mem_map.mpr ⟨a,d,Wa (z0 e)⟩)
theorem mY{b:Type}{k:b->Str}{v:b->D}(as:List b)(x:Str):((as.map λa=>((.inr (k a):Key),v a)).any λg=>decide (g.1=Sum.inr x))=decide (x∈as.map k):=by
 by_cases h:x∈as.map k
 ·rw[uy h,XT];obtain⟨a,d,rfl⟩:=List.mem_map.mp h;exact⟨_,List.mem_map.mpr ⟨a,d,rfl⟩,uy rfl⟩
 ·rw[v5 h,WE];intro g c e;obtain⟨a,d,rfl⟩:=List.mem_map.mp c;exact h (List.mem_map.mpr ⟨a,d,Wa (z0 e)⟩)
theorem bQ{b:Type}{k:b->Str}{v:b->D}{as:List b}(h:x∉as.map k):putD (as.map λa=>((.inr (k a):Key),v a)) (.inr x) d=(as.map λa=>((.inr (k a):Key),v a))++[(.inr x,d)]:=by
 unfold putD;rw[mY,v5 h];rfl
theorem bC(a:x∈l7 b):putD (i6 b v) (.inr x) (.int n)=i6 b (λy=>if y=x then n else v y):=by
 unfold i6 putD;rw[mY  ,uy (show x∈b.gs.map (λg=>g.nm) from a),vu];refine Pv λg _=>?_;show(if (Sum.inr g.nm)=Sum.inr x then _ else _)=_
 by_cases e:g.nm=x
 ·rw[t4 (by rw[e])];show(_,D.int n)=(_,D.int (if g.nm=x then n else v g.nm));rw[t4 e]
 ·rw[tz λz=>e (Wa z)];show(_,D.int (v g.nm))=(_,D.int (if g.nm=x then n else v g.nm));rw[tz e]
theorem x6(d:j6 b)(a:x∈l7 b):u7 (i6 b v) (.inr x)=some (.int (v x)):=by
 obtain⟨g,c,rfl⟩:=List.mem_map.mp a;exact R7   d.du.nd c
theorem x9(h:∀x∈l7 b,v x=w x):i6 b v=i6 b w:=
 Pv λg a=>by rw[h g.nm (List.mem_map.mpr ⟨g,a,rfl⟩)]
theorem Y3(b:Bd)(v:Str->Int):(i6 b v).length=b.gs.length:=dL _
theorem O4{b:Type}{k:b->Str}{v:b->D}:∀{as bs:List b},((bs++as).map k).Nodup->as.foldl (λacc a=>putD acc (.inr (k a)) (v a)) (bs.map λa=>((.inr (k a):Key),v a))=(bs++as).map λa=>((.inr (k a):Key),v a)
 | [],bs,_=>by rw[ud];rfl
 | a::as,bs,nd=>by
  have e:bs++a::as=(bs++[a])++as:=by rw[v6];rfl
  rw[UF,e]
  have c:=λz=>by
   rw[vb] at nd;exact(List.nodup_append.mp nd).2.2 _ z _ hQ rfl
  rw[bQ c];have d:(bs.map λa=>((.inr (k a)),v a))++[(.inr (k a),v a)]=(bs++[a]).map λa=>((.inr (k a):Key),v a):=by rw[vb];rfl
  rw[d];exact O4 (by rwa[<-e])
theorem bO{j:Type}{g:aH}{tc:aN}{tk te:TU}{i:Ev}{F v:j->D}{k:j->Key}{Q:List (Key×D)->Prop}(p:j->Bool):∀(as:List j) (acc:List (Key×D)),(∀a∈as,∀(K:Key->D->Prop) (R:Prop),(p a=true->K (k a) (v a))->(p a=false->R)->g (F a) i λc=>tc c λb=>Br b (tk c λy=>te c λd=>∃k,ag y=some k/\r8 d=true/\K k d) R) ->
  Q ((as.filter p).foldl (λacc a=>putD acc (k a) (v a)) acc)->oy g tc tk te i (as.map F) acc Q
 | [],acc,_,q=>q
 | a::as,acc,h,q=>by
  refine h a hQ (λk d=>oy g tc tk te i (as.map F) (putD acc k d) Q) _ (λe=>bO p as _ (λb l=>h b (hH _ l)) ?_) λe=>bO p as acc (λb l=>h b (hH _ l)) ?_
  ·rwa[Re,t4 e] at q
  ·rwa[Re,tz (by rw[e];exact sK)] at q
theorem rh(h:vM kvs)(x:Str):(u7 kvs (.inr x)).getD (.int 0)=.int (Pd kvs x):=by
 unfold Pd
 cases e:u7 kvs (.inr x) with
 | none=>rfl
 | some d=>
  obtain⟨b,a,rfl⟩:=Option.map_eq_some_iff.mp e;obtain⟨n,c⟩:=h b (Wt a);show b.2=_;rw[c]
theorem FE(a:YF)(x:Str):ET (a.map Sum.inr) (.inr x)=decide (x∈a):=by
 unfold ET;rw[XI]
 by_cases h:x∈a
 ·rw[uy h,XT];exact⟨x,h,uy rfl⟩
 ·rw[v5 h,WE];intro y b e;have:=Wa (z0 e);exact h (this▸b)
theorem Gh(a:j6 b)(d:YF)(l:g∈b.gs):E9 b d g.nm=(decide (g.nm∉d)&&match g.un with | none=>true | some y=>E9 b d y):=by
 have i:g.nm∈l7 b:=List.mem_map.mpr ⟨g,l,rfl⟩;obtain⟨dp,e,x⟩:=zh a;have c:=ba a.du.nd l
 have v:j8 b g.nm=g.nm::ups b.gs 7 g.un:=by
  unfold j8;rw[V5 a i];show g.nm::ups b.gs 7 (lR b.gs g.nm)=_;rw[c]
 unfold E9;rw[v]
 cases p:g.un with
 | none=>rfl
 | some y=>
  have d7:=(x _ i).next e a.du.nd (c.trans p)
  have o:y∈l7 b:=by
   obtain⟨j,h,r,q,_⟩:=d7;exact List.mem_map.mpr ⟨h,tt r,q⟩
  have u:j8 b y=ups b.gs 7 (some y):=by
   unfold j8;rw[V5 a o];exact dh e a.du.nd 7 8 y d7 (by decide)
  show(_&&_)=(_&&(j8 b y).all _);rw[u]
theorem Cj(ds:List D)(Q:D->Prop)(h:P2 ds Q):rq (EP Q) (i7 1 ds):=by
 obtain⟨cv,rfl,a,q⟩:=h
 cases cv with
 | nil=>exact absurd a.1 (by decide)
 | cons p ps=>
  walk_at "r";exact q
theorem VC(r:j6 b)(q:b.gs[i]?=some g)
  (J:T.nx [some (bD b),some o,some (.st (a.map Sum.inr)),some (.dic ((b.gs.take (i+1)).map λg=>(.inr g.nm,.bl (E9 b a g.nm)))),x,some (.str g.nm),some (uD g.un)]) :
  aB T [some (bD b),some o,some (.st (a.map Sum.inr)),some (.dic ((b.gs.take i).map λg=>(.inr g.nm,.bl (E9 b a g.nm)))),x,some (.str g.nm),some (uD g.un)]:=by
 have U:=r.g16;have H:=tt q;have d:g.nm∉(b.gs.take i).map (λg=>g.nm):=λz=>by
  obtain⟨h,S,e⟩:=List.mem_map.mp z;obtain⟨j,p⟩:=xi S;have G:=(List.getElem?_eq_some_iff.mp p).1;rw[v4] at G;rw[FB (by omega)] at p;have:=(VP (i:=j) (j:=i)  (by rw[dL];omega) r.du.nd).mp (by rw[sj,sj,p,q];show some h.nm=some g.nm;rw[e]);omega
 have c:∀k,k=E9 b a g.nm->∃j,ag (.str g.nm)=some j/\((b.gs.take i).map λg=>((.inr g.nm:Key),D.bl (E9 b a g.nm))).length<sizeLine/\T.nx [some (bD b),some o,some (.st (a.map Sum.inr)),some (.dic (putD ((b.gs.take i).map λg=>(.inr g.nm,.bl (E9 b a g.nm))) j (.bl k))),x,some (.str g.nm),some (uD g.un)]:=λk R=>by
  refine⟨.inr g.nm,rfl,by rw[dL,v4];exact g6 (by omega),?_⟩;rw[bQ (k:=λg:Gd=>g.nm) (v:=λg:Gd=>.bl (E9 b a g.nm)) d,R];rwa[wl,q,vb] at J
 have st:=Gh r a H;refine⟨_,rfl,?_⟩;rw[FE]
 by_cases u:g.nm∈a
 ·refine Br.no (by rw[uy u];rfl) ?_;rw[show decide (g.nm∉a)=false from v5 λz=>z u] at st;exact⟨rfl,rfl,c false st.symm⟩
 ·refine Br.yes (by rw[v5 u];rfl) ?_;rw[show decide (g.nm∉a)=true from uy u,Bool.true_and] at st
  cases C:g.un with
  | none=>
   rw[C] at st c;exact Br.yes rfl ⟨rfl,rfl,c true st.symm⟩
  | some y=>
   rw[C] at st c;obtain⟨dp,O⟩:=r.un;obtain⟨_,_,_,up⟩:=O i g q;obtain⟨j,M,p,I,rfl,_⟩:=up y C
   have E:M∈b.gs.take i:=by
    refine tt (i:=j) ?_;rw[FB p];exact I
   have B:((b.gs.take i).map λg:Gd=>g.nm).Nodup:=by
    rw[List.map_take];exact r.du.nd.sublist (Wi _ _)
   have Q:=R7 (k:=λg:Gd=>g.nm) (v:=λg:Gd=>.bl (E9 b a g.nm)) B E;refine Br.no rfl ?_;exact⟨_,_,rfl,Q,rfl,rfl,c (E9 b a M.nm) st.symm⟩
theorem sY(ds:List D)(Q:D->Prop)(h:K3 ds Q):jX (EP Q) (i7 7 ds):=by
 obtain⟨b,o,a,rfl,u,v,x,q⟩:=h;have C:a.map D.str=(a.map Sum.inr).map kD:=by rw[vu];rfl
 refine⟨o,a.map Sum.inr,rfl,by rw[<-C];exact Cv v,by rwa[dL],rfl,rfl,⟨_,L1 _ _,.of ⟨λi c=>∃l j d:Option D,c=[some (bD b),some o,some (.st (a.map Sum.inr)),some (.dic ((b.gs.take i).map λg=>(.inr g.nm,.bl (E9 b a g.nm)))),l,j,d],⟨none,none,none,rfl⟩,?_,?_⟩⟩⟩
 ·rintro i e c z ⟨l,j,d,rfl⟩;obtain⟨g,p,rfl⟩:=get_map z;refine⟨rfl,?_⟩;walk_at "r";exact⟨fO g.un,rfl,rfl,VC u p ⟨_,_,_,rfl⟩⟩
 ·rintro c ⟨l,j,d,rfl⟩;rwa[dL,wP]
def wv(b:Bd)(a:YF)(P:Str->Int)(pr:List Gd)(y:Str):Int:=if y∈pr.map (·.nm) then N2 b a P y else vd b P y+(pr.map λh=>if h.un=some y then N2 b a P h.nm else 0).sum
theorem wK(d:j6 b){i j:Nat}(a:b.gs[i]?=some g)(c:b.gs[j]?=some h)(e:g.nm=h.nm):i=j:=
 (VP    (by rw[dL];exact(List.getElem?_eq_some_iff.mp a).1) d.du.nd).mp (by rw[sj,sj,a,c];show some g.nm=some h.nm;rw[e])
theorem yY(o:j6 b)(d:b.gs[i]?=some g)(c:i<j):g.nm∉(b.gs.drop j).map (·.nm):=λz=>by
 obtain⟨h,l,e⟩:=List.mem_map.mp z;obtain⟨k,a⟩:=xi l;rw[List.getElem?_drop] at a;have:=wK o a d e;omega
theorem Ku(l:j6 b)(o:YF)(P:Str->Int)(p:b.gs[j]?=some g):wv b o P (b.gs.drop (j+1)) g.nm=vd b P g.nm+(b.gs.map λh=>if h.un=some g.nm then N2 b o P h.nm else 0).sum:=by
 unfold wv;rw[tz (yY l p (Wo _))];conv=>rhs;rw[<-Wf (j+1) b.gs,vb,WR]
 rw[P5 (b.gs.take (j+1)) _ λh r=>tz λz=>?_]
 ·omega
 ·obtain⟨i,c⟩:=xi r;have a:=(List.getElem?_eq_some_iff.mp c).1;rw[v4] at a;rw[FB (by omega)] at c;obtain⟨dp,q⟩:=l.un;obtain⟨_,_,_,up⟩:=q i h c;obtain⟨k,v,u,d,e,_⟩:=up _ z;have:=wK l d p e;omega
theorem pk(o:j6 b)(c:YF)(P:Str->Int)(h:b.gs[j]?=some g):wv b c P (b.gs.drop j) y=if y=g.nm then N2 b c P g.nm else wv b c P (b.gs.drop (j+1)) y+if g.un=some y then N2 b c P g.nm else 0:=by
 have d:=(List.getElem?_eq_some_iff.mp h).1
 have e:b.gs.drop j=g::b.gs.drop (j+1):=by
  rw[AT d];have:=(List.getElem?_eq_some_iff.mp h).2;rw[this]
 rw[e];unfold wv;rw[t8]
 by_cases l:y=g.nm
 ·subst l;rw[t4 hQ,t4 rfl]
 ·rw[tz l]
  by_cases a:y∈(b.gs.drop (j+1)).map (·.nm)
  ·rw[t4 (hH _ a),t4 a,tz,Xk];intro z;obtain⟨dp,p⟩:=o.un;obtain⟨_,_,_,up⟩:=p j g h;obtain⟨k,u,r,i,q,_⟩:=up y z;exact yY o i (show k<j+1 by omega) (q▸a)
  ·rw[tz λz=>(List.mem_cons.mp z).elim l a,tz a,t8,Rl];omega
theorem Ry(d:j6 b)(e:b.gs[j]?=some g)(Q:m=j+1)
  (i:∀C B:Option D,T.nx [some (bD b),some (.dic (uP b a)),some d2,some (.dic (i6 b (wv b a P (b.gs.drop j)))),some (gD g),I,C,B]) :
  aO T [some (bD b),some (.dic (uP b a)),some d2,some (.dic (i6 b (wv b a P (b.gs.drop m)))),some (gD g),I,C,B]:=by
 subst Q;have R:=d.g16;have p:=tt e;have H:g.nm∈l7 b:=List.mem_map.mpr ⟨g,p,rfl⟩;have u:=Ku d a P e;have c:=Eb d a P H;have G:=R7  (v:=λg=>.bl (E9 b a g.nm)) d.du.nd p;walk_at "r";refine⟨fO g.un,rfl,rfl,?_⟩;have i:=i (some (.str g.nm)) (some (uD g.un));refine⟨_,_,rfl,G,?_⟩;by_cases f:E9 b a g.nm=true
 ·refine Br.no (by rw[f];rfl) ?_;rw[t4 f,<-u] at c
  cases o:g.un with
  | none=>
   refine Br.no rfl ?_
   have:i6 b (wv b a P (b.gs.drop j))=i6 b (wv b a P (b.gs.drop (j+1))):=x9 λx _=>by
    rw[pk d a P e,o,tz (show ¬(none:Option Str)=some x fromλz=>by cases z),Xk]
    by_cases z:x=g.nm
    ·rw[t4 z,z];exact c
    ·rw[tz z]
   rw[this,o] at i;exact i
  | some y=>
   have J:y∈l7 b:=by
    obtain⟨dp,E⟩:=d.un;obtain⟨_,_,_,up⟩:=E j g e;obtain⟨k,M,_,l,rfl,_⟩:=up y o;exact List.mem_map.mpr ⟨M,tt l,rfl⟩
   refine Br.yes rfl ?_;refine⟨_,_,rfl,x6 d J,by rw[Y3];exact g6 (by omega),?_⟩;refine⟨_,_,rfl,x6 d H,_,rfl,?_⟩;rw[bC J]
   have:i6 b (wv b a P (b.gs.drop j))=i6 b (λz=>if z=y then wv b a P (b.gs.drop (j+1)) y+wv b a P (b.gs.drop (j+1)) g.nm else wv b a P (b.gs.drop (j+1)) z):=x9 λx _=>by
    rw[pk d a P e,o]
    by_cases z:x=g.nm
    ·rw[t4 z]
     have O:¬x=y:=λw=>by
      obtain⟨dp,E⟩:=d.un;obtain⟨_,_,_,up⟩:=E j g e;obtain⟨k,M,X,l,U,_⟩:=up y o;have:=wK d l e (by rw[U,<-w,z]);omega
     show _=if x=y then _ else _
     rw[tz O,z];exact c
    ·rw[tz z];show _=if x=y then _ else _
     by_cases w:x=y
     ·subst w;rw[t4 rfl,t4 rfl,c]
     ·rw[tz w,tz λq=>w (wh q).symm,Xk]
   rw[this,o] at i;exact i
 ·have S:E9 b a g.nm=false:=by cases h:E9 b a g.nm<;>simp_all
  refine Br.yes (by rw[S];rfl) ?_;rw[tz f] at c;refine⟨rfl,.inr g.nm,rfl,by rw[Y3];exact g6 (by omega),?_⟩;rw[bC H]
  have:i6 b (wv b a P (b.gs.drop j))=i6 b (λz=>if z=g.nm then 0 else wv b a P (b.gs.drop (j+1)) z):=x9 λx _=>by
   rw[pk d a P e,c];show _=if x=g.nm then _ else _
   by_cases z:x=g.nm
   ·rw[t4 z,t4 z]
   ·rw[tz z,tz z];split<;>omega
  rw[this] at i;exact i
theorem VI(r:j6 b)(q:Q (.dic (i6 b (N2 b h P)))) :
  gL (EP Q) [some (bD b),some (.dic (uP b h)),some d2,some (.dic (i6 b (vd b P))),j,d,c,a]:=by
 have B:=r.g16;refine⟨_,L1 _ _,by rw[dL];exact g6 (by omega),.of ⟨λi l=>∃j d c a:Option D,l=[some (bD b),some (.dic (uP b h)),some d2,some (.dic (i6 b (wv b h P (b.gs.drop (b.gs.length-i))))),j,d,c,a],⟨j,d,c,a,?_⟩,?_,?_⟩⟩
 ·rw[Nat.sub_zero,Wr]
  have:i6 b (wv b h P [])=i6 b (vd b P):=x9 λx _=>by
   unfold wv;show vd b P x+0=_;omega
  rw[this]
 ·rintro i e l o ⟨j,d,c,a,rfl⟩
  have v:=by
   have:=(List.getElem?_eq_some_iff.mp o).1;rwa[FM,dL] at this
  rw[Xr (by rwa[dL]),dL] at o;obtain⟨g,y,rfl⟩:=get_map o;have C:b.gs.length-i=b.gs.length-1-i+1:=by omega
  have p:b.gs.length-(i+1)=b.gs.length-1-i:=by omega
  refine⟨rfl,Ry r y C λc a=>⟨some (gD g),d,c,a,?_⟩⟩;rw[p]
 ·rintro l ⟨j,d,c,a,rfl⟩;rw[FM,dL,WU];have:i6 b (wv b h P (b.gs.drop 0))=i6 b (N2 b h P):=x9 λx u=>t4 u;rwa[this]
theorem vE(ds:List D)(Q:D->Prop)(h:O2 ds Q):nJ (EP Q) (i7 8 ds):=by
 obtain⟨b,I,c,rfl,d,C,q⟩:=h;have S:=d.g16;refine⟨_,L1 _ _,by rw[dL];exact g6 (by omega),kg (k:=λg=>.inr g.nm) (v:=λg=>.int (Pd c g.nm)) b.gs [] (λg G K R J=>?_) ⟨rfl,?_⟩⟩
 ·walk_at "r";rw[rh C];exact⟨rfl,_,rfl,rfl,J⟩
 have H:=O4  (v:=λg=>.int (Pd c g.nm))  (bs:=[]) d.du.nd;rw[show b.gs.foldl (λB a=>putD B (Sum.inr a.nm) (.int (Pd c a.nm))) []=i6 b (Pd c) from H];refine⟨_,aI _ _ _,.of ⟨λi o=>∃p:Option D,o=[some (bD b),some (.dic (uP b I)),some (.dic c),some (.dic (i6 b λy=>Pd c y+((b.ls.take i).map λl=>if l.at_=y then Pd c l.nm else 0).sum)),none,p,none,none],⟨none,?_⟩,?_,?_⟩⟩
 ·have:i6 b (λy=>Pd c y+((b.ls.take 0).map λl=>if l.at_=y then Pd c l.nm else 0).sum)=i6 b (Pd c):=x9 λx _=>by
   show Pd c x+0=_;omega
  rw[this];rfl
 ·rintro i e o M ⟨p,rfl⟩;obtain⟨l,E,rfl⟩:=get_map M;have u:=tt E
  have j:l.at_∈l7 b:=by
   obtain⟨g,G,e⟩:=d.at_ l u;rw[<-e];exact List.mem_map.mpr ⟨g,G,rfl⟩
  refine⟨rfl,?_⟩;walk_at "r";refine⟨.inr l.at_,_,rfl,x6 d j,by rw[Y3];exact g6 (by omega),?_⟩;walk_at "r";rw[rh C];refine⟨rfl,_,rfl,?_⟩;rw[bC j];refine⟨some (lD l),?_⟩
  have:i6 b (λy=>Pd c y+((b.ls.take (i+1)).map λl=>if l.at_=y then Pd c l.nm else 0).sum)=i6 b (λy=>if y=l.at_ then Pd c l.at_+((b.ls.take i).map λm=>if m.at_=l.at_ then Pd c m.nm else 0).sum+Pd c l.nm else Pd c y+((b.ls.take i).map λl=>if l.at_=y then Pd c l.nm else 0).sum):=x9 λx _=>by
   rw[wl,E,vb,WR];show _+(_+((if l.at_=x then Pd c l.nm else 0)+0))=if x=l.at_ then _ else _
   by_cases z:x=l.at_
   ·subst z;rw[t4 rfl,t4 rfl];omega
   ·rw[tz z,tz λw=>z w.symm];omega
  rw[this];rfl
 ·rintro o ⟨p,rfl⟩;rw[dL,wP];exact VI (P:=Pd c) d q
theorem IA(ds:List D)(Q:D->Prop)(h:cx ds Q):Gy (EP Q) (i7 3 ds):=by
 obtain⟨b,o,c,a,rfl,d,e,i,g,q⟩:=h;exact⟨b,o,c,rfl,d,e,i,b,c,a,rfl,d,g,q⟩
theorem rD(a:j6 b):((b.ls.filter λl=>l.on).map λl:Ld=>l.nm).Nodup:=(IV a).sublist (List.Sublist.map _ List.filter_sublist)
theorem IT(c:j6 b):Pd ((b.ls.filter λl=>l.on).map λl:Ld=>((.inr l.nm:Key),D.int l.la))=gH b:=by
 funext x
 unfold Pd gH
 by_cases h:x∈b.ls.map (·.nm)
 ·obtain⟨l,i,rfl⟩:=List.mem_map.mp h;rw[P8 (IV c) i]
  by_cases o:l.on=true
  ·have a:=List.mem_filter.mpr ⟨i,o⟩;rw[R7   (rD c) a];show l.la=if l.on=true then _ else _
   rw[t4 o]
  ·rw[kM  ]
   ·show(0:Int)=if l.on=true then _ else _
    rw[tz o]
   ·intro z;obtain⟨m,a,e⟩:=List.mem_map.mp z;obtain⟨g,d⟩:=List.mem_filter.mp a;have p:=P8 (IV c) i;have j:=P8 (IV c) g;rw[e,p] at j;cases j;exact o d
 ·rw[bz h,kM  ];intro z;obtain⟨m,a,e⟩:=List.mem_map.mp z;exact h (List.mem_map.mpr ⟨m,(List.mem_filter.mp a).1,e⟩)
theorem Oo(ds:List D)(Q:D->Prop)(h:gp ds Q):LR (EP Q) (i7 2 ds):=by
 obtain⟨b,rfl,c,q⟩:=h;have p:=c.l24;refine⟨_,aI _ _ _,by rw[dL];exact g6 (by omega),bO (k:=λl=>.inr l.nm) (v:=λl=>.int l.la) (λl=>l.on) b.ls [] (λl y K R o j=>?_) ?_⟩
 ·obtain⟨n,u,cv,de,on⟩:=l
  cases on with
  | true=>
   have i:=o rfl;walk_at "r";exact i
  | false=>
   walk_at "r";exact j rfl
 ·have g:=O4  (v:=λl=>.int l.la)  (bs:=[]) (rD c);rw[va] at g;rw[show(b.ls.filter λl=>l.on).foldl (λe a=>putD e (Sum.inr a.nm) (.int a.la)) []=_ from g];refine⟨b,_,[],_,rfl,c,.inl rfl,by decide,λx d=>?_,?_⟩
  ·obtain⟨l,_,rfl⟩:=List.mem_map.mp d;exact⟨_,rfl⟩
  ·rwa[IT c]
theorem KU(ds:List D)(Q:D->Prop)(h:cR ds Q):Gf (EP Q) (i7 2 ds):=by
 obtain⟨b,v,rfl,a,q⟩:=h;have l:=a.g16;refine⟨_,L1 _ _,by rw[dL];exact g6 (by omega),O3 (f:=λg=>.str g.nm) (λg=>decide (lo g.cv<=v g.nm)) b.gs [] (λg c K R i d=>?_) ?_⟩
 ·have j:g.nm∈l7 b:=List.mem_map.mpr ⟨g,c,rfl⟩;refine⟨rfl,?_⟩;walk_at "r";refine⟨_,_,rfl,x6 a j,?_⟩;walk_at "r";refine⟨a.cv g c,?_⟩;refine⟨λe=>?_,λe=>d e⟩;walk_at "r";exact i e
 ·have e:(b.gs.filter λg=>decide (lo g.cv<=v g.nm)).map (λg=>D.str g.nm)=(y8 b v).map D.str:=by unfold y8;rw[vu];rfl
  rwa[e]
theorem JO(ds:List D)(Q:D->Prop)(h:cQ ds Q):FA (EP Q) (i7 2 ds):=by
 obtain⟨b,rfl,a,q⟩:=h;refine⟨b,rfl,a,b,j5 b,rfl,a,rfl,?_⟩
 cases e:y8 b (j5 b) with
 | nil=>
  rw[e] at q;exact Br.no rfl ⟨rfl,q⟩
 | cons x c=>
  rw[e] at q;exact Br.yes rfl ⟨_,L1 _ _,rfl,q⟩
def Up(b:Int)(xs:YI):Prop:=xs.Pairwise (·<·)/\∀x∈xs,1<=x/\x<=b
theorem zB(h:Up b xs)(o:0<xs.length):∃l,l∈xs/\(∀x∈xs,x<=l)/\P4 (xs.map D.int) (-1)=some (.int l):=by
 refine⟨xs[xs.length-1],VX (by omega),λx a=>?_,?_⟩
 ·obtain⟨i,c,rfl⟩:=WS a
  by_cases e:i=xs.length-1
  ·subst e;exact VQ _
  ·exact Int.le_of_lt (List.pairwise_iff_getElem.mp h.1 i (xs.length-1) c (by omega) (by omega))
 ·unfold P4 oB;have j:¬0<=-1:=by decide
  have g:-((xs.map D.int).length:Int)<=-1:=by rw[dL];omega
  have d:((-1)+((xs.map D.int).length:Int)).toNat=xs.length-1:=by rw[dL];omega
  rw[t4 g,d];show(xs.map D.int)[xs.length-1]?=_;rw[sj,nA (by omega)];rfl
theorem Up.mono(h:Up b xs)(d:b<=c):Up c xs:=⟨h.1,λx a=>⟨(h.2 x a).1,by have:=(h.2 x a).2;omega⟩⟩
theorem Up.snoc(h:Up b xs)(d:l∈xs)(e:∀x∈xs,x<=l)(i:1<=u)(g:u<10^59):Up (b+10^59) (xs++[l+u]):=by
 refine⟨List.pairwise_append.mpr ⟨h.1,On _ _,λx a y c=>?_⟩,λx a=>?_⟩
 ·rw[List.mem_singleton.mp c];have:=e x a;omega
 ·have:=h.2 l d;rcases List.mem_append.mp a with w | w
  ·have:=h.2 x w;omega
  ·rw[List.mem_singleton.mp w];omega
def steps(m:Nat)(xs a:YI):List Pr:=(List.range m).map λ(k:Nat)=>(xs.getD k 0,a.getD (m-1-k) 0)
theorem CV(C:xs.length=m)(B:d.length=m)(x:1<=m)(v:m<=5)(l:Up (10^60-1) xs)(h:Up (10^60-1) d):T9 (steps m xs d):=by
 have z:∀k,k<m->xs.getD k 0∈xs:=λk e=>by rw[ue,nA (by omega)];exact VX _
 have y:∀k,k<m->d.getD k 0∈d:=λk e=>by rw[ue,nA (by omega)];exact VX _
 have r:∀i j,i<j->j<m->xs.getD i 0<xs.getD j 0:=λi j c g=>by
  rw[ue,ue,nA (by omega),nA (by omega)];exact List.pairwise_iff_getElem.mp l.1 i j (by omega) (by omega) c
 have q:∀i j,i<j->j<m->d.getD i 0<d.getD j 0:=λi j c g=>by
  rw[ue,ue,nA (by omega),nA (by omega)];exact List.pairwise_iff_getElem.mp h.1 i j (by omega) (by omega) c
 unfold steps;refine⟨by rwa[dL,ux],by rwa[dL,ux],λp u=>?_,?_⟩
 ·obtain⟨k,e,rfl⟩:=List.mem_map.mp u;have e:=List.mem_range.mp e;have a:=l.2 _ (z k e);have b:=h.2 _ (y (m-1-k) (by omega));exact⟨a.1,by omega,b.1,by omega⟩
 ·rw[Wj];refine List.Pairwise.imp_of_mem ?_ (List.pairwise_lt_range (n:=m));intro i j o g c;have g:=List.mem_range.mp g;exact⟨r i j c g,q _ _ (by omega) (by omega)⟩
theorem wM(d:0<=i)(e:i<26):∃c,P4 pM.cps.toList i=some c:=by
 have a:pM.cps.toList.length=26:=by decide +kernel
 have b:i.toNat<pM.cps.toList.length:=by omega
 refine⟨pM.cps.toList[i.toNat],?_⟩;unfold P4 oB;rw[t4 d,t4 (by omega)];exact nA b
theorem oN:pM.length<=sizeLine:=by decide +kernel
theorem EH(hz:z.length=1)(b:0<=n)(a:n<=4):MulOk z n:=by
 have h:n=0\/n=1\/n=2\/n=3\/n=4:=by omega
 unfold MulOk;rw[hz];rcases h with rfl | rfl | rfl | rfl | rfl
 all_goals decide
theorem SK(hz:z.length=1)(b:0<=n)(a:n<=1):(Txt.mul z n).length<=1:=by
 have h:n=0\/n=1:=by omega
 rcases h with rfl | rfl
 ·exact v9 _
 ·have e:Txt.mul z 1=z:=by
   unfold Txt.mul;rw[tz (by decide),t4 (by rfl)]
  rw[e,hz];exact oT _
theorem OW{xs:YF}(h:inD (.str x) (xs.map D.str)=false):x∉xs:=λa=>by
 unfold inD at h;rw[WE] at h;have:=h (.str x) (List.mem_map.mpr ⟨x,a,rfl⟩);exact this (beq_self_eq_true x)
theorem names5    {x:Str}  (hw:x="" \/ nm 8 x) (j:(xs.length:Int)=m) (U:1<=m) (T:m<=100) (I:0<=k) (S:k<=10^8) (b:xs.Nodup) (a:∀x∈xs,nm 8 x) (q:∀(xs:YF) (d' J:Int),xs.length=m->xs.Nodup->(∀x∈xs,nm 8 x)->Q (kT xs) (feed c d' J)):qh (EM Q) [some (feed c d k),some (.int m),G,E,some (kT xs),C,B,v,u,p,h,g,some (.str x)]:=by
 have O:(xs.map D.str).all aA=true:=by
  rw[Ws];intro y i;obtain⟨z,_,rfl⟩:=List.mem_map.mp i;rfl
 walk_at "r";refine⟨λo=>?_,λo=>Br.no rfl (q xs d k j b a)⟩;walk_at "r";refine⟨O,?_⟩;walk_at "r";refine⟨λl=>?_,λl=>q xs d k j b a⟩;walk_at "r";refine⟨c,d,k,m,rfl,I,by omega,by omega,by omega,λr d1 H R=>?_⟩;walk_at "r";refine⟨r.toNat,?_,?_⟩
 ·unfold oB;rw[t4 H,dL,t4 (by omega)]
 ·have e:(xs.map D.str).set r.toNat (.str x)=(xs.set r.toNat x).map D.str:=by rw[List.map_set]
  walk_at "r";rw[e];refine q _ _ _ (by rw[Ix];exact j) (mI _ b (OW ?_)) λy i=>?_
  ·cases M:inD (D.str x) (List.map D.str xs) with
   | false=>rfl
   | true=>rw[M] at l;exact absurd l (by decide)
  ·rcases P3 i with w | w
   ·exact a y w
   ·rw[w];rcases hw with hw | hw
    ·rw[hw] at o;exact absurd o (by decide)
    ·exact hw
theorem Fj:∀x∈(["guard","load","on","off","board","map","least","","","",""]:YF),x="" \/ nm 8 x:=by decide +kernel
theorem names4(I:(xs.length:Int)=m)(M:1<=m)(J:m<=100)(G:0<=k)(O:k<=10^7)(l:xs.Nodup)(j:∀x∈xs,nm 8 x)(q:∀(xs:YF) (d' H:Int),xs.length=m->xs.Nodup->(∀x∈xs,nm 8 x)->Q (kT xs) (feed c d' H)):uH (EM Q) [some (feed c d k),some (.int m),B,z,some (kT xs),y,v,u,p,o,e,b,a]:=by
 walk_at "r";refine⟨c,d,k,11,rfl,G,by omega,by decide,by decide,λr d1 E C=>?_⟩;obtain⟨x,g,_,h⟩:=G9 (f:=D.str) (xs:=["guard","load","on","off","board","map","least","","","",""])  E C;exact⟨_,h,rfl,rfl,names5 (Fj x g) I M J (by omega) (by omega) l j q⟩
theorem Kh(ds:List D)(Q:D->D->Prop)(h:cB ds Q):DV (EM Q) (i7 13 ds):=by
 obtain⟨c,d,k,m,rfl,h0,h1,a5,a4,q⟩:=h;walk_at "r";refine⟨c,d,k,26,rfl,h0,by omega,by decide,by decide,λf d1 f0 f1=>?_⟩;walk_at "r";refine⟨c,d1,k+1,5,rfl,by omega,by omega,by decide,by decide,λr d2 r0 r1=>?_⟩;walk_at "r";refine⟨λe=>?_,λe=>?_⟩
 ·walk_at "r";refine⟨⟨by omega,by omega⟩,⟨by rw[y9,dL,ux];exact g6 (by omega),J5 (f:=λ(i:Nat)=>.str (Txt.mul ⟨#[(P4 pM.cps.toList ((f+(0+(i:Int)))%26)).getD 0]⟩ (1+(0+(i:Int))/26))) (List.range m.toNat) [] (λi v K R kk=>?_) ?_⟩⟩
  ·have v:=List.mem_range.mp v;obtain⟨H,o⟩:=wM (i:=(f+(0+(i:Int)))%26) (Fa _ (by decide)) (At _ (by decide));rw[o] at kk;walk_at "r";refine⟨oN,H,o,?_⟩;walk_at "r";refine⟨EH rfl (by omega) (by omega),?_⟩;exact kk
  ·have e:(List.range m.toNat).map (λ(i:Nat)=>D.str (Txt.mul ⟨#[(P4 pM.cps.toList ((f+(0+(i:Int)))%26)).getD 0]⟩ (1+(0+(i:Int))/26)))=((List.range m.toNat).map λ(i:Nat)=>Txt.mul ⟨#[(P4 pM.cps.toList ((f+(0+(i:Int)))%26)).getD 0]⟩ (1+(0+(i:Int))/26)).map D.str:=by rw[vu];rfl
   rw[va,e];refine⟨rfl,?_⟩;refine names4 (by rw[dL,ux];omega) a5 a4 (by omega) (by omega) (aD (nameA f) _ λi j v hj=>BL (by omega) (by omega)) (λx hx=>?_) q;obtain⟨i,v,rfl⟩:=List.mem_map.mp hx;have v:=List.mem_range.mp v;exact DU (i:=i) (by omega) (by omega)
 ·walk_at "r";refine⟨c,d2,k+1+1,7,rfl,by omega,by omega,by decide,by decide,λsz d3 s0 s1=>?_⟩;walk_at "r";refine⟨⟨by omega,by omega⟩,?_⟩;refine⟨by rw[y9,dL,ux];exact g6 (by omega),?_⟩;walk_at "r";refine .of ⟨λn a3 M=>∃(d':Int) (bs:YI),M=[some (feed c d' (k+1+1+1+n)),some (.int m),some (.str pM),some (.int f),none,some (.int (2+sz)),none,none,none,none,none,none,none]/\a3=bs.map D.int/\bs.length=n/\∀b∈bs,0<=b/\b<26,⟨d3,[],?_,rfl,rfl,λb hb=>(by cases hb)⟩,?_,?_⟩
  ·have:k+1+1+1+((0:Nat):Int)=k+1+1+1:=by omega
   rw[this];rfl
  ·rintro n y a3 M hy ⟨d',bs,rfl,rfl,C,hb⟩
   have hn:n<8:=by
    have:=(List.getElem?_eq_some_iff.mp hy).1;rw[y9,dL,ux] at this;omega
   walk_at "r";refine⟨c,d',_,26,rfl,by omega,by omega,by decide,by decide,λb d4 b0 I=>?_⟩;walk_at "r";refine⟨d4,bs++[b],?_,by rw[vb];rfl,by simp[C],λz hz=>?_⟩
   ·have:k+1+1+1+((n+1:Nat):Int)=k+1+1+1+(n:Int)+1:=by omega
    rw[this];rfl
   ·rcases List.mem_append.mp hz with w | w
    ·exact hb z w
    ·rw[List.mem_singleton.mp w];exact⟨b0,I⟩
  ·rintro a3 M ⟨d',bs,rfl,rfl,C,hb⟩;rw[y9,dL,ux] at C ⊢;have C:(bs.length:Int)=2+sz:=by omega
   walk_at "r";refine⟨c,d',_,_,rfl,by omega,by omega,by omega,by omega,λa d5 a0 a1=>?_⟩;walk_at "r";refine⟨c,d5,_,_,rfl,by omega,by omega,by omega,by omega,λa2 d6 an b5=>?_⟩;walk_at "r";refine⟨show(0:Int)<2+sz by omega,?_⟩;have o0:=Fa (a+1+a2) (show 2+sz≠0 by omega);have o1:=At (a+1+a2) (show 0<2+sz by omega);walk_at "r";refine⟨c,d6,_,2,rfl,by omega,by omega,by decide,by decide,λlo d7 b3 lo1=>?_⟩;walk_at "r";refine⟨.inl ⟨by omega,by omega⟩,?_⟩;have lg:∀b:Bool,0<=lo*(if b then 1 else 0)/\lo*(if b then 1 else 0)<=1:=λb=>by cases b<;>simp<;>omega
   obtain⟨Y,X⟩:=lg (decide (2+sz<8));obtain⟨I,_,_,al⟩:=G9 (f:=D.int) (xs:=bs) (i:=a) a0 (by omega);obtain⟨b2,_,_,ab⟩:=G9 (f:=D.int) (xs:=bs) (i:=(a+1+a2)%(2+sz)) o0 (by omega);have ao:=Gw (n:=2+sz) a0 (by omega) an (by omega)
   have b4:2+sz+lo*(if decide (2+sz<8)=true then 1 else 0)<=8:=by
    by_cases h8:2+sz<8
    ·omega
    ·rw[v5 h8];show 2+sz+lo*0<=8;omega
   walk_at "r";refine⟨⟨by omega,by omega⟩,?_⟩;walk_at "w";refine .of ⟨λi M=>∃(S:YF) (U T:Option D),M=[some (feed c d7 (k+1+1+1+((2+sz).toNat:Int)+1+1+1)),some (.int m),some (.str pM),some (.int f),some (kT S),some (.int (2+sz)),some (nums bs),some (.int a),some (.int ((a+1+a2)%(2+sz))),some (.int (lo*(if decide (2+sz<8)=true then 1 else 0))),U,T,none]/\S=(List.range i).map (gJ bs a ((a+1+a2)%(2+sz)) I b2 f (lo*(if decide (2+sz<8)=true then 1 else 0))),⟨[],none,none,rfl,rfl⟩,?_,?_⟩
   ·rintro i y M hy ⟨S,U,T,rfl,l⟩;have ad:S.length=i:=by rw[l,dL,ux]
    have v:i<100:=by
     have:=(List.getElem?_eq_some_iff.mp hy).1;rw[y9,dL,ux] at this;omega
    rw[y9] at hy;obtain⟨g,am,rfl⟩:=get_map hy
    have ei:g=i:=by
     have:=(List.getElem?_eq_some_iff.mp am).2;rw[WY] at this;exact this.symm
    subst ei;generalize (a+1+a2)%(2+sz)=O at o0 o1 ab l;generalize lo*(if decide (2+sz<8)=true then 1 else 0)=L at Y X l;walk_at "r";refine⟨Fy bs,?_⟩;walk_at "r";refine⟨_,al,?_⟩;walk_at "r";refine⟨a.toNat,by unfold oB;rw[t4 a0,dL,t4 (by omega)],?_⟩;walk_at "r";refine⟨_,ab,?_⟩;walk_at "r";refine⟨O.toNat,by unfold oB;rw[t4 o0,Ix,dL,t4 (by omega)],?_⟩;have e1:((bs.map D.int).set a.toNat (.int ((I+(0+(g:Int)))%26))).set O.toNat (.int ((b2+(0+(g:Int))/26)%26))=((bs.set a.toNat ((I+(0+(g:Int)))%26)).set O.toNat ((b2+(0+(g:Int))/26)%26)).map D.int:=by rw[List.map_set,List.map_set]
    have E:∀b∈(bs.set a.toNat ((I+(0+(g:Int)))%26)).set O.toNat ((b2+(0+(g:Int))/26)%26),0<=b/\b<26:=λb G=>by
     rcases P3 G with w | w
     ·rcases P3 w with w | w
      ·exact hb b w
      ·rw[w];exact⟨Fa _ (by decide),At _ (by decide)⟩
     ·rw[w];exact⟨Fa _ (by decide),At _ (by decide)⟩
    have u:((bs.set a.toNat ((I+(0+(g:Int)))%26)).set O.toNat ((b2+(0+(g:Int))/26)%26)).length=bs.length:=by rw[Ix,Ix]
    walk_at "r";dsimp only;rw[e1];generalize ac:(bs.set a.toNat ((I+(0+(g:Int)))%26)).set O.toNat ((b2+(0+(g:Int))/26)%26)=p at E u;refine⟨by rw[dL,u];exact g6 (by omega),?_⟩;refine J5 (f:=λ(b:Int)=>.str ⟨#[(P4 pM.cps.toList b).getD 0]⟩) p [] (λb G K R kk=>?_) ?_
    ·obtain⟨H,o⟩:=wM (E b G).1 (E b G).2;rw[o] at kk;walk_at "r";refine⟨oN,H,o,rfl,kk⟩
    ·have e2:p.map (λ(b:Int)=>D.str ⟨#[(P4 pM.cps.toList b).getD 0]⟩)=(p.map λ(b:Int)=>(⟨#[(P4 pM.cps.toList b).getD 0]⟩:Str)).map D.str:=by rw[vu];rfl
     have e3:((p.map λ(b:Int)=>(⟨#[(P4 pM.cps.toList b).getD 0]⟩:Str)).map (·.length)).sum=p.length:=by
      clear ac e1 E u e2
      induction p with
      | nil=>rfl
      | cons b B ih=>rw[t8,t8,Rl,ih,wf];show 1+B.length=_;omega
     rw[va];refine⟨"",_,p.map λ(b:Int)=>(⟨#[(P4 pM.cps.toList b).getD 0]⟩:Str),rfl,rfl,e2,?_,?_⟩
     ·rw[e3,dL];show p.length+p.length*0<=_;omega
     ·have e4:(Txt.join "" (p.map λ(b:Int)=>(⟨#[(P4 pM.cps.toList b).getD 0]⟩:Str))).length<=8:=by
       have:=size_glued "" (p.map λ(b:Int)=>(⟨#[(P4 pM.cps.toList b).getD 0]⟩:Str));unfold Txt.join;rw[this,e3];show p.length+_*0<=8;omega
      generalize hJ:Txt.join "" (p.map λ(b:Int)=>(⟨#[(P4 pM.cps.toList b).getD 0]⟩:Str))=J at e4;obtain⟨H,o⟩:=wM f0 f1;walk_at "r";refine⟨oN,H,o,?_⟩;walk_at "r";refine⟨.inl ⟨by omega,by omega⟩,?_⟩;have p0:=Fa (0+(g:Int)) (show(2:Int)≠0 by decide);have p1:=At (0+(g:Int)) (show(0:Int)<2 by decide);have ap:L=0\/L=1:=by omega
      have n0:0<=L*((0+(g:Int))%2)/\L*((0+(g:Int))%2)<=1:=by rcases ap with rfl | rfl<;>omega
      walk_at "r";refine⟨EH rfl n0.1 (by omega),?_⟩;have ml:=SK (z:=⟨#[H]⟩) rfl n0.1 n0.2;walk_at "r";refine⟨by rw[SC];omega,?_⟩;walk_at "r";refine⟨by rw[dL];exact g6 (by omega),?_⟩;refine⟨S++[J++Txt.mul ⟨#[H]⟩ (L*((0+(g:Int))%2))],some (.int (0+(g:Int))),some (.lst (p.map D.int)),?_,?_⟩
      ·unfold kT;rw[vb];rfl
      ·have en:gJ bs a O I b2 f L g=J++Txt.mul ⟨#[H]⟩ (L*((0+(g:Int))%2)):=by
        unfold gJ gO;rw[ac];have ef:kR f=H:=by unfold kR;rw[o];rfl
        rw[ef];exact GM (·++_) hJ
       rw[Yb,vb,<-l,List.map_singleton,en]
   ·rintro M ⟨S,U,T,rfl,l⟩;rw[y9,dL,ux] at l;have ad:S.length=m.toNat:=by rw[l,dL,ux]
    refine names4 (by omega) a5 a4 (by omega) (by omega) ?_ (λx hx=>?_) q
    ·rw[l];exact aD _ _ λi j v hj=>BH (by omega) (by omega) Y X a0 (by omega) o0 (by omega) ao hb
    ·rw[l] at hx;obtain⟨i,v,rfl⟩:=List.mem_map.mp hx;exact HD Y X f0 f1 hb (by omega) (by omega)
open PySem.Builtin PySem.Builtin.Str in
structure Qq(xs:YF)(gs:List Gd)(es:YJ):Prop where
 len:es.length=gs.length
 nms:gs.map (·.nm)=xs.take gs.length
 all:∀(j:Nat) (g:Gd),gs[j]?=some g->∃e:Nat,es[j]?=some e/\1<=e/\e<=8/\(g.un=none->e=1)/\∀y,g.un=some y->∃(j':Nat) (gj:Gd) (e':Nat),j'<j/\gs[j']?=some gj/\gj.nm=y/\es[j']?=some e'/\e=e'+1
 cv:∀g∈gs,T9 g.cv
 de:∀g∈gs,0<=g.de/\g.de<10^60
 wa:∀g∈gs,0<=g.wa/\g.wa<10^60
theorem Qq.snoc(h:Qq xs gs o)(C:xs[gs.length]?=some g.nm)(X:1<=e)(U:e<=8)(x:g.un=none->e=1)(v:∀y,g.un=some y->∃(j:Nat) (d:Nat),j<gs.length/\xs[j]?=some y/\o[j]?=some d/\e=d+1)(H:T9 g.cv)(hd:0<=g.de/\g.de<10^60)(hw:0<=g.wa/\g.wa<10^60):Qq xs (gs++[g]) (o++[e]):=by
 have mem:∀{P:Gd->Prop},(∀g∈gs,P g)->P g->∀z∈gs++[g],P z:=λJ I z a=>by
  rcases List.mem_append.mp a with w | w
  ·exact J z w
  ·rwa[List.mem_singleton.mp w]
 refine⟨by rw[uk,uk,h.len];rfl,?_,λj z a=>?_,mem h.cv H,mem h.de hd,mem h.wa hw⟩
 ·rw[vb,h.nms,uk,C2,wl,C];rfl
 ·by_cases u:j<gs.length
  ·rw[v2 u] at a;obtain⟨f,S,R,Q,O,M⟩:=h.all j z a;refine⟨f,by rw[v2 (by rw[h.len];exact u)];exact S,R,Q,O,λy l=>?_⟩;obtain⟨B,b,d,c,r,q,p,Y⟩:=M y l;exact⟨B,b,d,c,by rw[v2 (by omega)];exact r,q,by rw[v2 (by rw[h.len];omega)];exact p,Y⟩
  ·have G:=(List.getElem?_eq_some_iff.mp a).1;rw[uk,C2] at G;have T:j=gs.length:=by omega
   subst T;rw[Db (oT _),WU] at a;cases a;refine⟨e,by rw[<-h.len,Db (oT _),WU];rfl,X,U,x,λy l=>?_⟩;obtain⟨j,d,c,r,q,p⟩:=v y l;obtain⟨b,i⟩:∃b,gs[j]?=some b:=⟨_,nA c⟩
   have E:b.nm=y:=by
    have z1:(gs.map (·.nm))[j]?=some b.nm:=by rw[sj,i];rfl
    rw[h.nms,FB c,r] at z1;exact(wh z1).symm
   exact⟨j,b,d,c,by rw[v2 c];exact i,E,by rw[v2 (by rw[h.len];exact c)];exact q,p⟩
theorem Qq.un(h:Qq xs gs a):Jf gs:=by
 refine⟨λi=>a.getD i 0,λi g d=>?_⟩;obtain⟨e,G,E,C,B,z⟩:=h.all i g d;have o:a.getD i 0=e:=by rw[ue,G];rfl
 simp only[o];refine⟨E,C,B,λy c=>?_⟩;obtain⟨b,j,p,x,v,u,r,q⟩:=z y c;have l:a.getD b 0=p:=by rw[ue,r];rfl
 exact⟨b,j,x,v,u,by rwa[l]⟩
theorem Rq(x y:Int)(b:0<=t)(a:t<2):∃p:Int,P4 [D.int x,.int y] t=some (.int p)/\(p=x\/p=y):=by
 have h:t=0\/t=1:=by omega
 rcases h with rfl | rfl
 ·exact⟨x,rfl,.inl rfl⟩
 ·exact⟨y,rfl,.inr rfl⟩
structure Uh(gs:List Gd)(ls:List Ld):Prop where
 c4:∀l∈ls,l.cs.length<=4
 cs:∀l∈ls,∀p∈l.cs,1<=p.1/\p.1<10^60/\0<=p.2/\p.2<10^60
 la:∀l∈ls,0<=l.la/\l.la<10^60
 at_:∀l∈ls,∃g∈gs,g.nm=l.at_
theorem Uh.snoc(h:Uh gs ls)(b:l.cs.length<=4)(a:∀p∈l.cs,1<=p.1/\p.1<10^60/\0<=p.2/\p.2<10^60)(e:0<=l.la/\l.la<10^60)(d:∃g∈gs,g.nm=l.at_):Uh gs (ls++[l]):=by
 have mem:∀{P:Ld->Prop},(∀g∈ls,P g)->P l->∀z∈ls++[l],P z:=λb a z c=>by
  rcases List.mem_append.mp c with w | w
  ·exact b z w
  ·rwa[List.mem_singleton.mp w]
 exact⟨mem h.c4 b,mem h.cs a,mem h.la e,mem h.at_ d⟩
theorem JW(xs:List D)(n:Nat):cutD xs none (some (n:Int))=xs.take n:=by
 unfold cutD;have b:HT.D9 xs.length 0 none=0:=rfl
 have a:HT.D9 xs.length xs.length (some n)=min n xs.length:=by
  show(if (n)<0 then(n+(xs.length:Int)).toNat else min (n:Int).toNat xs.length)=_;rfl
 show List.take (min n xs.length-0) xs=_;rw[List.take_eq_take_iff];omega
theorem nz(xs:List D)(n:Nat)(h:n<=xs.length):cutD xs (some (n:Int)) none=xs.drop n:=by
 unfold cutD
 have b:HT.D9 xs.length 0 (some n)=n:=by
  show(if (n)<0 then(n+(xs.length:Int)).toNat else min (n:Int).toNat xs.length)=_;show min n xs.length=n;omega
 have a:HT.D9 xs.length xs.length none=xs.length:=rfl;rw[b];rw[Wd (by rw[Tl];omega)]
theorem qV(gs:List Gd):∀(n:Nat) (o:Option Str),(ups gs n o).length<=n
 | 0,o=>by cases o<;>exact oT _
 | n+1,none=>v9 _
 | n+1,some y=>by
  show(ups gs n _).length+1<=n+1;have:=qV gs n (lR gs y);omega
theorem dW(l:j6 b)(q:x∈l7 b++L0 b):∀y∈j8 b x,y∈l7 b:=by
 have go:∀(n:Nat) (g:Gd),g∈b.gs->∀y∈ups b.gs n (some g.nm),y∈l7 b:=by
  intro n
  induction n with
  | zero=>intro g c y d;cases d
  | succ n p=>
   intro g c y d;rcases List.mem_cons.mp d with e | e
   ·rw[e];exact List.mem_map.mpr ⟨g,c,rfl⟩
   ·rw[ba l.du.nd c] at e
    cases h:g.un with
    | none=>
     rw[h] at e;cases n<;>cases e
    | some z=>
     rw[h] at e;obtain⟨dp,o⟩:=l.du.un;obtain⟨j,r⟩:=xi c;obtain⟨_,_,_,a⟩:=o j g r;obtain⟨k,u,_,i,rfl,_⟩:=a z h;exact p u (tt i) y e
 obtain⟨g,c,e⟩:=List.mem_map.mp (uq l q);unfold j8;rw[<-e];exact go 8 g c
theorem BI(a:j6 b):jQ (b.gs.map λg:Gd=>((.inr g.nm:Key),D.int 0))=i6 b λ_=>0:=by
 rw[oo];have:=O4  (v:=λ_=>D.int 0)   (by rw[va];exact a.du.nd);exact this
local macro_rules | `(tactic| walk_at "n")=>`(tactic| (try dsimp only[i7,List.length,List.replicate,List.map,List.set,List.append,List.cons_append,List.nil_append,Nat.reduceAdd,Nat.reduceSub]))
theorem ij(c:x∈a)(nd:a.Nodup):u7 (kQ b a) (.inr x)=some (.fz ((j8 b x).map D.str)):=by
 have:=R7  (v:=λx=>D.fz ((j8 b x).map D.str))  (by rwa[XG]) c;exact this
theorem yO(c:x∉a):putD (kQ b a) (.inr x) (.fz ((j8 b x).map D.str))=kQ b (a++[x]):=by
 have:=bQ  (v:=λx=>D.fz ((j8 b x).map D.str))   (d:=.fz ((j8 b x).map D.str)) (by rwa[XG]);unfold kQ;rw[this,vb];rfl
theorem CP(gs:List Gd)(n:Nat):ups gs n none=[]:=by cases n<;>rfl
theorem cO(a:j6 b)(i:g∈b.gs):j8 b g.nm=g.nm::(match g.un with | none=>[] | some y=>j8 b y):=by
 have e:g.nm∈l7 b:=List.mem_map.mpr ⟨g,i,rfl⟩;obtain⟨dp,d,v⟩:=zh a;have c:=ba a.du.nd i
 have u:j8 b g.nm=g.nm::ups b.gs 7 g.un:=by
  unfold j8;rw[V5 a e];show g.nm::ups b.gs 7 (lR b.gs g.nm)=_;rw[c]
 rw[u]
 cases o:g.un with
 | none=>rw[CP]
 | some y=>
  have d7:=(v _ e).next d a.du.nd (c.trans o)
  have l:y∈l7 b:=by
   obtain⟨j,h,q,p,_⟩:=d7;exact List.mem_map.mpr ⟨h,tt q,p⟩
  have r:j8 b y=ups b.gs 7 (some y):=by
   unfold j8;rw[V5 a l];exact dh d a.du.nd 7 8 y d7 (by decide)
  show _=g.nm::j8 b y;rw[r]
theorem Ae(a:j6 b)(c:l∈b.ls):j8 b l.nm=j8 b l.at_:=by
 obtain⟨g,d,e⟩:=a.at_ l c;have h:=List.mem_map.mpr ⟨g,d,e⟩;unfold j8;rw[yM a c,V5 a h]
theorem DX(l:j6 b)(h:b.gs[i]?=some g)(d:g.un=some y):y∈(l7 b).take i:=by
 obtain⟨dp,c⟩:=l.un;obtain⟨_,_,_,up⟩:=c i g h;obtain⟨j,o,e,a,rfl,_⟩:=up y d;refine tt (i:=j) ?_;unfold l7;rw[FB e,sj,a];rfl
theorem jW{c:Type}{xs:List c}(nd:xs.Nodup){x:c}(h:xs[i]?=some x):x∉xs.take i:=λz=>by
 obtain⟨j,b⟩:=xi z;have a:=(List.getElem?_eq_some_iff.mp b).1;rw[v4] at a;rw[FB (by omega)] at b;have:=(VP (i:=j) (j:=i) (by omega) nd).mp (by rw[b,h]);omega
theorem take_snoc{a:Type}{xs:List a}{x:a}(h:xs[i]?=some x):xs.take (i+1)=xs.take i++[x]:=by rw[wl,h];rfl
theorem dI(x:Str):(j8 b x).length<=8:=qV _ 8 _
theorem Hh(d:j6 b)(o:b.gs[i]?=some g)
  (z:T.nx [some q,some (.dic (kQ b ((l7 b).take (i+1)))),some (gD g),e]):gf T [some q,some (.dic (kQ b ((l7 b).take i))),some (gD g),e]:=by
 have l:=tt o;have B:=d.g16;have v:(l7 b)[i]?=some g.nm:=by unfold l7;rw[sj,o];rfl
 have nd:(l7 b).Nodup:=d.du.nd;have h:((l7 b).take i).Nodup:=nd.sublist (Wi _ _);have c:=cO d l
 have a:∃k,ag (.str g.nm)=some k/\(kQ b ((l7 b).take i)).length<sizeLine/\T.nx [some q,some (.dic (putD (kQ b ((l7 b).take i)) k (.fz ((j8 b g.nm).map D.str)))),some (gD g),e]:=by
  refine⟨.inr g.nm,rfl,?_,?_⟩
  ·unfold kQ l7;rw[dL,v4,dL];exact g6 (by omega)
  ·rwa[yO (jW nd v),<-take_snoc v]
 walk_at "r"
 cases j:g.un with
 | none=>
  rw[j] at c;rw[c] at a;exact⟨rfl,[.str g.nm],[],rfl,rfl,rfl,rfl,g6 (by decide),_,rfl,rfl,rfl,_,rfl,a⟩
 | some y=>
  rw[j] at c;rw[c] at a;have x:=ij (b:=b) (DX d o j) h;refine⟨.inr y,rfl,?_⟩;rw[x];have u:=aY (j8 b y);have p:=aY (g.nm::j8 b y);have:=dI (b:=b) y;exact⟨u,[.str g.nm],(j8 b y).map D.str,rfl,rfl,rfl,u,by rw[dL];exact IR (g6 (by show 1+_<=_;omega)),_,rfl,p,p,_,rfl,a⟩
theorem Gz(d:j6 b)(u:b.ls[i]?=some l)
  (B:T.nx [some q,some (.dic (kQ b (l7 b++(L0 b).take (i+1)))),p,some (lD l)]):gg T [some q,some (.dic (kQ b (l7 b++(L0 b).take i))),p,some (lD l)]:=by
 have c:=tt u;have E:=d.g16;have C:=d.l24;have j:(L0 b)[i]?=some l.nm:=by unfold L0;rw[sj,u];rfl
 have nd:=d.nd;obtain⟨n1,n2,v⟩:=List.nodup_append.mp nd;have h:(l7 b++(L0 b).take i).Nodup:=nd.sublist (List.Sublist.append_left (Wi _ _) _);obtain⟨g,y,e⟩:=d.at_ l c;have o:l.at_∈l7 b++(L0 b).take i:=vr _ (List.mem_map.mpr ⟨g,y,e⟩);have x:=ij (b:=b) o h
 have a:l.nm∉l7 b++(L0 b).take i:=λz=>by
  rcases List.mem_append.mp z with z | z
  ·exact v l.nm z l.nm (tt j) rfl
  ·exact jW n2 j z
 have r:=aY (j8 b l.at_);refine⟨_,rfl,.inr l.at_,_,rfl,x,r,r,_,rfl,.inr l.nm,rfl,?_,?_⟩
 ·unfold kQ l7 L0;rw[dL,uk,v4,dL,dL];exact g6 (by omega)
 ·rwa[<-Ae d c,yO a,v6,<-take_snoc j]
theorem JE(o:j6 b)(g:Cd y (b.ls.map lD))(q:Q (.dic (kQ b (l7 b++L0 b)))):uw (EP Q) [some (.tup [x,y]),some (.dic (kQ b (l7 b))),d,a]:=by
 rcases g with rfl | rfl
 all_goals
  refine⟨_,aI _ _ _,.of ⟨λi c=>∃a:Option D,c=[some (.tup [x,_]),some (.dic (kQ b (l7 b++(L0 b).take i))),d,a],⟨a,by rw[List.take_zero,ud]⟩,?_,?_⟩⟩
  ·rintro i e c j ⟨a,rfl⟩;obtain⟨l,h,rfl⟩:=get_map j;exact⟨rfl,Gz o h ⟨_,rfl⟩⟩
  ·rintro c ⟨a,rfl⟩;rwa[dL,Wd (by unfold L0;rw[dL];exact oT _)]
theorem Jk(ds:List D)(Q:D->Prop)(h:aP ds Q):CL (EP Q) (i7 4 ds):=by
 obtain⟨_,b,rfl,⟨x,y,rfl,l,j⟩,d,q⟩:=h;refine⟨rfl,?_⟩;rcases l with rfl | rfl
 all_goals
  refine⟨_,L1 _ _,.of ⟨λi a=>∃c:Option D,a=[some (.tup [_,y]),some (.dic (kQ b ((l7 b).take i))),c,none],⟨none,rfl⟩,?_,?_⟩⟩
  ·rintro i e a p ⟨c,rfl⟩;obtain⟨g,o,rfl⟩:=get_map p;exact⟨rfl,Hh d o ⟨_,rfl⟩⟩
  ·rintro a ⟨c,rfl⟩;rw[dL,Wd (by unfold l7;rw[dL];exact oT _)];exact JE d j q
def rv(b:Bd)(ls:List Ld)(y:Str):Int:=(ls.map λl=>(((j8 b l.nm).count y:Nat):Int)*(if l.on then l.la else 0)).sum
theorem qS(d:j6 b)(y:Str):j5 b y=rv b b.ls y:=by
 have c:∀x,E9 b [] x=true:=λx=>by
  unfold E9;rw[Ws];exactλg _=>uy (λz=>nomatch z)
 unfold j5 N2 rv;rw[vb,WR,P5 (l7 b) _ λx e=>?_,Int.zero_add]
 ·unfold L0;rw[vu];refine K5 λl h=>?_;show(if E9 b [] l.nm=true then _ else _)=_;rw[t4 (c _)];unfold gH;rw[P8 (IV d) h]
 ·have a:=λz=>(List.nodup_append.mp d.nd).2.2 x e x z rfl;rw[t4 (c _)];unfold gH;rw[bz a,Int.mul_zero]
theorem GJ(d:j6 b)(v:l∈b.ls)
  (B:∀a,T.nx [some q,some (.dic (kQ b (l7 b++L0 b))),some (.dic (i6 b λy=>f y+(((j8 b l.nm).count y:Nat):Int)*(if l.on then l.la else 0))),some (lD l),a]) :
  gB T [some q,some (.dic (kQ b (l7 b++L0 b))),some (.dic (i6 b f)),some (lD l),a]:=by
 have E:=d.g16;have o:l.nm∈l7 b++L0 b:=sw _ (List.mem_map.mpr ⟨l,v,rfl⟩);have j:=dW d o;refine⟨_,rfl,.inr l.nm,_,rfl,ij o d.nd,?_⟩;generalize j8 b l.nm=c at *;generalize C:kQ b (l7 b++L0 b)=H;refine .of ⟨λn i=>∃a,i=[some q,some (.dic H),some (.dic (i6 b λy=>f y+(((c.take n).count y))*(if l.on then l.la else 0))),some (lD l),a],⟨a,?_⟩,?_,?_⟩
 ·have e:(i6 b λy=>f y+((((c.take 0).count y)))*(if l.on then l.la else 0))=i6 b f:=x9 λx _=>by
   show f x+0*_=f x;rw[WV,Xk]
  rw[e]
 ·rintro n y i u ⟨a,rfl⟩;obtain⟨g,r,rfl⟩:=get_map u;have p:=j g (tt r);refine⟨rfl,⟨_,_,rfl,x6 d p,?_⟩⟩;have G:(l.la*if l.on=true then 1 else 0)=if l.on then l.la else 0:=by split<;>omega
  have e:(i6 b λz=>if z=g then f g+(((c.take n).count g))*(if l.on then l.la else 0)+(if l.on then l.la else 0) else f z+(((c.take n).count z))*(if l.on then l.la else 0))=i6 b λz=>f z+(((c.take (n+1)).count z))*(if l.on then l.la else 0):=x9 λz _=>by
   rw[List.take_succ,r,show(some g).toList=[g] from rfl,List.count_append,List.count_singleton]
   by_cases h:z=g
   ·subst h;rw[t4 rfl];simp[XY];omega
   ·rw[tz h];have:(g == z)=false:=by rw[beq_eq_false_iff_ne];exactλw=>h w.symm
    simp[this]
  refine⟨_,rfl,_,rfl,⟨.inr ⟨?_,?_⟩,?_⟩⟩
  ·split<;>decide
  ·split<;>decide
  rw[G];refine⟨rfl,_,rfl,by rw[Y3];exact g6 (by omega),some (.str g),?_⟩;rw[bC p,e];rfl
 ·rintro i ⟨a,rfl⟩;rw[dL,wP,<-C];exact B a
theorem JI(h:j6 b)(j:Cd y (b.ls.map lD))(q:Q (.dic (i6 b (j5 b)))):rX (EP Q) [some (.tup [x,y]),some (.dic (kQ b (l7 b++L0 b))),some (.dic (i6 b λ_=>0)),c,a]:=by
 rcases j with rfl | rfl
 all_goals
  refine⟨_,aI _ _ _,.of ⟨λi d=>∃c a:Option D,d=[some (.tup [x,_]),some (.dic (kQ b (l7 b++L0 b))),some (.dic (i6 b (rv b (b.ls.take i)))),c,a],⟨c,a,rfl⟩,?_,?_⟩⟩
  ·rintro i e d o ⟨c,a,rfl⟩;obtain⟨l,g,rfl⟩:=get_map o;refine⟨rfl,GJ h (tt g) λa=>⟨some (lD l),a,?_⟩⟩
   have e:(i6 b λy=>rv b (b.ls.take i) y+(((j8 b l.nm).count y))*(if l.on then l.la else 0))=i6 b (rv b (b.ls.take (i+1))):=x9 λz _=>by
    unfold rv;rw[wl,g,vb,WR];show _=_+(_+0);rw[Xk]
   rw[e]
  ·rintro d ⟨c,a,rfl⟩;have e:i6 b (rv b b.ls)=i6 b (j5 b):=x9 λz _=>(qS h z).symm;rwa[dL,wP,e]
theorem Jx(ds:List D)(Q:D->Prop)(h:W6 ds Q):FU (EP Q) (i7 5 ds):=by
 obtain⟨_,b,rfl,⟨x,y,rfl,d,c⟩,a,q⟩:=h;have i:=a.g16;refine⟨_,b,rfl,⟨x,y,rfl,d,c⟩,a,rfl,?_⟩;rcases d with rfl | rfl
 all_goals
  refine⟨_,L1 _ _,by rw[dL];exact g6 (by omega),J5 (f:=λg=>.tup [.str g.nm,.int 0]) b.gs [] (λg j K R e=>?_) ?_⟩
  ·walk_at "r";exact e
  refine .inl ⟨_,_,_,rfl,rfl,G6  (λg=>rfl) b.gs,fC (λg:Gd=>g.nm) (λ_=>.int 0) b.gs,by rw[dL];exact g6 (by omega),?_⟩;rw[BI a];exact⟨rfl,JI a c q⟩
theorem Et(ds:List D)(Q:D->Prop)(h:V2 ds Q):zD (EP Q) (i7 2 ds):=by
 obtain⟨g,n,rfl,v,q⟩:=h;have l:=X3 (g.cv.map λp=>(p.1+n,p.2));have a:=fO g.un;have b:=Q5 g;refine⟨b,⟨_,rfl,by rw[dL];exact g6 (by omega),J5 (f:=λp=>pr (p.1+n,p.2)) g.cv [] (λp u K R c=>?_) ?_⟩⟩
 ·walk_at "r";exact c
 have e:([]++g.cv.map λp=>pr (p.1+n,p.2))=(g.cv.map λp=>(p.1+n,p.2)).map pr:=by rw[vu];rfl
 rw[e];refine⟨_,_,rfl,rfl,l,?_⟩
 have j:=by
  show(true&&(r8 (uD g.un)&&true))=true;rw[a];rfl
 have i:=by
  show(r8 (gz (g.cv.map λp=>(p.1+n,p.2)))&&true)=true;rw[Z4];rfl
 have d:=by
  show(true&&(r8 (uD g.un)&&(r8 (gz (g.cv.map λp=>(p.1+n,p.2)))&&true)))=true;rw[a,Z4];rfl
 exact⟨j,i,IR (g6 (show 2+1<=100000 by decide)),b,d,rfl,IR (g6 (show 3+2<=100000 by decide)),q⟩
theorem Up.more(h:Up b xs)(d:l∈xs)(e:∀x∈xs,x<=l)(i:1<=u)(g:u<=w):Up (b+w) (xs++[l+u]):=by
 refine⟨List.pairwise_append.mpr ⟨h.1,On _ _,λx a y c=>?_⟩,λx a=>?_⟩
 ·rw[List.mem_singleton.mp c];have:=e x a;omega
 ·have:=h.2 l d;rcases List.mem_append.mp a with z | z
  ·have:=h.2 x z;omega
  ·rw[List.mem_singleton.mp z];omega
theorem Up.scale(h:Up b xs)(c:1<=u)(i:b*u<=B):Up B (xs.map (·*u)):=by
 refine⟨List.pairwise_map.mpr (h.1.imp λh=>Int.mul_lt_mul_of_pos_right h (by omega)),λy d=>?_⟩;obtain⟨x,e,rfl⟩:=List.mem_map.mp d;have a:=h.2 x e;have g:=Yo a.1 c (by decide) (by omega);have j:x*u<=b*u:=v8 a.2 (by omega);exact⟨g,by omega⟩
theorem Z5(xs:YI)(u:Int)(k:Nat):(xs.map (·*u)).getD k 0=xs.getD k 0*u:=by
 rw[ue,ue,sj]
 cases xs[k]? with
 | none=>exact(WV u).symm
 | some x=>rfl
theorem getD_mem{xs:YI}(h:k<xs.length):xs.getD k 0∈xs:=by
 rw[ue,nA h];exact VX h
theorem oW(h:W4 u t):46*u<=10^60-1/\15*t<=10^60-1:=by
 obtain⟨d,c,b,a⟩:=h;omega
theorem Bj(g:W4 u t)(C:(xs.length:Int)=m)(U:(a.length:Int)=m)(Y:1<=m)(X:m<=5)(o:Up 46 xs)(j:Up 15 a)
  (q:∀cv:List Pr,T9 cv->(∀p∈cv,p.1<=46*u)->(∀p∈cv,p.2<=15*t)->Q (gz cv) (feed c d k)):ki (EM Q) [some (feed c d k),some (.int u),some (.int t),some (.int m),some (nums xs),some (nums a),v]:=by
 obtain⟨J,I⟩:=oW g;have G:=o.scale g.1 J;have E:=j.scale g.2.2.1 I;refine⟨⟨by omega,by omega⟩,by rw[y9,dL,ux];exact g6 (by omega),J5 (f:=λk=>pr ((xs.map (·*u)).getD k 0,(a.map (·*t)).getD (m.toNat-1-k) 0)) (List.range m.toNat) [] (λk b K R B=>?_) ?_⟩
 ·have b:=List.mem_range.mp b
  have O:P4 (xs.map D.int) (0+(k:Int))=some (.int (xs.getD k 0)):=by
   obtain⟨x,_,h,z⟩:=G9 (f:=D.int) (xs:=xs) (i:=0+(k:Int)) (by omega) (by omega);rw[z];have y:(0+(k:Int)).toNat=k:=by omega
   rw[y] at h;rw[ue,h];rfl
  have M:P4 (a.map D.int) (m-1-(0+(k:Int)))=some (.int (a.getD (m.toNat-1-k) 0)):=by
   obtain⟨x,_,h,z⟩:=G9 (f:=D.int) (xs:=a) (i:=m-1-(0+(k:Int))) (by omega) (by omega);rw[z];have y:(m-1-(0+(k:Int))).toNat=m.toNat-1-k:=by omega
   rw[y] at h;rw[ue,h];rfl
  have T:=o.2 _ (getD_mem (xs:=xs) (k:=k) (by omega));have S:=j.2 _ (getD_mem (xs:=a) (k:=m.toNat-1-k) (by omega));rw[Z5,Z5] at B;refine⟨rfl,Br.yes rfl (⟨_,O,.inl ⟨by omega,by omega⟩,_,M,.inl ⟨by omega,by omega⟩,B⟩)⟩
 ·have H:∀l:YJ,w6 (l.map λ(k:Nat)=>pr ((xs.map (·*u)).getD k 0,(a.map (·*t)).getD (m.toNat-1-k) 0))=true:=λl=>qb λx C=>by
   obtain⟨k,_,rfl⟩:=List.mem_map.mp C;rfl
  refine⟨_,_,rfl,rfl,H _,?_⟩;have e:(List.range m.toNat).map (λ(k:Nat)=>pr ((xs.map (·*u)).getD k 0,(a.map (·*t)).getD (m.toNat-1-k) 0))=(steps m.toNat (xs.map (·*u)) (a.map (·*t))).map pr:=by unfold steps;rw[vu];rfl
  rw[va,e];refine q _ (CV (by rw[dL];omega) (by rw[dL];omega) (by omega) (by omega) G E) (λp r=>?_) λp r=>?_
  ·obtain⟨k,b,rfl⟩:=List.mem_map.mp r;have b:=List.mem_range.mp b;show(xs.map (·*u)).getD k 0<=46*u;rw[Z5];exact v8 (o.2 _ (getD_mem (by omega))).2 (by have:=g.1;omega)
  ·obtain⟨k,b,rfl⟩:=List.mem_map.mp r;have b:=List.mem_range.mp b;show(a.map (·*t)).getD (m.toNat-1-k) 0<=15*t;rw[Z5];exact v8 (j.2 _ (getD_mem (by omega))).2 (by have:=g.2.2.1;omega)
theorem Bq(ds:List D)(Q:D->D->Prop)(h:T5 ds Q):rG (EM Q) (i7 7 ds):=by
 obtain⟨c,d,k,u,t,rfl,k0,k1,X,q⟩:=h;refine⟨c,d,k,5,rfl,k0,by omega,by decide,by decide,λm d1 m0 m1=>⟨rfl,⟨c,d1,k+1,10,rfl,by omega,by omega,by decide,by decide,λr d2 r0 r1=>⟨rfl,⟨c,d2,k+1+1,3,rfl,by omega,by omega,by decide,by decide,λr' d3 a0 Y=>⟨rfl,⟨⟨by omega,by omega⟩,.of ⟨λi E=>∃(B a:Int) (g b:YI) (G:Option D),E=[some (feed c B a),some (.int u),some (.int t),some (.int (1+m)),some (nums g),some (nums b),G]/\g.length=i+1/\b.length=i+1/\Up (10+9*i) g/\Up (3+3*i) b/\k<=a/\a<=k+3+2*i,
  ⟨d3,k+1+1+1,[1+r],[1+r'],none,rfl,rfl,rfl,⟨On _ _,λx o=>by rw[List.mem_singleton.mp o];omega⟩,⟨On _ _,λx o=>by rw[List.mem_singleton.mp o];omega⟩,by omega,by omega⟩,?_,?_⟩⟩⟩⟩⟩⟩⟩⟩
 ·rintro i e E R ⟨B,a,g,b,G,rfl,o,J,y,v,k2,O⟩;rw[y9] at R;obtain⟨j,hj,rfl⟩:=get_map R;have hi:i<(1+m-1).toNat:=by have:=(List.getElem?_eq_some_iff.mp hj).1;rwa [ux] at this
  obtain⟨l,lm,lx,hl⟩:=zB y (by omega);obtain⟨C,I,H,M⟩:=zB v (by omega);refine⟨rfl,rfl,_,hl,?_⟩;refine⟨c,B,a,9,rfl,by omega,by omega,by decide,by decide,λw d4 w0 w1=>?_⟩;refine⟨by rw[dL];exact g6 (by omega),?_⟩;refine⟨rfl,_,M,?_⟩;refine⟨c,d4,a+1,3,rfl,by omega,by omega,by decide,by decide,λp d5 U T=>?_⟩;refine⟨by rw[dL];exact g6 (by omega),?_⟩;have z:=y.more (w:=9) (u:=1+w) lm lx (by omega) (by omega);have S:=v.more (w:=3) (u:=1+p) I H (by omega) (by omega);refine⟨d5,a+1+1,g++[l+(1+w)],b++[C+(1+p)],some (.int (0+(j:Int))),?_,by simp[o],by simp[J],z.mono (by omega),S.mono (by omega),by omega,by omega⟩;unfold nums;rw[vb,vb];show _=[some (feed c d5 (a+1+1)),_,_,_,some (.lst (g.map D.int++[.int (l+(1+w))])),some (.lst (b.map D.int++[.int (C+(1+p))])),_];rw[show l+(1+w)=l+1+w from by omega,show C+(1+p)=C+1+p from by omega];rfl
 ·rintro E ⟨B,a,g,b,G,rfl,o,J,y,v,k2,O⟩;rw[y9,dL,ux] at o J O y v;exact Bj X (by omega) (by omega) (by omega) (by omega) (y.mono (by omega)) (v.mono (by omega)) λcv c1 c2 c3=>q cv B a c1 c2 c3 (by omega) (by omega)
theorem Qn{a:List D}{p:Int}(c:0<=p)(b:p<a.length):P4 a p=a[p.toNat]?:=by
 unfold P4 oB;rw[t4 c,t4 b];rfl
theorem Ki(xs:YF){p:Int}(b:0<=p)(g:p<=xs.length):∃un:Option Str,P4 ([D.p3]++xs.map D.str) p=some (uD un)/\(∀y,un=some y->∃j:Nat,(j:Int)+1=p/\xs[j]?=some y):=by
 rw[Qn b (by rw[uk,dL];show p<((1+xs.length));omega)]
 by_cases h:p=0
 ·subst h;exact⟨none,rfl,λy z=>nomatch z⟩
 ·obtain⟨n,e⟩:∃n,p.toNat=n+1:=⟨p.toNat-1,by omega⟩
  have d:n<xs.length:=by omega
  have a:=nA d;refine⟨some xs[n],?_,λz c=>by cases c;exact⟨n,by omega,a⟩⟩;rw[e];show(xs.map D.str)[n]?=_;rw[sj,a];rfl
structure Td(xs:YF)(gs:List Gd)(es:YJ)(u t:Int):Prop where
 k:Qq xs gs es
 lo:∀(j e:Nat),es[j]?=some e->e<=j+1
 sm:TC gs u t
theorem Td.snoc(r:W4 u t)(h:Td xs gs c u t)(Q:gs.length<8)(v:xs[gs.length]?=some g.nm)(un:∀y,g.un=some y->∃j:Nat,j<gs.length/\xs[j]?=some y)(x:T9 g.cv)(hd:0<=g.de)(hw:0<=g.wa)
  (c1:∀p∈g.cv,p.1<=46*u) (c2:∀p∈g.cv,p.2<=15*t) (d2:g.de<=3*t) (B:g.wa<=2*t):∃q,Td xs (gs++[g]) q u t:=by
 have mem:∀{P:Gd->Prop},(∀g∈gs,P g)->P g->∀z∈gs++[g],P z:=λI H z C=>by
  rcases List.mem_append.mp C with w | w
  ·exact I z w
  ·rw[List.mem_singleton.mp w];exact H
 have b:=oW r;have sm:TC (gs++[g]) u t:=⟨mem h.sm.c1 c1,mem h.sm.c2 c2,mem h.sm.de d2,mem h.sm.wa B⟩
 have lo:∀e:Nat,e<=gs.length+1->∀(j l:Nat),(c++[e])[j]?=some l->l<=j+1:=λe i j l a=>by
  by_cases G:j<c.length
  ·rw[v2 G] at a;exact h.lo j l a
  ·have o:=(List.getElem?_eq_some_iff.mp a).1;rw[uk,C2] at o;have J:j=c.length:=by omega
   subst J;rw[Db (oT _),WU] at a;cases a;rw[h.k.len];exact i
 cases d:g.un with
 | none=>exact⟨c++[1],h.k.snoc (e:=1) v (oT _) (by decide) (λ_=>rfl) (λy z=>by rw[d] at z;cases z) x ⟨hd,by omega⟩ ⟨hw,by omega⟩,lo 1 (by omega),sm⟩
 | some y=>
  obtain⟨j,a,E⟩:=un y d;obtain⟨e,i⟩:∃e,c[j]?=some e:=⟨_,nA (by rw[h.k.len];exact a)⟩
  have:=h.lo j e i;exact⟨c++[e+1],h.k.snoc (e:=e+1) v (by omega) (by omega) (λz=>by rw[d] at z;cases z) (λM z=>by rw[d] at z;cases z;exact⟨j,e,a,E,i,rfl⟩) x ⟨hd,by omega⟩ ⟨hw,by omega⟩,lo (e+1) (by omega),sm⟩
theorem xG(ds:List D)(Q:D->Prop)(h:N3 ds Q):ni (EP Q) (i7 10 ds):=by
 obtain⟨d,ns,v,u,t,rfl,hs,x1,x8,xn,B,q⟩:=h;have t1:=B.2.2.1;refine⟨rfl,⟨⟨by omega,by rw[dL];omega⟩,.of ⟨λi H=>∃(gs:List Gd) (es:YJ) (R O M J I:Option D),H=[some d,some (kT v),some (.int u),some (.int t),some (.lst (gs.map gD)),R,O,M,J,I]/\gs.length=i/\Td v gs es u t,
  ⟨[],[],none,none,none,none,none,rfl,rfl,⟨⟨rfl,rfl,λj g l=>(by simp at l),(λg l=>nomatch l),(λg l=>nomatch l),(λg l=>nomatch l)⟩,λj e E=>(by simp at E),⟨(λg l=>nomatch l),(λg l=>nomatch l),(λg l=>nomatch l),(λg l=>nomatch l)⟩⟩⟩,?_,?_⟩⟩⟩
 ·rintro i e H E ⟨gs,es,R,O,M,J,I,rfl,C,o⟩;rw[y9] at E;obtain⟨j,hj,rfl⟩:=get_map E
  have hi:i<v.length/\j=i:=by
   obtain⟨z1,z2⟩:=List.getElem?_eq_some_iff.mp hj;rw[ux,dL] at z1;rw[WY] at z2;exact⟨by omega,by omega⟩
  obtain⟨hi,rfl⟩:=hi;obtain⟨x,_,z,T⟩:=G9 (f:=D.str) (xs:=v) (i:=0+(j:Int)) (by omega) (by omega);have e0:(0+(j:Int)).toNat=j:=by omega
  rw[e0] at z;refine⟨rfl,⟨d,ns,2+(0+(j:Int)),rfl,hs,by omega,by omega,λc=>⟨rfl,?_⟩⟩⟩;walk_at "n";refine⟨c,c,_,0+(j:Int)+1,rfl,by omega,by omega,by omega,by omega,λr d1 r0 r1=>⟨rfl,c,d1,_,3,rfl,by omega,by omega,by decide,by decide,λw d2 w0 w1=>?_⟩⟩;walk_at "n";obtain⟨p,hp,ab⟩:=Rq r (0+(j:Int)) (t:=if decide (0<w)=true then 1 else 0) (by split<;>decide) (by split<;>decide);refine⟨_,hp,rfl,rfl,?_⟩;walk_at "n";refine⟨c,d2,_,u,t,rfl,by omega,by omega,B,λcv d3 S hc c1 c2 a5 a4=>⟨rfl,?_⟩⟩;walk_at "n";refine⟨c,d3,S,4,rfl,by omega,by omega,by decide,by decide,λa d4 a0 a1=>⟨.inl ⟨by omega,by omega⟩,rfl,?_⟩⟩;walk_at "n";obtain⟨un,X,U⟩:=Ki v (p:=p) (by omega) (by omega);refine⟨rfl,_,T,rfl,⟨rfl,aY v,?_,_,X,?_⟩⟩
  ·rw[dL];exact IR (g6 (by show 1+_<=_;omega))
  refine⟨Z4 cv,rfl,c,d4,S+1,3,rfl,by omega,by omega,by decide,by decide,λG d5 a3 ac=>⟨.inl ⟨by omega,by omega⟩,?_⟩⟩;refine⟨by rw[dL];exact g6 (by omega),?_⟩;have m1:a*t<=3*t:=v8 (by omega) (by omega);have m2:G*t<=2*t:=v8 (by omega) (by omega);have m3:0<=a*t:=WF a0 (by omega);have m4:0<=G*t:=WF a3 (by omega);obtain⟨a2,Y⟩:=o.snoc B (g:=⟨x,un,cv,a*t,G*t⟩) (by omega) (by rw[C];exact z) (λy hy=>by obtain⟨n,h1,h2⟩:=U y hy;exact⟨n,by omega,h2⟩) hc m3 m4 c1 c2 m1 m2;refine⟨gs++[⟨x,un,cv,a*t,G*t⟩],a2,some (.int (0+(j:Int))),some (feed c d5 (S+1+1)),some (.int p),some (gz cv),some (.int (a*t)),?_,by simp[C],Y⟩;rw[vb];rfl
 ·rintro H ⟨gs,es,R,O,M,J,I,rfl,C,o⟩;rw[y9,dL,ux,dL] at C;refine q gs ?_ o.k.un o.k.cv (λg l=>(o.k.de g l).1) (λg l=>(o.k.wa g l).1) o.sm;have:=o.k.nms;rw[this,Wd (by omega)]
structure Th(gs:List Gd)(ls:List Ld)(u t:Int):Prop where
 c4:∀l∈ls,l.cs.length<=4
 cs:∀l∈ls,∀p∈l.cs,1<=p.1/\0<=p.2
 la:∀l∈ls,0<=l.la
 at_:∀l∈ls,∃g∈gs,g.nm=l.at_
 sm:TK ls u t
theorem Th.snoc(h:Th gs ls u t)(c:l.cs.length<=4)(a:∀p∈l.cs,1<=p.1/\p.1<=3*t/\0<=p.2/\p.2<=11*u)(j:0<=l.la)(i:l.la<=3*u)(e:∃g∈gs,g.nm=l.at_):Th gs (ls++[l]) u t:=by
 have mem:∀{P:Ld->Prop},(∀g∈ls,P g)->P l->∀z∈ls++[l],P z:=λc a z d=>by
  rcases List.mem_append.mp d with w | w
  ·exact c z w
  ·rwa[List.mem_singleton.mp w]
 exact⟨mem h.c4 c,mem h.cs λp b=>⟨(a p b).1,(a p b).2.2.1⟩,mem h.la j,mem h.at_ e,mem h.sm.la i,mem h.sm.cs λp b=>⟨(a p b).2.1,(a p b).2.2.2⟩⟩
theorem zY(ds:List D)(Q:D->Prop)(h:T4 ds Q):sN (EP Q) (i7 11 ds):=by
 obtain⟨d,ns,G,gs,u,t,rfl,hs,g1,g8,x8,ut,q⟩:=h;have u1:=ut.1;have t1:=ut.2.2.1;refine⟨rfl,⟨⟨by omega,by rw[dL];omega⟩,.of ⟨λi v=>∃(ls:List Ld) (U T S R b:Option D),v=[some d,some (kT G),some (.lst (gs.map gD)),some (.int u),some (.int t),some (.lst (ls.map lD)),U,T,S,R,b]/\ls.length=i/\ls.map (·.nm)=G.take i/\Th gs ls u t,
  ⟨[],none,none,none,none,none,rfl,rfl,rfl,⟨(λg l=>nomatch l),(λg l=>nomatch l),(λg l=>nomatch l),(λg l=>nomatch l),(λg l=>nomatch l),(λg l=>nomatch l)⟩⟩,?_,?_⟩⟩⟩
 ·rintro i e v he ⟨ls,U,T,S,R,b,rfl,hl,O,B⟩;rw[y9] at he;obtain⟨j,hj,rfl⟩:=get_map he
  have hi:i<G.length/\j=i:=by
   obtain⟨z1,z2⟩:=List.getElem?_eq_some_iff.mp hj;rw[ux,dL] at z1;rw[WY] at z2;exact⟨by omega,by omega⟩
  obtain⟨hi,rfl⟩:=hi;obtain⟨x,_,H,a2⟩:=G9 (f:=D.str) (xs:=G) (i:=0+(j:Int)) (by omega) (by omega);have e0:(0+(j:Int)).toNat=j:=by omega
  rw[e0] at H;refine⟨rfl,?_⟩;refine⟨d,ns,10+(0+(j:Int)),rfl,hs,by omega,by omega,λc=>⟨rfl,?_⟩⟩;refine⟨c,c,_,_,rfl,by omega,by omega,by rw[dL];omega,by rw[dL];omega,λr d1 r0 r1=>?_⟩;rw[dL] at r1;obtain⟨g,l,_,a3⟩:=G9 (f:=gD) (xs:=gs) (i:=r) r0 r1;refine⟨_,a3,_,rfl,rfl,rfl,rfl,?_⟩;refine⟨c,d1,_,5,rfl,by omega,by omega,by decide,by decide,λr2 d2 ab a5=>?_⟩;generalize hK:100*(10+(0+(j:Int)))+1+1=K0;refine⟨⟨by omega,by omega⟩,?_⟩;refine .of ⟨λn v=>∃(I o:Int) (ps:List Pr) (b:Option D),v=[some d,some (kT G),some (.lst (gs.map gD)),some (.int u),some (.int t),some (.lst (ls.map lD)),some (.int (0+(j:Int))),some (feed c I o),some (.str g.nm),some (.lst (ps.map pr)),b]/\ps.length=n/\(∀p∈ps,1<=p.1/\p.1<=3*t/\0<=p.2/\p.2<=11*u)/\0<=o/\o<=10000+2*n,⟨d2,K0,[],b,rfl,rfl,(λp hp=>nomatch hp),by omega,by omega⟩,?_,?_⟩
  ·rintro n y v hy ⟨I,o,ps,b,rfl,E,C,k0,k1⟩;have hn:n<r2.toNat:=by have:=(List.getElem?_eq_some_iff.mp hy).1;rwa [y9,dL,ux] at this
   refine⟨rfl,?_⟩;refine⟨rfl,c,I,o,3,rfl,by omega,by omega,by decide,by decide,λa d3 a0 a1=>⟨.inl ⟨by omega,by omega⟩,?_⟩⟩;refine⟨c,d3,o+1,12,rfl,by omega,by omega,by decide,by decide,λM d4 J a4=>⟨.inl ⟨by omega,by omega⟩,?_⟩⟩;refine⟨by rw[dL];exact g6 (by omega),?_⟩;have Y:(1+a)*t<=3*t:=v8 (by omega) (by omega);have m2:M*u<=11*u:=v8 (by omega) (by omega);have X:1*1<=(1+a)*t:=Yo (by omega) t1 (by decide) (by omega);have m4:0<=M*u:=WF J (by omega);refine⟨d4,o+1+1,ps++[((1+a)*t,M*u)],some y,?_,by simp[E],λp hp=>?_,by omega,by omega⟩
   ·rw[vb];rfl
   ·rcases List.mem_append.mp hp with z | z
    ·exact C p z
    ·rw[List.mem_singleton.mp z];exact⟨X,Y,m4,m2⟩
  ·rintro v ⟨I,o,ps,b,rfl,E,C,k0,k1⟩;rw[y9,dL,ux] at E k1;refine⟨rfl,_,a2,rfl,rfl,_,_,rfl,rfl,X3 ps,?_⟩;refine⟨c,I,o,4,rfl,by omega,by omega,by decide,by decide,λa d5 a0 a1=>⟨.inl ⟨by omega,by omega⟩,?_⟩⟩;refine⟨c,d5,o+1,4,rfl,by omega,by omega,by decide,by decide,λM d6 J a4=>?_⟩;refine⟨by rw[dL];exact g6 (by omega),?_⟩;have Y:a*u<=3*u:=v8 (by omega) (by omega);have X:0<=a*u:=WF a0 (by omega);refine⟨ls++[⟨x,g.nm,ps,a*u,decide (0<M)⟩],some (.int (0+(j:Int))),some (feed c d6 (o+1+1)),some (.str g.nm),some (.lst (ps.map pr)),b,?_,by simp[hl],?_,B.snoc (by show ps.length<=4;omega) C X Y ⟨g,l,rfl⟩⟩
   ·rw[vb];rfl
   ·rw[vb,O,wl,H];rfl
 ·rintro v ⟨ls,U,T,S,R,b,rfl,hl,O,B⟩;rw[y9,dL,ux,dL] at O;exact q ls (by rw[O,Wd (by omega)]) B.c4 B.cs B.la B.at_ B.sm
theorem CI(l:pZ gs dp)(nd:(gs.map (·.nm)).Nodup):∀(n j:Nat) (g:Gd),gs[j]?=some g->∀y∈ups gs n (some g.nm),∃k h,k<=j/\gs[k]?=some h/\h.nm=y
 | 0,_,_,_,y,b=>by cases b
 | n+1,j,g,d,y,b=>by
  rcases List.mem_cons.mp b with e | e
  ·exact⟨j,g,oT _,d,e.symm⟩
  ·rw[ba nd (tt d)] at e
   cases c:g.un with
   | none=>
    rw[c] at e;cases n<;>cases e
   | some z=>
    rw[c] at e;obtain⟨_,_,_,a⟩:=l j g d;obtain⟨k,r,u,i,rfl,_⟩:=a z c;obtain⟨o,h,v,q,p⟩:=CI l nd n k r i y e;exact⟨o,h,by omega,q,p⟩
theorem MX{gs:List Gd}(nd:(gs.map (·.nm)).Nodup){i j:Nat}(d:gs[i]?=some g)(c:gs[j]?=some h)(e:g.nm=h.nm):i=j:=by
 have a:(gs.map (·.nm))[i]?=some g.nm:=by rw[sj,d];rfl
 have l:(gs.map (·.nm))[j]?=some g.nm:=by rw[sj,c,e];rfl
 have b:=(List.getElem?_eq_some_iff.mp a).1;exact(VP b nd).mp (a.trans l.symm)
theorem mD(c:pZ gs dp)(nd:(gs.map (·.nm)).Nodup):∀(n j:Nat) (g:Gd),gs[j]?=some g->(ups gs n (some g.nm)).Nodup
 | 0,_,_,_=>t5
 | n+1,j,g,d=>by
  show(g.nm::ups gs n (lR gs g.nm)).Nodup;rw[ba nd (tt d)]
  cases i:g.un with
  | none=>
   have p:ups gs n none=[]:=by cases n<;>rfl
   rw[p];exact List.nodup_cons.mpr ⟨(λz=>nomatch z),t5⟩
  | some z=>
   obtain⟨_,_,_,a⟩:=c j g d;obtain⟨k,e,r,b,rfl,_⟩:=a z i;refine List.nodup_cons.mpr ⟨λy=>?_,mD c nd n k e b⟩;obtain⟨q,h,u,o,l⟩:=CI c nd n k e b _ y;have:=MX nd o d l;omega
theorem xv(a:j6 b)(d:x∈l7 b++L0 b):(j8 b x).Nodup:=by
 obtain⟨dp,c⟩:=a.du.un;obtain⟨g,i,e⟩:=List.mem_map.mp (uq a d);obtain⟨j,h⟩:=xi i;unfold j8;rw[<-e];exact mD c a.du.nd 8 j g h
theorem wx(c:j6 b)(a:x∈l7 b++L0 b)(y:Str):(((j8 b x).count y:Nat):Int)=if y∈j8 b x then 1 else 0:=by
 by_cases h:y∈j8 b x
 ·rw[t4 h,List.Nodup.count (xv c a),t4 h];rfl
 ·rw[tz h,List.count_eq_zero.mpr h];rfl
theorem gC{d:Type}{f:d->Int}:∀{l:List d},(∀x∈l,0<=f x/\f x<=c)->0<=(l.map f).sum/\(l.map f).sum<=l.length*c
 | [],_=>⟨VQ _,by show(0:Int)<=((0:Nat))*c;rw[Int.natCast_zero,WV];exact VQ _⟩
 | x::l,h=>by
  have a:=h x hQ;have b:=gC  λy g=>h y (hH _ g);rw[t8,Rl,wf];have e:((l.length+1:Nat))*c=l.length*c+c:=by rw[Int.natCast_add,XY];simp
  omega
theorem cF(d:j6 b)(j:0<=c)(g:∀l∈b.ls,l.la<=c)(y:Str):0<=j5 b y/\j5 b y<=b.ls.length*c:=by
 rw[qS d];refine gC λl a=>?_;have i:=d.la l a;have h:=g l a;have e:0<=(if l.on=true then l.la else 0)/\(if l.on=true then l.la else 0)<=c:=by split<;>omega
 rw[wx d (sw _ (List.mem_map.mpr ⟨l,a,rfl⟩))];split
 ·rwa[Int.one_mul]
 ·omega
theorem T9.lift(h:T9 cv)(l:0<=n)(i:∀p∈cv,p.1<=B)(j:B+n<10^60):T9 (cv.map λp=>(p.1+n,p.2)):=by
 obtain⟨a,b,c,d⟩:=h;refine⟨by rwa[dL],by rwa[dL],λq g=>?_,?_⟩
 ·obtain⟨p,e,rfl⟩:=List.mem_map.mp g;have z:=c p e;have w:=i p e;exact⟨by omega,by omega,z.2.2.1,z.2.2.2⟩
 ·rw[Wj];exact d.imp λz=>⟨by omega,z.2⟩
theorem j6.guards(a:j6 b)(f:Gd->Gd)(d:∀g,(f g).nm=g.nm)(p:∀g,(f g).un=g.un)(B:∀g∈b.gs,T9 (f g).cv)(x:∀g∈b.gs,0<=(f g).de/\(f g).de<Rc)(v:∀g∈b.gs,0<=(f g).wa/\(f g).wa<10^60):j6 ⟨b.gs.map f,b.ls⟩:=by
 have E:(b.gs.map f).map (·.nm)=b.gs.map (·.nm):=by rw[vu];exact Pv λg _=>d g
 have all:∀{P:Gd->Prop},(∀g∈b.gs,P (f g))->∀g∈b.gs.map f,P g:=λh g c=>by
  obtain⟨z,o,rfl⟩:=List.mem_map.mp c;exact h z o
 refine⟨by rw[dL];exact a.g1,by rw[dL];exact a.g16,a.l24,by rw[E];exact a.nd,all λg c=>by rw[d];exact a.nmg g c,a.nml,all B,all x,all v,?_,a.cs4,a.cs,a.la,λl u=>?_⟩
 ·obtain⟨dp,q⟩:=a.un;refine⟨dp,λi g c=>?_⟩;rw[sj] at c;obtain⟨z,o,rfl⟩:=Option.map_eq_some_iff.mp c;obtain⟨R,Q,O,M⟩:=q i z o;refine⟨R,Q,λw=>O (by rwa[<-p]),λy r=>?_⟩;obtain⟨j,C,J,I,H,G⟩:=M y (by rwa[<-p]);exact⟨j,f C,J,by rw[sj,I];rfl,by rwa[d],G⟩
 ·obtain⟨g,c,e⟩:=a.at_ l u;exact⟨f g,List.mem_map.mpr ⟨g,c,rfl⟩,by rwa[d]⟩
theorem AY(ds:List D)(Q:D->Prop)(h:S2 ds Q):qm (EP Q) (i7 9 ds):=by
 obtain⟨d,ns,u,t,rfl,O,z,q⟩:=h;have u1:=z.1;have u2:=z.2.1;have t2:=z.2.2.2;refine⟨d,ns,0,rfl,O,by decide,by decide,λc=>⟨rfl,?_⟩⟩;walk_at "n";refine⟨c,c,_,8,rfl,by decide,by decide,by decide,by decide,λr d1 r0 r1=>⟨rfl,?_⟩⟩;walk_at "n";refine⟨d,ns,1,rfl,O,by decide,by decide,λc'=>?_⟩;walk_at "n";refine⟨c,d1,_,9,rfl,by decide,by decide,by decide,by decide,λr' d2 a1 a0=>?_⟩;walk_at "n";refine⟨c',c',_,_,rfl,by decide,by decide,by omega,by omega,λo _ _ xl xn xm=>⟨rfl,?_⟩⟩;walk_at "n";obtain⟨n,en⟩:∃n:Nat,1+r=(n:Int):=⟨(1+r).toNat,by omega⟩
 have nl:n<=o.length:=by omega
 have im:=aY o;have z1:cutD (o.map D.str) none (some (1+r))=(o.take n).map D.str:=by rw[en,JW,List.map_take]
 have z2:cutD (o.map D.str) (some (1+r)) none=(o.drop n).map D.str:=by rw[en,nz _ _ (by rw[dL];exact nl),List.map_drop]
 refine⟨im,?_⟩;rw[z1];refine⟨d,ns,o.take n,u,t,rfl,O,by rw[v4];omega,by rw[v4];omega,xn.sublist (Wi _ _),z,λgs gn gu Y gd gw j=>⟨rfl,?_⟩⟩;walk_at "n"
 have gl:gs.length=n:=by
  have:=GM List.length gn;rw[dL,v4] at this;omega
 refine⟨im,?_⟩;rw[z2];refine⟨d,ns,o.drop n,gs,u,t,rfl,O,by omega,by omega,by rw[Tl];omega,z,λls S lc U T X I=>⟨rfl,?_⟩⟩;walk_at "n"
 have ll:ls.length<=8:=by
  have:=GM List.length S;rw[dL,Tl] at this;omega
 have E:j6 ⟨gs,ls⟩:=by
  refine⟨by show 1<=gs.length;omega,by show gs.length<=16;omega,by show ls.length<=24;omega,?_,λg i=>?_,λl C=>?_,Y,λg i=>⟨gd g i,by have:=j.de g i;show g.de<Rc;unfold Rc;omega⟩,λg i=>⟨gw g i,by have:=j.wa g i;show g.wa<_;omega⟩,gu,lc,λl C p x=>?_,λl C=>⟨T l C,by have:=I.la l C;show l.la<_;omega⟩,X⟩
  ·show(gs.map (·.nm)++ls.map (·.nm)).Nodup;rw[gn,S,Wf];exact xn
  ·exact xm _ (List.mem_of_mem_take (gn▸List.mem_map.mpr ⟨g,i,rfl⟩))
  ·exact xm _ (List.mem_of_mem_drop (S▸List.mem_map.mpr ⟨l,C,rfl⟩))
  ·have a:=U l C p x;have b:=I.cs l C p x;exact⟨a.1,by omega,a.2,by omega⟩
 have J:∀(d3:D) (G:List Gd) (v:List (Option D)),j6 ⟨G,ls⟩->Tu ⟨G,ls⟩ u t->jG (EP Q) [some d,some (.int u),some (.int t),some d3,some (.int (1+r)),some (kT o),some (.lst (G.map gD)),some (.lst (ls.map lD)),some (.dic (i6 ⟨gs,ls⟩ (j5 ⟨gs,ls⟩)))]:=λd3 G _ h1 h2=>
  ⟨_,_,rfl,rfl,bP G,_,_,rfl,rfl,pL ls,q ⟨G,ls⟩ h1 h2⟩
 refine⟨_,⟨gs,ls⟩,rfl,⟨_,_,rfl,.inr rfl,.inr rfl⟩,E,rfl,?_⟩;walk_at "n";refine⟨c,d2,_,8,rfl,by decide,by decide,by decide,by decide,λw d3 w0 w1=>⟨λe=>?_,λe=>J _ gs [] E ⟨by show gs.length<=8;omega,ll,λg i p x=>by have:=j.c1 g i p x;omega,j.c2,j.de,j.wa,I⟩⟩⟩;have H:=cF E (c:=3*u) (by omega) I.la;have l24:(ls.length:Int)*(3*u)<=8*(3*u):=v8 (by omega) (by omega);have H:∀y,0<=j5 ⟨gs,ls⟩ y/\j5 ⟨gs,ls⟩ y<=24*u:=λy=>⟨(H y).1,by have h:=(H y).2;have h:j5 ⟨gs,ls⟩ y<=(ls.length:Int)*(3*u):=h;omega⟩
 refine⟨by rw[dL];exact g6 (by omega),J5 (f:=λg:Gd=>gD (U0 g (j5 ⟨gs,ls⟩ g.nm))) gs [] (λg i K R kk=>?_) ?_⟩
 ·refine⟨rfl,Br.yes rfl ?_⟩;refine⟨_,rfl,.inr g.nm,_,rfl,x6 E (List.mem_map.mpr ⟨g,i,rfl⟩),?_⟩;exact⟨g,_,rfl,(Y g i).2.1,kk⟩
 ·refine⟨rfl,?_⟩;have e2:([]++gs.map λg:Gd=>gD (U0 g (j5 ⟨gs,ls⟩ g.nm)))=(gs.map λg=>U0 g (j5 ⟨gs,ls⟩ g.nm)).map gD:=by rw[va,vu];rfl
  rw[e2];refine J _ _ [] (E.guards (λg=>U0 g (j5 ⟨gs,ls⟩ g.nm)) (λg=>rfl) (λg=>rfl) (λg i=>(Y g i).lift (H g.nm).1 (j.c1 g i) (by have:=(H g.nm).2;omega)) E.de E.wa) ⟨by show(gs.map _).length<=8;rw[dL];omega,ll,λg i p x=>?_,λg i p x=>?_,λg i=>?_,λg i=>?_,I⟩
  all_goals
   obtain⟨g,M,rfl⟩:=List.mem_map.mp i
  ·obtain⟨p,B,rfl⟩:=List.mem_map.mp x;have a:=j.c1 g M p B;have b:=(H g.nm).2;show p.1+_<=_;omega
  ·obtain⟨p,B,rfl⟩:=List.mem_map.mp x;exact j.c2 g M p B
  ·exact j.de g M
  ·exact j.wa g M
theorem MK(a b c e:Int)(g:0<=t)(d:t<4):∃p:Int,P4 [D.int a,.int b,.int c,.int e] t=some (.int p)/\(p=a\/p=b\/p=c\/p=e):=by
 have h:t=0\/t=1\/t=2\/t=3:=by omega
 rcases h with rfl | rfl | rfl | rfl
 ·exact⟨a,rfl,.inl rfl⟩
 ·exact⟨b,rfl,.inr (.inl rfl)⟩
 ·exact⟨c,rfl,.inr (.inr (.inl rfl))⟩
 ·exact⟨e,rfl,.inr (.inr (.inr rfl))⟩
theorem Lp(ds:List D)(Q:D->Prop)(h:cU ds Q):Hg (EP Q) (i7 4 ds):=by
 obtain⟨d,ns,rfl,y,q⟩:=h;refine⟨d,ns,18,rfl,y,by decide,by decide,λc=>⟨rfl,?_⟩⟩;have u:aV 10 50:=⟨by decide,by decide,by decide⟩
 have v:aV 10 40:=⟨by decide,by decide,by decide⟩
 refine⟨u,⟨c,c,_,4,rfl,by decide,by decide,by decide,by decide,λr d1 B z=>?_⟩⟩;obtain⟨p,E,C⟩:=MK 1 1 7 (10^(50:Int).toNat+3) B z;refine⟨_,E,rfl,rfl,v,⟨c,d1,_,4,rfl,by decide,by decide,by decide,by decide,λI d2 e a=>?_⟩⟩;obtain⟨i,j,g⟩:=MK 1 1 5 (10^(40:Int).toNat) e a;refine⟨_,j,rfl,rfl,?_⟩;have l:(10:Int)^(50:Int).toNat=10^50:=rfl;have o:(10:Int)^(40:Int).toNat=10^40:=rfl;have x:W4 p i:=⟨by omega,by omega,by omega,by omega⟩
 exact⟨d,ns,p,i,rfl,y,x,λb H G=>⟨rfl,q b p i H G x⟩⟩
theorem sk(a:b.gs[i]?=some g)(h:∀z∈b.gs.take i,¬lo z.cv<=v z.nm)(d:lo g.cv<=v g.nm):we (y8 b v)=.str g.nm:=by
 have e:b.gs=b.gs.take i++g::b.gs.drop (i+1):=by
  have j:=(List.getElem?_eq_some_iff.mp a).1;have o:=List.getElem?_eq_some_iff.mp a;obtain⟨_,l⟩:=o;rw[<-l,<-AT j,Wf]
 unfold y8;rw[e,List.filter_append,List.filter_eq_nil_iff.mpr λz c=>by rw[KM];exact h z c,Re,t4 (uy d)];rfl
theorem vQ(h:∀z∈b.gs,¬lo z.cv<=v z.nm):y8 b v=[]:=by
 unfold y8;rw[List.filter_eq_nil_iff.mpr λz a=>by rw[KM];exact h z a];rfl
theorem Kt(ds:List D)(Q:D->Prop)(h:cA ds Q):Ea (EP Q) (i7 3 ds):=by
 obtain⟨b,rfl,v,q⟩:=h;refine⟨bD b,b,rfl,⟨_,_,rfl,.inl rfl,.inl rfl⟩,v,rfl,⟨_,L1 _ _,.of ⟨λi o=>∃r:Option D,o=[some (bD b),some (.dic (i6 b (j5 b))),r]/\∀z∈b.gs.take i,¬lo z.cv<=j5 b z.nm,⟨none,rfl,λz l=>nomatch l⟩,?_,?_⟩⟩⟩
 ·rintro i e o B ⟨r,rfl,a⟩;obtain⟨g,u,rfl⟩:=get_map B;have c:=tt u;have x:=v.cv g c
  obtain⟨p,ps,y⟩:∃p ps,g.cv=p::ps:=by
   cases e:g.cv with
   | nil=>rw[e] at x;exact absurd x.1 (by decide)
   | cons p ps=>exact⟨p,ps,rfl⟩
  have j:lo g.cv=p.1:=by rw[y];rfl
  refine⟨rfl,⟨_,rfl,.inr g.nm,_,rfl,x6 v (List.mem_map.mpr ⟨g,c,rfl⟩),⟨_,rfl,?_⟩⟩⟩;rw[y];refine⟨pr p,L1 _ _,⟨_,rfl,⟨λe=>?_,λe=>?_⟩⟩⟩
  ·have e:=z0 e;rw[sk u a (by rwa[j])] at q;exact⟨_,rfl,rfl,q⟩
  ·have e:=Wb e;refine⟨_,rfl,λz l=>?_⟩;rw[wl,u] at l;rcases List.mem_append.mp l with w | w
   ·exact a z w
   ·rwa[List.mem_singleton.mp w,j]
 ·rintro o ⟨r,rfl,a⟩;rw[dL,wP] at a;rwa[vQ a] at q
theorem Eu(ds:List D)(Q:D->Prop)(h:au ds Q):yB (EP Q) (i7 1 ds):=by
 obtain⟨b,rfl,c,q⟩:=h;have j:=c.g16;have i:=c.l24;refine⟨_,L1 _ _,by rw[dL];exact g6 (by omega),J5  b.gs [] (λg d K R a=>⟨rfl,Br.yes rfl ⟨_,rfl,rfl,a⟩⟩) ⟨_,aI _ _ _,by rw[dL];exact g6 (by omega),J5  b.ls [] (λg d K R a=>⟨rfl,Br.yes rfl ⟨_,rfl,rfl,a⟩⟩) ⟨G6  (λg=>rfl) _,G6  (λg=>rfl) _,?_,?_⟩⟩⟩
 ·rw[va,va,dL,dL];exact IR (g6 (by omega))
 ·have e:([]++b.gs.map λg=>D.str g.nm)++([]++b.ls.map λg=>D.str g.nm)=(l7 b++L0 b).map D.str:=by
   unfold l7 L0;rw[vb,vu,vu];rfl
  rwa[e]
theorem jc(c:j6 b)(a:g∈b.gs):wY b g.nm=g:=by
 unfold wY;rw[pK c.du.nd a];rfl
theorem oa(c:j6 b)(d:x∈l7 b):u7 (b.gs.map λg:Gd=>((.inr g.nm:Key),gD g)) (.inr x)=some (gD (wY b x)):=by
 obtain⟨g,a,rfl⟩:=List.mem_map.mp d;rw[jc c a];exact R7   c.du.nd a
theorem mB(a:j6 b):b.gs.foldl (λacc g=>putD acc (.inr g.nm) (gD g)) []=b.gs.map λg:Gd=>((.inr g.nm:Key),gD g):=
 O4     (by rw[va];exact a.du.nd)
theorem Qh(c:j6 b)(e:x∈l7 b++L0 b)(q:Q (.lst ((j8 b x).map λy=>.tup [gD (wY b y),.int (j5 b y)]))) :
  yz (EP Q) [some (bD b),some (.str x),some (.dic (b.gs.map λg:Gd=>(.inr g.nm,gD g))),some (.dic (i6 b (j5 b))),h]:=by
 have a:=dW c e;have j:=dI (b:=b) x;refine⟨bD b,b,rfl,⟨_,_,rfl,.inl rfl,.inl rfl⟩,c,⟨.inr x,_,rfl,ij e c.nd,by rw[dL];exact g6 (by omega),J5 (f:=λy=>.tup [gD (wY b y),.int (j5 b y)]) (j8 b x) [] (λy d K R i=>?_) q⟩⟩
 ·exact⟨rfl,Br.yes rfl ⟨.inr y,_,rfl,oa c (a y d),Q5 _,.inr y,_,rfl,x6 c (a y d),rfl,i⟩⟩
theorem qI{b:Bd}(c:b.ls[i]?=some l)(h:∀z∈b.ls.take i,¬(z.nm=x/\z.on=false))(d:¬(l.nm=x/\l.on=false)):∀z∈b.ls.take (i+1),¬(z.nm=x/\z.on=false):=λz a=>by
 rw[wl,c] at a;rcases List.mem_append.mp a with w | w
 ·exact h z w
 ·rwa[List.mem_singleton.mp w]
theorem HX(c:l∈b.ls)(h:l.nm=x)(a:l.on=false):X8 b x=true:=by
 unfold X8;rw[XT];exact⟨l,c,by rw[uy h,a];rfl⟩
theorem Di(h:∀z∈b.ls,¬(z.nm=x/\z.on=false)):X8 b x=false:=by
 unfold X8;rw[WE];intro z a e;rw[vc,KM] at e;exact h z a ⟨e.1,by cases a:z.on;rfl;rw[a] at e;exact nomatch e.2⟩
theorem Fg(h:X8 b x=false):kS (M8 b x)=.lst ((j8 b x).map λy=>.tup [gD (wY b y),.int (j5 b y)]):=by
 unfold kS M8;rw[h];exact GM D.lst (vu ..)
theorem yv(h:X8 b x=true):kS (M8 b x)=.lst []:=by
 unfold kS M8;rw[h];rfl
theorem OO(ds:List D)(Q:D->Prop)(h:kH ds Q):MO (EP Q) (i7 5 ds):=by
 obtain⟨b,x,rfl,c,B,q⟩:=h;have E:=c.g16;refine⟨_,L1 _ _,by rw[dL];exact g6 (by omega),J5  b.gs [] (λg G K R u=>⟨rfl,Br.yes rfl ⟨_,rfl,rfl,Q5 g,u⟩⟩) ?_⟩
 have v:=λg=>by
  show(true&&(r8 (gD g)&&true))=true;rw[Q5];rfl
 refine .inl ⟨_,_,_,rfl,rfl,G6 v b.gs,fC (λg:Gd=>g.nm) gD b.gs,by rw[dL];exact g6 (by omega),?_⟩;rw[oo,mB c];refine⟨rfl,?_⟩;walk_at "n";refine⟨bD b,b,rfl,⟨_,_,rfl,.inl rfl,.inl rfl⟩,c,rfl,?_⟩;walk_at "n";refine⟨_,aI _ _ _,.of ⟨λi d=>∃j:Option D,d=[some (bD b),some (.str x),some (.dic (b.gs.map λg=>(.inr g.nm,gD g))),some (.dic (i6 b (j5 b))),j]/\∀z∈b.ls.take i,¬(z.nm=x/\z.on=false),⟨none,rfl,λz y=>nomatch y⟩,?_,?_⟩⟩
 ·rintro i e d C ⟨j,rfl,a⟩;obtain⟨l,p,rfl⟩:=get_map C;have o:=tt p;refine⟨rfl,⟨_,rfl,?_⟩⟩;walk_at "w";refine⟨λe=>?_,λe=>Br.no rfl ⟨_,rfl,qI p a λz=>Wb e z.1⟩⟩
  ·have e:=z0 e;refine⟨_,rfl,?_⟩;cases r:l.on with
   | true=>exact Br.no rfl ⟨_,rfl,qI p a λz=>by rw[r] at z;exact nomatch z.2⟩
   | false=>
    rw[yv (HX o e r)] at q;exact Br.yes rfl q
 ·rintro d ⟨j,rfl,a⟩;rw[dL,wP] at a;rw[Fg (Di a)] at q;exact Qh c B q
theorem GN(c:j6 b)(d:x∈l7 b++L0 b):kn (.str x)=true:=by
 have h:nm 8 x:=by
  rcases List.mem_append.mp d with z | z
  ·obtain⟨g,a,rfl⟩:=List.mem_map.mp z;exact c.nmg g a
  ·obtain⟨g,a,rfl⟩:=List.mem_map.mp z;exact c.nml g a
 have h:=h.2.1;rw[u0] at h;exact uy (show x.cps.size<=100000 by omega)
theorem Jm(ds:List D)(Q:D->Prop)(h:cW ds Q):En (EP Q) (i7 4 ds):=by
 obtain⟨b,x,rfl,a,i,q⟩:=h;refine⟨b,.str x,rfl,a,GN a i,?_⟩;show Br (!(decide (x∈l7 b)||decide (x∈L0 b))) _ _
 ·refine Br.no ?_ ?_
  ·rcases List.mem_append.mp i with h | h
   ·rw[uy h];rfl
   ·rw[uy h,Bool.or_true];rfl
  have p:=a.l24;refine⟨_,aI _ _ _,by rw[dL];exact g6 (by omega),kg (k:=λl=>.inr l.nm) (v:=λl=>.str l.at_) b.ls [] (λl c K R d=>?_) ⟨rfl,?_⟩⟩
  ·obtain⟨n,u,cv,de,wa⟩:=l;walk_at "r";exact d
  ·have e:=JN a _ (λl c=>iI   b.ls [] (by
     have e:b.ls.map (λg=>(.inr g.nm))=(b.ls.map (·.nm)).map (λy=>(.inr y:Key)):=by rw[vu];rfl
     rw[e,List.Nodup,Wj];exact(IV a).imp λh z=>h (Wa z)) l c)
    (λy j=>fW   (.inr y) b.ls [] λl c z=>j (List.mem_map.mpr ⟨l,c,Wa z⟩)) x
   obtain⟨g,o,B⟩:=tR a i;walk_at "r";rw[e];exact⟨rfl,_,b.gs,S1 b x,rfl,.inl rfl,a.du,⟨g,o,B⟩,q⟩
theorem sW(ds:List D)(Q:D->Prop)(h:K2 ds Q):kh (EP Q) (i7 2 ds):=by
 obtain⟨b,rfl,a,c,q⟩:=h;refine⟨b,rfl,a,?_⟩;rw[c];exact⟨rfl,Br.no rfl ⟨b,rfl,a,q⟩⟩
theorem JL(ds:List D)(Q:D->Prop)(h:bp ds Q):GW (EP Q) (i7 6 ds):=by
 obtain⟨b,x,rfl,a,p,u,q⟩:=h;have E:=a.g16;have B:=a.l24;refine⟨b,x,rfl,a,p,rfl,⟨b,rfl,a,u,rfl,?_⟩⟩;walk_at "n";refine⟨_,aI _ _ _,by rw[dL];exact g6 (by omega),O3 (f:=λl=>.str l.nm) (λl=>!l.on) b.ls [] (λl c K R i j=>?_) ?_⟩
 ·exact⟨rfl,⟨_,rfl,⟨λe=>⟨_,rfl,rfl,i e⟩,λe=>j e⟩⟩⟩
 have I:([]++(b.ls.filter λl=>!l.on).map λl=>D.str l.nm)=((b.ls.filter λl=>!l.on).map (·.nm)).map D.str:=by rw[vu];rfl
 rw[I];refine⟨rfl,_,rfl,bL _,?_⟩;rw[ir]
 have H:decide (x∈(b.ls.filter λl=>!l.on).map (·.nm))=X8 b x:=by
  by_cases h:X8 b x=true
  ·rw[h];obtain⟨l,c,e⟩:=List.any_eq_true.mp h;rw[vc,KM] at e;exact uy (List.mem_map.mpr ⟨l,List.mem_filter.mpr ⟨c,e.2⟩,e.1⟩)
  ·rw[Bool.not_eq_true] at h;rw[h];refine v5 λz=>?_;obtain⟨l,c,e⟩:=List.mem_map.mp z;obtain⟨G,C⟩:=List.mem_filter.mp c;have:=List.any_eq_false.mp h l G;exact this (by rw[vc,KM];exact⟨e,C⟩)
 rw[H];refine⟨λe=>?_,λe=>?_⟩
 ·rwa[yv e] at q
 ·rw[Fg e] at q;have d:=dW a p;have c:=dI (b:=b) x;refine⟨_,L1 _ _,by rw[dL];exact g6 (by omega),bO (v:=gD) (k:=λg:Gd=>.inr g.nm) (λ_=>true) b.gs [] (λg J K R i j=>⟨rfl,Br.yes rfl ⟨_,rfl,.inr g.nm,rfl,Q5 g,i rfl⟩⟩) ?_⟩
  rw[List.filter_eq_self.mpr λ_ _=>rfl,mB a];refine⟨rfl,⟨by rw[dL];exact g6 (by omega),J5 (f:=λy:Str=>.tup [gD (wY b y),.int (j5 b y)]) (j8 b x) [] (λy o K R r=>?_) q⟩⟩
  ·refine⟨rfl,Br.yes rfl ?_⟩;exact⟨.inr y,_,rfl,oa a (d y o),Q5 _,.inr y,_,rfl,x6 a (d y o),rfl,r⟩
theorem BK(ds:List D)(Q:D->Prop)(h:J6 ds Q):sP (EP Q) (i7 3 ds):=by
 obtain⟨g,n,rfl,a,q⟩:=h;exact⟨rfl,rfl,_,rfl,g.cv,rfl,a,q⟩
theorem wI.at(h:wI ps){i:Int}(c:0<=i)(b:i<ps.length):∃r,ps[i.toNat]?=some r/\T9 r.1.cv/\P4 (ps.map λr:Gd×Int=>D.tup [gD r.1,.int r.2]) i=some (.tup [gD r.1,.int r.2]):=by
 obtain⟨r,a,e,d⟩:=G9    c b;exact⟨r,e,h.cv r a,d⟩
structure MT(rs:List (Gd×Int))(cv:List Pr)(n m:Int)(ks:YI):Prop where
 nd:ks.Nodup
 mem:∀x,x∈ks ↔ x=1\/(∃r∈rs,∃s∈r.1.cv,x=s.1-r.2/\x<=m)\/∃s∈cv,x=s.1-n/\x<=m
 len:ks.length<=1+5*rs.length+cv.length
theorem OI(ds:List D)(Q:D->D->Prop)(h:iH ds Q):Me (EM Q) (i7 7 ds):=by
 obtain⟨c,d,k,u,ps,rfl,S,k1,u1,u2,I,q⟩:=h;have R:=I.len;have B:aV 10 60:=⟨by decide,by decide,by decide⟩
 refine⟨c,d,k,8,rfl,S,by omega,by decide,by decide,λw d1 Y X=>⟨rfl,?_⟩⟩;walk_at "n"
 have low:∀{G E C:Option D},jq { nx:=zK (EM Q),rt:=(EM Q).rt } [some (feed c d1 (k+1)),some (kS ps),some (.int u),some (.int w),G,E,C]:=by
  intro G E C;refine⟨c,d1,k+1,60,rfl,by omega,by omega,by decide,by decide,λr d2 p l=>⟨.inl ⟨by omega,by omega⟩,?_⟩⟩;have m1:r*u<=59*u:=v8 (by omega) (by omega);have m2:0<=r*u:=WF p (by omega);exact q (1+r*u) d2 (k+1+1) (by omega) (.inl (by omega)) (by omega) (by omega)
 refine⟨λe=>?_,λe=>?_⟩
 ·exact⟨B,q _ d1 (k+1) (by decide) (.inl (by decide)) (by omega) (by omega)⟩
 ·refine⟨λy=>Br.yes rfl low,λy=>⟨λb=>low,λb=>?_⟩⟩
  have hn:ps.length≠0:=λz=>by
   have:=Wb b;rw[dL] at this;omega
  refine⟨c,d1,k+1,_,rfl,by omega,by omega,by rw[dL];omega,by rw[dL];omega,λr d2 p l=>?_⟩;rw[dL] at l;obtain⟨g,U,x,y⟩:=I.at p l;have v:=tt U;refine⟨_,y,rfl,rfl,?_⟩;walk_at "n";have l1:=x.1;have l5:=x.2.1;refine⟨_,rfl,⟨_,rfl,c,d2,k+1+1,_,rfl,by omega,by omega,by rw[dL];omega,by rw[dL];omega,λO d3 o a=>?_⟩⟩;rw[dL] at a;obtain⟨s,H,_,T⟩:=G9 (f:=pr) (xs:=g.1.cv) (i:=O) o a;refine⟨_,T,rfl,rfl,?_⟩;walk_at "n";refine⟨_,rfl,c,d3,k+1+1+1,3,rfl,by omega,by omega,by decide,by decide,λj d4 M J=>?_⟩;show Q (.int (if s.1-g.2-1+j>1 then s.1-g.2-1+j else 1)) _;refine q _ d4 (k+1+1+1+1) (by split<;>omega) ?_ (by omega) (by omega)
  by_cases z:s.1-g.2-1+j>1
  ·rw[t4 z];exact .inr ⟨g,v,s,H,by omega⟩
  ·rw[tz z];exact .inl (by decide)
theorem zL:∀cv:List Pr,w6 (cv.map pr)=true
 | []=>rfl
 | p::cv=>by show(r8 (pr p)&&w6 (cv.map pr))=true;rw[zL cv];rfl
theorem Rp(ds:List D)(Q:D->Prop)(h:wD ds Q):Rf (EP Q) (i7 2 ds):=by
 obtain⟨cv,n,rfl,c,q⟩:=h;have d:=c.2.1;refine⟨by rw[dL];exact g6 (by omega),O3 (f:=pr) (λp=>decide (p.1<=n)) cv [] (λp g K R b a=>?_) ?_⟩
 ·refine⟨rfl,?_⟩;walk_at "r";exact⟨λe=>⟨rfl,b e⟩,λe=>a e⟩
 walk_at "r";rwa[va,dL]
theorem tN:∀{cv:List Pr},(cv.Pairwise λp q=>p.1<q.1/\q.2<p.2)->cv.filter (λp=>decide (p.1<=n))=cv.take (cv.filter λp=>decide (p.1<=n)).length
 | [],_=>rfl
 | p::cv,h=>by
  cases h with
  | cons d b=>
   by_cases c:p.1<=n
   ·rw[Re,t4 (uy c),wf,List.take_succ_cons,<-tN b]
   ·have e:(p::cv).filter (λp=>decide (p.1<=n))=[]:=List.filter_eq_nil_iff.mpr λz a=>by
     rw[KM];rcases List.mem_cons.mp a with w | w
     ·rwa[w]
     ·have:=(d z w).1;omega
    rw[e];rfl
theorem DR(h:T9 cv)(n:Int):fw cv n=if hX cv n=0 then none else(cv[(hX cv n-1).toNat]?).map (·.2):=by
 unfold fw hX;have e:=tN (n:=n) h.2.2.2;have l:=Xq (λp=>decide (p.1<=n)) cv;generalize (cv.filter λp=>decide (p.1<=n)).length=k at *;rw[e,List.getLast?_eq_getElem?,v4,Nat.min_eq_left l,List.getElem?_take]
 by_cases c:k=0
 ·subst c;rfl
 ·rw[t4 (by omega),tz (by omega),show((k:Int)-1).toNat=k-1 by omega]
theorem zZ(ds:List D)(Q:D->Prop)(h:S6 ds Q):uM (EP Q) (i7 3 ds):=by
 obtain⟨cv,n,rfl,a,q⟩:=h;refine⟨cv,n,rfl,a,rfl,?_⟩;rw[DR a] at q;have l:hX cv n<=cv.length:=Int.ofNat_le.mpr (Xq _ _)
 have d:0<=hX cv n:=Int.natCast_nonneg _
 walk_at "n";refine⟨λe=>?_,λe=>?_⟩
 ·have e:=z0 e;rwa[t4 e] at q
 ·have e:=Wb e;obtain⟨p,_,c,b⟩:=G9  (xs:=cv) (i:=hX cv n-1) (by omega) (by omega);rw[tz e,c] at q;exact⟨_,b,_,rfl,rfl,q⟩
def M6(ps:List (Gd×Int)):YI:=ps.flatMap λr=>r.1.cv.map λs=>s.1-r.2
theorem gq:∀{ps:List (Gd×Int)},(∀r∈ps,T9 r.1.cv)->(M6 ps).length<=5*ps.length
 | [],_=>v9 _
 | r::ps,h=>by
  have:=gq  λr a=>h r (hH _ a);have:=(h r hQ).2.1;unfold M6 at *;rw[WD,uk,dL,wf];omega
theorem CA(ds:List D)(Q:D->Prop)(h:Y9 ds Q):yr (EP Q) (i7 3 ds):=by
 obtain⟨ps,m,rfl,l,M,q⟩:=h
 suffices H:∀(b:List (Gd×Int)) (a:YI),(∀r∈b,T9 r.1.cv)->a.length+5*b.length<=1000->∀K,K ((a++M6 b).map D.int) ->
   kP (gT (l4 (g1 0) (l4 (g1 1) N1))) N5 (tupI (g4 (a6 0) (uC (D.int 2)))) (g1 2) N5 (o5 L3.Z6 (g4 (a6 2) (uC (D.int 0))) (a6 1)) [none,none,none] (b.map λr=>D.tup [gD r.1,.int r.2]) (a.map D.int) K by
  refine H ps [] l.cv (by rw[List.length_nil];omega) _ ⟨rfl,?_⟩;walk_at "n";have v:=gq l.cv;refine⟨by rw[dL];exact g6 (by omega),O3  (f:=D.int) (λz=>decide (z<=m)) (M6 ps) [] (λp l K R C B=>?_) ?_⟩
  ·refine⟨rfl,?_⟩;walk_at "r";exact⟨λe=>⟨rfl,C e⟩,λe=>B e⟩
  walk_at "r";have J:=Xq (λz=>decide (z<=m)) (M6 ps);refine⟨G6  (λ_=>rfl) _,?_,?_⟩
  ·show 1+(List.map D.int _).length<=_;rw[dL];exact IR (g6 (by omega))
  refine⟨_,1::(M6 ps).filter (λz=>decide (z<=m)),rfl,rfl,by rw[wf];omega,λi up mem=>q i ⟨up,λx=>?_⟩⟩;rw[mem,Os,List.mem_filter,KM];unfold M6;rw[List.mem_flatMap];refine Yi XM ⟨λ⟨⟨r,c,I⟩,u⟩=>?_,λ⟨r,c,z,g,e,u⟩=>⟨⟨r,c,List.mem_map.mpr ⟨z,g,e.symm⟩⟩,u⟩⟩;obtain⟨z,g,e⟩:=List.mem_map.mp I;exact⟨r,c,z,g,e.symm,u⟩
 intro b
 induction b with
 | nil=>intro a _ _ K k;unfold M6 at k;rw[List.flatMap_nil,ud] at k;exact k
 | cons r b E=>
  intro a y v K k;rw[wf] at v;have O:=(y r hQ).2.1
  suffices G:∀(ss:List Pr) (a:YI) (z:Option D),(match z with | some d=>r8 d | none=>true)=true->a.length+ss.length<=1000->∀K:List D->Prop,K ((a++ss.map λs=>s.1-r.2).map D.int) ->
    Hr (g1 2) N5 (o5 L3.Z6 (g4 (a6 2) (uC (D.int 0))) (a6 1)) (ss.map pr) [some (gD r.1),some (.int r.2),z] (a.map D.int) K by
   refine⟨rfl,rfl,Br.yes rfl ⟨?_,?_⟩⟩
   ·show(r8 (gD r.1)&&(true&&(true&&true)))=true;rw[Q5];rfl
   ·refine⟨_,rfl,zL _,?_⟩;refine G r.1.cv a none rfl (by omega) _ ?_;refine E _ (λr c=>y r (hH _ c)) ?_ K ?_
    ·rw[uk,dL];omega
    ·unfold M6 at k ⊢;rw[WD,<-v6] at k;exact k
  intro ss
  induction ss with
  | nil=>intro a z _ _ K k;rw[Xi,ud] at k;exact k
  | cons s ss j=>
   intro a z g o K k;rw[wf] at o;refine⟨rfl,?_,?_⟩
   ·show(r8 (gD r.1)&&(true&&(r8 (pr s)&&true)))=true;rw[Q5];rfl
   ·refine Br.yes rfl ⟨by rw[dL];exact g6 (by omega),?_⟩;have z:=j (a++[s.1-r.2]) (some (pr s)) rfl (by rw[uk,C2];omega) K (by rw[v6];exact k);rw[vb] at z;exact⟨_,rfl,rfl,z⟩
def zT(ps:List (Gd×Int))(n:Int)(j:Nat):Bool:=match ps[j]? with
 | some r=>(fw r.1.cv (r.2+n)).isSome
 | none=>false
def HU(ps:List (Gd×Int))(n:Int)(a:Bool):Nat->Bool
 | 0=>a
 | j+1=>zT ps n j
theorem uA(r:Gd×Int)(n:Int)(a:Bool):(G2 r n a).isSome=(fw r.1.cv (r.2+n)).isSome:=by
 unfold G2;rw[W1]
theorem fe(n:Int):∀(ps:List (Gd×Int)) (a:Bool),(x5 n a ps).length=ps.length
 | [],_=>rfl
 | r::ps,a=>by unfold x5;rw[wf,wf,fe n ps]
theorem R9:∀{ps:List (Gd×Int)} {a:Bool} {i:Nat} {r:Gd×Int},ps[i]?=some r->(x5 n a ps)[i]?=some (G2 r n (HU ps n a i))
 | [],_,i,_,h=>by cases h
 | b::ps,a,0,r,h=>by cases h;rfl
 | b::ps,a,1,r,h=>by
  show(x5 n _ ps)[0]?=_;rw[R9 (i:=0)  h];rfl
 | b::ps,a,i+2,r,h=>by
  show(x5 n _ ps)[i+1]?=_;rw[R9 (i:=i+1)  h];rfl
theorem Aa(ds:List D)(Q:D->Prop)(h:U5 ds Q):uF (EP Q) (i7 7 ds):=by
 obtain⟨ps,n,rfl,J,q⟩:=h;have Y:=J.len;refine⟨rfl,.of ⟨λi y=>∃o l g B:Option D,y=[some (kS ps),some (.int n),some (.lst (((x5 n false ps).take i).map Y4)),o,l,g,B],⟨none,none,none,none,rfl⟩,?_,?_⟩⟩
 ·rintro i e y he ⟨o,l,g,B,rfl⟩;obtain⟨x,hx,rfl⟩:=L3.eQ he;obtain⟨r,H,rfl⟩:=get_map hx;have hi:=(List.getElem?_eq_some_iff.mp H).1;have hc:=J.cv r (tt H);refine⟨rfl,rfl,rfl,?_⟩;walk_at "n";refine⟨_,rfl,⟨r.1.cv,r.2+n,rfl,hc,rfl,?_⟩⟩;walk_at "n";have X:=R9 (n:=n) (a:=false) H;have tk:(x5 n false ps).take (i+1)=(x5 n false ps).take i++[G2 r n (HU ps n false i)]:=by rw[wl,X];rfl
  rw[tk];generalize U:(x5 n false ps).take i=S;have a0:S.length=i:=by rw[<-U,v4,fe];omega
  have u:∀(o l g:Option D) (sp:Option Int) (T:V3),G2 r n (HU ps n false i)=sp->(T.nx=λy=>∃o l g B:Option D,y=[some (kS ps),some (.int n),some (.lst ((S++[sp]).map Y4)),o,l,g,B]) ->
    W8 T [some (kS ps),some (.int n),some (.lst (S.map Y4)),o,l,g,some (Y4 sp)]:=by
   intro o l g sp T _ R;have main:∃a b c d:Option D,[some (kS ps),some (D.int n),some (D.lst (S.map Y4++[Y4 sp])),o,l,g,some (Y4 sp)]=[some (kS ps),some (.int n),some (.lst ((S++[sp]).map Y4)),a,b,c,d]:=⟨o,l,g,_,by rw[vb];rfl⟩
   have G:W8 T [some (kS ps),some (D.int n),some (D.lst (S.map Y4)),o,l,g,some (Y4 sp)]:=by
    have M:(S.map Y4).length<sizeLine:=by rw[dL];exact g6 (by omega)
    cases sp with
    | none=>
     refine⟨rfl,rfl,?_⟩;refine⟨M,?_⟩;show T.nx _;rw[R];exact main
    | some t=>
     refine⟨rfl,rfl,?_⟩;refine⟨M,?_⟩;show T.nx _;rw[R];exact main
   exact G
  cases e:fw r.1.cv (r.2+n) with
  | none=>
   have v:G2 r n (HU ps n false i)=none:=by unfold G2;rw[e];rfl
   rw[v];exact⟨λz=>(by cases z),λ_=>Br.no rfl (u _ _ _ none _ v rfl)⟩
  | some t=>
   refine⟨λ_=>?_,λz=>(by cases z)⟩
   cases i with
   | zero=>
    have v:G2 r n (HU ps n false 0)=some t:=by unfold G2;rw[e];rfl
    rw[v];exact⟨λz=>(by cases z),λ_=>Br.no rfl (u _ _ _ (some t) _ v rfl)⟩
   | succ j=>
    obtain⟨C,E⟩:∃C,ps[j]?=some C:=⟨ps[j],nA (by omega)⟩
    have I:S[j]?=some (G2 C n (HU ps n false j)):=by rw[<-U,List.getElem?_take,t4 (Wo j),R9 E]
    have O:(G2 C n (HU ps n false j)).isSome=zT ps n j:=by rw[uA];unfold zT;rw[E]
    generalize G2 C n (HU ps n false j)=pv at I O
    have ix:P4 (S.map Y4) ((((0+(j+1):Nat):Int))-1)=some (Y4 pv):=by
     rw[show(((0+(j+1):Nat):Int))-1=((j:Nat):Int) by omega];exact pW (by rw[sj,I];rfl)
    have v:G2 r n (HU ps n false (j+1))=some (bif pv.isSome then t+r.1.wa else t):=by unfold G2;rw[e,O];rfl
    rw[v];refine⟨λ_=>⟨_,ix,?_⟩,λz=>absurd (show decide ((((0+(j+1):Nat):Int))>0)=false from z) (by rw[uy (by omega)];decide)⟩
    cases pv with
    | none=>exact Br.no rfl (u _ _ _ (some t) _ v rfl)
    | some p=>
     refine Br.yes rfl ?_;exact⟨_,rfl,rfl,u _ _ _ (some (t+r.1.wa)) _ v rfl⟩
 ·rintro y ⟨o,l,g,B,rfl⟩;rw[dU,dL,<-fe n ps false,wP];exact q
theorem qj:∀{l k:YI},l.Pairwise (·<·)->k.Pairwise (·<·)->(∀x,x∈l ↔ x∈k)->l=k
 | [],[],_,_,_=>rfl
 | [],y::k,_,_,h=>absurd ((h y).mpr hQ) (by simp)
 | x::l,[],_,_,h=>absurd ((h x).mp hQ) (by simp)
 | x::l,y::k,g,d,h=>by
  cases g with
  | cons c j=>cases d with
   | cons b i=>
    have e:x=y:=by
     rcases List.mem_cons.mp ((h x).mp hQ) with z | z
     ·exact z
     ·rcases List.mem_cons.mp ((h y).mpr hQ) with w | w
      ·exact w.symm
      ·have:=c y w;have:=b x z;omega
    subst e;rw[qj j i λz=>⟨λa=>?_,λa=>?_⟩]
    ·rcases List.mem_cons.mp ((h z).mp (hH _ a)) with w | w
     ·have:=c z a;omega
     ·exact w
    ·rcases List.mem_cons.mp ((h z).mpr (hH _ a)) with w | w
     ·have:=b z a;omega
     ·exact w
theorem jE(h:BE ps m ls):ls=eO ps m:=by
 have a:∃l,BE ps m l:=⟨ls,h⟩
 unfold eO;rw[dif_pos a];exact qj h.up a.choose_spec.up λx=>by rw[h.mem,a.choose_spec.mem]
theorem kf(h:ps[j]?=some r):Q0 ps n j=fw r.1.cv (r.2+n):=by unfold Q0;rw[h];rfl
theorem Lx(h:0<ps.length):(x5 n false ps)[0]?=some (Q0 ps n 0):=by
 obtain⟨r,a⟩:∃r,ps[0]?=some r:=⟨ps[0],nA h⟩
 rw[R9 a,kf a];unfold G2 HU;cases fw r.1.cv (r.2+n)<;>rfl
theorem Im(g:1<=i)(h:i<ps.length):∃b:Option Int,(x5 n false ps)[i]?=some b/\O8 ps i n=match Q0 ps n 0,b with
  | some x,some y=>some (x-y+1)
  | _,_=>none:=by
 obtain⟨r,c⟩:∃r,ps[i]?=some r:=⟨ps[i],nA h⟩
 obtain⟨k,rfl⟩:∃k,i=k+1:=⟨i-1,by omega⟩
 obtain⟨e,a⟩:∃r,ps[k]?=some r:=⟨ps[k],nA (by omega)⟩
 refine⟨_,R9 c,?_⟩
 have d:zT ps n k=(Q0 ps n (k+1-1)).isSome:=by
  rw[Nat.add_sub_cancel,kf a];unfold zT;rw[a]
 unfold O8 G2;rw[kf c,c]
 show _=match Q0 ps n 0,Option.map (λt=>bif zT ps n k then t+r.1.wa else t) (fw r.1.cv (r.2+n)) with
  | some x,some y=>some (x-y+1)
  | _,_=>none
 rw[d];cases Q0 ps n 0<;>cases fw r.1.cv (r.2+n)<;>rfl
theorem jB(ds:List D)(Q:D->Prop)(h:C1 ds Q):cb (EP Q) (i7 7 ds):=by
 obtain⟨ps,i,m,rfl,E,M,G,I,q⟩:=h;refine⟨rfl,⟨ps,m,rfl,E,M,λls v=>?_⟩⟩;have q:Q (Cy (ls.foldl (w5 ps i) none)):=by rwa[jE v]
 walk_at "n";refine .of ⟨λj g=>∃u r p:Option D,g=[some (kS ps),some (.int i),some (.int m),some (Cy ((ls.take j).foldl (w5 ps i) none)),u,r,p],⟨none,none,none,rfl⟩,?_,?_⟩
 ·rintro j e g J ⟨u,r,p,rfl⟩;obtain⟨low,H,rfl⟩:=get_map J
  have O:(ls.take (j+1)).foldl (w5 ps i) none=w5 ps i ((ls.take j).foldl (w5 ps i) none) low:=by
   rw[wl,H];rw[Wk];rfl
  refine⟨rfl,?_⟩;walk_at "n";rw[O];generalize (ls.take j).foldl (w5 ps i) none=o;refine⟨ps,low,rfl,E,rfl,?_⟩;walk_at "n";obtain⟨b,R,el⟩:=Im  G I;have T:=Lx (n:=low) (show 0<ps.length by omega);have d:P4 ((x5 low false ps).map Y4) 0=some (Y4 (Q0 ps low 0)):=pW  (by rw[sj,T];rfl);have l:P4 ((x5 low false ps).map Y4) i=some (Y4 b):=pW (by rw[sj,R];rfl);generalize Q0 ps low 0=a at d el;refine⟨_,d,?_⟩
  cases a with
  | none=>
   have e:w5 ps i o low=o:=by unfold w5;rw[el]
   rw[e];exact⟨λz=>(by cases z),λ_=>Br.no rfl ⟨_,_,_,rfl⟩⟩
  | some x=>
   refine⟨λ_=>⟨_,l,?_⟩,λz=>(by cases z)⟩
   cases b with
   | none=>
    have e:w5 ps i o low=o:=by unfold w5;rw[el]
    rw[e];exact Br.no rfl ⟨_,_,_,rfl⟩
   | some y=>
    refine Br.yes rfl ?_;refine⟨_,d,_,l,rfl,?_⟩;walk_at "n"
    cases o with
    | none=>
     have e:w5 ps i none low=some (x-y+1,low):=by unfold w5;rw[el]
     rw[e];exact⟨λ_=>Br.yes rfl ⟨rfl,rfl,rfl,_,_,_,rfl⟩,λz=>(by cases z)⟩
    | some C=>
     obtain⟨c,B⟩:=C;have e:w5 ps i (some (c,B)) low=if c<x-y+1 then some (x-y+1,low) else some (c,B):=by unfold w5;rw[el]
     rw[e];refine⟨λz=>(by cases z),λ_=>⟨_,rfl,λz=>?_,λz=>?_⟩⟩
     ·have z:x-y+1>c:=z0 z;rw[t4 z];exact⟨rfl,rfl,rfl,_,_,_,rfl⟩
     ·have z:¬x-y+1>c:=Wb z;rw[tz z];exact⟨_,_,_,rfl⟩
 ·rintro g ⟨u,r,p,rfl⟩;rw[dL,wP];generalize ls.foldl (w5 ps i) none=o at *
  cases o with
  | none=>exact⟨rfl,q⟩
  | some C=>exact⟨rfl,q⟩
theorem jv(d:j6 b)(i:x∈l7 b++L0 b):wI (M8 b x)/\(M8 b x).length<=8:=by
 have c:=dW d i;have j:=dI (b:=b) x;unfold M8
 cases X8 b x with
 | true=>exact⟨⟨v9 _,λr a=>nomatch a⟩,v9 _⟩
 | false=>
  refine⟨⟨?_,λr a=>?_⟩,?_⟩
  ·show((j8 b x).map _).length<=16;rw[dL];omega
  ·obtain⟨y,h,rfl⟩:=List.mem_map.mp a;obtain⟨g,e,rfl⟩:=List.mem_map.mp (c y h);rw[jc d e];exact d.cv g e
  ·show((j8 b x).map _).length<=8;rwa[dL]
theorem Ao(d:j6 b)(c:x∈l7 b):X8 b x=false:=Di λz a e=>
 (List.nodup_append.mp d.nd).2.2 x c x (e.1▸List.mem_map.mpr ⟨z,a,rfl⟩) rfl
theorem zU(c:j6 b)(a:g∈b.gs):∃ps,M8 b g.nm=(g,j5 b g.nm)::ps:=by
 have d:g.nm∈l7 b:=List.mem_map.mpr ⟨g,a,rfl⟩;unfold M8;rw[Ao c d,cO c a];exact⟨_,by show(wY b g.nm,_)::_=_;rw[jc c a]⟩
theorem AB{a:Type}{p:a->Bool}{xs:List a}{x:a}(b:xs[i]?=some x)(h:∀z∈xs.take i,p z=false)(d:p x=true):xs.find? p=some x:=by
 have g:=(List.getElem?_eq_some_iff.mp b).1
 have e:xs=xs.take i++x::xs.drop (i+1):=by
  obtain⟨_,j⟩:=List.getElem?_eq_some_iff.mp b;rw[<-j,<-AT g,Wf]
 rw[e,List.find?_append,List.find?_eq_none.mpr λz c=>by rw[h z c];exact sK,wS,d];rfl
theorem xW{a:Type}{p:a->Bool}{xs:List a}(h:∀z∈xs,p z=false):xs.find? p=none:=
 List.find?_eq_none.mpr λz b=>by rw[h z b];exact sK
theorem Aj{a b:Type}{f:a->Option b}{xs:List a}{x:a}{y:b}(c:xs[i]?=some x)(h:∀z∈xs.take i,f z=none)(g:f x=some y):xs.findSome? f=some y:=by
 have d:=(List.getElem?_eq_some_iff.mp c).1
 have e:xs=xs.take i++x::xs.drop (i+1):=by
  obtain⟨_,j⟩:=List.getElem?_eq_some_iff.mp c;rw[<-j,<-AT d,Wf]
 rw[e,List.findSome?_append,List.findSome?_eq_none_iff.mpr h,List.findSome?_cons,g];rfl
def qB(m:Int)(p r:Gd×Int):Bool:=decide (wk r<=m)&&decide (wk r<wk p)
def jf(r:Gd×Int):D:=.tup [gD r.1,.int r.2]
theorem Gs(ps:List (Gd×Int)):w6 (ps.map jf)=true:=G6  (λr=>by
 show(r8 (gD r.1)&&(true&&true))=true;rw[Q5];rfl) ps
theorem nR{a:Type}{P:a->Prop}{xs:List a}{x:a}(c:xs[i]?=some x)(h:∀z∈xs.take i,P z)(d:P x):∀z∈xs.take (i+1),P z:=λz b=>by
 rw[wl,c] at b;rcases List.mem_append.mp b with w | w
 ·exact h z w
 ·rwa[List.mem_singleton.mp w]
theorem CU(l:j6 b)(I:y8 b (j5 b)=[])(u:g∈b.gs)
  (B:∀q,cy m (M8 b g.nm)=some q->∀d c a,T.rt (Tg (some (g.nm,q.1,q.2))) [some (bD b),some (.int m),some (.str g.nm),d,c,a])
  (y:cy m (M8 b g.nm)=none->∀d c a,T.nx [some (bD b),some (.int m),some (.str g.nm),d,c,a]) :
  gv T [some (bD b),some (.int m),some (.str g.nm),d,c,a]:=by
 have E:g.nm∈l7 b:=List.mem_map.mpr ⟨g,u,rfl⟩;have h:g.nm∈l7 b++L0 b:=vr _ E;obtain⟨po,pl⟩:=jv l h;obtain⟨ps,J⟩:=zU l u;refine⟨b,g.nm,rfl,l,h,I,rfl,?_⟩;walk_at "n";rw[J] at B y po pl ⊢;refine⟨jf (g,j5 b g.nm),L1 _ _,⟨g,j5 b g.nm,rfl,l.cv g u,rfl,?_⟩⟩;walk_at "n"
 have M:cutD (jf (g,j5 b g.nm)::ps.map jf) (some 1) none=ps.map jf:=by
  have:=nz (jf (g,j5 b g.nm)::ps.map jf) 1 (by show 1<=_+1;omega);exact this
 refine⟨Gs ((g,j5 b g.nm)::ps),?_⟩;show Pe _ _ (cutD (jf (g,j5 b g.nm)::ps.map jf) (some 1) none) _ _;rw[M];refine .of ⟨λi o=>∃a:Option D,o=[some (bD b),some (.int m),some (.str g.nm),some (kS ((g,j5 b g.nm)::ps)),some (.int (wk (g,j5 b g.nm))),a]/\∀z∈ps.take i,qB m (g,j5 b g.nm) z=false,⟨a,rfl,λz C=>nomatch C⟩,?_,?_⟩
 ·rintro i e o H ⟨a,rfl,j⟩;obtain⟨r,p,rfl⟩:=get_map H;have v:=po.cv r (hH _ (tt p));refine⟨rfl,?_⟩;walk_at "n";refine⟨r.1,r.2,rfl,v,?_⟩;have no:qB m (g,j5 b g.nm) r=false->∃a:Option D,[some (bD b),some (.int m),some (.str g.nm),some (kS ((g,j5 b g.nm)::ps)),some (.int (wk (g,j5 b g.nm))),some (jf r)]=[some (bD b),some (.int m),some (.str g.nm),some (kS ((g,j5 b g.nm)::ps)),some (.int (wk (g,j5 b g.nm))),a]/\∀z∈ps.take (i+1),qB m (g,j5 b g.nm) z=false:=λz=>⟨_,rfl,nR p j z⟩
  refine⟨λe=>?_,λe=>?_⟩
  ·refine⟨r.1,r.2,rfl,v,⟨λx=>?_,λx=>no ?_⟩⟩
   ·have G:qB m (g,j5 b g.nm) r=true:=by
     unfold qB;rw[vc];exact⟨e,x⟩
    refine⟨rfl,_,rfl,_,rfl,rfl,r.1,r.2,rfl,v,B (r.1.nm,wk r) ?_ _ _ _⟩;show(ps.find? (qB m (g,j5 b g.nm))).map _=_;rw[AB p j G];rfl
   ·unfold qB;rw[show decide (wk r<wk (g,j5 b g.nm))=false from x,Bool.and_false]
  ·refine Br.no rfl (no ?_);unfold qB;rw[show decide (wk r<=m)=false from e,Yq]
 ·rintro o ⟨a,rfl,j⟩;rw[dL,wP] at j;refine y ?_ _ _ _;show(ps.find? (qB m (g,j5 b g.nm))).map _=_;rw[xW j];rfl
theorem KQ(ds:List D)(Q:D->Prop)(h:Z9 ds Q):Dx (EP Q) (i7 6 ds):=by
 obtain⟨b,m,rfl,r,C,q⟩:=h;refine⟨b,rfl,r,.of ⟨λi l=>∃o d c a:Option D,l=[some (bD b),some (.int m),o,d,c,a]/\∀z∈(l7 b).take i,(cy m (M8 b z)).map (λq=>(z,q.1,q.2))=none,⟨none,none,none,none,rfl,λz u=>nomatch u⟩,?_,?_⟩⟩
 ·rintro i e l B ⟨o,d,c,a,rfl,j⟩;obtain⟨x,p,rfl⟩:=get_map B;obtain⟨g,v,rfl⟩:=List.mem_map.mp (tt p);refine⟨rfl,?_⟩;walk_at "n";refine CU r C v (λw hw d c a=>?_) λhw d c a=>⟨_,_,_,_,rfl,nR p j (by rw[hw];rfl)⟩
  have e:=Aj  p j  (by rw[hw];rfl);unfold D3 at q;rwa[e] at q
 ·rintro l ⟨o,d,c,a,rfl,j⟩;rw[dL,wP] at j;unfold D3 at q;rwa[List.findSome?_eq_none_iff.mpr j] at q
theorem X5{a b:Type}{f:a->List b}:∀{l:List a},(∀x∈l,(f x).length<=k)->(l.flatMap f).length<=k*l.length
 | [],_=>v9 _
 | x::l,h=>by
  have e:=X5  λy c=>h y (hH _ c);have d:=h x hQ;rw[WD,uk,wf,Nat.mul_succ];omega
theorem zy(b:Bd)(x:Str)(o:Option (Int×Int))(i:Nat):(M0 b x o i).length<=1:=by
 unfold M0;split
 ·exact oT _
 ·exact v9 _
theorem uN(h:(M8 b x).length<=8):(D5 b m x).length<=8:=by
 have:=X5 (f:=λk=>M0 b x (Q8 (M8 b x) (1+k) m) (1+k))  (l:=List.range ((M8 b x).length-1)) λz _=>zy _ _ _ _;rw[ux] at this;unfold D5;omega
theorem Ce(ds:List D)(Q:D->Prop)(h:M3 ds Q):tj (EP Q) (i7 7 ds):=by
 obtain⟨b,m,rfl,y,h8,X,q⟩:=h;refine⟨rfl,⟨b,rfl,y,.of ⟨λj g=>∃C B d c:Option D,g=[some (bD b),some (.int m),some (.lst (((l7 b).take j).flatMap (D5 b m))),C,B,d,c],⟨none,none,none,none,rfl⟩,?_,?_⟩⟩⟩
 ·rintro j e g H ⟨C,B,d,c,rfl⟩;obtain⟨x,M,rfl⟩:=get_map H;have E:=tt M;have p:x∈l7 b++L0 b:=vr _ E;obtain⟨po,pl⟩:=jv y p
  have et:((l7 b).take (j+1)).flatMap (D5 b m)=((l7 b).take j).flatMap (D5 b m)++D5 b m x:=by
   rw[wl,M];rw[show(l7 b).take j++(some x).toList=(l7 b).take j++[x] from rfl,Xw,Xj]
  refine⟨rfl,?_⟩;walk_at "n";rw[et]
  have u:(((l7 b).take j).flatMap (D5 b m)).length<=64:=by
   have:=X5 (f:=D5 b m)  (l:=(l7 b).take j) λz U=>uN (jv y (vr _ (List.mem_of_mem_take U))).2;have e:(l7 b).length=b.gs.length:=dL _;rw[v4] at this;omega
  generalize ((l7 b).take j).flatMap (D5 b m)=v at u;refine⟨b,x,rfl,y,p,X,rfl,?_⟩;walk_at "n";refine⟨1,((M8 b x).length),by show[D.int 1,D.int ((((M8 b x).map λr:Gd×Int=>D.tup [gD r.1,.int r.2]).length:Nat):Int)]=_;rw[dL],⟨by decide,by decide,by omega,by omega⟩,?_⟩;rw[show(((M8 b x).length:Int)-1).toNat=(M8 b x).length-1 by omega,show kW 1 ((M8 b x).length-1)=(List.range ((M8 b x).length-1)).map (λk:Nat=>D.int (1+(k:Int))) from rfl];refine .of ⟨λk g=>∃d c:Option D,g=[some (bD b),some (.int m),some (.lst (v++(List.range k).flatMap λk=>M0 b x (Q8 (M8 b x) (1+k) m) (1+k))),some (.str x),some (kS (M8 b x)),d,c],⟨d,c,by rw[List.range_zero,List.flatMap_nil,ud]⟩,?_,?_⟩
  ·rintro k e g H ⟨d,c,rfl⟩;obtain⟨a,hk,rfl⟩:=get_map H
   obtain⟨Y,rfl⟩:k<(M8 b x).length-1/\a=k:=by
    obtain⟨S,R⟩:=List.getElem?_eq_some_iff.mp hk;rw[ux] at S;rw[WY] at R;exact⟨S,R.symm⟩
   have G:=X5 (f:=λk=>M0 b x (Q8 (M8 b x) (1+k) m) (1+k)) (k:=1) (l:=List.range a) λz _=>zy _ _ _ _;rw[ux] at G;refine⟨rfl,?_⟩;walk_at "n";rw[Yb,Xw,Xj,<-v6];generalize hA:v++(List.range a).flatMap (λk=>M0 b x (Q8 (M8 b x) (1+k) m) (1+k))=A;have a0:A.length<=100:=by rw[<-hA,uk];omega
   refine⟨M8 b x,1+a,m,by rw[show((1+a:Nat):Int)=1+(a:Int) by omega],po,pl,by omega,by omega,?_⟩;obtain⟨r,O,_,e2⟩:=po.at (i:=1+(a:Int)) (by omega) (by omega);rw[show(1+(a:Int)).toNat=1+a by omega] at O;generalize Q8 (M8 b x) (1+a) m=o;refine⟨rfl,?_⟩;walk_at "n"
   cases o with
   | none=>
    refine Br.no rfl ?_;rw[show M0 b x none (1+a)=[] from rfl,ud];exact⟨_,_,rfl⟩
   | some T=>
    obtain⟨J,I⟩:=T;refine Br.yes rfl ?_;rw[show M0 b x (some (J,I)) (1+a)=[.tup [.str x,.str r.1.nm,.int J,.int I]] by unfold M0;rw[O]];refine⟨rfl,?_⟩;walk_at "n";exact⟨rfl,_,e2,_,rfl,_,rfl,rfl,_,rfl,rfl,_,rfl,rfl,g6 (by omega),_,_,rfl⟩
  ·rintro g ⟨d,c,rfl⟩;rw[dL,ux];exact⟨_,_,_,_,rfl⟩
 ·rintro g ⟨C,B,d,c,rfl⟩;rw[dL,wP];exact q
def hit(p r:Gd×Int)(n:Int):Prop:=wk r<=n/\¬wk p<=n
theorem Px(ds:List D)(Q:D->Prop)(h:jF ds Q):LN (EP Q) (i7 5 ds):=by
 obtain⟨d,ns,rfl,J,q⟩:=h;refine⟨d,ns,rfl,J,λb u t O E p=>⟨rfl,rfl,?_⟩⟩;walk_at "n";refine⟨d,ns,19,rfl,J,by decide,by decide,λc=>⟨rfl,?_⟩⟩;walk_at "n";refine⟨c,c,_,4,rfl,by decide,by decide,by decide,by decide,λw d1 w0 w1=>?_⟩;walk_at "n";have R:=p.1;have u2:=p.2.1
 have o:∀g,j6 g->g.gs.length<=8->∀C,yJ (EP Q) [some d,some (bD g),some (.int u),some (feed c d1 (100*19+1)),C]:=by
  intro g a g8 C;have a0:=a.l24;have h1:=a.g1;have e:((l7 g++L0 g).length:Int)=g.gs.length+g.ls.length:=by unfold l7 L0;rw[uk,dL,dL];omega
  refine⟨g,rfl,a,rfl,?_⟩;walk_at "n";refine⟨iZ g,iZ g,⟨c,d1,_,_,rfl,by decide,by decide,by rw[dL];omega,by rw[dL];omega,λr d2 H G=>?_⟩⟩;rw[dL] at G;obtain⟨x,I,_,v⟩:=G9    H G;obtain⟨po,pl⟩:=jv a I;refine⟨_,v,⟨g,x,rfl,a,I,⟨c,d2,_,u,M8 g x,rfl,by decide,by decide,R,u2,po,λm d3 Y T S X U=>⟨rfl,q g m c d3 Y a g8 T ?_ (by omega) (by omega)⟩⟩⟩⟩;rcases S with z | ⟨r,j,s,B,z⟩
  ·omega
  ·have c1:=(po.cv r j).2.2.1 s B
   have H:0<=r.2:=by
    unfold M8 at j
    cases M:X8 g x with
    | true=>rw[M] at j;cases j
    | false=>
     rw[M] at j;obtain⟨y,_,rfl⟩:=List.mem_map.mp j;exact(cF a (c:=10^60) (by decide) (λl hl=>Int.le_of_lt (a.la l hl).2) y).1
   omega
 exact⟨λe=>(⟨b,u,t,rfl,O,E,p,λg a g8=>⟨rfl,o g a g8 _⟩⟩),λe=>o b O E.g8 _⟩
theorem tS(u:Option Str):nc (uD u)=some (u.map Sum.inr):=by cases u<;>rfl
theorem Bo(kvs:List (L5×Int))(k:L5)(n:Int):(cg kvs k n).length<=kvs.length+1:=by
 unfold cg;split
 ·rw[dL];omega
 ·rw[uk];exact oT _
theorem Az(kvs:List (L5×Int))(k j:L5)(n:Int)(h:J3 (cg kvs k n) j=some v):v=n\/J3 kvs j=some v:=by
 unfold cg J3 at h;obtain⟨q,b,rfl⟩:=Option.map_eq_some_iff.mp h;split at b
 ·rw[Xt] at b;obtain⟨z,c,rfl⟩:=Option.map_eq_some_iff.mp b
  by_cases e:z.1=k
  ·left;simp[t4 e]
  ·right
   simp[tz e];unfold J3
   have:(λa=>decide (a.1=j))∘(λa=>if a.1=k then(a.1,n) else a)=λa=>decide (a.1=j):=by
    funext a
    show decide ((if a.1=k then(a.1,n) else a).1=j)=_;split<;>rfl
   rw[this] at c;rw[c];rfl
 ·rw[List.find?_append] at b
  cases e:kvs.find? λa=>decide (a.1=j) with
  | some z=>
   rw[e] at b
   right
   unfold J3;rw[e];cases b;rfl
  | none=>
   rw[e] at b
   left
   have:=Wt b;rw[List.mem_singleton.mp this]
theorem zX(ds:List D)(Q:D->Prop)(h:S4 ds Q):sd (EP Q) (i7 7 ds):=by
 obtain⟨b,u,t,rfl,l,C,Y,q⟩:=h;have u1:=Y.1;have u2:=Y.2.1;have g8:=C.g8;have G:=cF l  (by omega) C.ls.la;have l24:b.ls.length*(3*u)<=8*(3*u):=v8 (by have:=C.l8;omega) (by omega);have ef:(b.gs.map gD).reverse=b.gs.reverse.map gD:=(Wq ..).symm;refine⟨bD b,b,rfl,⟨_,_,rfl,.inl rfl,.inl rfl⟩,l,rfl,⟨rfl,rfl,?_⟩⟩;walk_at "n";refine⟨_,L1 _ _,rfl,bP b.gs,?_⟩;rw[ef];have S:(b.gs.reverse.map (·.nm)).Nodup:=by rw[Wq];exact List.pairwise_reverse.mpr (l.du.nd.imp λh=>h.symm)
 refine .of ⟨λi J=>∃(a:List (L5×Int)) (f:Str->Int) (R O M:Option D),J=[some (bD b),some (.dic (i6 b (j5 b))),some (.dn a),some (.lst (((b.gs.reverse.take i).map λg=>U0 g (f g.nm)).map gD)),R,O,M]/\(∀x,0<=f x/\f x<=94*u)/\a.length<=i/\(∀j v,J3 a j=some v->v<=70*u),⟨[],λ_=>0,none,none,none,rfl,λ_=>⟨VQ _,by show(0:Int)<=94*u;omega⟩,oT _,λj v h=>(by cases h)⟩,?_,?_⟩
 ·rintro i e J he ⟨a,f,R,O,M,rfl,H,hk,T⟩;obtain⟨g,B,rfl⟩:=get_map he;have hi:=(List.getElem?_eq_some_iff.mp B).1;rw[FM] at hi;have r:g∈b.gs:=List.mem_reverse.mp (tt B);have I:=l.cv g r
  obtain⟨p,ps,X⟩:∃p ps,g.cv=p::ps:=by
   cases e:g.cv with
   | nil=>rw[e] at I;exact absurd I.1 (by decide)
   | cons p ps=>exact⟨p,ps,rfl⟩
  have pb:=C.c1 g r p (by rw[X];exact hQ);have p1:=(I.2.2.1 p (by rw[X];exact hQ)).1;have lr:=G g.nm;refine⟨rfl,?_⟩;walk_at "n";refine⟨_,rfl,⟨pr p,?_,?_⟩⟩
  ·show P4 (g.cv.map pr) 0=_;rw[X];exact L1 _ _
  refine⟨_,rfl,_,rfl,.inr g.nm,_,rfl,x6 l (List.mem_map.mpr ⟨g,r,rfl⟩),rfl,?_⟩;walk_at "n";refine⟨a,rfl,_,rfl,some (.inr g.nm),rfl,0,rfl,rfl,?_⟩;walk_at "n";generalize U:p.1-j5 b g.nm=d
  have gb:∀j,(J3 a j).getD 0<=70*u:=λj=>by
   cases e:J3 a j with
   | none=>show 0<=70*u;omega
   | some v=>exact T j v e
  have E:∃low,(if d>(J3 a (some (.inr g.nm))).getD 0 then d else(J3 a (some (.inr g.nm))).getD 0)=low/\d<=low/\low<=70*u:=by
   have:=gb (some (.inr g.nm));exact⟨_,rfl,by split<;>omega,by split<;>omega⟩
  obtain⟨low,el,l1,l2⟩:=E;rw[el];refine⟨rfl,g,low-d,rfl,I.2.1,?_⟩;refine⟨by rw[dL,dL,v4];exact g6 (by omega),?_⟩;walk_at "n";refine⟨a,rfl,_,rfl,g.un.map Sum.inr,tS g.un,0,rfl,?_⟩;refine⟨_,rfl,_,rfl,g.un.map Sum.inr,tS g.un,g6 (by omega),?_⟩
  have o:(if low>(J3 a (g.un.map Sum.inr)).getD 0 then low else(J3 a (g.un.map Sum.inr)).getD 0)<=70*u:=by
   have:=gb (g.un.map Sum.inr);split<;>omega
  have pl:=Bo a (g.un.map Sum.inr) (if low>(J3 a (g.un.map Sum.inr)).getD 0 then low else(J3 a (g.un.map Sum.inr)).getD 0);refine⟨cg a (g.un.map Sum.inr) (if low>(J3 a (g.un.map Sum.inr)).getD 0 then low else(J3 a (g.un.map Sum.inr)).getD 0),λx=>if x=g.nm then low-d else f x,some (gD g),some (.int d),some (.int low),?_,λx=>?_,by omega,λj v h=>?_⟩
  ·have hn:(b.gs.reverse.map (·.nm))[i]?=some g.nm:=by rw[sj,B];rfl
   have e2:(b.gs.reverse.take (i+1)).map (λz=>U0 z (if z.nm=g.nm then low-d else f z.nm))=(b.gs.reverse.take i).map (λz=>U0 z (f z.nm))++[U0 g (low-d)]:=by
    rw[take_snoc B,vb];congr 1
    ·refine Pv λz hz=>?_;have:z.nm≠g.nm:=λe=>jW S hn (by rw[<-List.map_take,<-e];exact List.mem_map.mpr ⟨z,hz,rfl⟩);rw[tz this]
    ·show[U0 g (if g.nm=g.nm then _ else _)]=_;rw[t4 rfl]
   rw[e2,vb];rfl
  ·show 0<=(if x=g.nm then low-d else f x)/\(if x=g.nm then low-d else f x)<=94*u;split
   ·omega
   ·exact H x
  ·rcases Az _ _ _ _ h with z | z
   ·rw[z];exact o
   ·exact T j v z
 ·rintro J ⟨a,f,R,O,M,rfl,H,hk,T⟩;have el:(b.gs.reverse.map gD).length=b.gs.reverse.length:=dL _;rw[el,wP]
  have er:(((b.gs.reverse.map λg=>U0 g (f g.nm)).map gD).reverse)=(b.gs.map λg=>U0 g (f g.nm)).map gD:=by
   rw[<-Wq,<-Wq,List.reverse_reverse]
  walk_at "n";have im:=bP (b.gs.map λg=>U0 g (f g.nm));refine⟨rfl,bP _,_,_,rfl,rfl,?_,?_⟩
  ·rw[er];exact im
  rw[er];refine⟨_,aI _ _ _,pL b.ls,?_⟩;refine q ⟨b.gs.map λg=>U0 g (f g.nm),b.ls⟩ (l.guards (λg=>U0 g (f g.nm)) (λg=>rfl) (λg=>rfl) (λg B=>(l.cv g B).lift (H g.nm).1 (C.c1 g B) (by have:=(H g.nm).2;omega)) l.de l.wa) ?_;show(b.gs.map _).length<=8;rw[dL];exact g8
theorem tE(x:Int):∀l:YI,l.Pairwise (·<·)->∃k:YI,k.Pairwise (·<·)/\∀y,y∈k ↔ y=x\/y∈l
 | [],_=>⟨[x],On _ _,λy=>by simp⟩
 | z::l,h=>by
  cases h with
  | cons a b=>
   by_cases g:x<z
   ·refine⟨x::z::l,.cons (λy c=>?_) (.cons a b),λy=>by simp⟩;rcases List.mem_cons.mp c with w | w
    ·rwa[w]
    ·exact Int.lt_trans g (a y w)
   ·by_cases j:x=z
    ·refine⟨z::l,.cons a b,λy=>?_⟩;rw[j];simp
    ·obtain⟨k,i,d⟩:=tE x l b;refine⟨z::k,.cons (λy c=>?_) i,λy=>?_⟩
     ·rcases(d y).mp c with w | w
      ·omega
      ·exact a y w
     ·rw[Os,d,Os];constructor
      ·rintro(e | e | e)
       ·exact .inr (.inl e)
       ·exact .inl e
       ·exact .inr (.inr e)
      ·rintro(e | e | e)
       ·exact .inr (.inl e)
       ·exact .inl e
       ·exact .inr (.inr e)
theorem zc:∀l:YI,∃k:YI,k.Pairwise (·<·)/\∀y,y∈k ↔ y∈l
 | []=>⟨[],.nil,λy=>XM⟩
 | x::l=>by
  obtain⟨k,c,b⟩:=zc l;obtain⟨a,d,m2⟩:=tE x k c;exact⟨a,d,λy=>by rw[m2,b,Os]⟩
theorem ia(ps:List (Gd×Int))(m:Int):BE ps m (eO ps m):=by
 obtain⟨k,g,d⟩:=zc (1::(M6 ps).filter λz=>decide (z<=m))
 have h:BE ps m k:=⟨g,λx=>by
  rw[d,Os,List.mem_filter,KM];unfold M6;rw[List.mem_flatMap];refine Yi XM ⟨λ⟨⟨r,b,i⟩,c⟩=>?_,λ⟨r,b,z,a,e,c⟩=>⟨⟨r,b,List.mem_map.mpr ⟨z,a,e.symm⟩⟩,c⟩⟩;obtain⟨z,a,e⟩:=List.mem_map.mp i;exact⟨r,b,z,a,e.symm,c⟩⟩
 rwa[<-jE h]
def fD(f:Int->Option Int)(done:YI):Option (Int×Int)->Prop
 | none=>∀n∈done,f n=none
 | some (k,l)=>l∈done/\f l=some k/\∀n∈done,∀j,f n=some j->j<k\/j=k/\l<=n
theorem BD(h:fD (O8 ps i) done o)(up:∀n∈done,n<x):fD (O8 ps i) (done++[x]) (w5 ps i o x):=by
 unfold w5
 cases e:O8 ps i x with
 | none=>
  cases o with
  | none=>
   intro n b;rcases List.mem_append.mp b with z | z
   ·exact h n z
   ·rwa[List.mem_singleton.mp z]
  | some g=>
   obtain⟨k,l⟩:=g;obtain⟨d,p,c⟩:=h;refine⟨vr _ d,p,λn b j a=>?_⟩;rcases List.mem_append.mp b with z | z
   ·exact c n z j a
   ·rw[List.mem_singleton.mp z,e] at a;cases a
 | some k=>
  cases o with
  | none=>
   refine⟨sw _ (List.mem_singleton.mpr rfl),e,λn b j a=>?_⟩;rcases List.mem_append.mp b with z | z
   ·rw[h n z] at a;cases a
   ·rw[List.mem_singleton.mp z] at a ⊢;rw[e] at a;cases a;exact .inr ⟨rfl,VQ _⟩
  | some g=>
   obtain⟨r,q⟩:=g;obtain⟨d,p,c⟩:=h;show fD _ _ (if r<k then some (k,x) else some (r,q));split
   ·refine⟨sw _ (List.mem_singleton.mpr rfl),e,λn b j a=>?_⟩;rcases List.mem_append.mp b with z | z
    ·have:=c n z j a;omega
    ·rw[List.mem_singleton.mp z] at a ⊢;rw[e] at a;cases a;exact .inr ⟨rfl,VQ _⟩
   ·refine⟨vr _ d,p,λn b j a=>?_⟩;rcases List.mem_append.mp b with z | z
    ·exact c n z j a
    ·have:=up q d;rw[List.mem_singleton.mp z] at a ⊢;rw[e] at a;cases a;omega
theorem mW:∀{rest done:YI} {o:Option (Int×Int)},fD (O8 ps i) done o->(done++rest).Pairwise (·<·)->fD (O8 ps i) (done++rest) (rest.foldl (w5 ps i) o)
 | [],done,o,h,_=>by rwa[ud]
 | x::rest,done,o,h,up=>by
  have b:=BD  h λn a=>(List.pairwise_append.mp up).2.2 n a x hQ;have:=mW  b (by rwa[v6]);rwa[v6] at this
theorem yX(ps:List (Gd×Int))(i:Nat)(m:Int):fD (O8 ps i) (eO ps m) (Q8 ps i m):=by
 have:=mW (ps:=ps) (i:=i)  (done:=[]) (o:=none) (λn a=>by cases a) (ia ps m).up;exact this
theorem Bf(l:j6 b)(i:Nat):∀g:Gd,b.gs[i]?=some g->∃t,j8 b g.nm=g.nm::t/\∀y∈t,∃j:Nat,j<i/\(l7 b)[j]?=some y:=by
 induction i using Nat.strongRecOn with
 | ind i r=>
  intro g h;have e:=cO l (tt h);obtain⟨dp,hd⟩:=l.un;obtain⟨_,_,_,x⟩:=hd i g h
  cases c:g.un with
  | none=>rw[c] at e;exact⟨_,e,λy u=>by cases u⟩
  | some y=>
   rw[c] at e;obtain⟨j,C,d,p,o,_⟩:=x y c;obtain⟨t,q,B⟩:=r j d C p;rw[o] at q;refine⟨j8 b y,e,λz a=>?_⟩;rw[q] at a;rcases List.mem_cons.mp a with rfl | a
   ·exact⟨j,d,by unfold l7;rw[sj,p,<-o];rfl⟩
   ·obtain⟨k,E,v⟩:=B z a;exact⟨k,by omega,v⟩
theorem bA(p:j6 b):∀r∈ja b m,hV (l7 b) r/\∃i,Q8 (M8 b r.1) i m=some r.2.2:=by
 intro r c;obtain⟨x,v,c⟩:=List.mem_flatMap.mp c;obtain⟨k,J,c⟩:=List.mem_flatMap.mp c;obtain⟨g,E,rfl⟩:=List.mem_map.mp v;unfold nq at c;split at c
 ·rename_i I l H B a
  rw[List.mem_singleton.mp c];refine⟨?_,1+k,B⟩;obtain⟨i,o⟩:=xi E;obtain⟨t,G,z⟩:=Bf p i g o;unfold M8 at a
  cases d:X8 b g.nm with
  | true=>rw[d] at a;cases a
  | false=>
   rw[d] at a;rw[cond_false,G,t8,Nat.add_comm,ww,sj] at a;obtain⟨y,u,rfl⟩:=Option.map_eq_some_iff.mp a;obtain⟨j,C,q⟩:=z y (tt u);obtain⟨M,h,e⟩:=List.mem_map.mp (tt q);refine⟨j,i,C,?_,?_⟩
   ·rwa[<-e,jc p h,e]
   ·unfold l7;rw[sj,o];rfl
 ·cases c
theorem ip(b:Bd)(m:Int):(ja b m).map LI=(l7 b).flatMap (D5 b m):=by
 unfold ja;rw[List.map_flatMap];congr 1;funext x;rw[List.map_flatMap];congr 1;funext k;unfold nq M0;generalize Q8 (M8 b x) (1+k) m=o;generalize (M8 b x)[1+k]?=p;cases o<;>cases p<;>rfl
theorem dC(nd:xs.Nodup)(h:hV xs r){l1 l2:YF}(e:xs=l1++r.2.1::l2):r.1∈l2:=by
 obtain⟨i,j,c,b,a⟩:=h
 have g:=by
  have d:xs[l1.length]?=some r.2.1:=by rw[e,Db (oT _),WU];rfl
  exact(VP (List.getElem?_eq_some_iff.mp b).1 nd).mp (b.trans d.symm)
 rw[e,Db (by omega),show j-l1.length=(j-l1.length-1)+1 by omega] at a;exact tt a
theorem fh(h:hV xs r):r.1∈xs/\r.2.1∈xs:=by
 obtain⟨i,j,_,b,a⟩:=h;exact⟨tt a,tt b⟩
theorem NU(nd:xs.Nodup)(h:hV xs r)(e:xs=l1++l2)(b:r.2.1∈l2):r.1∈l2:=by
 obtain⟨a,c,rfl⟩:=List.append_of_mem b;have:=dC nd h   (by rw[e,v6]);exact sw _ (hH _ this)
theorem RL(nd:xs.Nodup)(h:hV xs r):r.1≠r.2.1:=by
 obtain⟨i,j,c,b,a⟩:=h;intro e;rw[e] at a;have:=(VP (List.getElem?_eq_some_iff.mp b).1 nd).mp (b.trans a.symm);omega
def LV(i j:Int):Int:=if j>i then j else i
theorem Mg:i<=LV i j/\j<=LV i j:=by unfold LV;split<;>omega
theorem Rr:LV i j=i\/LV i j=j:=by unfold LV;split<;>simp
def aM(f:Str->Int)(x:Str)(v:Int):Str->Int:=λy=>if y=x then v else f y
theorem bM:aM f x v x=v:=t4 rfl
theorem V1(h:y≠x):aM f x v y=f y:=tz h
def K7(x:Str)(f:Str->Int)(a:Int)(r:Pa):Int:=if r.2.1=x then LV a (f r.1+r.2.2.1) else a
def settle(a:List Pa)(f:Str->Int)(x:Str):Str->Int:=aM f x (a.foldl (K7 x f) (f x))
theorem nW:∀(b:List Pa) (a:Int),a<=b.foldl (K7 x f) a/\(∀r∈b,r.2.1=x->f r.1+r.2.2.1<=b.foldl (K7 x f) a)/\(b.foldl (K7 x f) a=a\/∃r∈b,r.2.1=x/\f r.1+r.2.2.1=b.foldl (K7 x f) a)
 | [],a=>⟨VQ _,λr h=>(by cases h),.inl rfl⟩
 | r::b,a=>by
  rw[UF];obtain⟨g,o,d⟩:=nW   b (K7 x f a r)
  have l:a<=K7 x f a r:=by
   unfold K7;split
   ·exact Mg.1
   ·exact VQ _
  refine⟨XJ l g,λq c e=>?_,?_⟩
  ·rcases List.mem_cons.mp c with rfl | c
   ·refine XJ ?_ g;unfold K7;rw[t4 e];exact Mg.2
   ·exact o q c e
  ·rcases d with d | ⟨q,c,e,d⟩
   ·rw[d];unfold K7;split
    ·rename_i e
     rcases Rr   with z | z
     ·exact .inl z
     ·exact .inr ⟨r,hQ,e,z.symm⟩
    ·exact .inl rfl
   ·exact .inr ⟨q,hH _ c,e,d⟩
structure PQ(rs:List Pa)(f:Str->Int)(l:YF):Prop where
 nn:∀x,0<=f x
 zero:∀x,x∉l->f x=0
 ge:∀r∈rs,r.2.1∈l->f r.1+r.2.2.1<=f r.2.1
 at_:∀x∈l,0<f x->∃r∈rs,r.2.1=x/\f r.1+r.2.2.1=f x
theorem ya(nd:xs.Nodup)(ok:∀r∈d,hV xs r){l1 l2:YF}(e:xs=l1++x::l2)(h:PQ d f l2):PQ d (settle d f x) (x::l2):=by
 have l:=by
  rw[e] at nd;exact(List.nodup_cons.mp (List.nodup_append.mp nd).2.1).1
 have B:xs=(l1++[x])++l2:=by rw[e,v6];rfl
 obtain⟨q,p,g⟩:=nW   d (f x);rw[h.zero x l] at q p g;have v:settle d f x=aM f x (d.foldl (K7 x f) 0):=by unfold settle;rw[h.zero x l]
 rw[v];have ne:∀r∈d,r.2.1∈x::l2->r.1≠x:=λr b c z=>l (by
  rcases List.mem_cons.mp c with w | w
  ·rw[<-z];exact dC nd (ok r b) (by rwa[w])
  ·rw[<-z];exact NU nd (ok r b) B w)
 refine⟨λy=>?_,λy i=>?_,λr b c=>?_,λy i o=>?_⟩
 ·unfold aM;split
  ·exact q
  ·exact h.nn y
 ·rw[V1 λz=>i (by rw[z];exact hQ)];exact h.zero y λz=>i (hH _ z)
 ·rw[V1 (ne r b c)]
  by_cases w:r.2.1=x
  ·rw[w,bM];exact p r b w
  ·rw[V1 w];exact h.ge r b ((List.mem_cons.mp c).resolve_left w)
 ·by_cases w:y=x
  ·subst w;rw[bM] at o ⊢;rcases g with g | ⟨r,b,c,g⟩
   ·omega
   ·exact⟨r,b,c,by rwa[V1 (ne r b (by rwa[c]))]⟩
  ·rw[V1 w] at o ⊢;have j:=(List.mem_cons.mp i).resolve_left w;obtain⟨r,b,c,u⟩:=h.at_ y j o;exact⟨r,b,c,by rwa[V1 (ne r b (by rwa[c]))]⟩
def mR:Str->Int:=λ_=>0
def wF(a:List Pa)(xs:YF):Str->Int:=xs.reverse.foldl (settle a) mR
theorem nK(nd:xs.Nodup)(ok:∀r∈a,hV xs r):∀(l2 l1:YF),xs=l1++l2->PQ a (wF a l2) l2
 | [],l1,e=>⟨λ_=>VQ _,λ_ _=>rfl,λ_ _ h=>(by cases h),λ_ h=>(by cases h)⟩
 | x::l2,l1,e=>by
  have h:=nK nd ok l2 (l1++[x]) (by rw[e,v6];rfl);unfold wF;rw[WC,Wk];exact ya nd ok e h
theorem Hb(nd:xs.Nodup)(ok:∀r∈a,hV xs r):IsL xs a (wF a xs):=by
 have h:=nK nd ok xs [] rfl;exact⟨λx _=>h.nn x,λr b=>h.ge r b (fh (ok r b)).2,h.at_⟩
theorem fB(nd:xs.Nodup){c:List Pa}(ok:∀r∈c,hV xs r){f g:Str->Int}(i:IsL xs c f)(b:IsL xs c g):∀(l2 l1:YF),xs=l1++l2->∀x∈l2,f x=g x
 | [],_,_,_,h=>(by cases h)
 | x::l2,l1,e,y,j=>by
  have d:=fB nd ok i b l2 (l1++[x]) (by rw[e,v6];rfl);rcases List.mem_cons.mp j with rfl | j
  ·have p:y∈xs:=by rw[e];exact sw _ hQ
   have a:∀{f g:Str->Int},IsL xs c f->IsL xs c g->(∀z∈l2,f z=g z)->f y<=g y:=λ{f g} i b d=>by
    by_cases u:0<f y
    ·obtain⟨r,o,l,C⟩:=i.at_ y p u;have v:=b.ge r o;have B:=d r.1 (dC nd (ok r o)  (by rwa[l]));rw[l] at v;omega
    ·have:=b.nn y p;omega
   exact Int.le_antisymm (a i b d) (a b i λz q=>(d z q).symm)
  ·exact d y j
theorem ko:∀{a:List Pa},(∀r∈a,p r=q r)->a.find? p=a.find? q
 | [],_=>rfl
 | r::a,h=>by
  rw[wS,wS,h r hQ,ko λz b=>h z (hH _ b)]
theorem kA{f g:Str->List D}:∀{l:YF},(∀x∈l,f x=g x)->l.flatMap f=l.flatMap g
 | [],_=>rfl
 | x::l,h=>by rw[WD,WD,h x hQ,kA λz a=>h z (hH _ a)]
theorem AF(ok:∀r∈a,hV xs r)(h:∀x∈xs,f x=g x):xs.flatMap (af a f)=xs.flatMap (af a g):=by
 refine kA λx b=>?_;unfold af;rw[h x b,ko  λr c=>?_];unfold gX;rw[h x b,h r.1 (fh (ok r c)).1]
theorem IZ(a:List Pa)(f:Str->Int)(x:Str):(af a f x).length<=1:=by
 unfold af;cases decide (f x>0)
 ·exact v9 _
 ·cases a.find? (gX f x)
  ·exact v9 _
  ·exact oT _
theorem Iy(c:j6 b)(d:b.gs.length<=8)(m:Int):(ja b m).length<=64:=by
 have h:=X5 (f:=D5 b m)   λz a=>uN (jv c (vr _ a)).2;have e:(l7 b).length=b.gs.length:=dL _;rw[<-ip,dL] at h;omega
theorem lu(ds:List D)(Q:D->Prop)(h:B7 ds Q):eP (EP Q) (i7 3 ds):=by
 obtain⟨b,m,rfl,a,e,c,d,q⟩:=h;refine⟨b,m,rfl,a,c,?_⟩;rw[d];refine⟨rfl,Br.no rfl ⟨b,m,rfl,a,e,c,?_⟩⟩;rwa[<-ip]
theorem AI(ds:List D)(Q:D->Prop)(h:P7 ds Q):tG (EP Q) (i7 8 ds):=by
 obtain⟨b,c,rfl,u,ok,q⟩:=h;have nd:=u.du.nd;have X:=u.g16;have hl:(l7 b).length=b.gs.length:=dL _;refine⟨b,rfl,u,by rw[dL];exact g6 (by omega),kg (k:=λx=>.inr x) (v:=λ_=>.int 0) (l7 b) [] (λx H K R U=>?_) ⟨rfl,?_⟩⟩
 ·walk_at "r";exact U
 have T:=O4  (v:=λ_=>.int 0) (as:=l7 b) (bs:=[]) (by rwa[XG]);rw[va] at T;rw[show(l7 b).foldl (λO a=>putD O (Sum.inr a) (.int 0)) []=i6 b mR from T.trans (by unfold l7 i6;rw[vu];rfl)];refine⟨b,rfl,u,.of ⟨λj p=>∃G o l g d:Option D,p=[some (bD b),some (.lst (c.map LI)),some (.dic (i6 b (((l7 b).reverse.take j).foldl (settle c) mR))),G,o,l,g,d],⟨none,none,none,none,none,rfl⟩,?_,?_⟩⟩
 ·rintro j e p E ⟨G,o,l,g,d,rfl⟩;rw[<-Wq] at E;obtain⟨x,H,rfl⟩:=get_map E;have B:x∈l7 b:=List.mem_reverse.mp (tt H)
  have M:((l7 b).reverse.take (j+1)).foldl (settle c) mR=settle c (((l7 b).reverse.take j).foldl (settle c) mR) x:=by
   rw[wl,H];rw[show(l7 b).reverse.take j++(some x).toList=(l7 b).reverse.take j++[x] from rfl,Wk];rfl
  refine⟨rfl,?_⟩;walk_at "n";rw[M];generalize ((l7 b).reverse.take j).foldl (settle c) mR=f;refine .of ⟨λi p=>∃o l g d:Option D,p=[some (bD b),some (.lst (c.map LI)),some (.dic (i6 b (aM f x ((c.take i).foldl (K7 x f) (f x))))),some (.str x),o,l,g,d],⟨o,l,g,d,?_⟩,?_,?_⟩
  ·have:i6 b (aM f x (f x))=i6 b f:=x9 λy _=>by
    unfold aM;split
    ·rename_i e;rw[e]
    ·rfl
   show _=[_,_,some (D.dic (i6 b (aM f x (f x)))),_,_,_,_,_];rw[this]
  ·rintro i e p E ⟨o,l,g,d,rfl⟩;obtain⟨r,S,rfl⟩:=get_map E;have C:=tt S
   have M:(c.take (i+1)).foldl (K7 x f) (f x)=K7 x f ((c.take i).foldl (K7 x f) (f x)) r:=by
    rw[wl,S];rw[show c.take i++(some r).toList=c.take i++[r] from rfl,Wk];rfl
   refine⟨rfl,rfl,rfl,rfl,?_⟩;walk_at "n";rw[M];generalize (c.take i).foldl (K7 x f) (f x)=a;walk_at "n";refine⟨λz=>?_,λz=>?_⟩
   ·have z:r.2.1=x:=z0 z;subst z;have I:=RL nd (ok r C);have Y:u7 (i6 b (aM f r.2.1 a)) (.inr r.2.1)=some (.int a):=by rw[x6 u B,bM]
    have J:u7 (i6 b (aM f r.2.1 a)) (.inr r.1)=some (.int (f r.1)):=by rw[x6 u (fh (ok r C)).1,V1 I]
    refine⟨_,_,rfl,Y,_,_,rfl,J,?_⟩;refine⟨rfl,_,rfl,by rw[Y3];exact g6 (by omega),some (.str r.1),some (.str r.2.1),some (.int r.2.2.1),some (.int r.2.2.2),?_⟩;rw[bC B]
    have e:(λy=>if y=r.2.1 then LV a (f r.1+r.2.2.1) else aM f r.2.1 a y)=aM f r.2.1 (K7 r.2.1 f a r):=by
     funext y
     unfold K7 aM;rw[t4 rfl]
     by_cases h:y=r.2.1
     ·rw[t4 h,t4 h]
     ·rw[tz h,tz h,tz h]
    rw[<-e];rfl
   ·have z:r.2.1≠x:=Wb z;unfold K7;rw[tz z];exact⟨_,_,_,_,rfl⟩
  ·rintro p ⟨o,l,g,d,rfl⟩;rw[dL,wP];exact⟨_,_,_,_,_,rfl⟩
 ·rintro p ⟨G,o,l,g,d,rfl⟩;rw[<-Wq,dL,wP];exact q _ (Hb nd ok)
theorem AL{g:Pa->D}(a:List Pa):((a.filter p).map g).head?=(a.find? p).map g:=by
 induction a with
 | nil=>rfl
 | cons r a b=>
  rw[Re,wS];cases p r
  ·exact b
  ·rfl
theorem Ib(ds:List D)(Q:D->Prop)(h:aU ds Q):Dw (EP Q) (i7 7 ds):=by
 obtain⟨b,m,rfl,c,M,Y,U,q⟩:=h;have hl:(l7 b).length=b.gs.length:=dL _;have ok:=λr u=>(bA c (m:=m) r u).1;refine⟨b,m,rfl,c,M,Y,U,rfl,⟨b,ja b m,rfl,c,ok,λf G=>⟨rfl,?_⟩⟩⟩;have q:=q f G;have O:=Iy c M m;generalize ja b m=a at ok q G O;refine⟨rfl,⟨b,rfl,c,.of ⟨λj B=>∃E C:Option D,B=[some (bD b),some (.int m),some (.lst (a.map LI)),some (.dic (i6 b f)),some (.lst (((l7 b).take j).flatMap (af a f))),E,C],⟨none,none,rfl⟩,?_,?_⟩⟩⟩
 ·rintro j e B X ⟨E,C,rfl⟩;obtain⟨x,J,rfl⟩:=get_map X;have i:=tt J
  have et:((l7 b).take (j+1)).flatMap (af a f)=((l7 b).take j).flatMap (af a f)++af a f x:=by
   rw[wl,J];rw[show(l7 b).take j++(some x).toList=(l7 b).take j++[x] from rfl,Xw,Xj]
  refine⟨rfl,?_⟩;walk_at "n";rw[et]
  have v:=by
   have:=X5 (f:=af a f) (k:=1) (l:=(l7 b).take j) λz hz=>IZ a f z;rw[v4] at this;omega
  refine⟨by rw[dL];exact g6 (by omega),O3 (f:=λr:Pa=>.tup [.str x,.str r.1,.int r.2.2.2]) (gX f x) a [] (λr u K R S I=>?_) ?_⟩
  ·have ev:u7 (i6 b f) (.inr r.1)=some (.int (f r.1)):=x6 c (fh (ok r u)).1;have o:u7 (i6 b f) (.inr x)=some (.int (f x)):=x6 c i;walk_at "r";refine⟨λz=>?_,λz=>?_⟩
   ·have z:decide (r.2.1=x)=true:=z;refine⟨_,_,rfl,ev,_,_,rfl,o,λw=>⟨rfl,rfl,rfl,S ?_⟩,λw=>I ?_⟩
    ·unfold gX;rw[z];exact w
    ·unfold gX;rw[z];exact w
   ·have z:decide (r.2.1=x)=false:=z;refine⟨λw=>(by cases w),λ_=>I ?_⟩;unfold gX;rw[z];rfl
  ·rw[va];have y:=AL (p:=gX f x) (g:=λr:Pa=>.tup [.str x,.str r.1,.int r.2.2.2]) a;generalize (a.filter (gX f x)).map (λr:Pa=>D.tup [.str x,.str r.1,.int r.2.2.2])=F at y;have o:u7 (i6 b f) (.inr x)=some (.int (f x)):=x6 c i;refine⟨rfl,_,_,rfl,o,λz=>?_,λz=>?_⟩
   ·have z:decide (f x>0)=true:=z;have H:af a f x=F.head?.toList:=by unfold af;rw[z,y];rfl
    cases F with
    | nil=>
     exfalso
     obtain⟨r,u,T,h1⟩:=G.at_ x i (z0 z);have h2:=Option.map_eq_none_iff.mp y.symm;have:=List.find?_eq_none.mp h2 r u;unfold gX at this;rw[uy T,uy h1] at this;exact this rfl
    | cons d F=>
     rw[H];obtain⟨r0,_,rfl⟩:=Option.map_eq_some_iff.mp y.symm;exact⟨rfl,_,L1 _ _,rfl,g6 (by omega),_,_,rfl⟩
   ·have z:decide (f x>0)=false:=z;have H:af a f x=[]:=by unfold af;rw[z];rfl
    rw[H,ud];exact⟨_,_,rfl⟩
 ·rintro B ⟨E,C,rfl⟩;rw[dL,wP];exact q
def gZ(g:Gd):Gd:={ g with de:=0 }
def lZ(l:Ld):Ld:={ l with cs:=[] }
def bZ(b:Bd):Bd:=⟨b.gs.map gZ,b.ls.map lZ⟩
theorem yE(gs:List Gd)(x:Str):(gs.map gZ).find? (λg=>decide (g.nm=x))=(gs.find? λg=>decide (g.nm=x)).map gZ:=by rw[Xt];rfl
theorem zC(ls:List Ld)(x:Str):(ls.map lZ).find? (λl=>decide (l.nm=x))=(ls.find? λl=>decide (l.nm=x)).map lZ:=by rw[Xt];rfl
theorem zr(b:Bd):l7 (bZ b)=l7 b:=vu
theorem Se(b:Bd):L0 (bZ b)=L0 b:=vu
theorem Rx(gs:List Gd)(x:Str):lR (gs.map gZ) x=lR gs x:=by
 unfold lR;rw[yE];cases gs.find? _<;>rfl
theorem LA(gs:List Gd):∀(n:Nat) (o:Option Str),ups (gs.map gZ) n o=ups gs n o
 | 0,_=>rfl
 | _+1,none=>rfl
 | n+1,some x=>by
  show x::ups _ n (lR _ x)=x::ups _ n _;rw[Rx,LA gs n]
theorem Dm(b:Bd)(x:Str):j8 (bZ b) x=j8 b x:=by
 unfold j8
 have:S1 (bZ b) x=S1 b x:=by
  unfold S1 bZ;rw[zC];cases b.ls.find? _<;>rfl
 rw[this];exact LA _ _ _
theorem Kb(b:Bd):gH (bZ b)=gH b:=by
 funext x
 unfold gH bZ;rw[zC];cases b.ls.find? _<;>rfl
theorem oK(b:Bd):j5 (bZ b)=j5 b:=by
 unfold j5 N2
 funext y
 rw[zr,Se,Kb];congr 2
 funext x
 unfold E9;rw[Dm]
theorem yN(b:Bd)(v:Str->Int):y8 (bZ b) v=y8 b v:=by
 unfold y8 bZ;rw[List.filter_map,vu];rfl
theorem QK(b:Bd)(x:Str):wY (bZ b) x=gZ (wY b x):=by
 unfold wY bZ;rw[yE];cases b.gs.find? _<;>rfl
theorem Sm(b:Bd)(x:Str):X8 (bZ b) x=X8 b x:=by
 unfold X8 bZ;rw[XI];rfl
def rZ(r:Gd×Int):Gd×Int:=(gZ r.1,r.2)
theorem Eg(b:Bd)(x:Str):M8 (bZ b) x=(M8 b x).map rZ:=by
 unfold M8;rw[Sm,Dm,oK];cases X8 b x
 ·rw[cond_false,cond_false,vu];refine Pv λy _=>?_;rw[QK];rfl
 ·rfl
theorem FR(ps:List (Gd×Int))(n:Int)(j:Nat):Q0 (ps.map rZ) n j=Q0 ps n j:=by
 unfold Q0;rw[sj];cases ps[j]?<;>rfl
theorem NB(ps:List (Gd×Int))(i:Nat)(n:Int):O8 (ps.map rZ) i n=O8 ps i n:=by
 unfold O8;rw[FR,FR,FR,sj];cases Q0 ps n 0<;>cases Q0 ps n i<;>cases ps[i]?<;>rfl
theorem IG(ps:List (Gd×Int))(m:Int):eO (ps.map rZ) m=eO ps m:=by
 have h:=ia (ps.map rZ) m;refine jE ⟨h.up,λx=>(h.mem x).trans (Yi XM ⟨λ⟨r,b,s,a,e⟩=>?_,λ⟨r,b,s,a,e⟩=>⟨rZ r,List.mem_map.mpr ⟨r,b,rfl⟩,s,a,e⟩⟩)⟩;obtain⟨q,c,rfl⟩:=List.mem_map.mp b;exact⟨q,c,s,a,e⟩
theorem NJ(ps:List (Gd×Int))(i:Nat)(m:Int):Q8 (ps.map rZ) i m=Q8 ps i m:=by
 unfold Q8;rw[IG];congr 1
 funext o low
 unfold w5;rw[NB]
theorem Mx(b:Bd)(m:Int):ja (bZ b) m=ja b m:=by
 unfold ja;rw[zr];congr 1
 funext x
 rw[Eg,dL];congr 1
 funext k
 rw[NJ];unfold nq;rw[Eg,sj];cases Q8 (M8 b x) (1+k) m<;>cases(M8 b x)[1+k]?<;>rfl
theorem Hq(m:Int):∀ps:List (Gd×Int),cy m (ps.map rZ)=cy m ps
 | []=>rfl
 | p::ps=>by
  show((ps.map rZ).find? _).map _=(ps.find? _).map _;rw[Xt,Option.map_map];rfl
theorem za(b:Bd)(m:Int)(xs:YF):D3 (bZ b) m xs=D3 b m xs:=by
 unfold D3;congr 1
 funext x
 rw[Eg,Hq]
theorem Dq(h:n<=m):∀r∈ja b n,∃q∈ja b m,q.1=r.1/\q.2.1=r.2.1/\r.2.2.1<=q.2.2.1:=by
 intro r a;obtain⟨x,v,a⟩:=List.mem_flatMap.mp a;obtain⟨k,G,a⟩:=List.mem_flatMap.mp a;unfold nq at a;split at a
 ·rename_i g l o E c
  cases List.mem_singleton.mp a;have B:=yX (M8 b x) (1+k) n;rw[E] at B;obtain⟨H,d,_⟩:=B;have j:=((ia _ m).mem l).mpr ((((ia _ n).mem l).mp H).imp id λ⟨r,a,s,y,e,z⟩=>⟨r,a,s,y,e,XJ z h⟩);have C:=yX (M8 b x) (1+k) m
  cases e:Q8 (M8 b x) (1+k) m with
  | none=>
   rw[e] at C;rw[C l j] at d;cases d
  | some u=>
   obtain⟨i,p⟩:=u;rw[e] at C;refine⟨(x,o.1.nm,i,p),List.mem_flatMap.mpr ⟨x,v,List.mem_flatMap.mpr ⟨k,G,?_⟩⟩,rfl,rfl,?_⟩
   ·unfold nq;rw[e,c];exact List.mem_singleton.mpr rfl
   ·have:=C.2.2 l j g d;show g<=i;omega
 ·cases a
theorem jo(nd:xs.Nodup){a d:List Pa}(ok:∀r∈a,hV xs r)(up:∀r∈a,∃q∈d,q.1=r.1/\q.2.1=r.2.1/\r.2.2.1<=q.2.2.1){f g:Str->Int}(p:IsL xs a f)(c:IsL xs d g):∀(l2 l1:YF),xs=l1++l2->∀x∈l2,f x<=g x
 | [],_,_,_,h=>(by cases h)
 | x::l2,l1,e,y,b=>by
  have i:=jo nd ok up p c l2 (l1++[x]) (by rw[e,v6];rfl);rcases List.mem_cons.mp b with rfl | b
  ·have o:y∈xs:=by rw[e];exact sw _ hQ
   by_cases v:0<f y
   ·obtain⟨r,l,j,H⟩:=p.at_ y o v;obtain⟨q,u,C,B,G⟩:=up r l;have z:=c.ge q u;have E:=i r.1 (dC nd (ok r l)  (by rwa[j]));rw[C,B,j] at z;omega
   ·have:=c.nn y o;omega
  ·exact i y b
theorem wz(h:n<=m)(a:D3 b m xs=none):D3 b n xs=none:=by
 unfold D3 at a ⊢;rw[List.findSome?_eq_none_iff] at a ⊢;intro x d;have c:=Option.map_eq_none_iff.mp (a x d);refine Option.map_eq_none_iff.mpr ?_
 revert c
 cases M8 b x with
 | nil=>exact id
 | cons p ps=>
  intro c;have g:=List.find?_eq_none.mp (Option.map_eq_none_iff.mp c);refine Option.map_eq_none_iff.mpr (List.find?_eq_none.mpr λr e z=>g r e ?_);obtain⟨z1,z2⟩:=Bool.and_eq_true_iff.mp z;rw[z2,uy (XJ (z0 z1) h)];rfl
theorem lK(ds:List D)(Q:D->Prop)(h:y3 ds Q):dR (EP Q) (i7 2 ds):=by
 obtain⟨b,m,rfl,a,g,e,d,q⟩:=h;exact⟨b,m,rfl,a,g,e,d,b,ja b m,rfl,a,λr c=>(bA a r c).1,q⟩
theorem NC(ds:List D)(Q:D->Prop)(h:jN ds Q):Mq (EP Q) (i7 3 ds):=by
 obtain⟨b,v,rfl,e,q⟩:=h;have p:=e.g16;refine⟨_,L1 _ _,by rw[dL];exact g6 (by omega),J5 (f:=λg=>gD { g with de:=v g.nm }) b.gs [] (λg o K R i=>?_) ?_⟩
 ·have c:=Q5 g;have u:u7 (i6 b v) (.inr g.nm)=some (.int (v g.nm)):=x6 e (List.mem_map.mpr ⟨g,o,rfl⟩);have a:=fO g.un;have d:=Z4 g.cv;walk_at "r";refine⟨c,?_⟩;walk_at "r";refine⟨_,_,rfl,u,?_⟩;walk_at "r"
  have l:=by
   show(true&&(r8 (uD g.un)&&(r8 (gz g.cv)&&true)))=true;rw[a,d];rfl
  have j:w6 [.str g.nm,uD g.un,gz g.cv,.int (v g.nm)]=true:=by
   show(true&&(r8 (uD g.un)&&(r8 (gz g.cv)&&(true&&true))))=true;rw[a,d];rfl
  exact⟨l,rfl,IR (g6 (show 3+1<=100000 by decide)),c,j,rfl,IR (g6 (show 4+1<=100000 by decide)),i⟩
 ·rw[va];refine⟨rfl,?_⟩;refine⟨_,_,rfl,rfl,G6 (f:=λg:Gd=>gD { g with de:=v g.nm }) (λg=>Q5 _) b.gs,?_⟩;walk_at "r";rw[show bD (bS b v)=.tup [.tup (b.gs.map λg=>gD { g with de:=v g.nm }),.tup (b.ls.map lD)] by unfold bD bS;rw[vu];rfl] at q;exact⟨G6 xq b.ls,q⟩
theorem Ht(ds:List D)(Q:D->Prop)(h:ax ds Q):yZ { nx:=λ_=>Q .p3,rt:=λd _=>Q d } (i7 2 ds):=by
 obtain⟨d,ns,k,rfl,b,c,q⟩:=h;rcases b with rfl | rfl
 all_goals
  walk_at "r";refine⟨λe=>?_,λe=>q 0⟩;have g:=z0 e;obtain⟨x,_,_,a⟩:=G9  c (by simpa using g);exact⟨_,a,rfl,q x⟩
theorem NH(ds:List D)(Q:D->Prop)(h:aC ds Q):LY { nx:=λ_=>Q .p3,rt:=λd _=>Q d } (i7 3 ds):=by
 obtain⟨d,ns,k,rfl,a,b,e,q⟩:=h;refine⟨d,ns,k,rfl,a,b,λc=>?_⟩;walk_at "r";exact q c
theorem Ol(ds:List D)(Q:D->D->Prop)(h:p7 ds Q):Mt { nx:=λg=>a6 0 g λl=>Q .p3 l,rt:=λd g=>a6 0 g λl=>Q d l } (i7 4 ds):=by
 obtain⟨c,d,k,n,rfl,v,u,e,i,q⟩:=h;walk_at "r";refine⟨λo=>?a,λo=>Br.no rfl ?c⟩
 case' a=>
  walk_at "r";refine⟨λj=>?t,λj=>?b⟩
 case t=>
  walk_at "r";refine⟨e,?_⟩;walk_at "r";refine⟨⟨e,QF i e⟩,?_⟩;walk_at "r";exact q _ _ (Fa _ (by omega)) (At _ e)
 all_goals
  walk_at "r";refine⟨.inl ⟨by omega,by omega⟩,?_⟩;walk_at "r";refine⟨.inr ⟨by omega,by omega⟩,?_⟩;walk_at "r";refine⟨e,?_⟩;walk_at "r";exact q _ _ (Fa _ (by omega)) (At _ e)
theorem SR:∀{xs:List D},(∀x∈xs,(pyd x).weight<=B)->PyData.weightAll (M4 xs)<=xs.length*(B+1)
 | [],_=>by simp[M4,PyData.weightAll]
 | x::xs,h=>by
  have c:=h x hQ;have b:=SR λy a=>h y (hH x a);simp[M4,PyData.weightAll];rw[Nat.add_mul];omega
theorem IC:∀{xs:List D},(∀x∈xs,(pyd x).depth<=B)->PyData.depthAll (M4 xs)<=B
 | [],_=>by simp[M4,PyData.depthAll]
 | x::xs,h=>by
  have c:=h x hQ;have b:=IC λy a=>h y (hH x a);simp[M4,PyData.depthAll];omega
theorem QA:∀{xs:List D},(∀x∈xs,aK x=true)->lh xs=true
 | [],_=>rfl
 | x::xs,h=>by
  simp[lh];exact⟨h x hQ,QA λy a=>h y (hH x a)⟩
structure Q7(d:D)(w n:Nat):Prop where
 s:aK d=true
 w:(pyd d).weight<=w
 n:(pyd d).depth<=n
theorem Q7.ok{w n:Nat}(h:Q7 d w n)(hw:w<=100000)(a:n<=50):JZ d:=⟨h.s,AC h.w hw,AC h.n a⟩
theorem Q7.mono{w n a b:Nat}(h:Q7 d w n)(hw:w<=a)(c:n<=b):Q7 d a b:=⟨h.s,AC h.w hw,AC h.n c⟩
theorem Q7.tup{w n m:Nat}(h:∀x∈xs,Q7 x w n)(b:xs.length<=m):Q7 (.tup xs) (m*(w+1)) (n+1):=
 ⟨QA λx a=>(h x a).s,AC (SR λx a=>(h x a).w) (Nat.mul_le_mul_right _ b),XQ (IC λx a=>(h x a).n)⟩
theorem Q7.int{n:Int}(h:num n):Q7 (.int n) 201 0:=by
 refine⟨?_,?_,oT _⟩
 ·refine uy (v3 (m:=10^60) ?_ (by decide +kernel));have:=h.1;have:=h.2;omega
 ·show(if n == 0 then 0 else n.natAbs.log2+1)<=201;split
  ·omega
  ·rename_i e
   have e:n.natAbs≠0:=by simpa using e
   have:n.natAbs.log2<200:=(Nat.log2_lt e).mpr (v3 (m:=10^60) (by have:=h.1;have:=h.2;omega) (by decide +kernel));omega
theorem Q7.str(h:x.length<=k)(b:∀c∈cs x,c<1000):Q7 (.str x) k 0:=by
 refine⟨?_,h,oT _⟩;show(x.cps.toList.all λc=>decide (c<16^8))=true;rw[Ws];exactλc a=>uy (v3 (b c a) (by decide +kernel))
theorem Q7.nm(h:nm 8 x):Q7 (.str x) 8 0:=Q7.str (Pn h) λc a=>by have:=h.2.2 c a;omega
theorem Q7.p3:Q7 .p3 8 0:=⟨rfl,v9 _,oT _⟩
theorem Q7.bl:Q7 (.bl b) 8 0:=⟨rfl,v9 _,oT _⟩
theorem Q7.gz(h:HJ ps):Q7 (gz ps) 2025 2:=by
 refine Q7.mono (Q7.tup (w:=404) (n:=1)  (λx a=>?_) (by rw[dL];exact h.1)) (by decide) (by decide);obtain⟨p,b,rfl⟩:=List.mem_map.mp a;refine Q7.mono (Q7.tup (w:=201) (n:=0) (m:=2) (λx a=>?_) (oT _)) (by decide) (by decide);rcases List.mem_cons.mp a with rfl | a
 ·exact Q7.int (h.2 p b).1
 ·cases List.mem_singleton.mp a;exact Q7.int (h.2 p b).2
theorem Vk(l:Q7 a 8 0)(j:Q7 b 8 0)(i:Q7 c w n)(h:Q7 d 201 0)(g:Q7 e k 0):Q7 (.tup [a,b,c,d,e]) (w+k+222) (n+1):=by
 refine⟨?_,?_,?_⟩
 ·show(aK a&&(aK b&&(aK c&&(aK d&&(aK e&&true)))))=true;rw[l.s,j.s,i.s,h.s,g.s];rfl
 ·show(pyd a).weight+1+((pyd b).weight+1+((pyd c).weight+1+((pyd d).weight+1+((pyd e).weight+1+0))))<=_;have:=l.w;have:=j.w;have:=i.w;have:=h.w;have:=g.w;omega
 ·show max (pyd a).depth (max (pyd b).depth (max (pyd c).depth (max (pyd d).depth (max (pyd e).depth 0))))+1<=_;have:=l.n;have:=j.n;have:=i.n;have:=h.n;have:=g.n;omega
theorem GT.aK(h:GT g):Q7 (gD g) 2448 3:=by
 refine Vk (Q7.nm h.nm) ?_ (Q7.gz h.cv) (Q7.int h.de) (Q7.int h.wa)
 cases e:g.un with
 | none=>exact Q7.p3
 | some y=>exact Q7.nm (h.un y e)
theorem LT.aK(h:LT l):Q7 (lD l) 2255 3:=Vk (Q7.nm h.nm) (Q7.nm h.at_) (Q7.gz h.cs) (Q7.int h.la) Q7.bl
theorem Y5(h:nm n x):PyData.strOk x=true:=by
 unfold PyData.strOk;rw[<-Array.all_toList,Ws];exactλc a=>uy (by have:=h.2.2 c a;omega)
theorem Pu(e:j6 b)(i:x∈l7 b++L0 b)(a:r∈M8 b x):r.1∈b.gs:=by
 unfold M8 at a
 cases c:X8 b x with
 | true=>rw[c] at a;cases a
 | false=>
  rw[c] at a;obtain⟨y,h,rfl⟩:=List.mem_map.mp a;obtain⟨g,d,rfl⟩:=List.mem_map.mp (dW e i y h);rwa[jc e d]
def TL(x:D):Prop:=(∃s,x=.str s/\PyData.strOk s=true)\/∃i,x=.int i
theorem BF(h:∀x∈xs,TL x):cE xs=true/\PyData.canLayAll0 (M4 xs)=true/\(∀x∈xs,(pyd x).depth<=1):=by
 induction xs with
 | nil=>exact⟨rfl,by simp[M4,PyData.canLayAll0],λx h=>(by cases h)⟩
 | cons x xs e=>
  obtain⟨d,c,b⟩:=e λz a=>h z (hH _ a);rcases h x hQ with⟨s,rfl,g⟩ | ⟨i,rfl⟩
  ·refine⟨by rw[cE,d];rfl,by simp[M4,pyd,PyData.canLayAll0,PyData.canLay0,g,c],λz a=>?_⟩;rcases List.mem_cons.mp a with rfl | a
   ·simp[pyd,PyData.depth]
   ·exact b z a
  ·refine⟨by rw[cE,d];rfl,by simp[M4,pyd,PyData.canLayAll0,PyData.canLay0,c],λz a=>?_⟩;rcases List.mem_cons.mp a with rfl | a
   ·simp[pyd,PyData.depth]
   ·exact b z a
theorem iD(h:∀x∈xs,TL x):Fd (.tup xs)=true/\(pyd (.tup xs)).canLay0=true/\(pyd (.tup xs)).depth<=2:=by
 obtain⟨c,b,a⟩:=BF h;exact⟨c,by simp[pyd,PyData.canLay0,b],AC (XQ (IC  a)) (by decide)⟩
theorem qC(h:∀d∈a,∃xs,d=.tup xs/\∀x∈xs,TL x):lA (.lst a):=by
 refine⟨?_,?_,?_⟩
 ·show cE a=true
  induction a with
  | nil=>rfl
  | cons d a c=>
   obtain⟨xs,rfl,b⟩:=h d hQ;rw[cE,c λd hd=>h d (hH _ hd),(iD b).1];rfl
 ·show PyData.canLay0 (.list (M4 a))=true;simp[PyData.canLay0]
  induction a with
  | nil=>simp[M4,PyData.canLayAll0]
  | cons d a c=>
   obtain⟨xs,rfl,b⟩:=h d hQ;simp[M4,PyData.canLayAll0,(iD b).2.1,c λd hd=>h d (hH _ hd)]
 ·refine AC (XQ (IC (B:=2) λd hd=>?_)) (by decide);obtain⟨xs,rfl,b⟩:=h d hd;exact(iD b).2.2
structure Ri(b c:Bd)(m:Int):Prop where
 gn:l7 c=l7 b
 aw:y8 c (j5 c)=y8 b (j5 b)
 bl:∀xs,D3 c m xs=D3 b m xs
 ps:ja c m=ja b m
 dr:∀f,i6 c f=i6 b f
theorem dO(b:Bd)(f:Str->Int):i6 b f=(l7 b).map λx=>((.inr x:Key),D.int (f x)):=by unfold i6 l7;rw[vu];rfl
theorem yG(h:bZ c=bZ b)(m:Int):Ri b c m:=by
 have g:l7 c=l7 b:=by rw[<-zr,h,zr]
 refine⟨g,?_,λa=>by rw[<-za,h,za],by rw[<-Mx,h,Mx],λf=>by rw[dO,dO,g]⟩;rw[<-yN c,<-oK c,h,yN,oK]
theorem JT(c:j6 b)(d:∀x,0<=v x/\v x<10^90):j6 (bS b v):=c.guards (λg=>{ g with de:=v g.nm }) (λ_=>rfl) (λ_=>rfl) (λg a=>c.cv g a) (λg _=>⟨(d g.nm).1,by have:=(d g.nm).2;exact this⟩) (λg a=>c.wa g a)
theorem Oy(b:Bd)(v:Str->Int):bZ (bS b v)=bZ b:=by
 unfold bZ bS;rw[vu];rfl
def eT(b:Bd):Bd:=⟨b.gs,b.ls.map lZ⟩
theorem PK(b:Bd):bZ (eT b)=bZ b:=by
 unfold bZ eT;rw[vu];rfl
theorem Li(a:j6 b):j6 (eT b):=by
 have d:∀{P:Ld->Prop},(∀l∈b.ls,P (lZ l))->∀l∈b.ls.map lZ,P l:=λh l c=>by
  obtain⟨k,g,rfl⟩:=List.mem_map.mp c;exact h k g
 refine⟨a.g1,a.g16,by show(b.ls.map lZ).length<=24;rw[dL];exact a.l24,?_,a.nmg,d λl c=>a.nml l c,a.cv,a.de,a.wa,a.un,d λl _=>v9 _,d λl _ p e=>(by cases e),d λl c=>a.la l c,d λl c=>a.at_ l c⟩;show(b.gs.map (·.nm)++(b.ls.map lZ).map (·.nm)).Nodup;rw[vu];exact a.nd
theorem GX(a:j6 b)(m:Int):lA (.lst ((ja b m).map LI)):=qC λd hd=>by
 obtain⟨r,e,rfl⟩:=List.mem_map.mp hd;have h:=fh (bA a r e).1;obtain⟨g1,i,o⟩:=List.mem_map.mp h.1;obtain⟨j,g,l⟩:=List.mem_map.mp h.2;refine⟨_,rfl,λx c=>?_⟩;simp[] at c;rcases c with rfl | rfl | rfl | rfl
 ·exact .inl ⟨_,rfl,o▸Y5 (a.nmg g1 i)⟩
 ·exact .inl ⟨_,rfl,l▸Y5 (a.nmg j g)⟩
 ·exact .inr ⟨_,rfl⟩
 ·exact .inr ⟨_,rfl⟩
theorem KD(c:j6 b)(m:Int)(f:Str->Int):lA (.lst ((l7 b).flatMap (af (ja b m) f))):=qC λd hd=>by
 obtain⟨x,a,hd⟩:=List.mem_flatMap.mp hd;unfold af at hd
 cases z:decide (f x>0) with
 | false=>rw[z] at hd;cases hd
 | true=>
  rw[z] at hd;obtain⟨r,e,rfl⟩:=Option.map_eq_some_iff.mp (Option.mem_toList.mp hd);have h:=fh (bA c r (Wt e)).1;obtain⟨g1,i,o⟩:=List.mem_map.mp a;obtain⟨j,g,l⟩:=List.mem_map.mp h.1;refine⟨_,rfl,λx a=>?_⟩;simp[] at a;rcases a with rfl | rfl | rfl
  ·exact .inl ⟨_,rfl,o▸Y5 (c.nmg g1 i)⟩
  ·exact .inl ⟨_,rfl,l▸Y5 (c.nmg j g)⟩
  ·exact .inr ⟨_,rfl⟩
theorem Nv(j:j6 b)(h:D3 b m (l7 b)=some (x,y,n)):lA (.tup [.str x,.str y,.int n]):=by
 have l:x∈l7 b/\y∈l7 b:=by
  obtain⟨z,a,h⟩:=List.exists_of_findSome?_eq_some h;obtain⟨q,c,e⟩:=Option.map_eq_some_iff.mp h;cases e;refine⟨a,?_⟩;have d:x∈l7 b++L0 b:=vr _ a
  cases i:M8 b x with
  | nil=>rw[i] at c;cases c
  | cons p ps=>
   rw[i] at c;obtain⟨r,o,e⟩:=Option.map_eq_some_iff.mp (c);have g:r∈M8 b x:=by rw[i];exact hH _ (Wt o)
   subst e;exact List.mem_map.mpr ⟨_,Pu j d g,rfl⟩
 obtain⟨g1,v,E⟩:=List.mem_map.mp l.1;obtain⟨B,u,C⟩:=List.mem_map.mp l.2
 obtain⟨I,H,G⟩:=iD (xs:=[.str x,.str y,.int n]) λz a=>by
  simp[] at a;rcases a with rfl | rfl | rfl
  ·exact .inl ⟨_,rfl,E▸Y5 (j.nmg g1 v)⟩
  ·exact .inl ⟨_,rfl,C▸Y5 (j.nmg B u)⟩
  ·exact .inr ⟨_,rfl⟩
 exact⟨I,H,AC G (by decide)⟩
theorem CH(nd:(l7 b).Nodup)(l:b.gs[j]?=some g)(v:Str->Int)(n:Int):putD ((b.gs.take j).map λg=>((.inr g.nm:Key),D.int (v g.nm))) (.inr g.nm) (.int n)=(b.gs.take (j+1)).map λh=>((.inr h.nm:Key),D.int (aM v g.nm n h.nm)):=by
 have ne:∀h∈b.gs.take j,h.nm≠g.nm:=λh a e=>by
  obtain⟨i,c⟩:=xi a;obtain⟨o,_⟩:=List.getElem?_eq_some_iff.mp c;rw[v4] at o;rw[FB (by omega)] at c;have d:(l7 b)[i]?=some h.nm:=by unfold l7;rw[sj,c];rfl
  have r:(l7 b)[j]?=some g.nm:=by unfold l7;rw[sj,l];rfl
  rw[e] at d;have:=(VP (List.getElem?_eq_some_iff.mp d).1 nd).mp (d.trans r.symm);omega
 rw[bQ   λa=>by
  obtain⟨h,q,p⟩:=List.mem_map.mp a;exact ne h q p,wl,l,vb];congr 1
 ·exact Pv λh a=>by rw[V1 (ne h a)]
 ·show _=[((.inr g.nm:Key),D.int (aM v g.nm n g.nm))];rw[bM]
theorem ne_self(h:lA d):ng true (PyData.eqv (pyd d) (pyd d))=false:=by rw[PySem.SeqAt.eqv_refl _ h.2.1];rfl
theorem Ks(ds:List D)(Q:D->Prop)(h:cP ds Q):HB (EP Q) (i7 12 ds):=by
 obtain⟨d,ns,rfl,hs,hl,q⟩:=h;refine⟨d,ns,rfl,hs,λb m c d' k' a g8 m1 m2 k0 k1=>⟨iZ b,rfl,rfl,rfl,rfl,?_⟩⟩;walk_at "n";refine⟨b,rfl,a,?_⟩;have nd:=a.du.nd;cases S:y8 b (j5 b) with
 | cons x xs=>exact Br.yes rfl q
 | nil=>
 refine Br.no rfl ⟨rfl,?_⟩;walk_at "n";refine⟨_,L1 _ _,.of ⟨λj I=>∃(v:Str->Int) (d2 B:Int) (J:Option D),(∀x,0<=v x/\v x<10^90)/\0<=B/\B<=10^5+2*j/\I=[some d,some (bD b),some (.int m),some (feed c d2 B),some (.dic ((b.gs.take j).map λg=>((.inr g.nm),D.int (v g.nm)))),J,none,none,none,none,none,none],⟨λ_=>0,d',k',none,λ_=>⟨VQ _,by show(0:Int)<10^90;decide⟩,k0,by omega,rfl⟩,?_,?_⟩⟩
 ·rintro j e I C ⟨v,d2,B,J,hv,b0,b1,rfl⟩;obtain⟨g,H,rfl⟩:=get_map C;have hj:j<8:=by have:=(List.getElem?_eq_some_iff.mp H).1;omega
  refine⟨rfl,?_⟩;walk_at "n";refine⟨c,d2,B,9,rfl,b0,by omega,by decide,by decide,λr d3 r0 r1=>?_⟩;walk_at "r";refine⟨c,d3,B+1,3,rfl,by omega,by omega,by decide,by decide,λi d4 i0 i1=>?_⟩
  obtain⟨n,hn,n0,n1⟩:∃n,P4 [D.int 1,D.int m,D.int (10^Int.toNat 60*10^Int.toNat 10)] i=some (.int n)/\0<=n/\n<=10^70:=by
   obtain rfl | rfl | rfl:i=0\/i=1\/i=2:=by omega
   ·exact⟨1,rfl,by decide,by decide⟩
   ·exact⟨m,rfl,by omega,by omega⟩
   ·exact⟨_,rfl,by decide,by decide⟩
  refine⟨_,hn,.inl ⟨by omega,by omega⟩,rfl,_,rfl,_,rfl,by rw[dL,v4];exact g6 (by omega),aM v g.nm (r*n),d4,B+1+1,some (gD g),λx=>?_,by omega,by omega,?_⟩
  ·unfold aM;split
   ·have h1:0<=r*n:=WF r0 n0;have h2:r*n<=9*10^70:=Yo (by omega) n1 n0 (by decide);exact⟨h1,by omega⟩
   ·exact hv x
  ·rw[CH nd H];rfl
 ·rintro I ⟨v,d2,B,J,hv,b0,b1,rfl⟩;rw[dL] at b1;rw[dL,wP];show rP _ [some d,some (bD b),some (.int m),some (feed c d2 B),some (.dic (i6 b v)),J,none,none,none,none,none,none];refine⟨b,v,rfl,a,rfl,?_⟩;walk_at "n";refine⟨_,L1 _ _,bP b.gs,?_⟩;have a2:=a.l24;refine⟨_,rfl,by rw[dL];exact g6 (by omega),?_⟩;refine J5 (f:=λl:Ld=>lD (lZ l)) b.ls [] (λl hl K R kk=>?_) ?_
  ·walk_at "r";exact kk
  rw[va];refine⟨_,_,rfl,rfl,G6 (f:=λl:Ld=>lD (lZ l)) (λl=>xq _) b.ls,rfl,?_⟩;rw[show(D.tup [.tup (b.gs.map gD),.tup (b.ls.map λl=>lD (lZ l))])=bD (eT b) by unfold bD eT;rw[vu];rfl];show qM _ [some d,some (bD b),some (.int m),some (feed c d2 B),some (.dic (i6 b v)),J,some (bD (bS b v)),some (bD (eT b)),none,none,none,none]
  have two:∀(i:Nat) (e:D),[bD (bS b v),bD (eT b)][i]?=some e->∃u,e=bD u/\j6 u/\Ri b u m/\u.gs.length=b.gs.length:=λi e C=>by
   match i,C with
   | 0,C=>cases C;exact⟨_,rfl,JT a hv,yG (Oy b v) m,dL _⟩
   | 1,C=>cases C;exact⟨_,rfl,Li a,yG (PK b) m,rfl⟩
   | _+2,C=>cases C
  have i1:=iZ (bS b v);have i2:=iZ (eT b);generalize bD (bS b v)=x1 at two i1;generalize bD (eT b)=x2 at two i2;refine⟨b,m,rfl,a,S,rfl,?_⟩;walk_at "n";have ol:∀x y n,D3 b m (l7 b)=some (x,y,n)->lA (.tup [.str x,.str y,.int n]):=λx y n h=>Nv a h;generalize X:D3 b m (l7 b)=o at ol;refine⟨i1,i2,?_⟩;refine .of ⟨λj I=>∃Y:Option D,I=[some d,some (bD b),some (.int m),some (feed c d2 B),some (.dic (i6 b v)),J,some x1,some x2,some (Tg o),Y,none,none],⟨none,rfl⟩,?_,?_⟩
  ·rintro j e I C ⟨Y,rfl⟩;obtain⟨u,rfl,E,lk,l2⟩:=two j e C;refine⟨rfl,?_⟩;walk_at "n";have G:y8 u (j5 u)=[]:=lk.aw.trans S;refine⟨u,m,rfl,E,by omega,G,b,m,rfl,a,g8,S,?_⟩;rw[<-ip,<-ip,lk.ps];have pl:=GX a m;generalize (ja b m).map LI=R at pl;refine⟨pl,pl,Br.no (ne_self pl) ⟨u,m,rfl,E,G,?_⟩⟩;have T:D3 u m (l7 u)=o:=by rw[lk.gn,lk.bl,X]
   rw[T]
   cases o with
   | some t=>
    obtain⟨x,y,n⟩:=t;have el:=ol x y n rfl;refine⟨el,el,Br.no (ne_self el) ?_⟩;exact Br.no rfl (Br.no rfl (Br.no rfl (Br.no rfl ⟨_,rfl⟩)))
   | none=>
    refine Br.no rfl (Br.yes rfl ⟨u,m,rfl,E,by omega,G,T,λf O=>⟨b,m,rfl,a,g8,S,X,λg H=>?_⟩⟩);rw[lk.gn,lk.ps] at O;have fg:i6 u f=i6 b g:=(lk.dr f).trans (x9 λx U=>fB nd (λr M=>(bA a r M).1) O H (l7 b) [] rfl x U);rw[fg];have ek:i6 b g=((l7 b).map λx=>((.inr x:Key),g x)).map λp=>(p.1,D.int p.2):=by rw[dO,vu];rfl
    have nk:(((l7 b).map λx=>((.inr x:Key),g x)).map (·.1)).Nodup:=by
     rw[vu];exact List.Pairwise.map _ (λx y h e=>h (Wa e)) nd
    refine⟨_,GM D.dic ek,GM D.dic ek,nk,Br.no rfl ?_⟩;refine Br.yes rfl ⟨u,m,rfl,E,by omega,G,T,λf O=>⟨b,m,rfl,a,g8,S,X,λg H=>?_⟩⟩;rw[lk.gn,lk.ps] at O;rw[lk.gn,lk.ps,AF (λr M=>(bA a r M).1) (fB nd (λr M=>(bA a r M).1) O H (l7 b) [] rfl)];have dl:=KD a m g;exact⟨dl,dl,Br.no (ne_self dl) ⟨_,rfl⟩⟩
  ·rintro I ⟨Y,rfl⟩
   cases o with
   | some t=>
    obtain⟨x,y,n⟩:=t;exact Br.yes rfl q
   | none=>
    refine Br.no rfl ⟨b,m,rfl,a,g8,S,X,λf O=>⟨rfl,?_⟩⟩;walk_at "n";refine⟨c,d2,B,m,rfl,b0,by omega,by omega,by omega,λr d3 r0 r1=>?_⟩;walk_at "r";refine⟨b,1+r,rfl,a,g8,S,wz (by omega) X,λg H=>⟨rfl,?_⟩⟩;have le:∀x∈l7 b,g x<=f x:=jo nd (λr M=>(bA a r M).1) (Dq (by omega)) H O (l7 b) [] rfl;have a3:=a.g16;show nV _ [some d,some (bD b),some (.int m),some (feed c d3 (B+1)),some (.dic (i6 b v)),J,some x1,some x2,some (Tg none),Y,some (.dic (i6 b f)),some (.dic (i6 b g))];refine⟨by rw[dL,Y3];exact g6 (by omega),?_⟩;rw[show(i6 b f).map (λkv=>kD kv.1)=(l7 b).map λx=>D.str x by rw[dO,vu];rfl];refine J5 (f:=λ_:Str=>.bl true) (l7 b) [] (λx U K R kk=>?_) ?_
    ·have ev:u7 (i6 b f) (.inr x)=some (.int (f x)):=x6 a U;have a0:u7 (i6 b g) (.inr x)=some (.int (g x)):=x6 a U;walk_at "r";refine⟨_,_,rfl,a0,_,_,rfl,ev,?_⟩;show K (.bl (decide (g x<=f x)));rw[uy (le x U)];exact kk
    ·rw[va];refine⟨_,_,(l7 b).map λ_=>true,rfl,rfl,by rw[vu];rfl,?_⟩;rw[show((l7 b).map λ_=>true).all id=true from List.all_eq_true.mpr λz hz=>by obtain⟨_,_,rfl⟩:=List.mem_map.mp hz;rfl];exact q
local macro_rules | `(tactic| walk_at "l")=>`(tactic| (intro _ _ h;repeat (first | exact GM List.length h.1 | obtain⟨_,h⟩:=h)))
local macro_rules | `(tactic| walk_at "b")=>`(tactic| (intro _ _ _ _ _ _ us hl;rcases us with _ | ⟨_,_ | ⟨_,_ | ⟨_,_ | ⟨_,_ | ⟨_,_ | ⟨_,us⟩⟩⟩⟩⟩⟩<;>first | rfl | simp at hl))
def yV(K:YQ):Sp:=λvs H Q _=>∃(a:Addr) (ns:YI),vs=[.ref a]/\G3 K H a (ns.map V.int)/\ns.length<=63/\∀b,Q (.bl true) b
theorem N8:∀ns:YI,i9 K H (ns.map V.int) (ns.map D.int) []
 | []=>.nil
 | n::ns=>i9.cons   .int (N8 ns)
theorem Nl(vs:List V)(H:Hp)(Q:VK)(E:XK)(h:yV K vs H Q E):Q3 K cP vs H Q E:=by
 obtain⟨a,ns,rfl,g,c,k⟩:=h
 have b:∀(d:D) (A:YE),Kc d ns->Rep K H (.ref a) d A->Q3 K cP [.ref a] H Q E:=λd A hd r=>
  ⟨[d],A++[],λr=>r=.bl true,.cons r .nil,⟨d,ns,rfl,hd,c,rfl⟩,λr v i B e _ rv _ _=>by
   subst e;cases V9 rv;exact k i⟩
 rcases g with(h | ⟨o,h⟩) | h
 ·exact b _ _ (.inr rfl) (.lst h (N8 ns))
 ·exact b _ _ (.inl rfl) (.frz (.inl ⟨o,h⟩) (N8 ns))
 ·exact b _ _ (.inl rfl) (.frz (.inr h) (N8 ns))
theorem xU:B0 P2 1:=by walk_at "l"
theorem NK:B0 wD 2:=by walk_at "l"
theorem xx:B0 S6 2:=by walk_at "l"
theorem wg:B0 P1 1:=by walk_at "l"
theorem qA:B0 B3 1:=by walk_at "l"
theorem wQ:B0 U2 1:=by walk_at "l"
theorem tQ:B0 O5 2:=by walk_at "l"
theorem vH:B0 S3 2:=by walk_at "l"
theorem qw:B0 N6 2:=by walk_at "l"
theorem Fn:B0 cu 2:=by walk_at "l"
theorem Hu:B0 cW 2:=by walk_at "l"
theorem oR:B0 K3 2:=by walk_at "l"
theorem tH:B0 O2 3:=by walk_at "l"
theorem GL:B0 cx 3:=by walk_at "l"
theorem Iu:B0 gp 1:=by walk_at "l"
theorem CT:B0 cR 2:=by walk_at "l"
theorem EG:B0 cQ 1:=by walk_at "l"
theorem oA:B0 K2 1:=by walk_at "l"
theorem DC:B0 bp 2:=by walk_at "l"
theorem BA:B0 Y9 2:=by walk_at "l"
theorem wj:B0 U5 2:=by walk_at "l"
theorem gS:B0 C1 3:=by walk_at "l"
theorem ye:B0 M3 2:=by walk_at "l"
theorem wX:B0 J6 1:=by walk_at "l"
theorem DH:B0 Z9 2:=by walk_at "l"
theorem kK:B0 B7 2:=by walk_at "l"
theorem vF:B0 P7 2:=by walk_at "l"
theorem iO:B0 y3 2:=by walk_at "l"
theorem Hn:B0 aU 2:=by walk_at "l"
theorem Ci:B0 ax 2:=by walk_at "l"
theorem Lb:B0 aC 2:=by walk_at "l"
theorem Kn:Ly p7 2:=by walk_at "l"
theorem FI:Ly cB 2:=by walk_at "l"
theorem GC:B0 aP 1:=by walk_at "l"
theorem xI:Ly T5 3:=by walk_at "l"
theorem Cg:B0 V2 2:=by walk_at "l"
theorem ED:B0 W6 1:=by walk_at "l"
theorem qO:B0 N3 4:=by walk_at "l"
theorem wt:B0 T4 5:=by walk_at "l"
theorem yk:B0 S2 3:=by walk_at "l"
theorem Jl:B0 kH 2:=by walk_at "l"
theorem Du:B0 cA 1:=by walk_at "l"
theorem AJ:B0 au 1:=by walk_at "l"
theorem Hw:B0 cU 1:=by walk_at "l"
theorem Ls:Ly iH 3:=by walk_at "l"
theorem wJ:B0 S4 1:=by walk_at "l"
theorem JR:B0 jF 1:=by walk_at "l"
theorem JC:B0 jN 2:=by walk_at "l"
theorem Ho:B0 cP 1:=by walk_at "l"
theorem all_mk {l:PySem.W.OpenLaw} {w:World} {K:YQ} {h:Heap} {mg:YL} {fa f1 f2 f3 f4 f5 f6 f7 f8 f9 es er eq ep eo en em ek ej ei eg ef ee ed ec eb ea e8 e6 e5 e4 e3 e2 e1 e0 dz dy dx dv ds dl dk dd dc db da d0 cr cn ca:Addr} (X:K.In h) (G:h.Ns mainGlobals mg) (lw:mg "law"=some (.ref fa))
  {cj c3:Option Addr} {ch:Array (YR)} {ck bn bv bm a3 c0:Value}
  (d1:Q9 K f1 "least_of" kE)
  (d2:Q9 K f2 "met" Iz)
  (d3:Q9 K f3 "turns_at" kO)
  (d4:Q9 K f4 "names_of" eu)
  (d5:Q9 K f5 "guards_of" fA)
  (d6:Q9 K f6 "loads_of" iQ)
  (d7:Q9 K f7 "has_guard" fT)
  (d8:Q9 K f8 "has_load" km)
  (d9:Q9 K f9 "has_place" fK)
  (d10:Q9 K es "climb" oE)
  (d11:Q9 K er "over" oz)
  (d12:Q9 K eq "fed_guards" cM)
  (d13:Q9 K ep "draws_fed" bN)
  (d14:Q9 K eo "draws" vI)
  (d15:Q9 K en "rest" ze)
  (d16:Q9 K em "awake" pV)
  (d17:Q9 K ek "loud" xQ)
  (d18:Q9 K ej "quiet_rest" cY)
  (d19:Q9 K ei "way_of" fY)
  (d20:Q9 K eg "lows_of" eS)
  (d21:Q9 K ef "spans_of" jC)
  (d22:Q9 K ee "greatest_lack" W2)
  (d23:Q9 K ed "pairs_of" kN)
  (d24:Q9 K ec "wakes_at" jK)
  (d25:Q9 K eb "blind" wb)
  (d26:Q9 K ea "seeing_pairs" ay)
  (d27:Q9 K e8 "least_by" dF)
  (d28:Q9 K e6 "least_delays" ae)
  (d29:Q9 K e5 "needs" oV)
  (d30:Q9 K e4 "_law_cell_at" pF)
  (d31:Q9 K e3 "_law_feed" Fs)
  (d32:Q9 K e2 "_law_take" Dc)
  (d33:Q9 K e1 "_law_names" fq)
  (d34:Q9 K e0 "_law_overs" xh)
  (d35:Q9 K dz "_law_small_curve" dH)
  (d36:Q9 K dy "_law_lifted" hZ)
  (d37:Q9 K dx "_law_rest" pE)
  (d38:Q9 K dv "_law_small_guards" fS)
  (d39:Q9 K ds "_law_small_loads" jd)
  (d40:Q9 K dl "_law_small_board" dD)
  (d41:Q9 K dk "_law_path" sR)
  (d42:Q9 K dd "_law_loud" wB)
  (d43:Q9 K dc "_law_places" dQ)
  (d44:Q9 K db "_law_sized" xJ)
  (d45:Q9 K da "_law_most" DY)
  (d46:Q9 K d0 "_law_sighted" kL)
  (d47:Q9 K cr "_law_case" FC)
  (d48:Q9 K cn "_law_with" yD)
  (a49:PySem.W.nsIn K mainGlobals "law"=some (some (.ref ca)))
  (l49:K.lookup ca=some ⟨ck,cj,.func (PySem.W.fnOf "law" "law" (Z1 U3) (O9 U3) (c6 U3) .none bn bv bm c3 a3 c0),ch⟩) (c49:PySem.W.codeIn K a3 "law"=true) (k49:PySem.W.keepIn K (.ref ca)=true)
  (z1:PySem.W.nsIn K mainGlobals "len"=some none)
  (z2:PySem.W.nsIn K mainGlobals "isinstance"=some none)
  (z3:PySem.W.nsIn K mainGlobals "str"=some none)
  (z4:PySem.W.nsIn K mainGlobals "set"=some none)
  (z5:PySem.W.nsIn K mainGlobals "reversed"=some none)
  (z6:PySem.W.nsIn K mainGlobals "sorted"=some none)
  (z7:PySem.W.nsIn K mainGlobals "enumerate"=some none)
  (z8:PySem.W.nsIn K mainGlobals "range"=some none)
  (z9:PySem.W.nsIn K mainGlobals "max"=some none)
  (z10:PySem.W.nsIn K mainGlobals "int"=some none)
  (z11:PySem.W.nsIn K mainGlobals "list"=some none)
  (z12:PySem.W.nsIn K mainGlobals "tuple"=some none)
  (z13:PySem.W.nsIn K mainGlobals "dict"=some none)
  (z14:PySem.W.nsIn K mainGlobals "all"=some none) :
  ∃fd:FuncData,(∀(s:Shared) (v:Value),BindsTo s fd ⟨[v],[]⟩ [("_law_script",v)])/\∀base:Heap,K.In base->base.Ns mainGlobals mg->u3 l.prog w K mg base L6 10 fa fd ["_law_script"] (yV K):=by
 have e:=lw.symm.trans (PySem.W.mg_of X G a49);cases e;obtain⟨ry,F1,m1,k1⟩:=d1.mk X G;have b1:=F1.binds (ps:=["curve"]) (by walk_at "b");obtain⟨rx,F2,m2,k2⟩:=d2.mk X G;have b2:=F2.binds (ps:=["curve","draw"]) (by walk_at "b");obtain⟨rw,F3,m3,k3⟩:=d3.mk X G;have b3:=F3.binds (ps:=["curve","draw"]) (by walk_at "b");obtain⟨ru,F4,m4,k4⟩:=d4.mk X G;have b4:=F4.binds (ps:=["rows"]) (by walk_at "b");obtain⟨rs,F5,m5,k5⟩:=d5.mk X G;have b5:=F5.binds (ps:=["board"]) (by walk_at "b");obtain⟨rr,F6,m6,k6⟩:=d6.mk X G;have b6:=F6.binds (ps:=["board"]) (by walk_at "b");obtain⟨rp,F7,m7,k7⟩:=d7.mk X G;have b7:=F7.binds (ps:=["board","thing"]) (by walk_at "b");obtain⟨ro,F8,m8,k8⟩:=d8.mk X G;have b8:=F8.binds (ps:=["board","thing"]) (by walk_at "b");obtain⟨rn,F9,m9,k9⟩:=d9.mk X G;have b9:=F9.binds (ps:=["board","thing"]) (by walk_at "b");obtain⟨rm,h3,im,lv⟩:=d10.mk X G;have ol:=h3.binds (ps:=["guards","name"]) (by walk_at "b");obtain⟨rk,h2,il,lr⟩:=d11.mk X G;have oe:=h2.binds (ps:=["board","place"]) (by walk_at "b");obtain⟨rj,h1,ik,ln⟩:=d12.mk X G;have od:=h1.binds (ps:=["board","opened"]) (by walk_at "b");obtain⟨ri,h0,ii,lm⟩:=d13.mk X G;have oc:=h0.binds (ps:=["board","lit","pulls"]) (by walk_at "b");obtain⟨re,gy,ih,ll⟩:=d14.mk X G;have o2:=gy.binds (ps:=["board","opened","pulls"]) (by walk_at "b");obtain⟨rd,gx,ig,lj⟩:=d15.mk X G;have o1:=gx.binds (ps:=["board"]) (by walk_at "b");obtain⟨rc,gw,id,li⟩:=d16.mk X G;have o0:=gw.binds (ps:=["board","found"]) (by walk_at "b");obtain⟨rb,gu,ic,lg⟩:=d17.mk X G;have ny:=gu.binds (ps:=["board"]) (by walk_at "b");obtain⟨ra,gm,i2,lf⟩:=d18.mk X G;have nw:=gm.binds (ps:=["board"]) (by walk_at "b");obtain⟨r9,gl,i1,ld⟩:=d19.mk X G;have nv:=gl.binds (ps:=["board","place"]) (by walk_at "b");obtain⟨r7,gk,i0,lc⟩:=d20.mk X G;have np:=gk.binds (ps:=["way","most"]) (by walk_at "b");obtain⟨r6,gj,hz,lb⟩:=d21.mk X G;have nl:=gj.binds (ps:=["way","greatness"]) (by walk_at "b");obtain⟨r5,gi,hy,l5⟩:=d22.mk X G;have nk:=gi.binds (ps:=["way","at","most"]) (by walk_at "b");obtain⟨r4,gc,hx,l2⟩:=d23.mk X G;have nf:=gc.binds (ps:=["board","most"]) (by walk_at "b");obtain⟨r3,gb,hw,l1⟩:=d24.mk X G;have nb:=gb.binds (ps:=["row"]) (by walk_at "b");obtain⟨r2,g5,hv,l0⟩:=d25.mk X G;have na:=g5.binds (ps:=["board","most"]) (by walk_at "b");obtain⟨r1,g3,hu,kx⟩:=d26.mk X G;have n8:=g3.binds (ps:=["board","most"]) (by walk_at "b");obtain⟨r0,g2,ht,kw⟩:=d27.mk X G;have n7:=g2.binds (ps:=["board","pairs"]) (by walk_at "b");obtain⟨qz,g0,hs,kv⟩:=d28.mk X G;have n6:=g0.binds (ps:=["board","most"]) (by walk_at "b");obtain⟨qy,fy,hr,kt⟩:=d29.mk X G;have n5:=fy.binds (ps:=["board","most"]) (by walk_at "b");obtain⟨qs,fx,hq,ks⟩:=d30.mk X G;have n4:=fx.binds (ps:=["_law_script","_law_k"]) (by walk_at "b");obtain⟨qq,fv,hp,kr⟩:=d31.mk X G;have n3:=fv.binds (ps:=["_law_script","_law_k"]) (by walk_at "b");obtain⟨qn,ft,ho,kl⟩:=d32.mk X G;have n0:=ft.binds (ps:=["_law_feed_here","_law_many"]) (by walk_at "b");obtain⟨qd,fr,hn,kk⟩:=d33.mk X G;have my:=fr.binds (ps:=["_law_feed_here","_law_many"]) (by walk_at "b");obtain⟨q0,fp,hm,kd⟩:=d34.mk X G;have mx:=fp.binds (ps:=["_law_board"]) (by walk_at "b");obtain⟨py,fo,hl,kb⟩:=d35.mk X G;have mv:=fo.binds (ps:=["_law_feed_here","_law_unit","_law_time"]) (by walk_at "b");obtain⟨px,fl,hk,ka⟩:=d36.mk X G;have mu:=fl.binds (ps:=["_law_guard","_law_more"]) (by walk_at "b");obtain⟨pu,fk,hj,k0⟩:=d37.mk X G;have mt:=fk.binds (ps:=["_law_board"]) (by walk_at "b");obtain⟨pp,fj,hi,js⟩:=d38.mk X G;have ms:=fj.binds (ps:=["_law_script","_law_names_here","_law_unit","_law_time"]) (by walk_at "b");obtain⟨pm,fi,hh,jp⟩:=d39.mk X G;have mo:=fi.binds (ps:=["_law_script","_law_names_here","_law_guards","_law_unit","_law_time"]) (by walk_at "b");obtain⟨pi,fg,hg,j3⟩:=d40.mk X G;have ml:=fg.binds (ps:=["_law_script","_law_unit","_law_time"]) (by walk_at "b");obtain⟨ph,fc,hf,j2⟩:=d41.mk X G;have me:=fc.binds (ps:=["_law_board","_law_place"]) (by walk_at "b");obtain⟨pb,fb,he,j1⟩:=d42.mk X G;have md:=fb.binds (ps:=["_law_board"]) (by walk_at "b");obtain⟨pa,f0,hc,j0⟩:=d43.mk X G;have mc:=f0.binds (ps:=["_law_board"]) (by walk_at "b");obtain⟨p2,ez,hb,ix⟩:=d44.mk X G;have mb:=ez.binds (ps:=["_law_script"]) (by walk_at "b");obtain⟨p1,ey,ha,iv⟩:=d45.mk X G;have ma:=ey.binds (ps:=["_law_feed_here","_law_path_here","_law_unit"]) (by walk_at "b");obtain⟨p0,ew,h9,iu⟩:=d46.mk X G;have m0:=ew.binds (ps:=["_law_board"]) (by walk_at "b");obtain⟨ox,ev,h8,it⟩:=d47.mk X G;have ly:=ev.binds (ps:=["_law_script"]) (by walk_at "b");obtain⟨ov,et,h7,io⟩:=d48.mk X G;have lx:=et.binds (ps:=["_law_board","_law_delays"]) (by walk_at "b");have op:=Gg (st:=U3) l49 c49 k49;have q1:=xL X G z1;have q2:=xL X G z2;have q3:=xL X G z3;have q4:=xL X G z4;have q5:=xL X G z5;have q6:=xL X G z6;have q7:=xL X G z7;have q8:=xL X G z8;have q9:=xL X G z9;have c5:=xL X G z10;have h6:=xL X G z11;have B:=xL X G z12;have ci:=xL X G z13;have h5:=xL X G z14;refine⟨PySem.W.fnOf "law" "law" (Z1 U3) (O9 U3) (c6 U3) .none bn bv bm c3 a3 c0,λs v=>.of_eq rfl,λbase KB GB=>?_⟩;have r:ji l.prog w K mg base f1 _:=⟨AV F1 xU Cj,m1,k1,b1⟩
 have h4:QW l.prog w K mg base f2 _:=⟨Sr F2 q1 NK Rp,m2,k2,b2⟩
 have R:qt l.prog w K mg base f3 _:=⟨BX F3 h4 xx zZ,m3,k3,b3⟩
 have q:jV l.prog w K mg base f4 _:=⟨BP F4 wg Be,m4,k4,b4⟩
 have a:S0 l.prog w K mg base f5 _:=⟨xb F5 q qA vD,m5,k5,b5⟩
 have a1:uu l.prog w K mg base f6 _:=⟨AW F6 q wQ Bb,m6,k6,b6⟩
 have H:oq l.prog w K mg base f7 _:=⟨xt F7 a q2 q3 tQ wL,m7,k7,b7⟩
 have a2:ur l.prog w K mg base f8 _:=⟨BW F8 a1 q2 q3 vH AX,m8,k8,b8⟩
 have E:mO l.prog w K mg base f9 _:=⟨xF F9 H a2 qw xY,m9,k9,b9⟩
 have bg:Cu l.prog w K mg base es _:=⟨Ll h3 Fn ID,im,lv,ol⟩
 have al:EA l.prog w K mg base er _:=⟨Kd h2 E bg Hu Jm,il,lr,oe⟩
 have z:jl l.prog w K mg base eq _:=⟨rM h1 q4 oR sY,ik,ln,od⟩
 have I:nP l.prog w K mg base ep _:=⟨vh h0 q5 tH vE,ii,lm,oc⟩
 have b0:DZ l.prog w K mg base eo _:=⟨Lr gy z I GL IA,ih,ll,o2⟩
 have a4:GP l.prog w K mg base en _:=⟨PB gx b0 Iu Oo,ig,lj,o1⟩
 have bi:Ge l.prog w K mg base em _:=⟨Lo gw r CT KU,id,li,o0⟩
 have ap:Ft l.prog w K mg base ek _:=⟨IY gu a4 bi EG JO,ic,lg,ny⟩
 have x:jT l.prog w K mg base ej _:=⟨tm gm a4 ap oA sW,i2,lf,nw⟩
 have J:vA l.prog w K mg base ei _:=⟨Ji gl al x DC JL,i1,ld,nv⟩
 have ab:zQ l.prog w K mg base eg _:=⟨EX gk q4 q6 BA CA,i0,lc,np⟩
 have S:qx l.prog w K mg base ef _:=⟨zV gj R q7 wj Aa,hz,lb,nl⟩
 have i:bY l.prog w K mg base ee _:=⟨kF gi ab S gS jB,hy,l5,nk⟩
 have p:jr l.prog w K mg base ed _:=⟨Cb gc a J i q1 q8 ye Ce,hx,l2,nf⟩
 have Q:se l.prog w K mg base ec _:=⟨Ac gb r wX BK,hw,l1,nb⟩
 have O:vC l.prog w K mg base eb _:=⟨HZ g5 a J Q DH KQ,hv,l0,na⟩
 have d:av l.prog w K mg base ea _:=⟨mj g3 p O kK lu,hu,kx,n8⟩
 have u:jI l.prog w K mg base e8 _:=⟨zW g2 a q9 q5 vF AI,ht,kw,n7⟩
 have o:eU l.prog w K mg base e6 _:=⟨lp g0 d u iO lK,hs,kv,n6⟩
 have am:Hm l.prog w K mg base e5 _:=⟨Kx fy a d u Hn Ib,hr,kt,n5⟩
 have ac:zb l.prog w K mg base e4 _:=⟨GI fx q1 Ci Ht,hq,ks,n4⟩
 have j:oj l.prog w K mg base e3 _:=⟨Pm fv ac Lb NH,hp,kr,n3⟩
 have c:cp l.prog w K mg base e2 _:=⟨PL ft Kn Ol,ho,kl,n0⟩
 have an:Ep l.prog w K mg base e1 _:=⟨Jn fr c c5 h6 q8 FI Kh,hn,kk,my⟩
 have M:xV l.prog w K mg base e0 _:=⟨Lv fp GC Jk,hm,kd,mx⟩
 have U:sH l.prog w K mg base dz _:=⟨Ap fo c q8 B xI Bq,hl,kb,mv⟩
 have y:pB l.prog w K mg base dy _:=⟨GU fl B Cg Et,hk,ka,mu⟩
 have g:iN l.prog w K mg base dx _:=⟨JU fk M ci c5 ED Jx,hj,k0,mt⟩
 have C:mE l.prog w K mg base dv _:=⟨vP fj j c U c5 q1 q8 qO xG,hi,js,ms⟩
 have T:qk l.prog w K mg base ds _:=⟨Bg fi j c q1 q8 B wt zY,hh,jp,mo⟩
 have Y:sE l.prog w K mg base dl _:=⟨BV fg j c an y g C T B yk AY,hg,j3,ml⟩
 have cd:LQ l.prog w K mg base dk _:=⟨Qa fc M g ci Jl OO,hf,j2,me⟩
 have ao:Ha l.prog w K mg base dd _:=⟨KI fb g Du Kt,he,j1,md⟩
 have a5:zE l.prog w K mg base dc _:=⟨Gb f0 AJ Eu,hc,j0,mc⟩
 have ad:Fu l.prog w K mg base db _:=⟨IJ ez j c Y Hw Lp,hb,ix,mb⟩
 have ce:Ms l.prog w K mg base da _:=⟨Nx ey c q1 q9 Ls OI,ha,iv,ma⟩
 have a0:rE l.prog w K mg base d0 _:=⟨Co ew y g q9 B wJ zX,h9,iu,m0⟩
 have cf:Mb l.prog w K mg base cr _:=⟨NY ev j c cd a5 ad ce a0 q1 JR Px,h8,it,ly⟩
 have cc:Mj l.prog w K mg base cn _:=⟨OE et B JC NC,h7,io,lx⟩
 exact(Ja op p O o am c ao cf cc h5 B Ho Ks).imp Nl
theorem walk{l:PySem.W.OpenLaw}{loose:YF}{XP:(YL)->Heap->Prop}{K:Params->YQ}(hn:l.most=some 63)(hdf:d.params.defaults=[])
  (hY:∀(w:World) (h:Heap),YP w h->(K w.params).In h)
  (F:∀(w:World) (mg:YL) (fa:Addr) (h:Heap),(K w.params).In h->h.Ns mainGlobals mg->mg d.name=some (.ref fa) ->
   ∃fd:FuncData,(∀(s:Shared) (u:Value),BindsTo s fd ⟨[u],[]⟩ [("_law_script",u)])/\∀base:Heap,(K w.params).In base->base.Ns mainGlobals mg->u3 l.prog w (K w.params) mg base L6 10 fa fd ["_law_script"] (yV (K w.params))) :
  PySem.W.WalkO q loose XP YP l.row.toRowW d [] (λf vs=>PySem.call f vs):=
 L2.Ky      hn (by decide) hdf ⟨rfl,by decide,by decide,rfl⟩ hY F (λ_ _ a ns hl _ hS=>⟨a,ns,rfl,hS,hl,λ_=>rfl⟩) λ_ _ _ _ _ z=>z
end My
end
open PySem PySem.W PyProof.Rows
local macro_rules | `(tactic| walk_at "d")=>`(tactic| exact⟨by k_is,_,_,_,_,_,_,_,_,_,by k_is,by k_is,by k_is⟩)
set_option maxRecDepth 100000 in
set_option maxHeartbeats 0 in
theorem PySem.Challenge.cw_fuseboard_k55_delays_of_the_board_have_n_holds : PySem.Challenge.rw_fuseboard_k55_delays_of_the_board_have_n.Holds := by
 w_on;o_law;k_head;(case hw=>w_witness2)
 k_fill
 refine My.walk (l:=PySem.Challenge.rw_fuseboard_k55_delays_of_the_board_have_n) rfl rfl (λw h Y=>PySem.W.kIn_of Y) ?F
 case F=>
  intro w mg fa h KX G hmg
  refine' My.all_mk KX G hmg ?d1 ?d2 ?d3 ?d4 ?d5 ?d6 ?d7 ?d8 ?d9 ?d10 ?d11 ?d12 ?d13 ?d14 ?d15 ?d16 ?d17 ?d18 ?d19 ?d20 ?d21 ?d22 ?d23 ?d24 ?d25 ?d26 ?d27 ?d28 ?d29 ?d30 ?d31 ?d32 ?d33 ?d34 ?d35 ?d36 ?d37 ?d38 ?d39 ?d40 ?d41 ?d42 ?d43 ?d44 ?d45 ?d46 ?d47 ?d48 ?a49 ?l49 ?c49 ?k49 ?z1 ?z2 ?z3 ?z4 ?z5 ?z6 ?z7 ?z8 ?z9 ?z10 ?z11 ?z12 ?z13 ?z14
  (case d1=>walk_at "d")
  (case d2=>walk_at "d")
  (case d3=>walk_at "d")
  (case d4=>walk_at "d")
  (case d5=>walk_at "d")
  (case d6=>walk_at "d")
  (case d7=>walk_at "d")
  (case d8=>walk_at "d")
  (case d9=>walk_at "d")
  (case d10=>walk_at "d")
  (case d11=>walk_at "d")
  (case d12=>walk_at "d")
  (case d13=>walk_at "d")
  (case d14=>walk_at "d")
  (case d15=>walk_at "d")
  (case d16=>walk_at "d")
  (case d17=>walk_at "d")
  (case d18=>walk_at "d")
  (case d19=>walk_at "d")
  (case d20=>walk_at "d")
  (case d21=>walk_at "d")
  (case d22=>walk_at "d")
  (case d23=>walk_at "d")
  (case d24=>walk_at "d")
  (case d25=>walk_at "d")
  (case d26=>walk_at "d")
  (case d27=>walk_at "d")
  (case d28=>walk_at "d")
  (case d29=>walk_at "d")
  (case d30=>walk_at "d")
  (case d31=>walk_at "d")
  (case d32=>walk_at "d")
  (case d33=>walk_at "d")
  (case d34=>walk_at "d")
  (case d35=>walk_at "d")
  (case d36=>walk_at "d")
  (case d37=>walk_at "d")
  (case d38=>walk_at "d")
  (case d39=>walk_at "d")
  (case d40=>walk_at "d")
  (case d41=>walk_at "d")
  (case d42=>walk_at "d")
  (case d43=>walk_at "d")
  (case d44=>walk_at "d")
  (case d45=>walk_at "d")
  (case d46=>walk_at "d")
  (case d47=>walk_at "d")
  (case d48=>walk_at "d")
  (case a49|l49|c49|k49|z1|z2|z3|z4|z5|z6|z7|z8|z9|z10|z11|z12|z13|z14=>k_is)
#print axioms PySem.Challenge.cw_fuseboard_k55_delays_of_the_board_have_n_holds
