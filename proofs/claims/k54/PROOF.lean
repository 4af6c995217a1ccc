import PyProof.Rows.All
import Wide.All
import OpenK.AllK
import Wide.FinOn
import Lean
import PyProof.EqAt
import PyProof.EqKinds
import PyProof.TupleCall
import PyProof.NeKinds
import PyProof.WalksEnum
import PyProof.EnumMake
import PyProof.ZipIter
import PyProof.Draws
import PyProof.DictIter
import PyProof.DictWalks
import PyProof.Rows.DictUnroll
import PyProof.DictCompW
import PyProof.ReprRoads
import PyProof.ReprLen
import PyProof.P3Eq
import PyProof.Rows.FStr
import PyProof.Rows.StrSplitAre
import PyProof.Rows.StrItems
import PyProof.Rows.FStrParts
import KE.KIntText
import PyProof.StrWalks
import PyProof.MeetsStr
import PyProof.StationsW
import PyProof.Rows.TopTwo
import PyProof.RulesAs
import PyProof.RulesDel
import PyProof.ExcArgs
import OpenK.KOwn
import KE.KRevIter
import PyProof.Rows.StrLen
import PyProof.SliceStr2
import PyProof.StrBlockI
import KE.KDictOf
import PyProof.AttrMissSeq
import KE.KRevSl
import PyProof.Rows.SetFrom
import PyProof.WalksMore
import PyProof.SetRoads
import KE.KEqDict
import PyProof.Rows.SumAny
import PyProof.InstStore
import PyProof.InstStoreFacts
import KE.KDictList
import PyProof.Rows.SortWalk
import PyProof.SetKind
import PyProof.MinMaxWalk
import PyProof.Rows.ReprOcc
import PyProof.StrLawsTight
import PySem.Challenge.RW_fuseboard_k54_needs_told
set_option Elab.async false
set_option linter.all false
set_option genSizeOf false
set_option genSizeOfSpec false
set_option maxRecDepth 100000
abbrev ZO:=List (PySem.Addr×PySem.Obj)
abbrev ZP:=List (Option Nat)
abbrev ZQ:=List (PySem.Str×PySem.Addr)
abbrev ZR:=List (PySem.Str×PySem.Value)
abbrev ZS:=List PySem.Addr
abbrev ZT:=List PySem.Str
abbrev ZU:=List PySem.Value
abbrev ZV:=List PySem.Expr
abbrev ZW:=List Int
abbrev ZX:=List Nat
abbrev ZY:=Array PySem.Value
abbrev ZZ:=PySem.Str->Option PySem.Value
abbrev AAA:=List PySem.Stmt
abbrev AAB:=PySem.Value->PySem.Shared->Prop
abbrev AAC:=Nat->List PySem.Addr
abbrev AAD:=PySem.W.Frag
abbrev AAE:=Option PySem.Value
abbrev AAF:=Option Nat
abbrev dL:=@List.length_map
abbrev eH:=@PySem.wpAny_bind
abbrev hD:=@PySem.Heap.get?_push_of_some
abbrev hE:=@PySem.wpAny_pure
abbrev hH:=@List.mem_cons_of_mem
abbrev hQ:=@List.mem_cons_self
abbrev nA:=@List.getElem?_eq_getElem
abbrev oT:=@List.mem_of_getElem?
abbrev sK:=@Nat.le_refl
abbrev tt:=@Classical.choose_spec
abbrev tz:=@List.mem_append_right
abbrev ud:=@Bool.false_ne_true
abbrev ue:=@List.getElem?_map
abbrev uk:=@if_neg
abbrev ux:=@if_pos
abbrev uy:=@List.nodup_nil
abbrev u0:=@PySem.Heap.get?_push_size
abbrev u8:=@List.size_toArray
abbrev vc:=@List.map_cons
abbrev vr:=@List.length_range
abbrev vu:=@PySem.Heap.lt_size
abbrev vv:=@List.length_append
abbrev vy:=@List.append_nil
abbrev v1:=@decide_eq_true
abbrev v2:=@PySem.PassesOwn.never
abbrev v3:=@Array.length_toList
abbrev v4:=@List.getD_eq_getElem?_getD
abbrev v5:=@List.mem_append_left
abbrev v6:=@Nat.ne_of_lt
abbrev v7:=@List.map_append
abbrev v8:=@Bool.and_eq_true
abbrev v9:=@List.take_add_one
abbrev wf:=@List.nil_append
abbrev wh:=@List.take_length
abbrev wl:=@decide_eq_false
abbrev wn:=@PySem.wpAny_newObj_type
abbrev wr:=@List.getElem?_append_left
abbrev ww:=@Nat.lt_of_lt_of_le
abbrev wE:=@List.length_take
abbrev wP:=@List.length_cons
abbrev wS:=@Int.mul_le_mul_of_nonneg_right
abbrev wT:=@List.append_assoc
abbrev xi:=@List.getElem?_set_self
abbrev xz:=@PySem.F.plainAttrs_list
abbrev xL:=@Nat.zero_le
abbrev x0:=@Nat.le_of_ble_eq_true
abbrev x2:=@Option.some.inj
abbrev z0:=@List.find?_cons
abbrev At:=@Array.getElem?_eq_getElem
abbrev AC:=@List.getElem?_set_ne
abbrev AT:=@List.getElem?_cons_succ
abbrev A1:=@PySem.wpAny_mono
abbrev Bi:=@List.map_map
abbrev BB:=@List.length_singleton
abbrev Ch:=@of_decide_eq_true
abbrev C2:=@PySem.Obj.data_mapFields
abbrev Da:=@List.getElem?_of_mem
abbrev Db:=@PySem.W.mg_none_of
abbrev Do:=@Array.getD_eq_getD_getElem?
abbrev EQ:=@Int.toNat_natCast
abbrev Fa:=@Int.emod_lt_of_pos
abbrev Fk:=@List.drop_eq_getElem_cons
abbrev FB:=@PySem.Heap.get?_update_self
abbrev FM:=@List.lookup_cons
abbrev FS:=@PySem.wpAny_holding
abbrev Gc:=@PySem.wpAny_call_entry
abbrev Go:=@PyProof.Rows.F.plain_set_update_loop
abbrev GM:=@Nat.le_trans
abbrev Ix:=@List.getElem?_append_right
abbrev IN:=@PySem.Heap.SameBut.update
abbrev IR:=@PySem.wpAny_callSpecial?_slot
abbrev KF:=@PySem.boot_len
abbrev KM:=@Int.emod_nonneg
abbrev No:=@PySem.Around.under_plainId
abbrev NE:=@List.getElem?_take_of_lt
abbrev On:=@List.length_reverse
abbrev Op:=@decide_eq_true_eq
abbrev Os:=@List.pairwise_singleton
abbrev OV:=@PyProof.Rows.slot_tuple_getitem
abbrev Ps:=@Ne.symm
abbrev Pv:=@PySem.Heap.size_push
abbrev PP:=@PySem.W.kia_one
abbrev P3:=@PySem.builtinLookup_eq_fast
abbrev Re:=@List.filter_cons
abbrev Rl:=@Int.le_refl
abbrev Rs:=@PySem.codeAny_builtin
abbrev Sc:=@congrArg
abbrev SC:=@Nat.lt_succ_of_lt
abbrev SL:=@Nat.le_of_lt
abbrev SZ:=@List.take_of_length_le
abbrev Tk:=@List.replicate_succ
abbrev Tl:=@PySem.wpAny_standAt
abbrev TD:=@List.mem_or_eq_of_mem_set
abbrev TW:=@Array.getElem?_toList
abbrev T0:=@of_decide_eq_false
abbrev Uf:=@PySem.sizeLine_eq
abbrev UF:=@List.sum_cons
abbrev UV:=@PySem.Obj.isFreed_of_fields
abbrev Wp:=@PyProof.Rows.boot_tuple
abbrev WF:=@List.foldl_append
abbrev WP:=@List.length_set
abbrev WY:=@List.foldl_cons
abbrev WZ:=@PySem.isSubtype_type
abbrev W1:=@PyProof.Rows.F.entry_set_update_loop
abbrev Xa:=@List.map_congr_left
abbrev Xb:=@List.sublist_cons_self
abbrev Xc:=@List.flatMap_singleton
abbrev Xd:=@List.length_drop
abbrev Xe:=@PySem.F.slot_dict_get
abbrev Xf:=@PySem.Heap.get?_update_other
abbrev Xg:=@PySem.wpAny_setField
abbrev Xh:=@List.mem_cons
abbrev Xi:=@List.any_cons
abbrev Xj:=@PySem.typeLookup_type
abbrev Xk:=@PySem.mem_of_lookup
abbrev Xl:=@List.flatMap_append
abbrev Xm:=@PySem.wpAny_setState_of
abbrev Xn:=@PySem.wpAny_of_eq
abbrev Xo:=@PySem.wpAny_field
abbrev Xp:=@List.getElem_mem
abbrev Xq:=@PySem.wpAny_comprehension_free
abbrev Xr:=@PySem.plainId_quiet
abbrev Xs:=@List.getElem_range
abbrev Xt:=@List.all_cons
abbrev Xu:=@PyProof.Rows.boot_max
abbrev Xv:=@List.take_append_drop
abbrev Xw:=@List.length_replicate
abbrev Xx:=@List.getElem?_eq_none
abbrev Xy:=@PyProof.Rows.callWith_type1
abbrev Xz:=@List.take_sublist
abbrev XA:=@List.pairwise_map
abbrev XB:=@List.getElem?_inj
abbrev XC:=@List.flatten_cons
abbrev XD:=@List.any_eq_false
abbrev XE:=@List.Sublist.refl
abbrev XF:=@PySem.wpAny_passesOwn
abbrev XG:=@Sum.inr.inj
abbrev XH:=@Nat.lt_succ_self
abbrev XI:=@Nat.le_of_eq
abbrev XJ:=@List.map_reverse
abbrev XM:=@List.drop_length
abbrev XO:=@List.all_eq_true
abbrev XQ:=@List.filterMap_cons
abbrev XR:=@Nat.lt_irrefl
abbrev XT:=@Nat.not_lt_zero
abbrev XU:=@List.length_nil
abbrev XV:=@Bool.false_eq_true
abbrev XW:=@PySem.F.args_dict_get_3
abbrev XX:=@PySem.wpAny_setEntries_of
abbrev XY:=@PySem.wpAny_attempt
abbrev XZ:=@PySem.F.entry_dict_get
abbrev Ya:=@Nat.ne_of_gt
abbrev Yb:=@List.reverse_cons
abbrev Yc:=@List.flatMap_cons
abbrev Yd:=@Array.getElem?_eq_none
abbrev Ye:=@PySem.wpAny_specialOf
abbrev Yf:=@PySem.wpAny_rule
abbrev Yg:=@PySem.wpAny_Call_Name_kw
abbrev Yh:=@PySem.tupleKind_room_in1
abbrev Yi:=@PySem.Calls.spliced_cons
abbrev Yj:=@List.length_filter_le
abbrev Yk:=@PySem.wpAny_typeOf
abbrev Yl:=@PySem.Calls.callWith_builtin
abbrev Ym:=@List.sum_append
abbrev Yn:=@List.getElem_of_mem
abbrev Yo:=@PySem.wpAny_isInstance
abbrev Yp:=@Nat.sub_self
abbrev Yq:=@List.map_nil
abbrev Yr:=@Int.zero_mul
abbrev Ys:=@if_false
abbrev Yt:=@Nat.lt_of_le_of_lt
abbrev Yu:=@Int.mul_nonneg
abbrev Yv:=@List.sublist_append_right
abbrev Yw:=@List.mem_of_find?_eq_some
abbrev Yx:=@Option.isSome_map
abbrev Yy:=@Nat.le_succ
abbrev Yz:=@PySem.codeAny_mono
abbrev YA:=@PySem.F.args_tuple_add_2
abbrev YB:=@List.sublist_append_left
abbrev YC:=@PySem.F.entry_tuple_add
abbrev YD:=@Nat.zero_lt_succ
abbrev YE:=@List.any_eq_true
abbrev YF:=@if_true
abbrev YG:=@PySem.F.slot_tuple_add
abbrev YH:=@PyProof.Rows.boot_repr
abbrev YI:=@PyProof.Rows.boot_dict
abbrev YJ:=@Int.le_trans
abbrev YK:=@Int.add_zero
abbrev YL:=@PySem.wpAny_truthy_bool
abbrev YM:=@PySem.wpAny_pyIter_list
abbrev YN:=@PySem.wpAny_assign_Name
abbrev YO:=@PySem.Obj.cls_mapFields
abbrev YQ:=@List.range_succ
abbrev YR:=@List.mem_append
abbrev YS:=@Bool.or_eq_true
abbrev YT:=@Bool.eq_iff_iff
abbrev YU:=@PyProof.Rows.boot_int
abbrev YV:=@List.getElem?_reverse
abbrev YW:=@PySem.wpAny_askSetting
abbrev YX:=@List.mem_of_mem_take
abbrev YY:=@Bool.false_and
abbrev YZ:=@Array.toArray_toList
abbrev Za:=@Iff.rfl
abbrev Zb:=@PySem.meets_dict_get_default
abbrev Zc:=@List.take_succ_cons
abbrev Zd:=@List.getElem?_range
abbrev Ze:=@PySem.wpAny_execs_nil
abbrev Zf:=@PySem.codeAny_of_tree
abbrev Zg:=@PySem.exec_Assign_Name_used
abbrev Zh:=@PySem.wpAny_runValue
abbrev Zi:=@PySem.wpAny_newFunctionEnv
abbrev Zj:=@PySem.wpAny_fieldsOf
abbrev Zk:=@or_congr
abbrev Zl:=@String.splitOnAux
abbrev Zm:=@List.map_id'
abbrev Zn:=@List.ext_getElem?
abbrev Zo:=@PySem.Calls.evalArgs_plain
abbrev Zp:=@Nat.le_of_not_lt
abbrev Zq:=@List.not_mem_nil
abbrev Zr:=@List.nil_sublist
abbrev Zs:=@List.flatMap_nil
abbrev Zt:=@PySem.signature?_of
abbrev Zu:=@PySem.evalPart_none
abbrev Zv:=@PySem.Paired.length
abbrev Zw:=@Nat.log2_lt
abbrev Zx:=@List.getLast?_eq_some_getLast
abbrev Zy:=@Int.add_mul
abbrev Zz:=@PySem.wpAny_pyIter_tuple
abbrev ZA:=@PySem.call_meets
abbrev ZB:=@PyProof.Rows.boot_isinstance
abbrev ZC:=@List.of_mem_zip
abbrev ZD:=@PySem.Heap.IsSliceOf.new
abbrev ZE:=@PySem.wpAny_setEpoch_of
abbrev ZF:=@PySem.wpAny_sequenceKey
abbrev ZG:=@PySem.wpAny_pyIter_slot
abbrev ZH:=@PySem.concat_meets
abbrev ZI:=@PySem.codeAny_loop
abbrev ZJ:=@PySem.call_meetsIn
abbrev ZK:=@PyProof.Rows.boot_reversed
abbrev ZL:=@List.length_eraseIdx_of_lt
abbrev ZM:=@PySem.Calls.spliced_nil
abbrev ZN:=@Bool.and_false
noncomputable section
namespace PySem.W.Fast
def tw2404096917155294299:=True
def tw3472409282049224116:=True
def tw7305437012773572041:=True
def tw12876613891750004473:=True
def tw2559104235117122681:=True
def tw6451383443521693730:=True
def tw5488229231958087443:=True
def tw3571249331531973206:=True
def tw16731606244883779164:=True
def tw11782024868902265650:=True
def tw12731768708846009956:=True
def tw3206378710491792303:=True
def tw5621925545451281822:=True
def tw898604293146690470:=True
def tw8698283672091192970:=True
def tw2505040110858930640:=True
def tw12282511327935241455:=True
def tw14353342120003338684:=True
def tw10164827852339772230:=True
def tw8366454074596909272:=True
def tw14313183555383450593:=True
def tw17512681309052645643:=True
def tw16041359968033783702:=True
def tw12173692979713432281:=True
def tw14600778363766270716:=True
def tw11336197989229952215:=True
def tw14481111567742117320:=True
def tw3782659040348657393:=True
def tw14248914706441353430:=True
def tw10344546366412376928:=True
def tw1735515804856545968:=True
def tw9885944533364214169:=True
def tw11108466493264752155:=True
def tw16856378588994620566:=True
def tw12603871211008869748:=True
def tw291675924183717987:=True
def tw1611959940360097481:=True
def tw7111587234835722956:=True
def tw17368584932307047016:=True
def tw9812347872645475900:=True
def tw14326114476922369426:=True
def tw4015410182498450660:=True
def tw9515804016711320552:=True
def tw14513315268151085165:=True
def tw1231269137650284582:=True
def tw11963895519338408354:=True
def tw10774137857263531726:=True
def tw1244974851080948778:=True
def tw14474876736195031843:=True
def tw316529361428685024:=True
def tw10890951957183932433:=True
def tw5662606517125583914:=True
def tw10748908329825941560:=True
def tw813381565159206946:=True
def tw10870121598141740465:=True
def tw12608729797857308490:=True
def tw14943351621249946014:=True
def tw16790612980355887416:=True
def tw2541446708785333934:=True
def tw12549675031364936314:=True
def tw5628204677524109161:=True
def tw11178851758503961648:=True
def tw12487670808643672053:=True
def tw8591136275219158854:=True
def tw6267076420736256168:=True
def tw5171866328396963115:=True
def tw18319205375238453450:=True
def tw1462413478077865531:=True
def tw16115005197662234776:=True
def tw13384913925600102791:=True
def tw7288654964185823212:=True
def tw18137736291733590592:=True
def tw8670219056325696568:=True
def tw1383133116103959811:=True
def tw8560066379968962237:=True
def tw9140957556195694731:=True
def tw1262626498484693989:=True
def tw7507432788305527211:=True
def tw13176686037177357536:=True
def tw2924035922935082058:=True
def tw10966359418696659349:=True
def tw13816831423268279775:=True
def tw178125715715167215:=True
def tw247667370989930444:=True
def tw11699127658973261149:=True
def tw9598365700627801960:=True
def tw4955237136713389690:=True
def tw2785356217234526648:=True
def tw4663266591879088392:=True
def tw7277149738079548951:=True
def tw7521461477515553227:=True
def tw7114732952129439024:=True
def tw12039540198779640862:=True
def tw3151236022153448960:=True
def tw9009187457281903514:=True
def tw15243595158732129011:=True
def tw9055611256837838481:=True
def tw6012458081265067189:=True
def tw4782494217694672294:=True
def tw13436921438293052061:=True
def tw17431969873598487048:=True
def tw18390717442882162638:=True
def tw13523416389463091755:=True
def tw6885365795429692103:=True
def tw13277530245524503299:=True
def tw13082848645848301703:=True
def tw8506524461765299338:=True
def tw6614096913379837919:=True
def tw5234165501484664938:=True
def tw13758137636784131753:=True
def tw4365500282082818215:=True
def tw3072930209317343593:=True
def tw16450395028873013826:=True
def tw16856632143425027901:=True
def tw1240633555612047702:=True
def tw4287201004329927922:=True
def tw10170522984261943919:=True
def tw1640377714708466060:=True
def tw17181891731819947972:=True
def tw6708686153990044080:=True
def tw17288696590412911160:=True
def tw3986730377940495922:=True
def tw16001615076898281554:=True
def tw16499964562587778446:=True
def tw16350646634937547690:=True
def tw6120904878395045969:=True
def tw1134484412724715520:=True
def tw6225769200041922211:=True
def tw7060018003242817324:=True
def tw6710710236723274684:=True
def tw15583110522976870103:=True
def tw2122266854707148117:=True
def tw15788135874550067332:=True
def tw2006828755579052291:=True
def tw9242156024995304418:=True
def tw17468239903450994458:=True
def tw2950686366336268939:=True
def tw6928160081844773412:=True
def tw13006275182251344152:=True
def tw14909947752348497673:=True
def tw6758223938309188412:=True
def tw193663718180336945:=True
def tw12198556767474761012:=True
def tw9476931059391700197:=True
def tw5970364596334633659:=True
def tw14631802385830505791:=True
def tw17423690523088499716:=True
def tw9215198678721125362:=True
def tw12273432268867041793:=True
def tw9175955603971841985:=True
def tw3830336287416850308:=True
def tw4812349151266482505:=True
def tw5684570646981031385:=True
def tw11134781141481027254:=True
def tw7551070246896813951:=True
def tw5696187174254520270:=True
def tw7345868710382213335:=True
def tw15429439552028501377:=True
def tw12051708862913643721:=True
def tw6104434729527529985:=True
def tw5898569049520947914:=True
def tw8110313457762077240:=True
def tw8483566930439812518:=True
def tw16759156624716083269:=True
def tw4021996768977521199:=True
def tw15397148217371868737:=True
def tw9961403334383867624:=True
def tw1520765910021209690:=True
def tw9133258783175664377:=True
def tw5869404051321464025:=True
def tw9492832698503659166:=True
def tw4345010252319741257:=True
def tw9062149091544778880:=True
def tw6569181122968124916:=True
def tw13807999701873399880:=True
def tw6868814824682553878:=True
def tw11178567984117459202:=True
def tw13519557878195115257:=True
def tw14593089899991699456:=True
def tw5667395081334215836:=True
def tw17597674459704363547:=True
def tw15442915192354661737:=True
def tw10525045266878059388:=True
def tw5670745544832418497:=True
def tw5058642777730682092:=True
def tw9352605895089781166:=True
def tw2925763691113065258:=True
def tw9956202023846221411:=True
def tw3177196391129341710:=True
def tw3068043872725780025:=True
def tw3542546993808019863:=True
def tw5596380187220637492:=True
def tw13082234873349710377:=True
def tw6522385939041161781:=True
def tw1889948063642945616:=True
def tw13499594374546297675:=True
def tw4923621614269769239:=True
def tw9575855844224260396:=True
def tw3606042735360456834:=True
def tw17273413390997885760:=True
def tw14890550445585925757:=True
def tw8416001299387390582:=True
def tw1883187661930078857:=True
def tw3501520672585708537:=True
def tw11873241017055154657:=True
def tw15874811397248375231:=True
def tw15268976668695234738:=True
def tw5599600897357066351:=True
def tw5103909620638029326:=True
def tw1711601446619160147:=True
def tw431651414132506388:=True
def tw659212100002360330:=True
def tw16925007651024857328:=True
def tw12102793523355823588:=True
def tw4440690628641186927:=True
def tw18154873963091904540:=True
def tw10984341861102196690:=True
def tw3537157547443524569:=True
def tw1939591680809010377:=True
def tw14982733663943095784:=True
def tw14044101110004233496:=True
def tw17645323877532943910:=True
def tw9906543358800429170:=True
def tw16614725702332001680:=True
def tw14355496185800373009:=True
def tw16833912308965997099:=True
def tw11269069407644841782:=True
def tw6893061464633348085:=True
def tw4704714513121362122:=True
def tw13771408730200880620:=True
def tw9444375217719510542:=True
def tw10251294098334136094:=True
def tw1819442109321176879:=True
def tw5244305818661228363:=True
def tw17160952785661364405:=True
def tw7338140405290872052:=True
def tw7408152204421779300:=True
def tw2523591045475315040:=True
def tw14781902513673074248:=True
def tw15205107749507423561:=True
def tw10456246416609335050:=True
def tw9784725349158408673:=True
def tw12838668782869064083:=True
def tw6204955966842426157:=True
def tw15094671712053046061:=True
def tw2425946934091568783:=True
def tw696568848222229612:=True
def tw11303910939655580597:=True
def tw13357735346055617508:=True
def tw16591876328658303542:=True
def tw7202327133008789786:=True
def tw12987281896297660350:=True
def tw15747053898613633840:=True
def tw8843094683535297903:=True
def tw5997897724702393360:=True
def tw11335542529131135813:=True
def tw5979285478252277034:=True
def tw2399630122273631337:=True
def tw13065534519832377672:=True
def tw1960338144933863642:=True
def tw1245599333917422516:=True
def tw17830118803530580606:=True
def tw10073602880251979669:=True
def tw15333154259365387744:=True
def tw210169179908199073:=True
def tw6154490357995486956:=True
def tw15946729053495323026:=True
def tw5172478760278268267:=True
def tw14362239100078298697:=True
def tw1846917284120960289:=True
def tw1823368057468759099:=True
def tw12226566850999704771:=True
def tw14557327880867374127:=True
def tw3378282065088503094:=True
def tw6200851672907439743:=True
def tw10818610517986799064:=True
def tw8885064451854482848:=True
def tw6963700463716372713:=True
def tw1805650800618972201:=True
def tw5481752815055258647:=True
def tw3821204753842307468:=True
def tw17455433463450555281:=True
def tw5987791242017031853:=True
def tw634920452265009305:=True
def tw3071469925290102924:=True
def tw17315355131286039299:=True
def tw9005250890729324928:=True
def tw11347866395115626921:=True
def tw12527636171762463368:=True
def tw9530047909868928064:=True
def tw11215762234642300443:=True
def tw8984705481408297541:=True
def tw8784451006619234113:=True
def tw15651932376508522927:=True
def tw6629582852162584036:=True
def tw13209110733710812875:=True
def tw11489237429093537470:=True
def tw16805045207899973953:=True
def tw6414896004221431933:=True
def tw16172722548184153962:=True
def tw18163716612438356009:=True
def tw9586863162149324199:=True
def tw14685254381375409513:=True
def tw3927788139137726292:=True
def tw983772009563220023:=True
def tw1187603135217101690:=True
def tw8950206540556525990:=True
def tw16004386048359446548:=True
def tw1519644102731223464:=True
def tw9325456336042654246:=True
def tw2377526057767594824:=True
def tw15147563566834954135:=True
def tw2210189919615954116:=True
def tw12058421778986202811:=True
def tw6852306990277034855:=True
def tw8162187999468194735:=True
def tw18360301260101010811:=True
def tw12011418134257342320:=True
def tw7503968990097856581:=True
def tw18292988084225762029:=True
def tw13865092215294296394:=True
def tw11614293514684896473:=True
def tw271812412108697371:=True
def tw12013694140884010786:=True
def tw5293622912252790755:=True
def tw15700832402664632902:=True
def tw17784736212511844469:=True
def tw8303685077354085653:=True
def tw13193726175222695442:=True
def tw70116177250176797:=True
def tw9338726663272840660:=True
def tw8441909570905045532:=True
def tw6243168690438709519:=True
def tw2794906301345511415:=True
def tw11061708136703502386:=True
def tw3369704901231513680:=True
def tw16659470015625978166:=True
def tw388821743962538210:=True
def tw967644337277062065:=True
def tw32846460612481634:=True
def tw13894864694133863839:=True
def tw7950883371363340470:=True
def tw1077708357336019508:=True
def tw14956880660353189177:=True
def tw5050348121902705052:=True
def tw16738908371406675062:=True
def tw16262326379748146357:=True
def tw14559181712321660462:=True
def tw1055401394698031728:=True
def tw6564987778395346607:=True
def tw9225229670563223279:=True
def tw8262955510057356229:=True
def tw10725538398480389085:=True
def tw8746870982773466805:=True
def tw11137725288193033421:=True
def tw7260179237194248951:=True
def tw2889278173765680845:=True
def tw15225927400144920451:=True
def tw12388722607491980902:=True
def tw18167778686992368603:=True
def tw1441920920014365867:=True
def tw15622672800159506876:=True
def tw16927734774024493166:=True
def tw8841581948182713087:=True
def tw6366293797433336439:=True
def tw17891586796031684774:=True
def tw6777564740213188654:=True
def tw1086457076486903823:=True
def tw10301601342413573354:=True
def tw12387656393165734372:=True
def tw3384106276488724637:=True
def tw2146518402559235314:=True
def tw9123030776597296777:=True
def tw8325163134072992493:=True
def tw7539200138910294968:=True
def tw6413959096969520384:=True
def tw986084110938080300:=True
def tw6441597045107612486:=True
def tw6523754697754280183:=True
def tw12506259058260140358:=True
def tw9261004218707286575:=True
def tw9094938734989774084:=True
def tw14877280981952827228:=True
end PySem.W.Fast
namespace L2
open PySem PySem.Spec PyProof.Rows
abbrev Key:=Sum Int Str
noncomputable def bK:Key->Value->Bool
 | .inl k,v=>Value.isInt k v
 | .inr x,v=>Value.isStrOf x v
noncomputable def Sq(w:World):Key->Int
 | .inl k=>hashInt k
 | .inr x=>hashStr w x
theorem o8:∀{k:Key} {v:Value},bK k v=true->(∃i t,k=Sum.inl i/\v=Value.int i t)\/(∃x t,k=Sum.inr x/\v=Value.str x t)
 | .inl i,v,h=>by
  obtain⟨t,e⟩:=Value.isInt_shape   h;exact .inl ⟨i,t,rfl,e⟩
 | .inr x,v,h=>by
  obtain⟨t,e⟩:=Value.isStrOf_shape   h;exact .inr ⟨x,t,rfl,e⟩
theorem oa(i:Int)(t:Tok):bK (.inl i) (.int i t)=true:=by simp[bK,Value.isInt]
theorem AY(x:Str)(t:Tok):bK (.inr x) (.str x t)=true:=by simp[bK,Value.isStrOf]
theorem OG(a b:Int):decide ((Sum.inl a:Key)=Sum.inl b)=(a == b):=by
 by_cases e:a=b
 ·subst e;simp
 ·have h:¬(Sum.inl a:Key)=Sum.inl b:=λq=>e (Sum.inl.inj q);rw[wl h];exact(beq_eq_false_iff_ne.mpr e).symm
theorem RF(a b:Str):decide ((Sum.inr a:Key)=Sum.inr b)=decide (a=b):=by
 by_cases e:a=b
 ·simp
 ·have h:¬(Sum.inr a:Key)=Sum.inr b:=λq=>e (XG q);rw[wl h,wl e]
theorem OJ(a:Int)(b:Str):decide ((Sum.inl a:Key)=Sum.inr b)=false:=wl (λq=>nomatch q)
theorem QH(a:Str)(b:Int):decide ((Sum.inr a:Key)=Sum.inl b)=false:=wl (λq=>nomatch q)
noncomputable def j6(prog:Program)(w:World):PySem.KeyKind prog w Key where
 is:=bK
 hash:=Sq w
 inj:=λv a b o g=>by
  rcases o8 o with⟨i,t,rfl,rfl⟩ | ⟨x,t,rfl,rfl⟩
  ·rcases o8 g with⟨j,u,rfl,e⟩ | ⟨y,u,rfl,e⟩
   ·injection e with c _;rw[c]
   ·exact nomatch e
  ·rcases o8 g with⟨j,u,rfl,e⟩ | ⟨y,u,rfl,e⟩
   ·exact nomatch e
   ·injection e with c _;rw[c]
 byValue:=λk v h=>by
  rcases o8 h with⟨i,t,rfl,rfl⟩ | ⟨x,t,rfl,rfl⟩<;>rfl
 pyHash:=λd h=>by
  rcases o8 d with⟨i,t,rfl,rfl⟩ | ⟨x,t,rfl,rfl⟩
  ·exact wpAny_pyHash_int h
  ·exact wpAny_pyHash_str h
 eqBool:=λl d h=>by
  rcases o8 l with⟨i,t,rfl,rfl⟩ | ⟨x,t,rfl,rfl⟩
  ·rcases o8 d with⟨j,u,rfl,rfl⟩ | ⟨y,u,rfl,rfl⟩
   ·rw[OG] at h;exact wpAny_eqBool_int h
   ·exact SeqAt.EqAt.int_str i t y u _ _ _ _ h
  ·rcases o8 d with⟨j,u,rfl,rfl⟩ | ⟨y,u,rfl,rfl⟩
   ·exact SeqAt.EqAt.str_int x t j u _ _ _ _ h
   ·rw[RF] at h;exact wpAny_eqBool_str h
 «strs»:=λk x t v h=>by
  rcases o8 h with⟨i,u,rfl,e⟩ | ⟨y,u,rfl,e⟩
  ·exact nomatch e
  ·injection e with c _
   subst c;cases v<;>rfl
theorem tO(prog:Program)(w:World)(i:Int)(t:Tok):(j6 prog w).is (.inl i) (.int i t)=true:=oa i t
theorem vz(prog:Program)(w:World)(x:Str)(t:Tok):(j6 prog w).is (.inr x) (.str x t)=true:=AY x t
theorem uH{E:AAB}(h:Q 0xFCA86420 { s with toks:=s.toks+1 }):wpAny (model prog w) A (pyHash .none) Q E s:=by
 have a:s.TypeIs .none "NoneType":=rfl;refine eH ?_;refine hE (eH (Ye a F.slot_NoneType_hash.lookup ?_));refine eH (Ye a F.slot_NoneType_hash.lookup ?_);show wpAny _ _ (callSpecialIfBoundUnlessNone? .none "__hash__" _ >>= _) Q E s
 refine eH (wpAny_callSpecialIfBoundUnlessNone?_slot a F.slot_NoneType_hash
  (Gc F.slot_NoneType_hash a F.entry_NoneType_hash
   (show wpAny _ _ (do ret (<-mkInt 0xFCA86420)) _ _ s from wpAny_ret_mkInt ?_) (F.args_NoneType_hash_1 _)))
 show wpAny _ _ (if (decide (-(2:Int)^63<=0xFCA86420)&&decide ((0xFCA86420:Int)<2^63))=true then _ else _) Q E _;rw[ux (by decide)];exact hE h
abbrev M3:=Option Key
noncomputable def km:M3->Value->Bool
 | some k,v=>bK k v
 | none,v=>v == .none
noncomputable def SY(w:World):M3->Int
 | some k=>Sq w k
 | none=>0xFCA86420
theorem B8(h:km none v=true):v=.none:=eq_of_beq h
noncomputable def aU(prog:Program)(w:World):PySem.KeyKind prog w M3 where
 is:=km
 hash:=SY w
 inj:=λv a b o l=>by
  cases a with
  | none=>
   cases b with
   | none=>rfl
   | some k=>
    have e:=B8 o;subst e;rcases o8 l with⟨i,t,rfl,e⟩ | ⟨x,t,rfl,e⟩<;>cases e
  | some k=>
   cases b with
   | none=>
    have e:=B8 l;subst e;rcases o8 o with⟨i,t,rfl,e⟩ | ⟨x,t,rfl,e⟩<;>cases e
   | some d=>rw[(j6 prog w).inj v k d o l]
 byValue:=λk v h=>by
  cases k with
  | none=>rw[B8 h];rfl
  | some k=>exact(j6 prog w).byValue k v h
 pyHash:=λ{A E s k v Q} c h=>by
  cases k with
  | none=>rw[B8 c];exact uH h
  | some k=>exact(j6 prog w).pyHash c h
 eqBool:=λ{A E s a b u v Q} j c h=>by
  cases a with
  | none=>
   have e:=B8 j;subst e
   cases b with
   | none=>
    have e:=B8 c;subst e;exact SeqAt.EqAt.same _ _ _ _ _ (by simpa using h)
   | some k=>
    have g:Q false s:=by simpa using h
    rcases o8 c with⟨i,t,rfl,rfl⟩ | ⟨x,t,rfl,rfl⟩
    ·exact SeqAt.EqAt.none_int i t _ _ _ _ g
    ·exact SeqAt.EqAt.none_str x t _ _ _ _ g
  | some k=>
   cases b with
   | none=>
    have e:=B8 c;subst e;have g:Q false s:=by simpa using h
    rcases o8 j with⟨i,t,rfl,rfl⟩ | ⟨x,t,rfl,rfl⟩
    ·exact SeqAt.EqAt.int_none i t _ _ _ _ g
    ·exact SeqAt.EqAt.str_none x t _ _ _ _ g
   | some d=>
    refine(j6 prog w).eqBool j c ?_
    have e:decide ((some k:M3)=some d)=decide (k=d):=by
     by_cases e:k=d
     ·subst e;simp
     ·rw[wl e,wl λq=>e (x2 q)]
    rwa [e] at h
 «strs»:=λk x t v h=>by
  cases k with
  | none=>cases B8 h
  | some k=>exact(j6 prog w).strs k x t v h
inductive V where
 | o6 | bl (b:Bool) | int (i:Int) | str (x:Str) | byt (b:Array UInt8) | flt (b:UInt64) | ref (a:Addr) | ty (n:String)
 deriving DecidableEq
def RelV:V->Value->Prop
 | .o6,u=>u=Value.none
 | .bl b,u=>u=Value.bool b
 | .int i,u=>∃t,u=Value.int i t
 | .str x,u=>∃t,u=Value.str x t
 | .byt b,u=>∃t,u=Value.bytes b t
 | .flt b,u=>∃t,u=Value.float b t
 | .ref a,u=>u=Value.ref a
 | .ty n,u=>u=Value.type n
abbrev Vals:List V->ZU->Prop:=Paired RelV
theorem Vals.length(r:Vals xs a):xs.length=a.length:=Zv r
theorem Vals.get:∀{xs:List V} {a:ZU} {i:Nat} {x:V},Vals xs a->xs[i]?=some x->∃u,a[i]?=some u/\RelV x u
 | _,_,_,_,.nil,e=>by simp at e
 | _,_,0,_,.cons r _,e=>by simp at e;subst e;exact⟨_,rfl,r⟩
 | _,_,i+1,x,.cons _ t,e=>by
  obtain⟨u,c,b⟩:=Vals.get   t (by simpa using e);exact⟨u,by simpa using c,b⟩
theorem Vals.set(r:RelV x u):∀{xs:List V} {a:ZU} (i:Nat),Vals xs a->Vals (xs.set i x) (a.set i u)
 | _,_,_,.nil=>.nil
 | _,_,0,.cons _ t=>.cons r t
 | _,_,i+1,.cons q t=>.cons q (Vals.set r i t)
theorem Vals.append:∀{xs ys:List V} {b a:ZU},Vals xs b->Vals ys a->Vals (xs++ys) (b++a)
 | _,_,_,_,.nil,s=>s
 | _,_,_,_,.cons r t,s=>.cons r (Vals.append t s)
theorem Vals.take:∀{xs:List V} {a:ZU} (n:Nat),Vals xs a->Vals (xs.take n) (a.take n)
 | _,_,0,_=>.nil
 | _,_,_+1,.nil=>.nil
 | _,_,n+1,.cons r t=>.cons r (Vals.take n t)
theorem Vals.drop:∀{xs:List V} {a:ZU} (n:Nat),Vals xs a->Vals (xs.drop n) (a.drop n)
 | _,_,0,r=>r
 | _,_,_+1,.nil=>.nil
 | _,_,n+1,.cons _ t=>Vals.drop n t
def dS:Option V->AAE->Prop
 | some v,some u=>RelV v u
 | none,none=>True
 | _,_=>False
def KV:List (a×V)->List (a×Value)->Prop:=Paired λ(p:a×V) (q:a×Value)=>p.1=q.1/\RelV p.2 q.2
noncomputable def kV:Key->V
 | .inl i=>.int i
 | .inr x=>.str x
inductive HO where
 /-- a list -/
 | lst (xs:List V)
 /-- a tuple (never changes) -/
 | tup (xs:List V)
 /-- a dict whose keys are ints and texts;one whose keys are tuples of ints and texts (the empty one is both) -/
 | dK (kvs:List (Key×V)) | dE (kvs:List (Key×V)) (ep:Nat) | dN (kvs:List (M3×V)) | dT (kvs:List (List Key×V))
 /-- a set of ints: its members,its size -/
 | set (S:Key->Bool) (n:Nat)
 /-- an instance of the class at C,its dict at dx,its attributes -/
 | ins (C dx:Addr) (fs:List (Str×V))
 /-- the dict of the instance at x -/
 | own (x:Addr)
 /-- the dict of an exception -/
 | xd (fs:List (Str×V))
 /-- a bound method,f of x -/
 | met (f x:Addr)
 /-- a range object lo,lo+1,.. below hi -/
 | rng (lo hi:Int)
 /-- a thing that is known to the object (the script;a dict while a loop walks it): read,never written while it is so -/
 | frz (o:Obj) (u:HO)
 /-- a code object's table -/
 | tbl (ps:ZY)
 /-- any other thing,by what is true of its one object (a def of one's own: SetO a S n:=HO.ext fun h=>..) -/
 | ext (φ:Heap->Prop)
abbrev Hp:=Addr->Option HO
noncomputable def upd(H:Hp)(a:Addr)(o:HO):Hp:=λb=>if b=a then some o else H b
theorem c8:upd H a o a=some o:=by unfold upd;rw[ux rfl]
theorem i3(h:b≠a):upd H a o b=H b:=by unfold upd;rw[uk h]
theorem aA:upd (upd H a o) a u=upd H a u:=by
 funext b;unfold upd;split<;>rfl
theorem qJ{H:Hp}(h:H a=some o)(h':H b=some u)(d:o≠u):a≠b:=by
 intro e;subst e;rw[h] at h';exact d (x2 h')
theorem t9{H:Hp}(h:H a=some o)(h':H b=none):a≠b:=by
 intro e;subst e;rw[h] at h';cases h'
section
variable(P:Program)(w:World)
def u9(H:Hp)(h:Heap)(a:Addr):HO->Prop
 | .lst d=>d.length<=sizeLine/\∃(c:ZU) (n:Nat),Vals d c/\h.get? a=some { cls:=.type "list",data:=.seq c.toArray n }
 | .tup d=>d.length<=sizeLine/\∃c:ZU,Vals d c/\IsTup h a c.toArray
 | .dK b=>b.length<=sizeLine/\(a == sysModules)=false/\∃vs,KV b vs/\h.DictOf (j6 P w) a vs
 | .dE b j=>b.length<=sizeLine/\(a == sysModules)=false/\∃vs,KV b vs/\h.DictAt (j6 P w) a vs j
 | .dN b=>b.length<=sizeLine/\(a == sysModules)=false/\∃vs,KV b vs/\h.DictOf (aU P w) a vs
 | .dT b=>b.length<=sizeLine/\(a == sysModules)=false/\∃d:List (List Key×Addr×Value),
   Paired (λ(p:List Key×V) (q:List Key×Addr×Value)=>p.1=q.1/\H q.2.1=some (.tup (p.1.map kV))/\RelV p.2 q.2.2) b d /\
   ∃o y j,h.get? a=some o/\o.ExactDict/\o.data=.dict y j/\y.toList=d.map (entryOfKey (tupleKind (j6 P w)))/\(d.map (·.1)).Nodup
 | .set S n=>h.SetOf (j6 P w) a S n
 | .ins C g fs=>H g=some (.own a)/\fs.length<=1000/\g≠a/\h.get? a=some (PySem.W.instObj C g) /\
   ∃e,h.Ns1 g e/\(∀f,dS (fs.lookup f) (e f))/\PySem.Within e (fs.map (·.1))
 | .own _=>∃o,h.get? a=some o
 | .xd fs=>∃e,h.Ns1 a e/\∀f,dS (fs.lookup f) (e f)
 | .rng lo B=>∃t u v,h.get? a=some { cls:=.type "range",data:=.fields #[.int lo t,.int B u,.int 1 v] }
 | .frz o u=>h.get? a=some o/\u9 H h a u
 | .tbl z=>h.get? a=some { cls:=.none,data:=.fields z }
 | .met f x=>h.get? a=some (PySem.W.methodObj (.ref f) (.ref x))
 | .ext i=>i h/\(∃o,h.get? a=some o)/\∀r l,i r->(∀o,r.get? a=some o->l.get? a=some o)->i l
def cG(H:Hp)(h:Heap):Prop:=∀a o,H a=some o->u9 P w H h a o
end
section
variable{P:Program}{w:World}{H H':Hp}{h h':Heap}{a:Addr}{o:HO}
theorem u9.lt(x:u9 P w H h a o):a<h.objs.size:=by
 cases o with
 | lst c=>obtain⟨_,_,_,_,e⟩:=x;exact vu e
 | tup c=>obtain⟨_,_,_,p⟩:=x;exact p.lt
 | dK b=>obtain⟨_,_,_,_,o,_,_,e,_⟩:=x;exact vu e
 | dE b j=>obtain⟨_,_,_,_,o,_,e,_⟩:=x;exact vu e
 | dN b=>obtain⟨_,_,_,_,o,_,_,e,_⟩:=x;exact vu e
 | dT b=>obtain⟨_,_,_,_,o,_,_,e,_⟩:=x;exact vu e
 | set S n=>obtain⟨o,_,_,_,e,_⟩:=x;exact vu e
 | ins C l fs=>obtain⟨_,_,_,e,_⟩:=x;exact vu e
 | own y=>obtain⟨_,e⟩:=x;exact vu e
 | xd fs=>obtain⟨_,⟨_,_,_,e,_⟩,_⟩:=x;exact vu e
 | rng lo i=>obtain⟨_,_,_,e⟩:=x;exact vu e
 | frz ob u=>obtain⟨e,_⟩:=x;exact vu e
 | tbl g=>exact vu (x)
 | met f y=>exact vu (x)
 | ext d=>obtain⟨_,⟨_,e⟩,_⟩:=x;exact vu e
theorem Paired.Px:∀{d:List g} {c:List e},Paired F d c->(∀a b,F a b->G a b)->Paired G d c
 | _,_,.nil,_=>.nil
 | _,_,.cons r t,f=>.cons (f _ _ r) (Paired.Px t f)
theorem u9.fH(x:u9 P w H h a o)(k:∀b u,(b=a\/H b=some (.own a))->h.get? b=some u->h'.get? b=some u)
  (M:∀b,H b=some (.own a)->H' b=some (.own a)) (J:∀b xs,H b=some (.tup xs)->H' b=some (.tup xs)):u9 P w H' h' a o:=by
 induction o with
 | lst xs=>obtain⟨z,l,n,r,e⟩:=x;exact⟨z,l,n,r,k _ _ (.inl rfl) e⟩
 | tup xs=>obtain⟨z,l,r,ob,e,c⟩:=x;exact⟨z,l,r,ob,k _ _ (.inl rfl) e,c⟩
 | dK j=>obtain⟨z,y,vs,r,ob,g,i,e,c⟩:=x;exact⟨z,y,vs,r,ob,g,i,k _ _ (.inl rfl) e,c⟩
 | dN j=>obtain⟨z,y,vs,r,ob,g,i,e,c⟩:=x;exact⟨z,y,vs,r,ob,g,i,k _ _ (.inl rfl) e,c⟩
 | dE j i=>obtain⟨z,y,vs,r,ob,g,e,c⟩:=x;exact⟨z,y,vs,r,ob,g,k _ _ (.inl rfl) e,c⟩
 | dT j=>
  obtain⟨z,y,xs,r,ob,g,i,e,c⟩:=x;exact⟨z,y,xs,Paired.Px r λp q z=>⟨z.1,J _ _ z.2.1,z.2.2⟩,ob,g,i,k _ _ (.inl rfl) e,c⟩
 | set S n=>obtain⟨ob,g,i,t,e,c⟩:=x;exact⟨ob,g,i,t,k _ _ (.inl rfl) e,c⟩
 | ins C T fs=>
  obtain⟨d,z,ne,e,E,⟨B,g,i,O,c⟩,r⟩:=x;exact⟨M _ d,z,ne,k _ _ (.inl rfl) e,E,⟨B,g,i,k _ _ (.inr d) O,c⟩,r⟩
 | own y=>obtain⟨ob,e⟩:=x;exact⟨ob,k _ _ (.inl rfl) e⟩
 | xd fs=>obtain⟨E,⟨B,g,i,e,c⟩,r⟩:=x;exact⟨E,⟨B,g,i,k _ _ (.inl rfl) e,c⟩,r⟩
 | rng lo R=>obtain⟨t,u,v,e⟩:=x;exact⟨t,u,v,k _ _ (.inl rfl) e⟩
 | frz ob u I=>obtain⟨e,q⟩:=x;exact⟨k _ _ (.inl rfl) e,I q⟩
 | tbl G=>
  have e:=x;exact k a _ (.inl rfl) e
 | met f y=>
  have e:=x;exact k a _ (.inl rfl) e
 | ext Q=>obtain⟨p,⟨o,e⟩,st⟩:=x;exact⟨st _ _ p λo q=>k _ _ (.inl rfl) q,⟨o,k _ _ (.inl rfl) e⟩,st⟩
theorem cG.lt(x:cG P w H h)(e:H a=some o):a<h.objs.size:=(x a o e).lt
theorem cG.fresh(x:cG P w H h)(e:h.objs.size<=a):H a=none:=by
 cases q:H a with
 | none=>rfl
 | some u=>exact absurd (ww (x.lt q) e) (XR _)
theorem cG.kept(x:cG P w H h)(k:∀b u,h.get? b=some u->h'.get? b=some u):cG P w H h':=λa o e=>
 (x a o e).fH (λb u _ q=>k b u q) (λ_ q=>q) λ_ _ q=>q
theorem cG.laid(x:cG P w H h)(k:∀b u,h.get? b=some u->h'.get? b=some u)(i:h.objs.size<=a)(new:u9 P w (upd H a o) h' a o):cG P w (upd H a o) h':=λb u e=>by
 have d:=x.fresh i
 by_cases g:b=a
 ·subst g;rw[c8] at e;cases e;exact new
 ·rw[i3 g] at e;exact(x b u e).fH (λc v _ q=>k c v q) (λc q=>by rwa[i3 (t9 q d)]) λc j q=>by rwa[i3 (t9 q d)]
end
def Dd(H:Hp)(a:Addr)(kvs:List (Key×V)):Prop:=H a=some (.dK kvs)\/∃b,H a=some (.dE kvs b)
theorem Dd.ok(r:Dd H a kvs)(x:cG P w H h):u9 P w H h a (.dK kvs):=by
 rcases r with r | ⟨c,r⟩
 ·exact x a _ r
 ·obtain⟨z,y,vs,b,d⟩:=(x a _ r)
  exact⟨z,y,vs,b,d.dictOf⟩
def Rd(H:Hp)(a:Addr)(u:HO):Prop:=H a=some u\/∃o,H a=some (.frz o u)
theorem Rd.of(h:H a=some u):Rd H a u:=.inl h
theorem Rd.ok(r:Rd H a u)(x:cG P w H h):u9 P w H h a u:=by
 rcases r with r | ⟨o,r⟩
 ·exact x a u r
 ·obtain⟨_,q⟩:=x a _ r;exact q
def fw:Option HO->Prop
 | some (.lst _)=>True
 | some (.dK _)=>True
 | some (.dE _ _)=>True
 | some (.dN _)=>True
 | some (.dT _)=>True
 | some (.set _ _)=>True
 | some (.ins _ _ _)=>True
 | some (.ext _)=>True
 | _=>False
theorem Dd.mut(r:Dd H a kvs):fw (H a):=by
 rcases r with r | ⟨b,r⟩<;>(rw[r];exact True.intro)
section
variable{P:Program}{w:World}{H:Hp}{h h':Heap}{x e:Addr}{o':HO}
theorem cG.write(ok:cG P w H h)(j:fw (H x))(C:e=x\/H e=some (.own x))(k:∀b u,b≠e->h.get? b=some u->h'.get? b=some u)(p:∃u,h'.get? e=some u)
  (new:u9 P w (upd H x o') h' x o'):cG P w (upd H x o') h':=λb u q=>by
 have d:∀c y,H c=some (.own y)->c≠x:=λc y r z=>by subst z;rwa[r] at j
 have g:∀c i,H c=some (.tup i)->c≠x:=λc i r z=>by subst z;rwa[r] at j
 by_cases o:b=x
 ·subst o;rw[c8] at q;cases q;exact new
 ·rw[i3 o] at q
  by_cases a:b=e
  ·have B:H b=some (.own x):=by
    rcases C with z | z
    ·exact absurd (a.trans z) o
    ·rwa[a]
   rw[q] at B;cases B;obtain⟨v,E⟩:=p;exact⟨v,by rwa[a]⟩
  ·refine(ok b u q).fH (λc v l r=>k c v ?_ r) (λc r=>by rwa[i3 (d c b r)]) λc i r=>by rwa[i3 (g c i r)]
   rcases l with rfl | l
   ·exact a
   ·rintro rfl;rcases C with z | z
    ·exact d c b l z
    ·rw[l] at z;cases z;exact o rfl
end
structure Un(fs ex:ZS)(H H':Hp)(h h':Heap):Prop where
 keep:∀b o,h.get? b=some o->H b=none->b∉fs->b∉ex->h'.get? b=some o
 slot:∀b o,h.get? b=some o->H b=none->b∈fs->b∉ex->∃sl,h'.get? b=some { o with slots:=sl }
 free:∀b o,h.get? b=some o->H b=none->b∉ex->H' b=none
 there:∀b o,h.get? b=some o->b∉ex->∃o',h'.get? b=some o'
 T7:∀b xs,H b=some (.tup xs)->H' b=some (.tup xs)
 frzs:∀b o u,H b=some (.frz o u)->H' b=some (.frz o u)
 tbls:∀b ps,H b=some (.tbl ps)->∃more,H' b=some (.tbl (ps++more))
section
variable{fs fs' ex ex':ZS}{H H1 H2:Hp}{h h1 h2 h':Heap}{a x e:Addr}{o:HO}
theorem Un.any(u:Un fs ex H H1 h h1)(q:h.get? b=some ob)(n:H b=none)(c:b∉ex):∃g,h1.get? b=some { ob with slots:=g }:=by
 by_cases d:b∈fs
 ·exact u.slot b ob q n d c
 ·exact⟨ob.slots,u.keep b ob q n d c⟩
theorem Un.trans(a:Un fs ex H H1 h h1)(b:Un fs ex H1 H2 h1 h2):Un fs ex H H2 h h2 where
 keep:=λc ob q n j d=>b.keep c ob (a.keep c ob q n j d) (a.free c ob q n d) j d
 slot:=λc ob q n j d=>by
  obtain⟨y,g⟩:=a.slot c ob q n j d;obtain⟨l,r⟩:=b.slot c _ g (a.free c ob q n d) j d;exact⟨l,r⟩
 free:=λc ob q n d=>by
  obtain⟨p,g⟩:=a.there c ob q d;exact b.free c p g (a.free c ob q n d) d
 there:=λc ob q d=>by
  obtain⟨p,g⟩:=a.there c ob q d;exact b.there c p g d
 T7:=λc i q=>b.T7 c i (a.T7 c i q)
 frzs:=λc ob i q=>b.frzs c ob i (a.frzs c ob i q)
 tbls:=λc u q=>by
  obtain⟨v,g⟩:=a.tbls c u q;obtain⟨m2,r⟩:=b.tbls c _ g;exact⟨v++m2,by rw[r,Array.append_assoc]⟩
theorem Un.kept(k:∀b u,h.get? b=some u->h'.get? b=some u):Un fs ex H H h h':=
 ⟨λb ob q _ _ _=>k b ob q,λb ob q _ _ _=>⟨ob.slots,k b ob q⟩,λ_ _ _ n _=>n,λb ob q _=>⟨ob,k b ob q⟩,λ_ _ q=>q,λ_ _ _ q=>q,λ_ c q=>⟨#[],by rw[q];simp⟩⟩
theorem Un.refl:Un fs ex H H h h:=Un.kept λ_ _ q=>q
theorem Un.laid(k:∀b u,h.get? b=some u->h'.get? b=some u)(g:h.objs.size<=a)(c:H a=none):Un fs ex H (upd H a o) h h' where
 keep:=λb u q _ _ _=>k b u q
 slot:=λb u q _ _ _=>⟨u.slots,k b u q⟩
 free:=λb u q n _=>by rwa[i3 (v6 (ww (vu q) g))]
 there:=λb u q _=>⟨u,k b u q⟩
 T7:=λb d q=>by rwa[i3 (t9 q c)]
 frzs:=λb u d q=>by rwa[i3 (t9 q c)]
 tbls:=λb i q=>⟨#[],by rw[i3 (t9 q c),q];simp⟩
theorem Un.write(d:fw (H x))(v:e=x\/H e=some (.own x))(k:∀b u,b≠e->h.get? b=some u->h'.get? b=some u)(i:∃u,h'.get? e=some u):Un fs ex H (upd H x o) h h':=by
 have j:∀b,H b=none->b≠x:=λb n z=>by subst z;rwa[n] at d
 have l:∀b,H b=none->b≠e:=λb n z=>by
  subst z;rcases v with r | r
  ·exact j b n r
  ·rw[n] at r;cases r
 have g:∀b u,H b=some u->¬fw (some u)->b≠x:=λb u q nm z=>by subst z;rw[q] at d;exact nm d
 refine⟨λb u q n _ _=>k b u (l b n) q,λb u q n _ _=>⟨u.slots,k b u (l b n) q⟩,λb u q n _=>by rwa[i3 (j b n)],λb u q _=>?_,
  λb p q=>by rwa[i3 (g b _ q λz=>z)],λb u p q=>by rwa[i3 (g b _ q λz=>z)],λb y q=>⟨#[],by rw[i3 (g b _ q λz=>z),q];simp⟩⟩
 by_cases c:b=e
 ·subst c;exact i
 ·exact⟨u,k b u c q⟩
theorem Un.mono(u:Un fs ex H H1 h h1)(g:∀b∈fs,b∈fs')(d:∀b∈ex,b∈ex'):Un fs' ex' H H1 h h1:=
 ⟨λb ob q n i c=>u.keep b ob q n (λz=>i (g b z)) λz=>c (d b z),λ_ _ q n _ c=>u.any q n λz=>c (d _ z),λb ob q n c=>u.free b ob q n λz=>c (d b z),λb ob q c=>u.there b ob q λz=>c (d b z),u.T7,u.frzs,u.tbls⟩
end
noncomputable def fu(h:Heap)(H:Hp):ZS:=(List.range h.objs.size).filter λa=>(H a).isSome
noncomputable def pG(h:Heap)(H:Hp):Heap:=PySem.W.hideAll h (fu h H)
theorem Df(h:Heap)(H:Hp):(pG h H).objs.size=h.objs.size:=PySem.W.hideAll_size _ _
theorem Hn(e:h.get? b=some o)(n:H b=none):(pG h H).get? b=some o:=
 PySem.W.hideAll_get _ e λa=>by
  have q:=(List.mem_filter.mp a).2;rw[n] at q;simp at q
theorem KJ(e:(pG h H).get? b=some o):h.get? b=some o/\H b=none:=by
 have a:=PySem.W.of_hideAll (fu h H) e;refine⟨a,?_⟩
 cases q:H b with
 | none=>rfl
 | some x=>
  have c:b∈fu h H:=List.mem_filter.mpr ⟨List.mem_range.mpr (vu a),by simp[q]⟩;have z:(pG h H).get? b=none:=PySem.W.hideAll_none (fu h H) c;rw[z] at e;cases e
structure Mod(K:AAD)(mg:ZZ)(base:Heap):Prop where
 kin:K.In base
 glob:base.Ns mainGlobals mg
 blt:∃mb,base.Ns builtinsNs mb/\∀x:Str,x ≠ "__name__"->mb x=bootBuiltins x
 nolimit:base.NoLimit
structure Cx where
 prog:Program
 w:World
 K:AAD
 mg:Str->AAE
 base:Heap
 A:Around
 N:ZT
 s₀:Shared
 H₀:Hp
 env:Env
 outer:List Env
 stack:List Env
 ex:ZS
 fn:Str->Bool
 calm:Bool
 pn:ZO
 xe:Value->Shared->Prop
noncomputable def yd(l:List Env):ZS:=l.filterMap (·.frame)
abbrev Cx.fs(X:Cx):ZS:=yd X.outer
def RN(a:Scope)(x:Str):Prop:=a.names.lookup x=some .local\/a.names.lookup x=some .cell\/a.names.lookup x=some .free
def Loc(a:Scope)(x:Str):Prop:=a.names.lookup x=some .local\/a.names.lookup x=some .cell
def Look(env:Env)(h:Heap)(m:ZZ)(x:Str)(u:Value):Prop:=
 (env.kindOf x=some .local/\m x=some u)\/((env.kindOf x=some .cell\/env.kindOf x=some .free)/\∃c,env.cells.lookup x=some c/\h.IsCell c (some u))
structure Cx.Ok(X:Cx):Prop where
 mod:Mod X.K X.mg X.base
 kind:X.env.scope.kind=.function
 glob:X.env.globals=mainGlobals
 blt:X.env.builtins=builtinsNs
 above:X.s₀.heap.objs.size<=X.env.locals
 inj:∀x y c,X.env.cells.lookup x=some c->X.env.cells.lookup y=some c->x=y
 has:∀x,(X.env.kindOf x=some .cell\/X.env.kindOf x=some .free)->∃c,X.env.cells.lookup x=some c
 cab:∀x c,X.fn x=true->X.env.cells.lookup x=some c->X.s₀.heap.objs.size<=c
 hd:X.calm=true->X.A.handled=none
 frames:X.A.frames=some X.stack
 stk:X.stack=X.outer\/(X.stack=X.env::X.outer/\X.env.frame=some X.env.locals)
 exf:∀b∈X.ex,b≠X.env.locals/\∀x c,X.env.cells.lookup x=some c->c≠b
 bs:∀b o,X.base.get? b=some o->X.s₀.heap.get? b=some o/\X.H₀ b=none
 bsz:X.base.objs.size<=X.s₀.heap.objs.size
 noex:∀b o,X.base.get? b=some o->b∉X.ex
 exfs:∀b∈X.ex,b∉X.fs
 gQ:X.s₀.heap.FunFrames X.base X.outer
 frf:∀b∈X.fs,X.H₀ b=none
structure Inv(X:Cx)(pins:ZO)(σ:List (Option V))(H:Hp)(s:Shared):Prop where
 ok:X.Ok
 os:s.os=X.s₀.os
 bare:AllBare s.gens
 base:Un X.fs X.ex X.H₀ H X.s₀.heap s.heap
 loc:∃m,s.heap.Ns X.env.locals m/\∀(i:Nat) (x:Str) (v:V),X.N[i]?=some x->σ[i]?=some (some v)->RN X.env.scope x->∃u,RelV v u/\Look X.env s.heap m x u
 cell:∀x c,X.env.cells.lookup x=some c->∃v,s.heap.IsCell c v
 free:H X.env.locals=none
 freeC:∀x c,X.env.cells.lookup x=some c->H c=none
 pin:∀p∈X.pn++pins,s.heap.get? p.1=some p.2/\H p.1=none/\p.1≠X.env.locals/\p.1∉X.fs/\∀v,p.2.data≠.cell v
 hok:cG X.prog X.w H s.heap
 len:σ.length=X.N.length
section
variable{X:Cx}{pins:ZO}{σ:List (Option V)}{H H':Hp}{s:Shared}{h':Heap}
theorem Cx.Ok.Vf(ok:X.Ok)(e:X.base.get? b=some o):b∉X.fs:=λa=>by
 have:=(ok.gQ.mem a).1;rw[e] at this;cases this
theorem Inv.bs(I:Inv X pins σ H s):∀b o,X.base.get? b=some o->s.heap.get? b=some o/\H b=none:=λb o e=>
 ⟨I.base.keep b o (I.ok.bs b o e).1 (I.ok.bs b o e).2 (I.ok.Vf e) (I.ok.noex b o e),I.base.free b o (I.ok.bs b o e).1 (I.ok.bs b o e).2 (I.ok.noex b o e)⟩
theorem Inv.bk(I:Inv X pins σ H s):∀b o,X.base.get? b=some o->s.heap.get? b=some o:=λb o e=>(I.bs b o e).1
theorem Inv.mod(I:Inv X pins σ H s):Mod X.K X.mg X.base:=I.ok.mod
theorem Inv.ur(I:Inv X pins σ H s):X.K.In s.heap:=I.ok.mod.kin.keeps I.bk
theorem Inv.lt(I:Inv X pins σ H s):X.env.locals<s.heap.objs.size:=let ⟨_,a,_⟩:=I.loc;a.lt
theorem Inv.sz(I:Inv X pins σ H s):X.s₀.heap.objs.size<=s.heap.objs.size:=GM I.ok.above (SL I.lt)
theorem Inv.Vt(I:Inv X pins σ H s){a:Addr}(h:s.heap.objs.size<=a):a∉X.fs:=λc=>by
 obtain⟨_,o,b,_⟩:=I.ok.gQ.mem c;exact absurd (ww (vu b) (GM I.sz h)) (XR _)
theorem Inv.OU(I:Inv X pins σ H s):∀x c,X.env.cells.lookup x=some c->c≠X.env.locals:=λx c e z=>by
 obtain⟨v,o,d,hd⟩:=I.cell x c e;obtain⟨m,⟨g,h,i,a,b,_⟩,_⟩:=I.loc;rw[z,a] at d;cases d;rw[b] at hd;cases hd
theorem Inv.gQ(I:Inv X pins σ H s):s.heap.FunFrames X.base X.outer:=by
 have all:∀(l:List Env),(∀b∈yd l,b∈X.fs)->X.s₀.heap.FunFrames X.base l->s.heap.FunFrames X.base l:=by
  intro l
  induction l with
  | nil=>intro _ _;trivial
  | cons env r h=>
   intro g q;obtain⟨u,⟨L,o,a,p,j,hd⟩,i⟩:=q;have d:=g L (by unfold yd;rw[XQ,a];exact hQ);obtain⟨v,e⟩:=I.base.slot L o j (I.ok.frf L d) d λz=>I.ok.exfs L z d;exact⟨u,⟨L,_,a,p,e,hd⟩,h (λb c=>g b (by unfold yd;rw[XQ,a];exact hH _ c)) i⟩
 exact all X.outer (λ_ c=>c) I.ok.gQ
theorem Inv.stack(I:Inv X pins σ H s):s.heap.FunFrames X.base X.stack:=by
 rcases I.ok.stk with e | ⟨e,b⟩
 ·rw[e];exact I.gQ
 ·rw[e];obtain⟨m,a,_⟩:=I.loc;exact .cons (by rw[I.ok.kind];decide) b a (Heap.get?_none_of_le (GM I.ok.bsz I.ok.above)) I.gQ
theorem Inv.yu(I:Inv X pins σ H s):∀b∈yd X.stack,b∈X.env.locals::X.fs:=λb a=>by
 rcases I.ok.stk with e | ⟨e,c⟩
 ·rw[e] at a;exact hH _ a
 ·rw[e] at a;unfold yd at a;rwa[XQ,c] at a
theorem Inv.AH(I:Inv X pins σ H s):∀b∈yd X.stack,H b=none:=λb a=>by
 rcases List.mem_cons.mp (I.yu b a) with e | a
 ·rw[e];exact I.free
 ·obtain⟨_,o,c,_⟩:=I.ok.gQ.mem a;exact I.base.free b o c (I.ok.frf b a) λz=>I.ok.exfs b z a
theorem Inv.step{ch:ZS}(I:Inv X pins σ H s)
  (h:∀b∈ch,(b∈X.ex\/X.s₀.heap.objs.size<=b)/\b≠X.env.locals/\(∀x c,X.env.cells.lookup x=some c->c≠b)/\∀p∈X.pn++pins,p.1≠b)
  (keep:∀b o,b≠X.env.locals->b∉X.fs->b∉ch->s.heap.get? b=some o->H b=none->h'.get? b=some o)
  (slot:∀b o,b≠X.env.locals->b∈X.fs->b∉ch->s.heap.get? b=some o->H b=none->∃Q,h'.get? b=some { o with slots:=Q }) (free:∀b o,b∉ch->s.heap.get? b=some o->H b=none->H' b=none)
  (there:∀b o,b∉ch->s.heap.get? b=some o->∃G,h'.get? b=some G)
  (T7:∀b xs,H b=some (.tup xs)->H' b=some (.tup xs)) (frzs:∀b o u,H b=some (.frz o u)->H' b=some (.frz o u)) (tbls:∀b ps,H b=some (.tbl ps)->∃more,H' b=some (.tbl (ps++more)))
  (ns:∀m,s.heap.Ns X.env.locals m->h'.Ns X.env.locals m) (hok:cG X.prog X.w H' h') (hg:AllBare g') :
  Inv X pins σ H' { s with heap:=h',gens:=g',drawn:=d',toks:=t' }:=by
 have J:∀b o,X.s₀.heap.get? b=some o->b≠X.env.locals:=λb o e=>v6 (ww (vu e) I.ok.above)
 have y:∀b o,X.s₀.heap.get? b=some o->b∉X.ex->b∉ch:=λb o e a C=>by
  rcases(h b C).1 with z | z
  ·exact a z
  ·exact absurd (ww (vu e) z) (XR _)
 have j:∀x c,X.env.cells.lookup x=some c->∀v,s.heap.IsCell c v->h'.IsCell c v:=λx c e v ⟨o,E,hd⟩=>by
  have g:=λz=>(h c z).2.2.1 x c e rfl
  by_cases T:c∈X.fs
  ·obtain⟨Q,q⟩:=slot c o (I.OU x c e) T g E (I.freeC x c e);exact⟨_,q,hd⟩
  ·exact⟨o,keep c o (I.OU x c e) T g E (I.freeC x c e),hd⟩
 refine⟨I.ok,I.os,hg,⟨λb o e n C a=>(keep b o (J b o e) C (y b o e a) (I.base.keep b o e n C a) (I.base.free b o e n a)),λb o e n C a=>?_,λb o e n a=>?_,λb o e a=>?_,λb xs e=>T7 b xs (I.base.T7 b xs e),λb o xs e=>frzs b o xs (I.base.frzs b o xs e),λb ps e=>?_⟩,?_,λx c e=>?_,?_,λx c e=>?_,λp S=>?_,hok,I.len⟩
 ·obtain⟨Q,B⟩:=I.base.slot b o e n C a;obtain⟨O,M⟩:=slot b _ (J b o e) C (y b o e a) B (I.base.free b o e n a);exact⟨O,M⟩
 ·obtain⟨G,B⟩:=I.base.there b o e a;exact free b G (y b o e a) B (I.base.free b o e n a)
 ·obtain⟨G,B⟩:=I.base.there b o e a;exact there b G (y b o e a) B
 ·obtain⟨U,B⟩:=I.base.tbls b ps e;obtain⟨m2,M⟩:=tbls b _ B;exact⟨U++m2,by rw[M,Array.append_assoc]⟩
 ·obtain⟨m,Y,hl⟩:=I.loc;refine⟨m,ns m Y,λi x v B M e3=>?_⟩;obtain⟨u,r,l⟩:=hl i x v B M e3;refine⟨u,r,?_⟩;rcases l with l | ⟨k,c,e,z⟩
  ·exact .inl l
  ·exact .inr ⟨k,c,e,j x c e _ z⟩
 ·obtain⟨v,z⟩:=I.cell x c e;exact⟨v,j x c e v z⟩
 ·obtain⟨m,⟨o,_,_,E,_⟩,_⟩:=I.loc;exact free _ o (λz=>(h _ z).2.1 rfl) E I.free
 ·obtain⟨v,o,E,hd⟩:=I.cell x c e;exact free c o (λz=>(h c z).2.2.1 x c e rfl) E (I.freeC x c e)
 ·obtain⟨e,n,ne,R,d⟩:=I.pin p S;have g:=λz=>(h p.1 z).2.2.2 p S rfl;exact⟨keep p.1 p.2 ne R g e n,free p.1 p.2 g e n,ne,R,d⟩
theorem Inv.un(I:Inv X pins σ H s)(u:Un X.fs [] H H' s.heap h')(hok:cG X.prog X.w H' h'):Inv X pins σ H' { s with heap:=h',toks:=t' }:=by
 obtain⟨m,⟨o,x,y,h,r⟩,_⟩:=id I.loc;obtain⟨p,l⟩:=u.any h I.free (by simp)
 exact I.step   (ch:=[]) (λ_ z=>nomatch z) (λb o _ c _ e n=>u.keep b o e n c (by simp)) (λb o _ c _ e n=>u.slot b o e n c (by simp)) (λb o _ e n=>u.free b o e n (by simp)) (λb o _ e=>u.there b o e (by simp)) u.T7 u.frzs u.tbls (λv j=>by
  obtain⟨q,d,g,a,i⟩:=j;rw[h] at a;cases a;exact⟨_,d,g,l,i⟩) hok I.bare
theorem Inv.call(I:Inv X pins σ H s)(u:Un (yd X.stack) ch H H' s.heap h')(hok:cG X.prog X.w H' h')(y:AllBare g')
  (g:∀b∈ch,(b∈X.ex\/X.s₀.heap.objs.size<=b)/\b≠X.env.locals/\(∀x c,X.env.cells.lookup x=some c->c≠b)/\∀p∈X.pn++pins,p.1≠b) :
  Inv X pins σ H' { s with heap:=h',gens:=g',drawn:=d',toks:=t' }:=by
 obtain⟨m,⟨o,J,M,l,r⟩,_⟩:=id I.loc;obtain⟨C,h⟩:=u.any l I.free λz=>(g _ z).2.1 rfl
 exact I.step  g (λb o h B a e n=>u.keep b o e n (λz=>(List.mem_cons.mp (I.yu b z)).elim h B) a) (λb o _ _ a e n=>u.any e n a) (λb o a e n=>u.free b o e n a) (λb o a e=>u.there b o e a) u.T7 u.frzs u.tbls (λG v=>by
  obtain⟨E,i,j,d,q⟩:=v;rw[l] at d;cases d;exact⟨_,i,j,h,q⟩) hok y
theorem Inv.turned(I:Inv X pins σ H s)(k:∀b o,b≠it->s.heap.get? b=some o->h'.get? b=some o)(i:H it=none)(g:it≠X.env.locals)
  (C:it∈X.ex\/X.s₀.heap.objs.size<=it) (B:∀x c,X.env.cells.lookup x=some c->c≠it) (y:∀p∈X.pn++pins,p.1≠it):Inv X pins σ H { s with heap:=h',toks:=t' }:=by
 have d:∀b u,H b=some u->b≠it:=λb u e z=>by rw[z,i] at e;cases e
 refine I.step   (ch:=[it]) (λb l=>?_) (λb o _ _ a e _=>k b o (λz=>a (by simp[z])) e) (λb o _ _ a e _=>⟨o.slots,k b o (λz=>a (by simp[z])) e⟩) (λ_ _ _ _ n=>n)
  (λb o a e=>⟨o,k b o (λz=>a (by simp[z])) e⟩) (λ_ _ e=>e) (λ_ _ _ e=>e) (λb J e=>⟨#[],by rw[e];simp⟩) (λm j=>?_) (λb u e=>?_) I.bare
 ·have e:=by simpa using l
  subst e;exact⟨C,g,B,y⟩
 ·obtain⟨o,E,G,h,r⟩:=j;exact⟨o,E,G,k _ o (Ps g) h,r⟩
 ·refine(I.hok b u e).fH (λc v a q=>k c v ?_ q) (λ_ q=>q) λ_ _ q=>q;rcases a with z | z
  ·rw[z];exact d b u e
  ·exact d c _ z
theorem Inv.tok(I:Inv X pins σ H s)(t:Nat):Inv X pins σ H { s with toks:=t }:=I.un   Un.refl I.hok
theorem Inv.kept(I:Inv X pins σ H s)(k:∀b u,s.heap.get? b=some u->h'.get? b=some u):Inv X pins σ H { s with heap:=h',toks:=t' }:=I.un (Un.kept k) (I.hok.kept k)
theorem Inv.laid{a:Addr}(I:Inv X pins σ H s)(k:∀b u,s.heap.get? b=some u->h'.get? b=some u)(c:s.heap.objs.size<=a)(new:u9 X.prog X.w (upd H a o) h' a o) :
  Inv X pins σ (upd H a o) { s with heap:=h',toks:=t' }:=I.un (Un.laid k c (I.hok.fresh c)) (I.hok.laid k c new)
theorem Inv.write(I:Inv X pins σ H s)(c:fw (H x))(d:e=x\/H e=some (.own x))(k:∀b u,b≠e->s.heap.get? b=some u->h'.get? b=some u)(a:∃u,h'.get? e=some u)
  (new:u9 X.prog X.w (upd H x o) h' x o):Inv X pins σ (upd H x o) { s with heap:=h',toks:=t' }:=I.un (Un.write c d k a) (I.hok.write c d k a new)
theorem Inv.zM(I:Inv X pins σ H s)(h:∀p∈a,s.heap.get? p.1=some p.2/\H p.1=none/\p.1≠X.env.locals/\p.1∉X.fs/\∀v,p.2.data≠.cell v):Inv X a σ H s:=
 ⟨I.ok,I.os,I.bare,I.base,I.loc,I.cell,I.free,I.freeC,λp b=>(List.mem_append.mp b).elim (λz=>I.pin p (v5 _ z)) (h p),I.hok,I.len⟩
theorem qN{N:ZT}(c:N.Nodup){i j:Nat}(a:N[i]?=some x)(b:N[j]?=some x):i=j:=by
 obtain⟨h,e⟩:=List.getElem?_eq_some_iff.mp a;obtain⟨g,d⟩:=List.getElem?_eq_some_iff.mp b;exact(List.getElem_inj c).mp (e.trans d.symm)
theorem bR{E:AAB}(I:Inv X pins σ H s)(hN:X.N.Nodup)(hi:X.N[i]?=some x)(G:Loc X.env.scope x)(r:RelV v u)
  (h:∀s',Inv X pins (σ.set i (some v)) H s'->(∃a,Heap.SameBut a s.heap s'.heap/\(a=X.env.locals\/X.env.cells.lookup x=some a))->Q () s') (hf:X.fn x=true\/X.env.scope.names.lookup x=some .local:=by first | exact .inl rfl | exact .inr rfl | assumption):wpAny M A (storeName X.env x u) Q E s:=by
 obtain⟨m,hn,hl⟩:=id I.loc;have a2:(X.env.scope.kind == .class||(X.env.scope.kind == .module&&X.env.locals != X.env.globals))=false:=by rw[I.ok.kind];rfl
 have S:i<σ.length:=by rw[I.len];exact(List.getElem?_eq_some_iff.mp hi).1
 have OU:=I.OU
 have l:∀{a:Addr} {h':Heap},(∃o,s.heap.get? a=some o/\H a=none)->Heap.SameBut a s.heap h'->cG X.prog X.w H h':=λ{a h'} ha g b ob e=>by
  obtain⟨_,_,J⟩:=ha;refine(I.hok b ob e).fH (λc w' C q=>(g.2 c ?_).trans q) (λ_ q=>q) λ_ _ q=>q;rintro rfl;rcases C with rfl | C
  ·rw[J] at e;cases e
  ·rw[J] at C;cases C
 rcases G with R | R
 ·refine wpAny_storeName_local R hn (λh' ab g=>?_) a2;obtain⟨oL,_,_,a5,_⟩:=id hn;refine h _ ⟨I.ok,I.os,I.bare,⟨λb o e n Y G=>((g.2 b (v6 (ww (vu e) I.ok.above))).trans (I.base.keep b o e n Y G)),λb o e n Y G=>?_,I.base.free,λb o e G=>?_,I.base.T7,I.base.frzs,I.base.tbls⟩,⟨_,ab,λj y v' B O e3=>?_⟩,λy c e=>?_,I.free,I.freeC,λp hp=>?_,l ⟨oL,a5,I.free⟩ g,by simpa using I.len⟩ ⟨_,g,.inl rfl⟩
  ·obtain⟨sl,B⟩:=I.base.slot b o e n Y G;exact⟨sl,(g.2 b (v6 (ww (vu e) I.ok.above))).trans B⟩
  ·obtain⟨o',B⟩:=I.base.there b o e G;exact⟨o',(g.2 b (v6 (ww (vu e) I.ok.above))).trans B⟩
  ·by_cases T:j=i
   ·subst T;rw[hi] at B;cases B;rw[xi S] at O;cases O;exact⟨u,r,.inl ⟨R,by simp⟩⟩
   ·rw[AC (Ps T)] at O;obtain⟨u',r',q⟩:=hl j y v' B O e3;refine⟨u',r',?_⟩;rcases q with⟨k,e⟩ | ⟨k,c,e,z⟩
    ·refine .inl ⟨k,?_⟩;have:y≠x:=λe=>T (qN hN B (e▸hi));simp[this,e]
    ·exact .inr ⟨k,c,e,z.sameBut g (OU y c e)⟩
  ·obtain⟨w',z⟩:=I.cell y c e;exact⟨w',z.sameBut g (OU y c e)⟩
  ·obtain⟨e,n,ne,nf,d⟩:=I.pin p hp;exact⟨(g.2 p.1 ne).trans e,n,ne,nf,d⟩
 ·have U:X.fn x=true:=by
   rcases hf with z | z
   ·exact z
   ·rw[z] at R;cases R
  obtain⟨c,C⟩:=I.ok.has x (.inl R);obtain⟨w',z⟩:=I.cell x c C;refine wpAny_storeName_cell I.ok.kind R C z (λh' a4 g=>?_);obtain⟨oc,a1,a0⟩:=id z;refine h { s with heap:=h' } ⟨I.ok,I.os,I.bare,⟨λb o e n Y G=>((g.2 b (v6 (ww (vu e) (I.ok.cab x c U C)))).trans (I.base.keep b o e n Y G)),λb o e n Y G=>?_,I.base.free,λb o e G=>?_,I.base.T7,I.base.frzs,I.base.tbls⟩,⟨m,hn.sameBut g (Ps (OU x c C)),λj y v' B O e3=>?_⟩,λy c' e=>?_,I.free,I.freeC,λp hp=>?_,l ⟨oc,a1,I.freeC x c C⟩ g,by simpa using I.len⟩ ⟨c,g,.inr C⟩
  ·obtain⟨sl,B⟩:=I.base.slot b o e n Y G;exact⟨sl,(g.2 b (v6 (ww (vu e) (I.ok.cab x c U C)))).trans B⟩
  ·obtain⟨o',B⟩:=I.base.there b o e G;exact⟨o',(g.2 b (v6 (ww (vu e) (I.ok.cab x c U C)))).trans B⟩
  ·by_cases T:j=i
   ·subst T;rw[hi] at B;cases B;rw[xi S] at O;cases O;exact⟨u,r,.inr ⟨.inl R,c,C,a4⟩⟩
   ·rw[AC (Ps T)] at O;obtain⟨u',r',q⟩:=hl j y v' B O e3;refine⟨u',r',?_⟩;rcases q with q | ⟨k,c',e,z'⟩
    ·exact .inl q
    ·refine .inr ⟨k,c',e,z'.sameBut g ?_⟩;rintro rfl;exact T (qN hN B (I.ok.inj _ _ _ e C▸hi))
  ·by_cases a3:c'=c
   ·subst a3;exact⟨_,a4⟩
   ·obtain⟨w2,z2⟩:=I.cell y c' e;exact⟨w2,z2.sameBut g a3⟩
  ·obtain⟨e,n,ne,nf,d⟩:=I.pin p hp;refine⟨(g.2 p.1 ?_).trans e,n,ne,nf,d⟩;intro q;rw[q,a1] at e;have q':oc=p.2:=x2 e;exact d w' (by rw[<-q'];exact a0)
theorem bz{E:AAB}(I:Inv X pins σ H s)(e:X.N.Nodup)(c:X.N[i]?=some x)(b:Loc X.env.scope x)(r:RelV v u)
  (h:∀a,Inv X pins (σ.set i (some v)) H a->Q () a) (d:X.fn x=true\/X.env.scope.names.lookup x=some .local:=by first | exact .inl rfl | exact .inr rfl | assumption):wpAny M A (storeName X.env x u) Q E s:=
 bR I e c b r (λa g _=>h a g) d
theorem Inv.Hk(I:Inv X pins σ H s)(i:a.os=s.os)(u:Un (yd X.stack) ch H H' s.heap a.heap)(hok:cG X.prog X.w H' a.heap)(j:AllBare a.gens)
  (d:∀b∈ch,(b∈X.ex\/X.s₀.heap.objs.size<=b)/\b≠X.env.locals/\(∀x c,X.env.cells.lookup x=some c->c≠b)/\∀p∈X.pn++pins,p.1≠b):Inv X pins σ H' a:=by
 obtain⟨h',l,o,g,h⟩:=a;have e:=i;subst e;exact I.call    u hok j d
end
abbrev XK:=Value->Option Addr->Hp->Prop
abbrev St:=List (Option V)
abbrev VK:=V->Hp->Prop
abbrev TE:=St->Hp->VK->Prop
abbrev TT:=St->Hp->(Bool->Hp->Prop)->Prop
abbrev TA:=St->Hp->(List V->Hp->Prop)->Prop
structure Ends where
 nx:St->Hp->Prop
 rt:VK
 bk:St->Hp->Prop:=λ_ _=>False
 ct:St->Hp->Prop:=λ_ _=>False
abbrev TS:=Ends->St->Hp->Prop
def EP(X:Cx)(pins:ZO)(σ:St)(Q:VK)(u:Value)(b:Shared):Prop:=∃v a,Inv X pins σ a b/\RelV v u/\Q v a
def TP(X:Cx)(pins:ZO)(σ:St)(Q:Bool->Hp->Prop)(b:Bool)(c:Shared):Prop:=∃a,Inv X pins σ a c/\Q b a
def AP(X:Cx)(pins:ZO)(σ:St)(Q:List V->Hp->Prop)(b:ZU)(c:Shared):Prop:=∃vs a,Inv X pins σ a c/\Vals vs b/\Q vs a
def SP(X:Cx)(pins:ZO)(D:Ends)(f:Flow)(c:Shared):Prop:=
 match f with
 | .next=>∃a b,Inv X pins a b c/\D.nx a b
 | .brk=>∃a b,Inv X pins a b c/\D.bk a b
 | .cont=>∃a b,Inv X pins a b c/\D.ct a b
 | .ret u=>∃v a b,Inv X pins a b c/\RelV v u/\D.rt v b
structure PE(X:Cx)(e:Expr)(t:TE) : Prop where
 of ::
 run :
 ∀(pins:ZO) (s:Shared) (σ:St) (H:Hp) (Q:VK),Inv X pins σ H s->t σ H Q->wpAny (model X.prog X.w) X.A (eval e X.env) (EP X pins σ Q) X.xe s
instance {X:Cx} {e:Expr} {t:TE} : CoeFun (PE X e t) λ_=>
 ∀(pins:ZO) (s:Shared) (σ:St) (H:Hp) (Q:VK),Inv X pins σ H s->t σ H Q->wpAny (model X.prog X.w) X.A (eval e X.env) (EP X pins σ Q) X.xe s:=⟨PE.run⟩
structure PT(X:Cx)(e:Expr)(t:TT) : Prop where
 of ::
 run :
 ∀(pins:ZO) (s:Shared) (σ:St) (H:Hp) (Q:Bool->Hp->Prop),Inv X pins σ H s->t σ H Q->wpAny (model X.prog X.w) X.A (isTrue e X.env (eval e X.env)) (TP X pins σ Q) X.xe s
instance {X:Cx} {e:Expr} {t:TT} : CoeFun (PT X e t) λ_=>
 ∀(pins:ZO) (s:Shared) (σ:St) (H:Hp) (Q:Bool->Hp->Prop),Inv X pins σ H s->t σ H Q->wpAny (model X.prog X.w) X.A (isTrue e X.env (eval e X.env)) (TP X pins σ Q) X.xe s:=⟨PT.run⟩
structure PW(X:Cx)(e:Expr)(t:TT) : Prop where
 of ::
 run :
 ∀(whole:Sem Value) (pins:ZO) (s:Shared) (σ:St) (H:Hp) (Q:Bool->Hp->Prop),Inv X pins σ H s->t σ H Q->wpAny (model X.prog X.w) X.A (isTrue e X.env whole) (TP X pins σ Q) X.xe s
instance {X:Cx} {e:Expr} {t:TT} : CoeFun (PW X e t) λ_=>
 ∀(whole:Sem Value) (pins:ZO) (s:Shared) (σ:St) (H:Hp) (Q:Bool->Hp->Prop),Inv X pins σ H s->t σ H Q->wpAny (model X.prog X.w) X.A (isTrue e X.env whole) (TP X pins σ Q) X.xe s:=⟨PW.run⟩
theorem PW.pt(h:PW X e t):PT X e t:=.of (h _)
structure PA(X:Cx)(es:ZV)(t:TA) : Prop where
 of ::
 run :
 ∀(pos:Pos) (pins:ZO) (s:Shared) (σ:St) (H:Hp) (Q:List V->Hp->Prop),Inv X pins σ H s->t σ H Q->wpAny (model X.prog X.w) X.A (spliced (backTo pos (starEach es X.env))) (AP X pins σ Q) X.xe s
instance {X:Cx} {es:ZV} {t:TA} : CoeFun (PA X es t) λ_=>
 ∀(pos:Pos) (pins:ZO) (s:Shared) (σ:St) (H:Hp) (Q:List V->Hp->Prop),Inv X pins σ H s->t σ H Q->wpAny (model X.prog X.w) X.A (spliced (backTo pos (starEach es X.env))) (AP X pins σ Q) X.xe s:=⟨PA.run⟩
structure PS(X:Cx)(st:Stmt)(t:TS) : Prop where
 of ::
 run :
 ∀(pins:ZO) (s:Shared) (σ:St) (H:Hp) (D:Ends),Inv X pins σ H s->t D σ H->wpAny (model X.prog X.w) X.A (exec st X.env) (SP X pins D) X.xe s
instance {X:Cx} {st:Stmt} {t:TS} : CoeFun (PS X st t) λ_=>
 ∀(pins:ZO) (s:Shared) (σ:St) (H:Hp) (D:Ends),Inv X pins σ H s->t D σ H->wpAny (model X.prog X.w) X.A (exec st X.env) (SP X pins D) X.xe s:=⟨PS.run⟩
structure qI(X:Cx)(st:AAA)(t:TS) : Prop where
 of ::
 run :
 ∀(pins:ZO) (s:Shared) (σ:St) (H:Hp) (D:Ends),Inv X pins σ H s->t D σ H->wpAny (model X.prog X.w) X.A (execs st X.env) (SP X pins D) X.xe s
instance {X:Cx} {st:AAA} {t:TS} : CoeFun (qI X st t) λ_=>
 ∀(pins:ZO) (s:Shared) (σ:St) (H:Hp) (D:Ends),Inv X pins σ H s->t D σ H->wpAny (model X.prog X.w) X.A (execs st X.env) (SP X pins D) X.xe s:=⟨qI.run⟩
theorem w5{M:Model}{A:Around}{E:AAB}{s:Shared}(h:wpAny M A t Q E s)(d:∀a s,Q a s->c a s):wpAny M A t c E s:=A1 h d λ_ _ x=>x
section
variable{X:Cx}
def cw(i:Nat):TE:=λa H Q=>∃v,a[i]?=some (some v)/\Q v H
def tC(v:V):TE:=λ_ H Q=>Q v H
theorem Ra   {j:Pos} (E:X.N[i]?=some x) (y:RN X.env.scope x) (hd:(x == ("__debug__" : Str))=false:=by decide) (o:(x == ("__classdict__" : Str))=false:=by decide):PE X (.Name x j) (cw i):=by
 refine .of ?_;intro g s q H Q I h;obtain⟨v,e,h⟩:=h;obtain⟨m,z,C⟩:=I.loc;obtain⟨u,r,l⟩:=C i x v E e y;have d:EP X g q Q u s:=⟨v,H,I,r,h⟩
 rcases l with⟨b,B⟩ | ⟨b,c,p,a⟩
 ·exact wpAny_Name (wpAny_loadName_local I.ok.kind b z B d) hd
 ·rcases b with b | b
  ·exact wpAny_Name (wpAny_loadName_cell I.ok.kind b p a d) hd
  ·exact wpAny_Name (wpAny_loadName_free I.ok.kind b p a d o) hd
theorem Qs:PE X (.Constant (.int i) j a) (tC (.int i)):=.of <| λ_ _ _ H _ I h=>wpAny_Constant_int ⟨.int i,H,I.tok _,⟨_,rfl⟩,h⟩
theorem Tn:PE X (.Constant (.bool b) j a) (tC (.bl b)):=.of <| λ_ _ _ H _ I h=>Constant_bool ⟨.bl b,H,I,rfl,h⟩
theorem OB:PE X (.Constant .none j a) (tC .o6):=.of <| λ_ _ _ H _ I h=>Constant_none ⟨.o6,H,I,rfl,h⟩
theorem Qa:PE X (.Constant (.str x) j a) (tC (.str x)):=.of <| λ_ _ _ H _ I h=>Calls.Constant_str ⟨.str x,H,I.tok _,⟨_,rfl⟩,h⟩
def Gl(X:Cx)(x:Str):Prop:=X.env.kindOf x=some .globalImplicit
theorem Md{E:AAB}{σ:St}{Q:AAB}(I:Inv X pins σ H s)(c:Gl X x)(b:X.mg x=some u)(h:Q u s)
  (hd:(x == ("__debug__" : Str))=false:=by decide):wpAny (model X.prog X.w) X.A (eval (.Name x a) X.env) Q E s:=
 Calls.Name_function_global I.ok.kind c (Calls.loadGlobal_global (by rw[I.ok.glob];exact I.mod.glob.keeps I.bk) b h) hd
theorem bG{E:AAB}{σ:St}{a:Pos}{Q:AAB}(I:Inv X pins σ H s)(e:Gl X x)(d:X.mg x=none)(b:bootBuiltins x=some u)(h:Q u s)
  (c:x ≠ "__name__":=by decide) (hd:(x == ("__debug__" : Str))=false:=by decide):wpAny (model X.prog X.w) X.A (eval (.Name x a) X.env) Q E s:=by
 obtain⟨j,i,g⟩:=I.mod.blt;exact Calls.Name_function_global I.ok.kind e (Calls.loadGlobal_builtin (by rw[I.ok.glob];exact I.mod.glob.keeps I.bk) d (by rw[I.ok.blt];exact i.keeps I.bk) ((g x c).trans b) h) hd
theorem Ab    {a:Pos} (e:Gl X x) (d:X.mg x=none) (b:bootBuiltins x=some u) (r:RelV v u) (c:x ≠ "__name__":=by decide) (hd:(x == ("__debug__" : Str))=false:=by decide):PE X (.Name x a) (tC v):=.of <| 
 λ_ _ _ H _ I h=>bG I e d b ⟨v,H,I,r,h⟩ c hd
variable{a b:Expr}{ta tb:TE}{pos:Pos}
variable{tA tB':TT}{rest:ZV}
def Wa(t u:TT):TT:=λd H Q=>t d H λc e=>if c=true then u d e Q else Q false e
def WS(t u:TT):TT:=λd H Q=>t d H λc e=>if c=true then Q true e else u d e Q
def VD(t:TT):TT:=λd H Q=>t d H λc e=>Q (!c) e
theorem Ka(i:PT X a tA):PW X (.BoolOp .And [a] pos) tA:=by
 refine .of ?_;intro j d s g H Q I h;refine isTrue_and (w5 (i d s g H Q I h) λc l e=>?_)
 cases c with
 | true=>exact isTrue_and_nil e
 | false=>exact e
theorem QC(i:PT X a tA):PW X (.BoolOp .Or [a] pos) tA:=by
 refine .of ?_;intro j d s g H Q I h;refine isTrue_or (w5 (i d s g H Q I h) λc l e=>?_)
 cases c with
 | false=>exact isTrue_or_nil e
 | true=>exact e
theorem Pk(q:PT X a tA)(p:PW X (.BoolOp .And (b::rest) pos) tB'):PW X (.BoolOp .And (a::b::rest) pos) (Wa tA tB'):=by
 refine .of ?_;intro l d s e H Q I h;refine isTrue_and (w5 (q d s e H _ I h) λc o ⟨j,i,g⟩=>?_)
 cases c with
 | true=>exact p l d o e j Q i g
 | false=>exact⟨j,i,g⟩
theorem Uy(q:PT X a tA)(p:PW X (.BoolOp .Or (b::rest) pos) tB'):PW X (.BoolOp .Or (a::b::rest) pos) (WS tA tB'):=by
 refine .of ?_;intro l d s e H Q I h;refine isTrue_or (w5 (q d s e H _ I h) λc o ⟨j,i,g⟩=>?_)
 cases c with
 | true=>exact⟨j,i,g⟩
 | false=>exact p l d o e j Q i g
theorem OE(g:PT X a tA):PT X (.UnaryOp .Not a pos) (VD tA):=by
 refine .of ?_;intro d s e H Q I h;exact isTrue_not (g d s e H (λc i=>Q (!c) i) I h)
def SH(ta tb:TE):TE:=λd H Q=>ta d H λx e=>∃c,x=.bl c/\if c=true then tb d e Q else Q (.bl false) e
def Vw(ta tb:TE):TE:=λd H Q=>ta d H λx e=>∃c,x=.bl c/\if c=true then Q (.bl true) e else tb d e Q
theorem RB(h:PE X a t):PE X (.BoolOp e [a] pos) t:=.of <| λc s d H Q I hw=>BoolOp_one (h c s d H Q I hw)
theorem Oy(q:PE X a ta)(p:PE X (.BoolOp .And (b::rest) pos) tb):PE X (.BoolOp .And (a::b::rest) pos) (SH ta tb):=by
 refine .of ?_;intro d s g H Q I h;refine BoolOp_and (w5 (q d s g H _ I h) λv l ⟨x,j,i,o,e⟩=>?_);obtain⟨c,rfl,e⟩:=e;cases o;refine YL ?_
 cases c with
 | true=>exact p d l g j Q i e
 | false=>exact⟨.bl false,j,i,rfl,e⟩
theorem Uv(q:PE X a ta)(p:PE X (.BoolOp .Or (b::rest) pos) tb):PE X (.BoolOp .Or (a::b::rest) pos) (Vw ta tb):=by
 refine .of ?_;intro d s g H Q I h;refine BoolOp_or (w5 (q d s g H _ I h) λv l ⟨x,j,i,o,e⟩=>?_);obtain⟨c,rfl,e⟩:=e;cases o;refine YL ?_
 cases c with
 | false=>exact p d l g j Q i e
 | true=>exact⟨.bl true,j,i,rfl,e⟩
def WM(t:TT)(ta tb:TE):TE:=λd H Q=>t d H λc e=>if c=true then ta d e Q else tb d e Q
theorem DH(p:PT X c tA)(r:PE X a ta)(q:PE X b tb):PE X (.IfExp c a b pos) (WM tA ta tb):=by
 refine .of ?_;intro e s g H Q I h;refine wpAny_IfExp (w5 (p e s g H _ I h) λd i ⟨o,l,j⟩=>?_)
 cases d with
 | true=>exact r e i g o Q l j
 | false=>exact q e i g o Q l j
end
def G4(K:AAD)(H:Hp)(a:Addr)(xs:List V):Prop:=
 Rd H a (.lst xs) \/
  ∃(o:Obj) (b:ZY) (n:Nat),K.lookup a=some o/\o.cls=.type "list" /\ o.dict=none/\o.data=.seq b n/\b.size<=sizeLine/\Vals xs b.toList
def S6(K:AAD)(H:Hp)(a:Addr)(xs:List V):Prop:=
 Rd H a (.tup xs) \/
  ∃(o:Obj) (b:ZY) (n:Nat),K.lookup a=some o/\o.cls=.type "tuple" /\ o.data=.seq b n/\b.size<=sizeLine/\Vals xs b.toList
noncomputable def Vs:Value->Option V
 | .none=>some .o6
 | .bool b=>some (.bl b)
 | .int i _=>some (.int i)
 | .str x _=>some (.str x)
 | .bytes b _=>some (.byt b)
 | .float b _=>some (.flt b)
 | .ref a=>some (.ref a)
 | .type n=>some (.ty n)
 | _=>none
theorem RelV.abs(r:RelV x u):Vs u=some x:=by
 cases x with
 | o6=>cases r;rfl
 | bl _=>cases r;rfl
 | int _=>obtain⟨t,rfl⟩:=r;rfl
 | str _=>obtain⟨t,rfl⟩:=r;rfl
 | byt _=>obtain⟨t,rfl⟩:=r;rfl
 | flt _=>obtain⟨t,rfl⟩:=r;rfl
 | ref _=>cases r;rfl
 | ty _=>cases r;rfl
theorem RelV.inj(r:RelV x u)(q:RelV y u):x=y:=x2 (r.abs.symm.trans q.abs)
theorem Vals.inj:∀{xs ys:List V} {a:ZU},Vals xs a->Vals ys a->xs=ys
 | _,_,_,.nil,.nil=>rfl
 | _,_,_,.cons r t,.cons c b=>by rw[r.inj c,Vals.inj t b]
section
variable{X:Cx}{pins:ZO}{σ:St}{H:Hp}{s:Shared}{a:Addr}{xs ys:List V}
theorem G4.of{K:AAD}(h:H a=some (.lst xs)):G4 K H a xs:=.inl (.inl h)
theorem S6.of{K:AAD}(h:H a=some (.tup xs)):S6 K H a xs:=.inl (.inl h)
theorem Inv.list(I:Inv X pins σ H s)(h:G4 X.K H a xs):∃its:ZU,Vals xs its/\PlainL s.heap a its.toArray/\xs.length<=sizeLine:=by
 rcases h with h | ⟨o,its,n,c,d,hd,b,g,r⟩
 ·obtain⟨z,its,n,r,e⟩:=h.ok I.hok;exact⟨its,r,⟨_,n,e,rfl,rfl,rfl⟩,z⟩
 ·refine⟨its.toList,r,⟨o,n,I.ur a o c,d,hd,by simpa using b⟩,?_⟩;have e:=r.length;simp[] at e;omega
theorem Inv.tuple(I:Inv X pins σ H s)(h:S6 X.K H a xs):∃its:ZU,Vals xs its/\IsTup s.heap a its.toArray/\xs.length<=sizeLine:=by
 rcases h with h | ⟨o,its,n,c,d,b,g,r⟩
 ·obtain⟨z,its,r,p⟩:=h.ok I.hok;exact⟨its,r,p,z⟩
 ·refine⟨its.toList,r,⟨o,I.ur a o c,d,n,by simpa using b⟩,?_⟩;have e:=r.length;simp[] at e;omega
theorem Inv.jo(I:Inv X pins σ H s)(h:G4 X.K H a xs)(h':G4 X.K H a ys):xs=ys:=by
 obtain⟨c,r,⟨o,n,e,_,_,d⟩,_⟩:=I.list h;obtain⟨b,j,⟨l,p,g,_,_,i⟩,_⟩:=I.list h';rw[e] at g;cases g;rw[d] at i
 injection i with d1 _
 have:=by simpa using congrArg Array.toList d1
 subst this;exact r.inj j
theorem Inv.mI(I:Inv X pins σ H s)(h:S6 X.K H a xs)(h':S6 X.K H a ys):xs=ys:=by
 obtain⟨c,r,⟨o,e,_,n,d⟩,_⟩:=I.tuple h;obtain⟨b,j,⟨l,g,_,p,i⟩,_⟩:=I.tuple h';rw[e] at g;cases g;rw[d] at i
 injection i with d1 _
 have:=by simpa using congrArg Array.toList d1
 subst this;exact r.inj j
end
abbrev Cx.kX(X:Cx)(E:AAB):Cx:={ X with xe:=E }
abbrev Cx.RM(X:Cx):Cx:=X.kX λ_ _=>False
theorem Cx.Ok.kX{X:Cx}(ok:X.Ok)(E:AAB):(X.kX E).Ok:=
 ⟨ok.mod,ok.kind,ok.glob,ok.blt,ok.above,ok.inj,ok.has,ok.cab,ok.hd,ok.frames,ok.stk,ok.exf,ok.bs,ok.bsz,ok.noex,ok.exfs,ok.gQ,ok.frf⟩
theorem Cx.Ok.bt{X:Cx}(ok:(X.kX E).Ok):X.Ok:=
 ⟨ok.mod,ok.kind,ok.glob,ok.blt,ok.above,ok.inj,ok.has,ok.cab,ok.hd,ok.frames,ok.stk,ok.exf,ok.bs,ok.bsz,ok.noex,ok.exfs,ok.gQ,ok.frf⟩
section
variable{X:Cx}{pins:ZO}{σ:St}{H:Hp}{s:Shared}{E:AAB}
theorem Inv.kX(I:Inv X pins σ H s)(E:AAB):Inv (X.kX E) pins σ H s:=⟨I.ok.kX E,I.os,I.bare,I.base,I.loc,I.cell,I.free,I.freeC,I.pin,I.hok,I.len⟩
theorem Inv.bt(I:Inv (X.kX E) pins σ H s):Inv X pins σ H s:=⟨I.ok.bt,I.os,I.bare,I.base,I.loc,I.cell,I.free,I.freeC,I.pin,I.hok,I.len⟩
theorem SP.bt(h:SP (X.kX E) pins D f c):SP X pins D f c:=by
 cases f with
 | next=>obtain⟨a,b,I,q⟩:=h;exact⟨a,b,I.bt,q⟩
 | brk=>obtain⟨a,b,I,q⟩:=h;exact⟨a,b,I.bt,q⟩
 | cont=>obtain⟨a,b,I,q⟩:=h;exact⟨a,b,I.bt,q⟩
 | ret u=>obtain⟨v,a,b,I,r,q⟩:=h;exact⟨v,a,b,I.bt,r,q⟩
theorem qI.RM{st:AAA}(h:qI X.RM st t):qI X st t:=.of <| λpins s σ H D I hw=>
 A1 (h pins s σ H D (I.kX _) hw) (λ_ _ q=>q.bt) λ_ _ z=>False.elim z
end
section
variable{X:Cx}{st:Stmt}{rest:AAA}{t u:TS}{e:Expr}{te:TE}{pos:Pos}
def SO:TS:=λD a H=>D.nx a H
def Vp(t u:TS):TS:=λD a H=>t { D with nx:=u D } a H
theorem Ml:qI X [] SO:=.of <| λ_ _ a H _ I h=>Ze ⟨a,H,I,h⟩
theorem DQ(i:PS X st t)(g:qI X rest u):qI X (st::rest) (Vp t u):=by
 refine .of ?_;intro a s c H D I h;refine wpAny_execs_cons (w5 (i a s c H { D with nx:=u D } I h) λf d q=>?_)
 cases f with
 | next=>
  obtain⟨b,l,j,q⟩:=q;exact g a d b l D j q
 | ret v=>exact q
 | brk=>exact q
 | cont=>exact q
theorem Kh(c:PS X st t):qI X [st] t:=by
 refine .of ?_;intro a s b H D I h;refine wpAny_execs_cons (w5 (c a s b H D I h) λf d q=>?_)
 cases f with
 | next=>exact Ze q
 | ret v=>exact q
 | brk=>exact q
 | cont=>exact q
def Ro:TS:=λD a H=>D.bk a H
theorem FI:PS X (.Break pos) Ro:=.of <| λ_ _ a H _ I h=>wpAny_Break ⟨a,H,I,h⟩
theorem Inv.quiet{σ:St}(I:Inv X pins σ H s):interactive X.env=false:=by simp[interactive,I.ok.kind]
def Td(te:TE):TS:=λD a H=>te a H λ_ b=>D.nx a b
theorem Ly(g:PE X e te)(d:swapsWith e none pos.line X.env=pure false:=by rfl):PS X (.Expr e pos) (Td te):=by
 refine .of ?_;intro a s b H D I h;exact wpAny_Expr_any (w5 (g a s b H _ I h) λv l ⟨x,j,i,o,c⟩=>⟨b,j,i,c⟩) I.quiet d
def VB(te:TE):TS:=λD a H=>te a H D.rt
theorem oF(g:PE X e te):PS X (.Return (some e) pos) (VB te):=by
 refine .of ?_;intro a s b H D I h;exact wpAny_Return_some (w5 (g a s b H _ I h) λv l ⟨x,j,i,c,d⟩=>⟨x,b,j,i,c,d⟩)
def VX(c:TT)(t u:TS):TS:=λD a H=>c a H λb d=>if b=true then t D a d else u D a d
theorem RX(q:PT X c tc)(v:qI X a t)(r:qI X b u):PS X (.If c a b pos) (VX tc t u):=by
 refine .of ?_;intro g s i H D I h;refine wpAny_If (w5 (q g s i H _ I h) λd j ⟨p,o,l⟩=>?_)
 cases d with
 | true=>exact v g j i p D o l
 | false=>exact r g j i p D o l
def Rb:TS:=λ_ _ _=>False
theorem Fe:PS X st Rb:=.of <| λ_ _ _ _ _ _ h=>h.elim
end
abbrev TG:=V->St->Hp->(St->Hp->Prop)->Prop
abbrev Mi:=List V->St->Hp->(St->Hp->Prop)->Prop
structure PG(X:Cx)(target:Expr)(t:TG) : Prop where
 of ::
 run :
 ∀(pins:ZO) (s:Shared) (σ:St) (H:Hp) (v:V) (u:Value) (Q:St->Hp->Prop),Inv X pins σ H s->RelV v u->t v σ H Q ->
  wpAny (model X.prog X.w) X.A (assign target X.env u) (λ_ s'=>∃σ' H',Inv X pins σ' H' s'/\Q σ' H') X.xe s
instance {X:Cx} {target:Expr} {t:TG} : CoeFun (PG X target t) λ_=>
 ∀(pins:ZO) (s:Shared) (σ:St) (H:Hp) (v:V) (u:Value) (Q:St->Hp->Prop),Inv X pins σ H s->RelV v u->t v σ H Q ->
  wpAny (model X.prog X.w) X.A (assign target X.env u) (λ_ s'=>∃σ' H',Inv X pins σ' H' s'/\Q σ' H') X.xe s:=⟨PG.run⟩
structure Ju(X:Cx)(ts:ZV)(t:Mi) : Prop where
 of ::
 run :
 ∀(pins:ZO) (s:Shared) (σ:St) (H:Hp) (vs:List V) (us:ZU) (Q:St->Hp->Prop),Inv X pins σ H s->Vals vs us->t vs σ H Q ->
  wpAny (model X.prog X.w) X.A (assignInOrder ((assignEach ts X.env).map (·.2)) us) (λ_ s'=>∃σ' H',Inv X pins σ' H' s'/\Q σ' H') X.xe s
instance {X:Cx} {ts:ZV} {t:Mi} : CoeFun (Ju X ts t) λ_=>
 ∀(pins:ZO) (s:Shared) (σ:St) (H:Hp) (vs:List V) (us:ZU) (Q:St->Hp->Prop),Inv X pins σ H s->Vals vs us->t vs σ H Q ->
  wpAny (model X.prog X.w) X.A (assignInOrder ((assignEach ts X.env).map (·.2)) us) (λ_ s'=>∃σ' H',Inv X pins σ' H' s'/\Q σ' H') X.xe s:=⟨Ju.run⟩
abbrev Ow:=V->V->V->Hp->(Hp->Prop)->Prop
def Uo(X:Cx)(t:Ow):Prop:=
 ∀(a:ZO) (s:Shared) (b:St) (H:Hp) (o i v:V) (c d u:Value) (Q:Hp->Prop),Inv X a b H s->RelV o c->RelV i d->RelV v u->t o i v H Q ->
  wpAny (model X.prog X.w) X.A (setItem c d u) (λ_ g=>∃e,Inv X a b e g/\Q e) X.xe s
abbrev UK:=V->V->Hp->VK->Prop
def Wq(X:Cx)(c:Operator)(t:UK):Prop:=
 ∀(a:ZO) (s:Shared) (b:St) (H:Hp) (x y:V) (v u:Value) (Q:VK),Inv X a b H s->RelV x v->RelV y u->t x y H Q ->
  wpAny (model X.prog X.w) X.A (inplaceOp c v u) (EP X a b Q) X.xe s
section
variable{X:Cx}{pos:Pos}
def mH(i:Nat):TG:=λv a H Q=>Q (a.set i (some v)) H
theorem pX(e:X.N.Nodup)(c:X.N[i]?=some x)(b:Loc X.env.scope x)(d:X.fn x=true\/X.env.scope.names.lookup x=some .local:=by first | exact .inl rfl | exact .inr rfl | assumption):PG X (.Name x pos) (mH i):=by
 refine .of ?_;intro a s j H v u Q I r h;exact YN (bz I e c b r (λl g=>⟨_,H,g,h⟩) d)
def Va:Mi:=λvs a H Q=>vs=[]/\Q a H
def TZ(t:TG)(u:Mi):Mi:=λvs b H Q=>∃v r,vs=v::r/\t v b H λa c=>u r a c Q
theorem LS:Ju X [] Va:=by
 refine .of ?_;intro a s b H vs c Q I r h;obtain⟨e,h⟩:=h;subst e;cases r;exact assignInOrder_nil ⟨b,H,I,h⟩
theorem Ig(p:PG X e t)(o:Ju X b u)
  (l:(assignEach (e::b) X.env).map (·.2)=assign e X.env::(assignEach b X.env).map (·.2):=by rfl):Ju X (e::b) (TZ t u):=by
 refine .of ?_;intro a s d H vs B Q I r h;obtain⟨v,z,q,h⟩:=h;subst q
 cases r with
 | cons r i=>
  rw[l];exact assignInOrder_cons (w5 (p a s d H _ _ _ I r h) λ_ g ⟨c,y,x,j⟩=>o a g c y _ _ Q x i j)
def Uq(K:AAD)(n:Nat)(t:Mi):TG:=λv c H Q=>∃a b,v=.ref a/\S6 K H a b/\b.length=n/\t b c H Q
theorem N8{k:Nat}(B:X.calm=true)(h:Ju X d t)
  (y:(assignEach d X.env).length=n:=by rfl) (g:(assignEach d X.env).findIdx? (·.1)=none:=by rfl):PG X (.Tuple d k pos) (Uq X.K n t):=by
 refine .of ?_;intro c s i H v u Q I r hw;obtain⟨a,j,E,x,z,hw⟩:=hw;subst E;cases r;obtain⟨l,rv,q,J⟩:=I.tuple x;refine assign_Tuple_tuple (I.ok.hd B) q (by simp[y,<-z,rv.length]) g λC p=>?_;have G:=I.kept (t':=s.toks) λb o e=>p b o (v6 (vu e)) e;exact h c _ i H j _ Q G (by simpa using rv) hw
def U0(b c:TE)(t:Ow):TG:=λv a H Q=>b a H λo g=>c a g λi e=>t o i v e λd=>Q a d
theorem jU(G:PE X o e)(J:PE X i g)(E:Uo X t)
  (M:∀v,assign (.Subscript o i pos) X.env v=(do
   let b <-holding [v] (eval o X.env)
   let c <-holding [v,b] (eval i X.env)
   standAt pos
   holding [v,b,c] (setItem b c v)
   release [v,b,c] []):=by intro _;rfl):PG X (.Subscript o i pos) (U0 e g t):=by
 refine .of ?_;intro a s d H v u Q I r h;exact eH (FS (w5 (G a s d H _ I h) λb l ⟨x,Y,S,q,C⟩=>eH (FS (w5 (J a l d Y _ S C) λc j ⟨y,U,R,p,B⟩=>eH (Tl (eH (FS (w5 (E a j d U x y v b c u _ R q p r B) λ_ s3 ⟨T,O,z⟩=>wpAny_release ⟨d,T,O,z⟩))))))))
def tU(te:TE)(g:TG):TS:=λD a H=>te a H λx b=>g x a b D.nx
theorem W4(p:PE X e te)(o:PG X b g)(l:swapsWithSole [b] e pos.line X.env=pure false:=by rfl)(hw:swappedStores [b] e X.env=pure none:=by rfl)
  (r:(assignEach [b] X.env).map (·.2)=[assign b X.env]:=by rfl):PS X (.Assign [b] e pos) (tU te g):=by
 refine .of ?_;intro a s c H D I h;refine wpAny_Assign_stores (w5 (p a s c H _ I h) λv d ⟨x,y,u,i,j⟩=>?_) l hw;rw[r];exact w5 (o a d c y x v _ u i j) λ_ z q=>q
theorem Dw(r:X.N.Nodup)(o:X.N[i]?=some x)(j:Loc X.env.scope x)(q:PE X e te)(l:swapsWith e (some (.Name x a)) pos.line X.env=pure false:=by rfl)(p:X.fn x=true\/X.env.scope.names.lookup x=some .local:=by first | exact .inl rfl | exact .inr rfl | assumption) :
  PS X (.Assign [.Name x a] e pos) (tU te (mH i)):=by
 refine .of ?_;intro b s c H D I h;exact wpAny_Assign_Name (w5 (q b s c H _ I h) λv E ⟨y,B,z,d,g⟩=>bz z r o j d (λC u=>⟨_,B,u,g⟩) p) l
def Vy(i j:Nat)(b:TA):TS:=λD a H=>b a H λvs c=>∃v w,vs=[v,w]/\D.nx ((a.set i (some v)).set j (some w)) c
theorem ON(hc:X.calm=true)(T:X.N.Nodup)(hi:X.N[i]?=some x)(hj:X.N[j]?=some y)(M:i≠j)
  (S:X.env.scope.names.lookup x=some .local) (R:X.env.scope.names.lookup y=some .local) (ha:PA X [a,b] Q)
  (hw:swappedStores [.Tuple [.Name x C,.Name y B] E pt] (.Tuple [a,b] G d) X.env=pure (some [x,y]))
  (hs:swapsWithSole [.Tuple [.Name x C,.Name y B] E pt] (.Tuple [a,b] G d) pos.line X.env=pure false:=by rfl) :
  PS X (.Assign [.Tuple [.Name x C,.Name y B] E pt] (.Tuple [a,b] G d) pos) (Vy i j Q):=by
 refine .of ?_;intro c s O H D I h;refine eH (Tl ?_);refine eH (hE ?_);refine eH (Tuple_ (w5 (ha _ c s O H _ I h) λus r ⟨vs,Y,I1,r1,z⟩=>?_));obtain⟨v,w,e1,z⟩:=z;subst e1
 obtain⟨l,u2,rfl,rv,u⟩:∃l u2,us=[l,u2]/\RelV v l/\RelV w u2:=by
  cases r1 with
  | cons p q=>
   cases q with
   | cons p' q'=>
    cases q';exact⟨_,_,rfl,p,p'⟩
 refine wn ?_ (by show 2<=sizeLine;decide);have I2:Inv X c O Y { r with heap:=r.heap.push { cls:=.type "tuple",data:=.seq [l,u2].toArray } }:=I1.kept  λb o e=>hD _ e;rw[hw];refine eH (hE ?_);refine eH (Yf (eH (unpackItems_tuple (items:=#[l,u2]) (I.ok.hd hc) (IsTup.new r.heap _) λh' J=>?_)));have I3:=I2.kept  (t':=r.toks) λb o e=>J b o (v6 (vu e)) e;refine eH (assignInOrder_cons (wpAny_bindName (bz I3 T hj (.inl R) u (λs2 I4=>assignInOrder_cons (wpAny_bindName (bz I4 T hi (.inl S) rv (λs3 U=>assignInOrder_nil (hE ?_)) (.inr S)))) (.inr R))));rw[List.set_comm _ _ (Ps M)] at U;exact⟨_,Y,U,z⟩
def TY(i:Nat)(te:TE)(b:UK):TS:=λD a H=>∃x,a[i]?=some (some x)/\te a H λy d=>b x y d λz c=>D.nx (a.set i (some z)) c
theorem Qw(hN:X.N.Nodup)(G:X.N[i]?=some x)(B:Loc X.env.scope x)(he:PE X e te)(S:Wq X q E)(hf:X.fn x=true\/X.env.scope.names.lookup x=some .local:=by first | exact .inl rfl | exact .inr rfl | assumption) :
  PS X (.AugAssign (.Name x o) q e pos) (TY i te E):=by
 refine .of ?_;intro a s C H D I h;obtain⟨v,e1,h⟩:=h;obtain⟨m,T,Y⟩:=I.loc;have p:RN X.env.scope x:=by rcases B with k | k;exact .inl k;exact .inr (.inl k)
 obtain⟨u,r,l⟩:=Y i x v G e1 p;refine wpAny_AugAssign_Name ?_
 have go:wpAny (model X.prog X.w) X.A (eval e X.env) (λw j=>wpAny (model X.prog X.w) X.A (inplaceOp q u w) (λr g=>wpAny (model X.prog X.w) X.A (storeName X.env x r) (λ_=>SP X a D .next) X.xe g) X.xe j) X.xe s:=by
  exact w5 (he a s C H _ I h) λw J ⟨y,H1,I1,O,R⟩=>w5 (S a J C H1 v y u w _ I1 r O R) λz s2 ⟨zv,H2,I2,M,Q⟩=>bz I2 hN G B M (λs3 I3=>⟨_,H2,I3,Q⟩) hf
 rcases l with⟨b,U⟩ | ⟨b,c,hc,d⟩
 ·exact wpAny_loadName_local I.ok.kind b T U go
 ·rcases b with b | b
  ·exact wpAny_loadName_cell I.ok.kind b hc d go
  ·rcases B with k | k
   ·have:X.env.scope.names.lookup x=some .free:=b;rw[k] at this;cases this
   ·have:X.env.scope.names.lookup x=some .free:=b;rw[k] at this;cases this
def WE(f:Int->Int->Int):UK:=λx y H Q=>∃i j,x=.int i/\y=.int j/\Q (.int (f i j)) H
theorem EO:Wq X .Add (WE λi j=>i+j):=by
 intro a s g H x y v u Q I c b h;obtain⟨i,j,e,d,q⟩:=h;subst e;subst d;obtain⟨t,rfl⟩:=c;obtain⟨l,rfl⟩:=b;exact iadd_int ⟨.int _,H,I.tok _,⟨_,rfl⟩,q⟩
def OK(c:TT)(i:TS):TS:=λD a H=>∃W:Nat->St->Hp->Prop,(∃m,W m a H)/\∀m a H,W m a H ->
 c a H λb g=>if b=true then ∃N:St->Hp->Prop,(∀d h,N d h->∃e,e<m/\W e d h)/\i { D with nx:=N,ct:=N,bk:=D.nx } a g else D.nx a g
theorem FP(z:PassesOwn (model X.prog X.w) X.A X.env X.xe)(Y:PT X c tc)(hb:qI X body y):PS X (.While c body [] pos) (OK tc y):=by
 refine .of ?_;intro d s M H D I h;obtain⟨W,⟨U,Q⟩,i⟩:=h;refine wpAny_While (codeAny_whileLoop (λn T=>∃g J,Inv X d g J T/\W n g J) ?_ U ⟨M,H,I,Q⟩);rintro n S ⟨e,G,I1,O⟩;refine XF z (w5 (Y d S e G _ I1 (i n e G O)) λb R ⟨E,C,o⟩=>?_)
 cases b with
 | true=>
  obtain⟨N,B,o⟩:=o;refine XF z (w5 (hb d R e E _ C o) λf s3 l=>?_)
  cases f with
  | next=>
   obtain⟨a,j,x,q⟩:=l;obtain⟨r,u,p⟩:=B a j q;exact⟨r,u,a,j,x,p⟩
  | cont=>
   obtain⟨a,j,x,q⟩:=l;obtain⟨r,u,p⟩:=B a j q;exact⟨r,u,a,j,x,p⟩
  | brk=>exact l
  | ret v=>exact l
 | false=>
  exact Ze ⟨e,E,C,o⟩
end
structure It where
 go:Nat->Hp->Prop
 yld:Nat->Hp->V->Hp->Prop
 stop:Nat->Hp->Prop
def N6(X:Cx)(pins:ZO)(H:Hp)(b:Addr):Prop:=
 H b=none/\b≠X.env.locals/\b∉X.fs/\(b∈X.ex\/X.s₀.heap.objs.size<=b)/\(∀x c,X.env.cells.lookup x=some c->c≠b)/\∀p∈X.pn++pins,p.1≠b
theorem Inv.fL{σ:St}{b:Addr}(I:Inv X pins σ H s)(a:s.heap.objs.size<=b)(h:d b=none):N6 X pins d b:=by
 refine⟨h,Ya (ww I.lt a),I.Vt a,.inr (GM I.sz a),λx c e z=>?_,λp g z=>absurd (ww (vu (I.pin p g).1) (by rwa[z])) (XR _)⟩
 ·obtain⟨v,q⟩:=I.cell x c e;exact absurd (ww q.lt (by rwa[z])) (XR _)
structure Turn(P:Program)(w:World)(K:AAD)(tg:Expr)(J:It)(fp:ZS)(it:Addr)(tn:Nat->Heap->Prop):Prop where
 mem:it∈fp
 obj:∀i h,tn i h->∀b∈fp,∃o,h.get? b=some o/\∀v,o.data≠.cell v
 keep:∀i h h',tn i h->(∀b∈fp,∀o,h.get? b=some o->h'.get? b=some o)->tn i h'
 item:∀(X:Cx),X.prog=P->X.w=w->X.K=K->X.calm=true->∀(i:Nat) (pins:ZO) (s:Shared) (σ:St) (H:Hp) (E:AAB),Inv X pins σ H s->(∀b∈fp,N6 X pins H b)->tn i s.heap->J.go i H ->
  wpAny (model P w) X.A (pyNext (.ref it)) (λr s1=>∃u,r=some u /\
   wpAny (model P w) X.A (letOwnedTupleGo tg (.ref it) u) (λ_ s2=>∃x H',Inv X pins σ H' s2/\RelV x u/\J.yld i H x H'/\tn (i+1) s2.heap/\∀b∈fp,H' b=none) E s1) E s
 done:∀(X:Cx),X.prog=P->X.w=w->X.K=K->X.calm=true->∀(i:Nat) (pins:ZO) (s:Shared) (σ:St) (H:Hp) (E:AAB),Inv X pins σ H s->(∀b∈fp,N6 X pins H b)->tn i s.heap->J.stop i H ->
  wpAny (model P w) X.A (pyNext (.ref it)) (λr s1=>r=none/\Inv X pins σ H s1) E s
 self:∀(A:Around) (i:Nat) (s:Shared) (Q:AAB) (E:AAB),tn i s.heap->Q (.ref it) s->wpAny (model P w) A (pyIter (.ref it)) Q E s
abbrev TI:=St->Hp->(It->Hp->Prop)->Prop
def VF(X:Cx)(pins:ZO)(σ:St)(i:Expr)(R:It->Hp->Prop)(a:Value)(e:Shared):Prop:=
 ∃(g:Addr) (h:ZS) (d:Nat->Heap->Prop) (J:It) (c:Hp),a=.ref g/\Inv X pins σ c e/\Turn X.prog X.w X.K i J h g d/\d 0 e.heap/\(∀b∈h,N6 X pins c b)/\R J c
structure PI(X:Cx)(tg iter:Expr)(wi:TI) : Prop where
 of ::
 run :
 ∀(pins:ZO) (s:Shared) (σ:St) (H:Hp) (R:It->Hp->Prop),Inv X pins σ H s->wi σ H R ->
  wpAny (model X.prog X.w) X.A (eval iter X.env) (λv s1=>wpAny (model X.prog X.w) X.A (pyIter v) (VF X pins σ tg R) X.xe s1) X.xe s
instance {X:Cx} {tg iter:Expr} {wi:TI} : CoeFun (PI X tg iter wi) λ_=>
 ∀(pins:ZO) (s:Shared) (σ:St) (H:Hp) (R:It->Hp->Prop),Inv X pins σ H s->wi σ H R ->
  wpAny (model X.prog X.w) X.A (eval iter X.env) (λv s1=>wpAny (model X.prog X.w) X.A (pyIter v) (VF X pins σ tg R) X.xe s1) X.xe s:=⟨PI.run⟩
theorem mS{E:AAB}{vs:ZY}(c:s.heap.get? it=some o)(e:o.cls=.type n)(hd:o.data=.fields vs)
    (d:["enumerate","zip","dict_itemiterator","dict_reverseitemiterator","odict_iterator","itertools.zip_longest","itertools.pairwise"].contains n=false) (a:Q () s):wpAny M A (letOwnedTupleGo b (.ref it) u) Q E s:=by
  cases b<;>first
    | exact hE a
    | (cases u<;>first
        | exact hE a
        | (refine eH (wpAny_load c ?_)
           rw[e,hd];show wpAny M A (if (["enumerate","zip","dict_itemiterator","dict_reverseitemiterator","odict_iterator","itertools.zip_longest","itertools.pairwise"].contains n&&vs[0]? == some (rawInt _))=true then _ else _) Q E s;rw[uk (by intro h;rw[d] at h;cases h)];exact hE a))
noncomputable def UJ(K:AAD)(a:Addr):It:=
 ⟨λi H=>∃b x,G4 K H a b/\b[i]?=some x,λi H x c=>c=H/\∀b,G4 K H a b->b[i]?=some x,λi H=>∃b,G4 K H a b/\b.length<=i⟩
noncomputable def UZ(K:AAD)(a:Addr):It:=
 ⟨λi H=>∃b x,S6 K H a b/\b[i]?=some x,λi H x c=>c=H/\∀b,S6 K H a b->b[i]?=some x,λi H=>∃b,S6 K H a b/\b.length<=i⟩
noncomputable def TV(lo:Int)(n:Nat):It:=⟨λi _=>i<n,λi H x a=>a=H/\x=.int (lo+i),λi _=>n<=i⟩
theorem CN{K:AAD}(a it:Addr):Turn P w K tg (UJ K a) [it] it (λi h=>h.IsListIter it a i) where
 mem:=by simp
 obj:=λi h st b j=>by
  have e:=by simpa using j
  subst e;obtain⟨o,e,c,d⟩:=st;exact⟨o,e,λv z=>by rw[d] at z;cases z⟩
 keep:=λi h y st k=>st.at λo e=>k it (by simp) o e
 item:=by
  intro X J hw M Y i g s U H E I r st G;subst J hw M;obtain⟨xs,x,q,C⟩:=G;obtain⟨B,rv,p,hz⟩:=I.list q;obtain⟨u,hu,ru⟩:=rv.get C;obtain⟨T,S,f2,R,Q,O⟩:=r it (by simp);refine wpAny_pyNext_list_item st p.isList  (by simpa using hu) λy l sb=>?_;have I1:=I.turned (t':=s.toks) (λb o j e=>(sb.2 b j).trans e) T S R Q O;obtain⟨o,e,c,d⟩:=id l;exact⟨u,rfl,mS  e c d (by decide) ⟨x,H,I1,ru,⟨rfl,λys hy=>by rwa[I.jo hy q]⟩,l,λb j=>(r b j).1⟩⟩
 done:=by
  intro X J hw M Y i g s U H E I r st G;subst J hw M;obtain⟨xs,q,C⟩:=G;obtain⟨B,rv,p,hz⟩:=I.list q;obtain⟨T,S,f2,R,Q,O⟩:=r it (by simp);have hl:=rv.length;exact wpAny_pyNext_list_end (I.ok.hd Y) st p.isList (by simp;omega) λy eb=>⟨rfl,I.turned  (λb o j e=>eb b o j e) T S R Q O⟩
 self:=λ_ _ _ _ _ st h=>wpAny_pyIter_listiter st h
theorem iZ{K:AAD}(a it:Addr):Turn P w K tg (UZ K a) [it] it (λi h=>h.IsTupleIter it a i) where
 mem:=by simp
 obj:=λi h st b l=>by
  have e:=by simpa using l
  subst e;obtain⟨o,e,c,d⟩:=st;exact⟨o,e,λv z=>by rw[d] at z;cases z⟩
 keep:=λi h B st k=>st.at λo e=>k it (by simp) o e
 item:=by
  intro X J hw M Y i g s U H E I y st G;subst J hw M;obtain⟨xs,x,r,C⟩:=G;obtain⟨j,rv,p,hz⟩:=I.tuple r;obtain⟨u,hu,ru⟩:=rv.get C;obtain⟨T,S,f2,R,Q,O⟩:=y it (by simp);refine wpAny_pyNext_tuple_item st (p)  (by simpa using hu) λB q sb=>?_;have I1:=I.turned (t':=s.toks) (λb o l e=>(sb.2 b l).trans e) T S R Q O;obtain⟨o,e,c,d⟩:=id q;exact⟨u,rfl,mS  e c d (by decide) ⟨x,H,I1,ru,⟨rfl,λys hy=>by rwa[I.mI hy r]⟩,q,λb l=>(y b l).1⟩⟩
 done:=by
  intro X J hw M Y i g s U H E I y st G;subst J hw M;obtain⟨xs,r,C⟩:=G;obtain⟨j,rv,p,hz⟩:=I.tuple r;obtain⟨T,S,f2,R,Q,O⟩:=y it (by simp);have hl:=rv.length;exact wpAny_pyNext_tuple_end (I.ok.hd Y) st (p) (by simp;omega) λB eb=>⟨rfl,I.turned  (λb o l e=>eb b o l e) T S R Q O⟩
 self:=λ_ _ _ _ _ st h=>wpAny_pyIter_tupleiter st h
theorem wG{K:AAD}(it:Addr)(lo:Int)(n:Nat):Turn P w K M (TV lo n) [it] it (λi h=>IsRangeIter h it (lo+(i:Nat)*1) ((n:Int)-(i:Nat)) 1) where
 mem:=by simp
 obj:=λi h st b c=>by
  have e:=by simpa using c
  subst e
  exact⟨_,st,λv z=>by
   have J:=z;cases J⟩
 keep:=λi h j st k=>k it (by simp) _ st
 item:=by
  intro X q hw r p i a s G H E I g st l;subst q hw r;obtain⟨C,B,R,y,x,u⟩:=g it (by simp);have W:=Walks.range (prog:=X.prog) (w:=X.w) (I.ok.hd p) it lo 1 n;refine W.item i s _ _ l st λv j tk Q d O=>?_;obtain⟨t,rfl⟩:=Q;have T:Inv X a G H { s with heap:=j,toks:=tk }:=I.turned (λb o c e=>O b o (by simpa using c) e) C B y x u;refine⟨_,rfl,mS   d rfl rfl (by decide) ⟨.int (lo+i),H,T,⟨t,?_⟩,⟨rfl,rfl⟩,d,λb c=>(g b c).1⟩⟩;rw[Int.mul_one]
 done:=by
  intro X q hw r p i a s G H E I g st l;obtain⟨C,B,R,y,x,u⟩:=g it (by simp);exact wpAny_pyNext_range_end (I.ok.hd p) st (by have:n<=i:=l;omega) λj S=>⟨rfl,I.turned  (λb o c e=>S b o c e) C B y x u⟩
 self:=λ_ _ _ _ _ st h=>wpAny_pyIter_rangeiter st h
section
variable{X:Cx}{tg:Expr}
def Wb(K:AAD)(e:TE):TI:=λc H R=>e c H λx b=>∃a,x=.ref a/\(∃d,S6 K b a d)/\R (UZ K a) b
theorem OA(B:PE X l j):PI X tg l (Wb X.K j):=by
 refine .of ?_;intro d s r H R I h;refine w5 (B d s r H _ I h) λv c ⟨x,E,g,u,y⟩=>?_;obtain⟨a,e,⟨G,z⟩,q⟩:=y;subst e;cases u;obtain⟨i,rv,p,J⟩:=g.tuple z;refine Zz (p) (⟨c.heap.objs.size,[c.heap.objs.size],_,_,E,rfl,g.kept  λb o e=>hD _ e,iZ a _,⟨_,u0 _ rfl,rfl,rfl⟩,λb C=>?_,q⟩);have e:=by simpa using C
 subst e;exact g.fL (sK _) (g.hok.fresh (sK _))
theorem uN{σ:St}{E:AAB}{lo a:Int}(I:Inv X pins σ H s)(j:-(2^62)<=lo)(i:lo<2^62)(h:-(2^62)<=a)(g:a<2^62)
  (q:R (TV lo (a-lo).toNat) H):wpAny (model X.prog X.w) X.A (pyIter (.ref s.heap.objs.size)) (VF X pins σ tg R) E { s with heap:=s.heap.push { cls:=.type "range",data:=.fields #[.int lo t,.int a u,.int 1 v] },toks:=tk }:=by
 refine wpAny_pyIter_range (IsRange.new ..) (small_one j i h g) ?_;have c:Inv X pins σ H { s with heap:=s.heap.push { cls:=.type "range",data:=.fields #[.int lo t,.int a u,.int 1 v] },toks:=tk }:=I.kept λb o e=>hD _ e
 refine⟨(s.heap.push { cls:=.type "range",data:=.fields #[.int lo t,.int a u,.int 1 v] }).objs.size,[(s.heap.push { cls:=.type "range",data:=.fields #[.int lo t,.int a u,.int 1 v] }).objs.size],_,_,H,rfl,
  c.kept  λb o e=>hD _ e,wG _ lo (a-lo).toNat,?_,λb d=>?_,q⟩
 ·have p:lo+((0:Nat))*1=lo:=by simp
  have l:(((a-lo).toNat))-((0:Nat))=Builtin.Range.rangeSize lo a 1:=by rw[rangeSize_one];split<;>omega
  rw[p,l];exact u0 _ rfl
 ·have e:b=(s.heap.push { cls:=.type "range",data:=.fields #[.int lo t,.int a u,.int 1 v] }).objs.size:=by simpa using d
  subst e;exact c.fL (sK _) (c.hok.fresh (sK _))
def GG(b:TA):TI:=λa H R=>b a H λvs c=>∃j:Int,vs=[.int j]/\-(2^62)<=j/\j<2^62/\R (TV 0 j.toNat) c
def Oa(b:TA):TI:=λa H R=>b a H λvs c=>∃i j:Int,vs=[.int i,.int j]/\(-(2^62)<=i/\i<2^62/\-(2^62)<=j/\j<2^62)/\R (TV i (j-i).toNat) c
theorem G7    (y:Gl X "range") (x:X.mg "range"=none) (z:PA X [a] g) (v:starEach [a] X.env=[(false,eval a X.env)]:=by rfl):PI X tg (.Call (.Name "range" p) [a] [] b) (GG g):=by
 refine .of ?_;intro c s i H R I h;refine Call_ (bG I y x boot_range (Xy (w5 (z b c s i H _ I h) λC E ⟨vs,G,B,o,d⟩=>?_) v rfl));obtain⟨j,e,d,u,q⟩:=d;subst e
 cases o with
 | cons r l=>
  cases l;obtain⟨t,rfl⟩:=r;exact call_range_1 (uN B (by omega) (by omega) d u (by simpa using q))
theorem fJ   {p c:Pos} (J:Gl X "range") (G:X.mg "range"=none) (M:PA X [a,b] u) (E:starEach [a,b] X.env=[(false,eval a X.env),(false,eval b X.env)]:=by rfl) (g:starEach [b] X.env=[(false,eval b X.env)]:=by rfl) :
  PI X tg (.Call (.Name "range" p) [a,b] [] c) (Oa u):=by
 refine .of ?_;intro d s v H R I h;refine Call_ (bG I J G boot_range (Xy (w5 (M c d s v H _ I h) λQ T ⟨vs,U,O,x,o⟩=>?_) (by rw[E,g]) (by rw[g];rfl)));obtain⟨i,j,e,⟨o,C,B,z⟩,q⟩:=o;subst e
 cases x with
 | cons r l=>
  cases l with
  | cons y l=>
   cases l;obtain⟨t,rfl⟩:=r;obtain⟨S,rfl⟩:=y;exact call_range_2 (uN O o C B z q)
def TF(h:TI)(g:TG)(j:TS):TS:=λD a H=>h a H λJ o=>∃W:Nat->Nat->St->Hp->Prop,(∃m,W 0 m a o)/\∀i m a H,W i m a H ->
 (J.stop i H/\D.nx a H)\/(J.go i H/\∃N:St->Hp->Prop,(∀b c,N b c->∃e,e<m/\W (i+1) e b c)/\∀x c,J.yld i H x c->g x a c λd l=>j { D with nx:=N,ct:=N,bk:=D.nx } d l)
noncomputable def bu(a:ZS)(h:Heap):ZO:=a.filterMap λb=>(h.get? b).map λo=>(b,o)
theorem C5(c:b∈a)(e:h.get? b=some o):(b,o)∈bu a h:=List.mem_filterMap.mpr ⟨b,c,by rw[e];rfl⟩
theorem BX(c:p∈bu a h):p.1∈a/\h.get? p.1=some p.2:=by
 obtain⟨b,d,e⟩:=List.mem_filterMap.mp c
 cases q:h.get? b with
 | none=>rw[q] at e;cases e
 | some o=>
  rw[q] at e;have g:=x2 e;subst g;exact⟨d,q⟩
theorem Inv.pinned{σ:St}(I:Inv X pins σ H s)(j:∀b∈a,N6 X pins H b)(i:∀b∈a,∃o,s.heap.get? b=some o/\∀v,o.data≠.cell v):Inv X (pins++bu a s.heap) σ H s:=
 I.zM λp h=>(List.mem_append.mp h).elim (λz=>I.pin p (tz _ z)) λz=>by
  obtain⟨c,e⟩:=BX z;obtain⟨r,q,l,_⟩:=j p.1 c;obtain⟨o,g,d⟩:=i p.1 c;rw[e] at g;cases g;exact⟨e,r,q,l,d⟩
theorem Inv.T8{σ:St}(I:Inv X (pins++pl) σ H s):Inv X pins σ H s:=I.zM λp a=>I.pin p (tz _ (v5 _ a))
theorem p4(R:PassesOwn (model X.prog X.w) X.A X.env X.xe)(hc:X.calm=true)(hi:PI X tg q wi)(hg:PG X tg g)(y:qI X body tb)
  (hs:∀x,foldedSetIterable q X.env x=pure x:=by intro _;rfl):PS X (.For tg q body [] a2) (TF wi g tb):=by
 refine .of ?_;intro c s σ H D I h;refine wpAny_For (w5 (hi c s σ H _ I h) λv s1 h1=>w5 h1 λa5 s2 h2=>?_) hs;obtain⟨it,U,tn,J,H2,e,I2,T,a1,f2,W,⟨m0,w0⟩,M⟩:=h2;subst e;have p:∀{C:Hp},(∀b∈U,C b=none)->∀b∈U,N6 X c C b:=λhn b y=>⟨hn b y,(f2 b y).2⟩
 refine codeAny_forLoop_any (λn s'=>∃i l C,Inv X c l C s'/\tn i s'.heap/\(∀b∈U,C b=none)/\W i n l C) ?_ m0 ⟨0,σ,H2,I2,a1,λb y=>(f2 b y).1,w0⟩;rintro n s3 ⟨i,j,Y,I3,O,S,w3⟩;rcases M i n j Y w3 with⟨stop,qn⟩ | ⟨go,N,hN,step⟩
 ·refine XF R (w5 (T.done X rfl rfl rfl hc i c s3 j Y X.xe I3 (p S) O stop) λr s4 ⟨hr,I4⟩=>?_);subst hr;exact Ze ⟨j,Y,I4,qn⟩
 ·refine XF R (w5 (T.item X rfl rfl rfl hc i c s3 j Y X.xe I3 (p S) O go) λr s4 ⟨u,hr,h4⟩=>?_);subst hr;refine XF R (w5 h4 λ_ s5 ⟨x,H5,I5,r5,y5,G,a3⟩=>?_);have a4:=I5.pinned (p a3) (T.obj _ _ G);refine XF R (w5 (hg _ s5 j H5 x u _ a4 r5 (step x H5 y5)) λ_ s6 ⟨a0,H6,I6,q6⟩=>XF R (w5 (y _ s6 a0 H6 _ I6 q6) λf s7 E=>?_))
  have again:∀{a:St} {B:Hp},Inv X (c++bu U s5.heap) a B s7->N a B->∃m,m<n/\∃i l C,Inv X c l C s7/\tn i s7.heap/\(∀b∈U,C b=none)/\W i m l C:=λ{a B} z Q=>by
   obtain⟨m',hm,w7⟩:=hN a B Q;refine⟨m',hm,i+1,a,B,z.T8,T.keep _ _ _ G λb y o e=>(z.pin (b,o) (tz _ (tz _ (C5 y e)))).1,λb y=>?_,w7⟩;obtain⟨o,e,d⟩:=T.obj _ _ G b y;exact(z.pin (b,o) (tz _ (tz _ (C5 y e)))).2.1
  cases f with
  | next=>obtain⟨a,B,z,Q⟩:=E;exact again z Q
  | cont=>obtain⟨a,B,z,Q⟩:=E;exact again z Q
  | brk=>obtain⟨a,B,z,E⟩:=E;exact⟨a,B,z.T8,E⟩
  | ret v=>obtain⟨x7,a,B,z,r7,E⟩:=E;exact⟨x7,a,B,z.T8,r7,E⟩
end
abbrev R2:=V->V->Hp->VK->Prop
def P6(X:Cx)(f:Value->Value->Sem Value)(r:R2):Prop:=
 ∀(a:ZO) (s:Shared) (b:St) (H:Hp) (x y:V) (v u:Value) (Q:VK),Inv X a b H s->RelV x v->RelV y u->r x y H Q ->
  wpAny (model X.prog X.w) X.A (f v u) (EP X a b Q) X.xe s
def We(X:Cx)(f:Value->Sem Value)(r:V->Hp->VK->Prop):Prop:=
 ∀(a:ZO) (s:Shared) (b:St) (H:Hp) (x:V) (v:Value) (Q:VK),Inv X a b H s->RelV x v->r x H Q ->
  wpAny (model X.prog X.w) X.A (f v) (EP X a b Q) X.xe s
def G0(X:Cx)(f:Value)(r:List V->Hp->VK->Prop):Prop:=
 ∀(a:ZO) (s:Shared) (b:St) (H:Hp) (c:List V) (d:ZU) (Q:VK),Inv X a b H s->Vals c d->r c H Q ->
  wpAny (model X.prog X.w) X.A (call f d) (EP X a b Q) X.xe s
def VT(X:Cx)(r:V->Hp->(Bool->Hp->Prop)->Prop):Prop:=
 ∀(a:ZO) (s:Shared) (b:St) (H:Hp) (x:V) (v:Value) (Q:Bool->Hp->Prop),Inv X a b H s->RelV x v->r x H Q ->
  wpAny (model X.prog X.w) X.A (truthy v) (TP X a b Q) X.xe s
def RH(r:R2)(c b:TE):TE:=λa H Q=>c a H λx e=>b a e λy d=>r x y d Q
def WL(r:V->Hp->VK->Prop)(b:TE):TE:=λa H Q=>b a H λx c=>r x c Q
def rI(C:Int->Int->Prop)(g:Int->Int->V):R2:=λx y H Q=>∃i j,x=.int i/\y=.int j/\C i j/\Q (g i j) H
def Dq(g:Int->Int->V):R2:=λx y H Q=>∃i j,x=.int i/\y=.int j/\Q (g i j) H
def rU(g:Int->V):V->Hp->VK->Prop:=λx H Q=>∃i,x=.int i/\Q (g i) H
section
variable{X:Cx}{a b c:Expr}{ta tb tc:TE}{pos:Pos}
theorem Pe(C:PE X a ta)(B:PE X b tb){σ:St}{R:V->V->Hp->Prop}(I:Inv X pins σ H s)
  (h:ta σ H λx j=>tb σ j λy d=>R x y d) {Q:AAB} {f:Value->Value->Sem Value}
  (z:∀v u i x y d,Inv X pins σ d i->RelV x v->RelV y u->R x y d->wpAny (model X.prog X.w) X.A (f v u) Q X.xe i) :
  wpAny (model X.prog X.w) X.A (eval a X.env) (λv g=>wpAny (model X.prog X.w) X.A (eval b X.env) (λu e=>wpAny (model X.prog X.w) X.A (f v u) Q X.xe e) X.xe g) X.xe s:=w5 (C pins s σ H _ I h) λv l ⟨x,j,G,p,r⟩=>w5 (B pins l σ j _ G r) λu i ⟨y,d,E,o,q⟩=>z v u i x y d E p o q
theorem Nb(o:P6 X (binaryOp e) r)(z:PE X a ta)(p:PE X b tb):PE X (.BinOp a e b pos) (RH r ta tb):=by
 refine .of ?_;intro d s g H Q I h;exact wpAny_BinOp (Pe z p I h λv u i x y C B l j q=>o d i g C x y v u Q B l j q)
theorem Uk(o:We X (unaryOp g) r)(p:PE X a ta):PE X (.UnaryOp g a pos) (WL r ta):=by
 refine .of ?_;intro d s e H Q I h;exact UnaryOp_ (w5 (p d s e H _ I h) λv i ⟨x,u,q,j,l⟩=>o d i e u x v Q q j l)
theorem UT{g:Int->Int->Int}
  (rule:∀(i j:Int) (t u:Tok) (s:Shared) (Q:AAB) (E:AAB),C i j->Q (.int (g i j) s.toks) { s with toks:=s.toks+1 }->wpAny (model X.prog X.w) X.A (f (.int i t) (.int j u)) Q E s) :
  P6 X f (rI C λi j=>.int (g i j)):=by
 intro d s r H x y v u Q I o l h;obtain⟨i,j,rfl,rfl,p,q⟩:=h;obtain⟨t,rfl⟩:=o;obtain⟨e,rfl⟩:=l;exact rule i j t e s _ _ p ⟨.int (g i j),H,I.tok _,⟨_,rfl⟩,q⟩
theorem Sk{g:Int->Int->Int}
  (rule:∀(i j:Int) (t u:Tok) (s:Shared) (Q:AAB) (E:AAB),Q (.int (g i j) s.toks) { s with toks:=s.toks+1 }->wpAny (model X.prog X.w) X.A (f (.int i t) (.int j u)) Q E s) :
  P6 X f (Dq λi j=>.int (g i j)):=by
 intro d s p H x y v u Q I o l h;obtain⟨i,j,rfl,rfl,q⟩:=h;obtain⟨t,rfl⟩:=o;obtain⟨e,rfl⟩:=l;exact rule i j t e s _ _ ⟨.int (g i j),H,I.tok _,⟨_,rfl⟩,q⟩
theorem Kt{g:Int->Int->Bool}
  (rule:∀(i j:Int) (t u:Tok) (s:Shared) (Q:AAB) (E:AAB),Q (.bool (g i j)) s->wpAny (model X.prog X.w) X.A (f (.int i t) (.int j u)) Q E s) :
  P6 X f (Dq λi j=>.bl (g i j)):=by
 intro d s p H x y v u Q I o l h;obtain⟨i,j,rfl,rfl,q⟩:=h;obtain⟨t,rfl⟩:=o;obtain⟨e,rfl⟩:=l;exact rule i j t e s _ _ ⟨.bl (g i j),H,I,rfl,q⟩
def bM(i j:Int):Prop:=0<=j/\j<=1000000/\i.natAbs<2^64
def N9(i j:Int):Prop:=(-(2^64)<i/\i<2^64)\/(-(2^64)<j/\j<2^64)
theorem N9.ok(h:N9 i j):IntMulOk i j:=by
 rcases h with⟨e,d⟩ | ⟨e,d⟩
 ·exact .of_left (intBits_le_64 e d)
 ·exact .of_right (intBits_le_64 e d)
theorem Rn:P6 X (binaryOp .Add) (Dq λi j=>.int (i+j)):=Sk λ_ _ _ _ _ _ _ q=>add_int q
theorem Qj:P6 X (binaryOp .Sub) (Dq λi j=>.int (i-j)):=Sk λ_ _ _ _ _ _ _ q=>sub_int q
theorem Pq:P6 X (binaryOp .Mult) (rI N9 λi j=>.int (i*j)):=UT λ_ _ _ _ _ _ _ d q=>mul_int q d.ok
theorem Jg:P6 X (binaryOp .Mod) (rI (λ_ j=>0<j) λi j=>.int (i%j)):=UT λi j _ _ _ _ _ d q=>mod_int' (by omega) (by rwa[Int.fmod_eq_emod_of_nonneg i (by omega)])
theorem Qb:P6 X (binaryOp .Pow) (rI bM λi j=>.int (i^j.toNat)):=UT λ_ _ _ _ _ _ _ d q=>pow_int_small d.1 d.2.1 d.2.2 q
theorem WN{g:Int->Int}
  (rule:∀(i:Int) (t:Tok) (s:Shared) (Q:AAB) (E:AAB),Q (.int (g i) s.toks) { s with toks:=s.toks+1 }->wpAny (model X.prog X.w) X.A (f (.int i t)) Q E s) :
  We X f (rU λi=>.int (g i)):=by
 intro d s j H x v Q I e h;obtain⟨i,rfl,q⟩:=h;obtain⟨t,rfl⟩:=e;exact rule i t s _ _ ⟨.int (g i),H,I.tok _,⟨_,rfl⟩,q⟩
theorem PD:We X (unaryOp .USub) (rU λi=>.int (-i)):=WN λ_ _ _ _ _ q=>neg_int q
end
noncomputable def OI:V->V->Bool
 | .o6,.o6=>true | .o6,.int _=>true | .int _,.o6=>true | .o6,.bl _=>true | .bl _,.o6=>true | .o6,.str _=>true | .str _,.o6=>true
 | .int _,.int _=>true | .bl _,.bl _=>true | .str _,.str _=>true | .byt _,.byt _=>true
 | .int _,.str _=>true | .str _,.int _=>true | .bl _,.str _=>true | .str _,.bl _=>true
 | _,_=>false
def Wm:R2:=λx y H Q=>OI x y=true/\Q (.bl (decide (x=y))) H
def Wx:R2:=λx y H Q=>OI x y=true/\Q (.bl (!decide (x=y))) H
theorem zT:decide (V.int i=V.int j)=(i == j):=by
 rw[YT];simp
theorem HC:decide (V.bl i=V.bl j)=(i == j):=by
 rw[YT];simp
theorem zD:decide (V.str i=V.str j)=(i == j):=by
 rw[YT];simp
theorem AF:decide (V.byt i=V.byt j)=(i.toList == j.toList):=by
 rw[YT];cases i;cases j;simp
section
variable{X:Cx}{a b c:Expr}{ta tb tc:TE}{pos:Pos}
theorem p8{σ:St}(I:Inv X pins σ H s)(q:Q (.bl k) H)(e:k=d):EP X pins σ Q (.bool d) s:=by
 subst e;exact⟨.bl k,H,I,rfl,q⟩
theorem EV:P6 X (compareOp .Eq) Wm:=by
 intro o s p H x y v u Q I l d h;obtain⟨g,q⟩:=h
 cases x with
 | o6=>
  cases l
  cases y with
  | o6=>cases d;exact PySem.EqNone.eq_none_none (p8 I q (by simp))
  | bl j=>cases d;exact PySem.EqNone.eq_none_bool (p8 I q (by simp))
  | int j=>obtain⟨e,rfl⟩:=d;exact PySem.EqNone.eq_none_int (p8 I q (by simp))
  | str j=>obtain⟨e,rfl⟩:=d;exact PySem.EqNone.eq_none_str (p8 I q (by simp))
  | _=>exact absurd (g) ud
 | bl i=>
  cases l
  cases y with
  | o6=>cases d;exact PySem.EqNone.eq_bool_none (p8 I q (by simp))
  | bl j=>cases d;exact eq_bool (p8 I q HC)
  | str j=>obtain⟨e,rfl⟩:=d;exact PySem.EqMixed.eq_bool_str (p8 I q (by simp))
  | _=>exact absurd (g) ud
 | int i=>
  obtain⟨t,rfl⟩:=l
  cases y with
  | o6=>cases d;exact PySem.EqNone.eq_int_none (p8 I q (by simp))
  | int j=>obtain⟨e,rfl⟩:=d;exact eq_int (p8 I q zT)
  | str j=>obtain⟨e,rfl⟩:=d;exact PySem.EqMixed.eq_int_str (p8 I q (by simp))
  | _=>exact absurd (g) ud
 | str i=>
  obtain⟨t,rfl⟩:=l
  cases y with
  | o6=>cases d;exact PySem.EqNone.eq_str_none (p8 I q (by simp))
  | bl j=>cases d;exact PySem.EqMixed.eq_str_bool (p8 I q (by simp))
  | int j=>obtain⟨e,rfl⟩:=d;exact PySem.EqMixed.eq_str_int (p8 I q (by simp))
  | str j=>obtain⟨e,rfl⟩:=d;exact eq_str (p8 I q zD)
  | _=>exact absurd (g) ud
 | byt i=>
  obtain⟨t,rfl⟩:=l
  cases y with
  | byt j=>obtain⟨e,rfl⟩:=d;exact PySem.W.eq_bytes (p8 I q AF)
  | _=>exact absurd (g) ud
 | _=>cases y<;>exact absurd (show false=true from g) ud
theorem TL:P6 X (compareOp .NotEq) Wx:=by
 intro o s p H x y v u Q I l d h;obtain⟨g,q⟩:=h
 cases x with
 | o6=>
  cases l
  cases y with
  | o6=>cases d;exact PySem.EqNone.ne_none_none (p8 I q (by simp))
  | bl j=>cases d;exact PySem.EqNone.ne_none_bool (p8 I q (by simp))
  | int j=>obtain⟨e,rfl⟩:=d;exact PySem.EqNone.ne_none_int (p8 I q (by simp))
  | str j=>obtain⟨e,rfl⟩:=d;exact PySem.EqNone.ne_none_str (p8 I q (by simp))
  | _=>exact absurd (g) ud
 | bl i=>
  cases l
  cases y with
  | o6=>cases d;exact PySem.EqNone.ne_bool_none (p8 I q (by simp))
  | bl j=>cases d;exact ne_bool (p8 I q (Sc not HC))
  | str j=>obtain⟨e,rfl⟩:=d;exact PySem.EqMixed.ne_bool_str (p8 I q (by simp))
  | _=>exact absurd (g) ud
 | int i=>
  obtain⟨t,rfl⟩:=l
  cases y with
  | o6=>cases d;exact PySem.EqNone.ne_int_none (p8 I q (by simp))
  | int j=>obtain⟨e,rfl⟩:=d;exact ne_int (p8 I q (Sc not zT))
  | str j=>obtain⟨e,rfl⟩:=d;exact PySem.EqMixed.ne_int_str (p8 I q (by simp))
  | _=>exact absurd (g) ud
 | str i=>
  obtain⟨t,rfl⟩:=l
  cases y with
  | o6=>cases d;exact PySem.EqNone.ne_str_none (p8 I q (by simp))
  | bl j=>cases d;exact PySem.EqMixed.ne_str_bool (p8 I q (by simp))
  | int j=>obtain⟨e,rfl⟩:=d;exact PySem.EqMixed.ne_str_int (p8 I q (by simp))
  | str j=>obtain⟨e,rfl⟩:=d;exact ne_str (p8 I q (Sc not zD))
  | _=>exact absurd (g) ud
 | byt i=>
  obtain⟨t,rfl⟩:=l
  cases y with
  | byt j=>obtain⟨e,rfl⟩:=d;exact PySem.W.ne_bytes (p8 I q (Sc not AF))
  | _=>exact absurd (g) ud
 | _=>cases y<;>exact absurd (show false=true from g) ud
theorem Of:P6 X (compareOp .Lt) (Dq λi j=>.bl (decide (i<j))):=Kt λ_ _ _ _ _ _ _ q=>lt_int q
theorem Ti:P6 X (compareOp .LtE) (Dq λi j=>.bl (decide (i<=j))):=Kt λ_ _ _ _ _ _ _ q=>le_int q
theorem DU:P6 X (compareOp .Gt) (Dq λi j=>.bl (decide (j<i))):=Kt λ_ _ _ _ _ _ _ q=>gt_int q
theorem TN:P6 X (compareOp .GtE) (Dq λi j=>.bl (decide (j<=i))):=Kt λ_ _ _ _ _ _ _ q=>ge_int q
theorem CB:P6 X (compareOp .In) (λx y H Q=>∃i j,x=.str i/\y=.str j/\Q (.bl (!(Builtin.Str.occurrences j i 0 j.length 1).isEmpty)) H):=by
 intro d s l H x y v u Q I g e h;obtain⟨i,j,rfl,rfl,q⟩:=h;obtain⟨t,rfl⟩:=g;obtain⟨o,rfl⟩:=e;exact in_str (p8 I q rfl)
theorem Ge:P6 X (compareOp .Is) (λx y H Q=>y=.o6/\Q (.bl (decide (x=.o6))) H):=by
 intro e s i H x y v u Q I d g h;obtain⟨rfl,q⟩:=h;cases g;refine is_none_gen (p8 I q ?_)
 cases x<;>first
  | (cases d;rfl)
  | (obtain⟨t,rfl⟩:=d;rfl)
theorem KI:P6 X (compareOp .IsNot) (λx y H Q=>y=.o6/\Q (.bl (!decide (x=.o6))) H):=by
 intro e s i H x y v u Q I d g h;obtain⟨rfl,q⟩:=h;cases g;refine isnot_none_gen (p8 I q ?_)
 cases x<;>first
  | (cases d;rfl)
  | (obtain⟨t,rfl⟩:=d;rfl)
theorem oD:P6 X (compareOp .NotIn) (λx y H Q=>∃i j,x=.str i/\y=.str j/\Q (.bl (!(!(Builtin.Str.occurrences j i 0 j.length 1).isEmpty))) H):=by
 intro d s l H x y v u Q I g e h;obtain⟨i,j,rfl,rfl,q⟩:=h;obtain⟨t,rfl⟩:=g;obtain⟨o,rfl⟩:=e;exact notIn_str (p8 I q rfl)
theorem P6.or(h:P6 X f r)(h':P6 X f j):P6 X f (λx y H Q=>r x y H Q\/j x y H Q):=by
 intro d s e H x y v u Q I i g q;rcases q with q | q
 ·exact h d s e H x y v u Q I i g q
 ·exact h' d s e H x y v u Q I i g q
theorem i7(b:Expr)(h:d≠.In:=by decide)(e:d≠.NotIn:=by decide):behindInMarks d b=false:=by
 have i:(d == CmpOp.In)=false:=by cases d<;>first | rfl | exact absurd rfl h
 have g:(d == CmpOp.NotIn)=false:=by cases d<;>first | rfl | exact absurd rfl e
 cases b<;>simp[behindInMarks,i,g]
theorem Ar(o:P6 X (compareOp e) r)(B:PE X a ta)(z:PE X b tb)(p:behindInMarks e b=false):PE X (.Compare a [e] [b] pos) (RH r ta tb):=by
 refine .of ?_;intro d s g H Q I h;exact wpAny_Compare1 (Pe B z I h λv u i x y E C l j q=>o d i g E x y v u Q C l j q) p
def Tg(t:TE):TT:=λd H Q=>t d H λx e=>∃k,x=.bl k/\Q k e
theorem zy(G:P6 X (compareOp i) r)(O:PE X a ta)(M:PE X b tb)(J:behindInMarks i b=false):PT X (.Compare a [i] [b] pos) (Tg (RH r ta tb)):=by
 refine .of ?_;intro d s g H Q I h
 refine wpAny_isTrue_Compare1 (w5 (O d s g H _ I h) λv l ⟨x,H1,T,q,E⟩=>w5 (M d l g H1 _ T E) λu j ⟨y,Y,S,p,C⟩=>
  w5 (G d j g Y x y v u _ S q p C) λc s3 ⟨z,U,R,o,k,e,B⟩=>?_) J
 subst e;cases o;exact YL ⟨U,R,B⟩
def Se(K:AAD)(x:V)(H:Hp)(k:Bool):Prop:=
 match x with
 | .o6=>k=false
 | .bl b=>k=b
 | .int i=>k=(i != 0)
 | .str y=>y.length<=sizeLine/\k=((y.length:Int) != 0)
 | .byt y=>y.size<=sizeLine/\k=((y.size:Int) != 0)
 | .ref p=>(∃d,G4 K H p d/\k=!d.isEmpty)\/(∃d,S6 K H p d/\k=!d.isEmpty)\/∃e,Dd H p e/\k=!e.isEmpty
 | _=>False
theorem yf(r:KV kvs vs):(!vs.isEmpty)=!kvs.isEmpty:=by
 cases r<;>rfl
theorem kq(r:Vals xs its):(!its.toArray.isEmpty)=!xs.isEmpty:=by
 cases r<;>simp
theorem fN:(sizeLine:Nat)<2^63:=by decide
theorem Rr:VT X (λx H Q=>∃k,Se X.K x H k/\Q k H):=by
 intro B s J H x v Q I o h;obtain⟨k,e,q⟩:=h;have M:=Uf
 cases x with
 | o6=>
  cases o;have d:=e;subst d;exact truthy_none ⟨H,I,q⟩
 | bl b=>
  cases o;have d:k=b:=e;subst d;exact YL ⟨H,I,q⟩
 | int i=>
  obtain⟨t,rfl⟩:=o;have d:k=(i != 0):=e;subst d;exact PySem.P.truthy_int ⟨H,I,q⟩
 | str y=>
  obtain⟨t,rfl⟩:=o;obtain⟨E,d⟩:y.length<=sizeLine/\k=((y.length:Int) != 0):=e;subst d;exact PySem.P.truthy_str (by omega) ⟨H,I.tok _,q⟩
 | byt y=>
  obtain⟨t,rfl⟩:=o;obtain⟨E,d⟩:y.size<=sizeLine/\k=((y.size:Int) != 0):=e;subst d;exact PySem.W.truthy_bytes (by omega) ⟨H,I.tok _,q⟩
 | ref p=>
  cases o;have d:(∃l,G4 X.K H p l/\k=!l.isEmpty)\/(∃l,S6 X.K H p l/\k=!l.isEmpty)\/∃g,Dd H p g/\k=!g.isEmpty:=e;rcases d with⟨l,u,d⟩ | ⟨l,u,d⟩ | ⟨g,u,d⟩
  ·subst d;obtain⟨z,r,pl,C⟩:=I.list u;have j:=r.length;exact wpAny_truthy_list pl.isList (by simp only[u8];omega) ⟨H,I.tok _,by rw[kq r];exact q⟩
  ·subst d;obtain⟨z,r,pl,C⟩:=I.tuple u;have j:=r.length;exact truthy_tuple pl (by simp only[u8];omega) ⟨H,I.tok _,by rw[kq r];exact q⟩
  ·subst d;obtain⟨C,G,vs,r,m⟩:g.length<=sizeLine/\(p == sysModules)=false/\∃vs,KV g vs/\s.heap.DictOf (j6 X.prog X.w) p vs:=(show u9 X.prog X.w H s.heap p (.dK g) from u.ok I.hok)
   have j:g.length=vs.length:=Zv r;exact wpAny_truthy_dict G m (by omega) ⟨H,I.tok _,by rw[yf r];exact q⟩
 | _=>exact(show False from e).elim
theorem Gf(p:PE X a ta)(o:∀d,isTrue a X.env d=(do let v <-d;standAt a.pos;holding [v] (truthy v))) :
  PT X a (λσ H Q=>ta σ H λx g=>∃k,Se X.K x g k/\Q k g):=by
 refine .of ?_;intro e s σ H Q I h;exact isTrue_plain (w5 (p e s σ H _ I h) λv i ⟨x,r,q,j,l⟩=>Rr e i σ r x v Q q j l) (o _)
theorem yn:P6 X (binaryOp .Add) (λx y H Q=>∃i j,x=.str i/\y=.str j/\i.length+j.length<=sizeLine/\Q (.str (i++j)) H):=by
 intro d s p H x y v u Q I l g h;obtain⟨i,j,rfl,rfl,o,q⟩:=h;obtain⟨t,rfl⟩:=l;obtain⟨e,rfl⟩:=g;exact add_str (λe tk=>⟨.str (i++j),H,I.tok _,⟨_,rfl⟩,q⟩) o
theorem vals1(r:Vals [x] d):∃u,d=[u]/\RelV x u:=by
 cases r with
 | cons g e=>cases e;exact⟨_,rfl,g⟩
theorem vals2(r:Vals [x,y] e):∃u d,e=[u,d]/\RelV x u/\RelV y d:=by
 cases r with
 | cons j i=>
  cases i with
  | cons h g=>cases g;exact⟨_,_,rfl,j,h⟩
theorem Z0(g:X.calm=true):G0 X (.builtin "max") (λxs H Q=>∃i j,xs=[.int i,.int j]/\Q (.int (if j>i then j else i)) H):=by
 intro e s l H xs p Q I r h;obtain⟨i,j,rfl,q⟩:=h;obtain⟨u,o,rfl,⟨t,rfl⟩,⟨v,rfl⟩⟩:=vals2 r;refine max_two_ints (I.ok.hd g) λx tk k=>⟨_,H,I.kept k,?_,q⟩
 by_cases d:j>i
 ·rw[ux d,ux d];exact⟨_,rfl⟩
 ·rw[uk d,uk d];exact⟨_,rfl⟩
theorem Bg:G0 X (.type "int") (λxs H Q=>(∃i,xs=[.int i]/\Q (.int i) H)\/∃k,xs=[.bl k]/\Q (.int (if k then 1 else 0)) H):=by
 intro d s g H xs j Q I r h;rcases h with⟨i,rfl,q⟩ | ⟨k,rfl,q⟩
 ·obtain⟨u,rfl,t,rfl⟩:=vals1 r;exact call_int_int ⟨.int i,H,I,⟨_,rfl⟩,q⟩
 ·obtain⟨u,rfl,e⟩:=vals1 r;cases e;exact call_int_bool ⟨.int (if k then 1 else 0),H,I.tok _,⟨_,rfl⟩,q⟩
def Ph(K:AAD)(x:V)(H:Hp)(n:Nat):Prop:=
 match x with
 | .str y=>y.length<=sizeLine/\n=y.length
 | .byt y=>y.size<=sizeLine/\n=y.size
 | .ref p=>(∃d,G4 K H p d/\n=d.length)\/∃d,S6 K H p d/\n=d.length
 | _=>False
theorem B7:G0 X (.builtin "len") (λxs H Q=>∃x n,xs=[x]/\Ph X.K x H n/\Q (.int n) H):=by
 intro v s C H xs E Q I r h;obtain⟨x,n,rfl,e,q⟩:=h;obtain⟨u,rfl,i⟩:=vals1 r;have G:=Uf
 cases x with
 | str y=>
  obtain⟨t,rfl⟩:=i;obtain⟨B,g⟩:y.length<=sizeLine/\n=y.length:=e;subst g;exact len_str (by omega) ⟨.int _,H,I.tok _,⟨_,rfl⟩,q⟩
 | byt y=>
  obtain⟨t,rfl⟩:=i;obtain⟨B,g⟩:y.size<=sizeLine/\n=y.size:=e;subst g;exact PySem.W.len_bytes (by omega) ⟨.int _,H,I.tok _,⟨_,rfl⟩,q⟩
 | ref p=>
  cases i;have g:=e;rcases g with⟨xs,o,g⟩ | ⟨xs,o,g⟩
  ·subst g;obtain⟨l,j,pl,z⟩:=I.list o;have d:=j.length;exact Calls.call_len_list pl.isList (by simp[];omega) ⟨.int xs.length,H,I.tok _,⟨_,by simp only[u8];rw[d]⟩,q⟩
  ·subst g;obtain⟨l,j,pl,z⟩:=I.tuple o;have d:=j.length;exact len_tuple pl (by simp[];omega) ⟨.int xs.length,H,I.tok _,⟨_,by simp only[u8];rw[d]⟩,q⟩
 | _=>exact(e).elim
end
structure KR(h:Heap)(x dx C:Addr)(mA:ZZ):Prop where
 obj:h.get? x=some (PySem.W.instObj C dx)
 ns:h.Ns1 dx mA
 ne:dx≠x
theorem BZ{h:Heap}{d:ZZ}(n:h.Ns1 i d):∃c,h.get? i=some c/\∀name,PySem.W.lookIn name c=some (d name):=by
 obtain⟨o,g,v,l,hd,r,_,p⟩:=n;refine⟨o,l,λname=>?_⟩;have e:=p name;unfold nsFind findBy at e;rw[<-Array.find?_toList] at e;unfold PySem.W.lookIn;rw[hd];dsimp only;split
 ·rename_i y q
  rw[q] at e;exact Sc some e
 ·rename_i q
  rw[q] at e
  have a:g.toList.any (·.refKey)=false:=by
   rw[XD];intro y j;obtain⟨z,t,b⟩:=r y (Array.mem_toList_iff.mp j);simp[DictEntry.refKey,b]
  have u:¬g.toList.any (·.refKey)=true:=by rw[a];exact ud
  rw[uk u];exact Sc some e
theorem KR.look(I:KR h x c C b):∃a,PySem.W.InstAt h x (PySem.W.instObj C c) C (some a)/\∀name,PySem.W.lookIn name a=some (b name):=
 let ⟨a,d,e⟩:=BZ I.ns
 ⟨a,⟨I.obj,rfl,rfl,d⟩,e⟩
section
variable{prog:Program}{w:World}{A:Around}{E:AAB}{s:Shared}{K:AAD}{x dx C f:Addr}{mA:ZZ}{name:Str}{v:Value}
theorem get_map{Q:AAB}(X:K.In s.heap)(I:KR s.heap x dx C mA)(g:PySem.W.plainGet K C name=true)(e:PySem.W.hasDictIn K C=true)
  (i:PySem.W.findIn K (.ref C) name=some none) (c:mA name=some v) (b:PySem.W.handedIn v=true) (h:Q v { s with toks:=s.toks+1 }) :
  wpAny (model prog w) A (getAttr (.ref x) name a) Q E s:=by
 obtain⟨j,J,d⟩:=I.look;exact PySem.W.get_value X J (PySem.W.plainGet_of g).1 (PySem.W.findObj_own e i rfl (by rw[d,c])) b h
end
theorem dS.some_of(r:dS (some v) o):∃u,o=some u/\RelV v u:=by
 cases o with
 | none=>exact(r).elim
 | some u=>exact⟨u,rfl,r⟩
section
variable{P:Program}{w:World}{H H':Hp}{h h':Heap}{a C dx:Addr}{fs fs':List (Str×V)}
theorem Lf(hok:cG P w H h)(e:H a=some (.ins C dx fs)):∃b,KR h a dx C b/\(∀f,dS (fs.lookup f) (b f))/\PySem.Within b (fs.map (·.1))/\fs.length<=1000/\H dx=some (.own a):=by
 obtain⟨d,z,ne,ob,b,n,r,q⟩:=(hok a _ e)
 exact⟨b,⟨ob,n,ne⟩,r,q,z,d⟩
end
structure VE(K:AAD)(C:Addr):Prop where
 pg:PySem.W.plainGet K C Str.empty=true
 hd:PySem.W.hasDictIn K C=true
 po:PySem.W.plainOver K C=true
 sa:PySem.W.findIn K (.ref C) "__setattr__"=some (some (.builtin "object.__setattr__"))
theorem VE.get{K:AAD}(c:VE K C)(f:Str):PySem.W.plainGet K C f=true:=c.pg
section
variable{X:Cx}{pins:ZO}{σ:St}{H:Hp}{s:Shared}{a C dx:Addr}{fs:List (Str×V)}{f:Str}{v:V}{A:Around}{E:AAB}
end
def VG(X:Cx)(d:Operator)(c:V->V->Hp->VK->Prop):Prop:=
 ∀(a:ZO) (s:Shared) (b:St) (H:Hp) (x y:V) (u v:Value) (Q:VK),Inv X a b H s->RelV x u->RelV y v->c x y H Q->wpAny (model X.prog X.w) X.A (inplaceOp d u v) (EP X a b Q) X.xe s
section
variable{X:Cx}{o e value:Expr}{f:Str}{pos pos' tpos:Pos}{ta tv:TE}
end
section
variable{X:Cx}{pins:ZO}{σ:St}{H:Hp}{s:Shared}{A:Around}{E Q:AAB}{c:Value}{b:Bool}
inductive cM(K:AAD)(H:Hp):V->Value->Prop where
 | o6:cM K H .o6 (.type "NoneType")
 | bl (x:Bool):cM K H (.bl x) (.type "bool")
 | int (i:Int):cM K H (.int i) (.type "int")
 | str (x:Str):cM K H (.str x) (.type "str")
 | flt (x:UInt64):cM K H (.flt x) (.type "float")
 | lst {a:Addr} {xs:List V} (e:H a=some (.lst xs)):cM K H (.ref a) (.type "list")
 | frz {a:Addr} {o:Obj} {xs:List V} (e:H a=some (.frz o (.lst xs))):cM K H (.ref a) (.type "list")
 | tup {a:Addr} {xs:List V} (e:H a=some (.tup xs)):cM K H (.ref a) (.type "tuple")
 | dK {a:Addr} {kvs:List (Key×V)} (e:Dd H a kvs):cM K H (.ref a) (.type "dict")
 | dT {a:Addr} {kvs:List (List Key×V)} (e:H a=some (.dT kvs)):cM K H (.ref a) (.type "dict")
 | ins {a C dx:Addr} {fs:List (Str×V)} (e:H a=some (.ins C dx fs)) (cl:VE K C) (ha:PySem.W.findIn K (.ref C) "__class__"=some (some (.builtin "object.__class__")))
   (hn:PySem.W.specialIn K (.builtin "object.__class__") "__get__"=some (some (.builtin "getset_descriptor.__get__"))) (htk:PySem.W.takesIn K (.builtin "object.__class__")=some true)
   (hm:PySem.W.mroIn K C (.type "object")=some true):cM K H (.ref a) (.ref C)
theorem BQ(I:Inv X pins σ H s)(d:RelV x u)(ty:cM X.K H x t)(e:PySem.W.kitOne X.K t c=some b)(h:∀tk,Q (.bool b) { s with toks:=tk }) :
  wpAny (model X.prog X.w) A (call (.builtin "isinstance") [u,c]) Q E s:=by
 cases ty with
 | o6=>cases(d);exact PP PySem.W.kitx_none I.ur True.intro e (λz=>nomatch z) h
 | bl y=>cases(d);exact PP PySem.W.kitx_bool I.ur True.intro e (λz=>nomatch z) h
 | int i=>obtain⟨t,q⟩:=(d);cases q;exact PP PySem.W.kitx_int I.ur True.intro e (λz=>nomatch z) h
 | str y=>obtain⟨t,q⟩:=(d);cases q;exact PP PySem.W.kitx_str I.ur True.intro e (λz=>nomatch z) h
 | flt y=>obtain⟨t,q⟩:=(d);cases q;exact PP PySem.W.kitx_float I.ur True.intro e (λz=>nomatch z) h
 | @lst a r g=>
  cases(d);obtain⟨_,_,n,_,j⟩:=(I.hok a _ g)
  exact PP PySem.W.kitx_list I.ur ⟨_,j,rfl⟩ e (λz=>nomatch z) h
 | @frz a ob r g=>
  cases(d);obtain⟨_,_,_,n,_,j⟩:=(I.hok a _ g)
  exact PP PySem.W.kitx_list I.ur ⟨_,j,rfl⟩ e (λz=>nomatch z) h
 | @tup a r g=>
  cases(d);obtain⟨_,_,_,p⟩:=(I.hok a _ g)
  obtain⟨o,j,v,_⟩:=p;exact PP PySem.W.kitx_tuple I.ur ⟨o,j,v⟩ e (λz=>nomatch z) h
 | @dK a l g=>
  cases(d);obtain⟨_,_,vs,_,p⟩:=(g.ok I.hok)
  obtain⟨o,S,T,j,v,_⟩:=p;exact PP PySem.W.kitx_dict I.ur ⟨o,j,v.1⟩ e (λz=>nomatch z) h
 | @dT a l g=>
  cases(d);obtain⟨_,_,r,_,o,S,T,j,v,_⟩:=(I.hok a _ g)
  exact PP PySem.W.kitx_dict I.ur ⟨o,j,v.1⟩ e (λz=>nomatch z) h
 | @ins a C dx fs g cl R G B M=>
  cases(d);obtain⟨Y,O,_⟩:=Lf I.hok g;obtain⟨U,J,_⟩:=O.look;exact PP (PySem.W.kitx_own (cl.get _) cl.hd R G B M) I.ur J e (λz=>nomatch z) h
end
structure K8(k:Nat)(A:Around):Prop where
 hd:A.handled=none
 dp:A.depth+3*k+5<recursionLimit
 un:A.units+16*k+200<cLine
 gd:A.guards=some []
theorem K8.mono(r:K8 k A)(h:j<=k):K8 j A:=⟨r.hd,by have:=r.dp;omega,by have:=r.un;omega,r.gd⟩
theorem K8.deeper(r:K8 (k+1) A)(env:Env):K8 k (A.deeper env):=
 ⟨r.hd,by have:=r.dp;show A.depth+1+3*k+5<_;omega,by have:=r.un;show A.units+3+16*k+200<_;omega,r.gd⟩
theorem K8.depth(r:K8 k A):A.depth<recursionLimit:=by have:=r.dp;omega
theorem K8.units(r:K8 k A):A.units+64<cLine:=by have:=r.un;omega
def Vv:TA:=λ_ H Q=>Q [] H
def Nm(c:TE)(tr:TA):TA:=λa H Q=>c a H λx e=>tr a e λb d=>Q (x::b) d
section
variable{X:Cx}{e:Expr}{es:ZV}{te:TE}{t:TA}{pos:Pos}
theorem M4:PA X [] Vv:=.of <| λ_ _ _ _ H Q I h=>ZM ⟨[],H,I,.nil,h⟩
theorem zC(q:PE X e te)(p:PA X es t)(o:starEach (e::es) X.env=(false,eval e X.env)::starEach es X.env:=by rfl):PA X (e::es) (Nm te t):=by
 refine .of ?_;intro pos a s b H Q I h;rw[o];exact Yi (w5 (q a s b H _ I h) λu d ⟨x,z,v,i,l⟩=>w5 (p pos a d b z _ v l) λB C ⟨c,y,r,g,j⟩=>⟨x::c,y,r,.cons i g,j⟩)
def Wd(t:TA):TE:=λc H Q=>t c H λa b=>a.length<=sizeLine/\∀p,b p=none->Q (.ref p) (upd b p (.tup a))
def VC(t:TA):TE:=λc H Q=>t c H λa b=>a.length<=sizeLine/\∀p,b p=none->Q (.ref p) (upd b p (.lst a))
theorem qj(h:PA X es t):PE X (.Tuple es l pos) (Wd t):=by
 refine .of ?_;intro a s i H Q I p;refine wpAny_Tuple_spliced (w5 (h pos a s i H _ I p) λo c ⟨j,g,d,r,z,q⟩=>⟨by rwa[<-r.length],?_⟩);have v:=d.hok.fresh (sK _);exact⟨.ref c.heap.objs.size,upd g c.heap.objs.size (.tup j),d.laid  (λb u e=>hD _ e) (sK _) (⟨z,o,r,⟨_,u0 _ rfl,rfl,_,rfl⟩⟩),rfl,q _ v⟩
theorem Gm(h:PA X es t):PE X (.List es pos) (VC t):=by
 refine .of ?_;intro a s i H Q I o;refine wpAny_List_spliced (w5 (h pos a s i H _ I o) λl c ⟨j,g,d,r,z,q⟩=>⟨by rwa[<-r.length],?_⟩);have p:=d.hok.fresh (sK _);exact⟨.ref c.heap.objs.size,upd g c.heap.objs.size (.lst j),d.laid  (λb u e=>hD _ e) (sK _) ⟨z,l,0,r,u0 _ rfl⟩,rfl,q _ p⟩
end
abbrev Sp:=List V->Hp->VK->XK->Prop
abbrev Dn:=List Env->Hp->Shared->XK->Value->Shared->Prop
structure LC(P:Program)(w:World)(K:AAD)(mg:ZZ)(base:Heap)(A:Around)(outer:List Env)(s:Shared)(H:Hp):Prop where
 frames:A.frames=some outer
 mod:Mod K mg base
 bs:∀b o,base.get? b=some o->s.heap.get? b=some o/\H b=none
 bsz:base.objs.size<=s.heap.objs.size
 gQ:s.heap.FunFrames base outer
 frf:∀b∈yd outer,H b=none
 hok:cG P w H s.heap
 bare:AllBare s.gens
def CE(outer:List Env)(P:Program)(w:World)(H:Hp)(s:Shared)(Q:VK)(u:Value)(a:Shared):Prop:=
 ∃v b,a.os=s.os/\AllBare a.gens/\Un (yd outer) [] H b s.heap a.heap/\cG P w b a.heap/\RelV v u/\Q v b
def CR(CX:Dn)(outer:List Env)(P:Program)(w:World)(H:Hp)(s:Shared)(Q:VK)(E:XK)(r:Result)(a:Shared):Prop:=
 match r with
 | .ok (.ret u)=>CE outer P w H s Q u a
 | .ok _=>False
 | .error e=>CX outer H s E e a
structure p7(P:Program)(w:World)(K:AAD)(mg:ZZ)(base:Heap)(CX:Dn)(k:Nat)(f:Addr)(fd:FuncData)(ps:ZT)(sp:Sp):Prop where
 len:∀vs H Q E,sp vs H Q E->vs.length=ps.length
 run:∀(A:Around) (outer:List Env) (s:Shared) (H:Hp) (args:Args) (us:ZU) (vs:List V) (Q:VK) (E:XK),K8 k A->LC P w K mg base A outer s H->BindsTo s fd args (ps.zip us)->Vals vs us->sp vs H Q E ->
  codeAny (model P w) A (.call (.ref f) args) (CR CX outer P w H s Q E) s
theorem p7.mono{K:AAD}(F:p7 P w K mg base CX j f b ps sp)(h:j<=k) :
  p7 P w K mg base CX k f b ps sp:=⟨F.len,λA outer s H a c vs Q E d=>F.run A outer s H a c vs Q E (d.mono h)⟩
theorem p7.imp{K:AAD}(F:p7 P w K mg base CX k f c ps sp)
  (h:∀vs H Q E,a vs H Q E->sp vs H Q E):p7 P w K mg base CX k f c ps a:=
 ⟨λvs H Q E q=>F.len vs H Q E (h _ _ _ _ q),λA outer s H b d vs Q E i j l e g=>F.run A outer s H b d vs Q E i j l e (h _ _ _ _ g)⟩
section
variable{X:Cx}{pins:ZO}{σ:St}{H:Hp}{s s':Shared}
theorem Inv.VH(I:Inv X pins σ H s):LC X.prog X.w X.K X.mg X.base X.A X.stack s H:=
 ⟨I.ok.frames,I.ok.mod,I.bs,GM I.ok.bsz I.sz,I.stack,I.AH,I.hok,I.bare⟩
theorem Inv.after(I:Inv X pins σ H s)(h:CE X.stack X.prog X.w H s Q u s'):EP X pins σ Q u s':=by
 obtain⟨v,e,os,bare,un,hok,r,q⟩:=h;obtain⟨c,g,d,t,a⟩:=s';obtain rfl:a=s.os:=os;exact⟨v,e,I.call      un hok bare (λb z=>absurd z (by simp)),r,q⟩
end
def SD(sp:Sp)(a:List V)(E:XK)(t:TA):TE:=λb H Q=>t b H λvs c=>sp (vs++a) c Q E
def Binds(K:AAD)(b:FuncData)(ps:ZT)(ds:ZU):Prop:=
 ∀(s:Shared) (a:ZU),K.In s.heap->(a++ds).length=ps.length->BindsTo s b ⟨a,[]⟩ (ps.zip (a++ds))
theorem Binds.all{K:AAD}(h:∀a:ZU,a.length=ps.length->bindArgs c ⟨a,[]⟩=pure (ps.zip a)):Binds K c ps []:=λs a _ b=>by
 rw[vy] at b ⊢;exact .of_eq (h a b)
def Passes(CX:Dn)(X:Cx)(E:XK):Prop:=∀(a:ZO) (c:St) (H:Hp) (s:Shared) (e:Value) (b:Shared),Inv X a c H s->CX X.stack H s E e b->X.xe e b
section
variable{X:Cx}{CX:Dn}{k:Nat}{f C:Addr}{fd:FuncData}{ps:ZT}{sp:Sp}{dvs:List V}{ds:ZU}{E:XK}{x m:Str}{p pos apos:Pos}{e o:Expr}{es:ZV}{ta:TE}{t:TA}
theorem Pn{σ:St}(F:p7 X.prog X.w X.K X.mg X.base CX k f fd ps sp)(i:K8 k X.A)(l:Binds X.K fd ps ds)(hd:Vals dvs ds)(g:Passes CX X E)
  (I:Inv X pins σ H s) (r:Vals vs a) (h:sp (vs++dvs) H Q E):wpAny (model X.prog X.w) X.A (call (.ref f) a) (EP X pins σ Q) X.xe s:=by
 have c:=r.append hd;have j:(a++ds).length=ps.length:=by rw[<-c.length];exact F.len _ _ _ _ h
 refine wpAny_call (Yz (F.run X.A X.stack s H ⟨a,[]⟩ (a++ds) (vs++dvs) Q E i I.VH (l s a I.ur j) c h) λr d b=>?_)
 cases r with
 | error e=>exact g pins σ H s e d I b
 | ok q=>
  cases q with
  | ret u=>exact I.after b
  | next=>exact False.elim b
  | brk=>exact False.elim b
  | cont=>exact False.elim b
theorem iz(F:p7 X.prog X.w X.K X.mg X.base CX k f fd ps sp)(j:K8 k X.A)(v:Gl X x)(l:X.mg x=some (.ref f))(u:PySem.W.keepIn X.K (.ref f)=true)(z:Binds X.K fd ps ds)(hd:Vals dvs ds)(i:Passes CX X E)
  (B:PA X (e::es) t) (c:(x == ("__debug__" : Str))=false:=by decide) (y:starEach (e::es) X.env=(false,eval e X.env)::starEach es X.env:=by rfl) (b:(backTo pos (starEach es X.env)).any (·.1)=false:=by rfl) :
  PE X (.Call (.Name x p) (e::es) [] pos) (SD sp dvs E t):=by
 refine .of ?_;intro a s g H Q I h;exact Yg (Md I v l (PySem.W.callWith_K  I.ok.mod.kin u (w5 (B pos a s g H _ I h) λG J ⟨vs,M,d,r,q⟩=>⟨d.ur,Pn F j z hd i d r q⟩) y b) c)
end
section
variable{X:Cx}{CX:Dn}{k:Nat}{f C:Addr}{fd:FuncData}{ps ks:ZT}{sp:Sp}{E:XK}{x m:Str}{p pos apos kpos:Pos}{e o:Expr}{es:ZV}{kws:List Keyword}{te ta:TE}{t tk:TA}{nm:Option Str}
variable{g:ZU->ZU->ZU}{gV:List V->List V->List V}
end
structure g9(N P:ZT)(sc:Scope):Prop where
 kind:sc.kind=.function
 co:sc.isCoroutine=false
 gen:sc.isGenerator=false
 nd:N.Nodup
 pre:N.take P.length=P
 par:∀x∈P,sc.names.lookup x=some .local\/sc.names.lookup x=some .cell
 nofree:∀y∈sc.names,y.2≠.free
theorem og{kindOf:Str->Option NameKind}:∀{binds:ZR} {m:ZZ},(∀v,(x,v)∉binds)->bindL kindOf binds m x=m x
 | [],_,_=>rfl
 | (n,v)::r,m,h=>by
  unfold bindL;rw[og λw hw=>h w (hH _ hw)];split
  ·have:x≠n:=by rintro rfl;exact h v hQ
   simp[this]
  ·rfl
theorem nO{kindOf:Str->Option NameKind}:∀{binds:ZR} {m:ZZ},(∀v,(x,v)∉binds)->bindC kindOf binds m x=m x
 | [],_,_=>rfl
 | (n,v)::r,m,h=>by
  unfold bindC;rw[nO λw hw=>h w (hH _ hw)];split
  ·rfl
  ·have:x≠n:=by rintro rfl;exact h v hQ
   simp[this]
theorem mZ{kindOf:Str->Option NameKind}{x:Str}{v:Value}:∀{P:ZT} {vs:ZU} {i:Nat} {m:ZZ},P.Nodup->P[i]?=some x->vs[i]?=some v->kindOf x=some .local ->
  bindL kindOf (P.zip vs) m x=some v
 | [],_,_,_,_,h,_,_=>by simp at h
 | _::_,[],_,_,_,_,h,_=>by simp at h
 | p::P,w::vs,0,m,nd,b,a,c=>by
  simp at b a;subst b;subst a;show bindL kindOf ((p,w)::P.zip vs) m p=_;unfold bindL;rw[og λv d=>(List.nodup_cons.mp nd).1 (ZC d).1,ux c];simp
 | p::P,w::vs,i+1,m,nd,b,a,c=>by
  unfold bindL;exact mZ  (List.nodup_cons.mp nd).2 (by simpa using b) (by simpa using a) c
theorem mL{kindOf:Str->Option NameKind}{x:Str}{v:Value}:∀{P:ZT} {vs:ZU} {i:Nat} {m:ZZ},P.Nodup->P[i]?=some x->vs[i]?=some v->kindOf x≠some .local ->
  bindC kindOf (P.zip vs) m x=some v
 | [],_,_,_,_,h,_,_=>by simp at h
 | _::_,[],_,_,_,_,h,_=>by simp at h
 | p::P,w::vs,0,m,nd,b,a,c=>by
  simp at b a;subst b;subst a;show bindC kindOf ((p,w)::P.zip vs) m p=_;unfold bindC;rw[nO λv d=>(List.nodup_cons.mp nd).1 (ZC d).1,uk c];simp
 | p::P,w::vs,i+1,m,nd,b,a,c=>by
  unfold bindC;exact mL  (List.nodup_cons.mp nd).2 (by simpa using b) (by simpa using a) c
noncomputable def start(N:ZT)(vs:List V):St:=vs.map some++List.replicate (N.length-vs.length) none
noncomputable def qW(CX:Dn)(P:Program)(w:World)(K:AAD)(mg:ZZ)(base:Heap)(N:ZT)(a:Str)(scope:Scope)(f:Addr)(c:Value)(A:Around)(outer:List Env)(s:Shared)(H:Hp)(E:XK):Cx where
 prog:=P
 w:=w
 K:=K
 mg:=mg
 base:=base
 A:=A.deeper (envOfC a scope s.heap.objs.size f c)
 N:=N
 s₀:=s
 H₀:=H
 env:=envOfC a scope s.heap.objs.size f c
 outer:=outer
 stack:=envOfC a scope s.heap.objs.size f c::outer
 ex:=[]
 calm:=true
 fn:=λ_=>true
 pn:=[]
 xe:=λe d=>wpAny (model P w) (A.deeper (envOfC a scope s.heap.objs.size f c)) (leaving (envOfC a scope s.heap.objs.size f c) e) (λ_ b=>CX outer H s E e b) (λg b=>CX outer H s E g b) d
theorem uB{a:Scope}(h:a.names.lookup x=some .cell):∃c,(cellsFrom n a.names []).lookup x=some c:=by
 have q:=PySem.W.cellsFrom_some a.names n [] (.inl h);exact Option.isSome_iff_exists.mp q
theorem Bh{K:AAD}
  (S:g9 N ps scope) (hd:A.handled=none) (j:LC P w K mg base A outer s H) (X:vs.length=ps.length) (r:Vals vs M)
  (x:InCallC s s.heap.objs.size (bindL (envOfC d scope s.heap.objs.size f J).kindOf (ps.zip M) λ_=>none) (cellsFrom (s.heap.objs.size+1) scope.names []) (bindC (envOfC d scope s.heap.objs.size f J).kindOf (ps.zip M) λ_=>none) O) :
  Inv (qW CX P w K mg base N d scope f J A outer s H E) [] (start N vs) H O:=by
 have T:=by have:=Sc List.length S.pre;rw[wE] at this;omega
 obtain⟨I,tk,rfl,R⟩:=x.done;have l:∀b,b∉(qW CX P w K mg base N d scope f J A outer s H E).ex:=λb z=>absurd (show b∈([]) from z) (by simp)
 refine⟨⟨j.mod,S.kind,rfl,rfl,sK _,λy z c I g=>(name_of_addr x.apart (Xk I) (Xk g)),λy o=>?_,λy c _ h=>(SL (x.above y c (Xk h))),λ_=>hd,Around.frames_deeper j.frames,.inr ⟨rfl,rfl⟩,λb z=>absurd z (l b),j.bs,j.bsz,λb _ _=>l b,λb z=>absurd z (l b),j.gQ,j.frf⟩,
  rfl,j.bare,Un.kept R,⟨_,x.toInCall.ns,λi y v I g Y=>?_⟩,λy c h=>⟨_,x.cell y c h⟩,j.hok.fresh (sK _),λy c h=>(j.hok.fresh (SL (x.above y c (Xk h)))),λp C=>absurd (show p∈([]) from C) (by simp),j.hok.kept R,?_⟩
 ·rcases o with o | o
  ·exact uB o
  ·exact absurd rfl (S.nofree _ (Xk o))
 ·have G:i<vs.length:=by
   unfold start at g
   by_cases G:i<vs.length
   ·exact G
   ·rw[Ix (by simpa using G)] at g;rw[List.getElem?_replicate] at g;split at g<;>cases g
  have U:vs[i]?=some v:=by
   unfold start at g;rw[wr (by simpa using G),ue] at g
   cases e:vs[i]? with
   | none=>rw[e] at g;cases g
   | some a=>rw[e] at g;cases g;rfl
  obtain⟨u,Q,rv⟩:=r.get U
  have C:ps[i]?=some y:=by
   rwa[<-S.pre,NE (by omega)]
  have B:ps.Nodup:=by rw[<-S.pre];exact S.nd.sublist (Xz _ _)
  refine⟨u,rv,?_⟩;rcases S.par y (oT C) with k | k
  ·exact .inl ⟨k,mZ B C Q k⟩
  ·obtain⟨c,e⟩:=uB (n:=s.heap.objs.size+1) k;refine .inr ⟨.inl k,c,e,?_⟩;have q:=x.cell y c e;rw[mL B C Q (by show scope.names.lookup y≠_;rw[k];decide)] at q;exact q
 ·unfold start;show _=N.length;rw[vv,dL,Xw];omega
theorem SX{K:AAD}{body:AAA}{X kV B U c ct oc:Value}
  {G:Array (AAE)}   (lk:K.lookup f=some ⟨oc,od,.func (PySem.W.fnOf name a params body scope X kV B U an c ct),G⟩) (R:PySem.W.codeIn K c a=true) (S:g9 N ps scope)
  (len:∀vs H Q E,sp vs H Q E->vs.length=ps.length)
  (i:∀(A:Around) (outer:List Env) (s:Shared) (H:Hp) (vs:List V) (Q:VK) (E:XK),K8 k (A.deeper (envOfC a scope s.heap.objs.size f c))->sp vs H Q E ->
   ∃t,qI (qW CX P w K mg base N a scope f c A outer s H E) body t/\t { nx:=λ_ g=>Q .o6 g,rt:=Q } (start N vs) H) :
  p7 P w K mg base CX (k+1) f (PySem.W.fnOf name a params body scope X kV B U an c ct) ps sp:=by
 refine⟨len,λA outer s H Y us vs Q E O z hb r l=>?_⟩;have hl:=len _ _ _ _ l;have KX:=z.mod.kin.keeps λb o e=>(z.bs b o e).1;have M:=z.mod.nolimit.keeps λb o e=>(z.bs b o e).1
 have h:∀y∈ps.zip us,scope.names.lookup y.1=some .local\/(scope.names.lookup y.1=some .cell/\((cellsFrom (s.heap.objs.size+1) scope.names []).lookup y.1).isSome=true):=λ⟨n,v⟩ hy=>by
  rcases S.par n (ZC hy).1 with q | q
  ·exact .inl q
  ·exact .inr ⟨q,PySem.W.cellsFrom_some _ _ _ (.inl q)⟩
 refine codeAny_call_function O.depth (KX _ _ lk) rfl S.co S.gen rfl (PySem.W.codeRec_of KX R) (hb _ _ _ _ (wpAny_newFunctionEnv_cells S.kind h λenv he T x=>?_));subst he;refine⟨M.keeps x.toInCall.keep,codeAny_func ?_⟩;obtain⟨t,ht,hq⟩:=i A outer s H vs Q E (O.deeper _) l;have I:Inv (qW CX P w K mg base N a scope f c A outer s H E) [] (start N vs) H T:=Bh S O.hd z hl r x;refine A1 (ht [] T (start N vs) H _ I hq) (λfl C j=>?_) λe C j=>j
 have p:∀{d:St} {g:Hp} {v:V} {u:Value},Inv (qW CX P w K mg base N a scope f c A outer s H E) [] d g C->RelV v u->Q v g->CE outer P w H s Q u C:=
  λ{d g v u} J rv q=>⟨v,g,J.os,J.bare,J.base,J.hok,rv,q⟩
 cases fl with
 | ret u=>
  obtain⟨v,d,g,J,rv,q⟩:=j;exact p J rv q
 | next=>
  obtain⟨d,g,J,q⟩:=j;exact p (v:=V.o6)  J rfl q
 | brk=>
  obtain⟨_,_,_,q⟩:=j;exact False.elim q
 | cont=>
  obtain⟨_,_,_,q⟩:=j;exact False.elim q
section
variable{X:Cx}{x:Str}{p pos:Pos}{e:Expr}{es:ZV}{t:TA}{id T:String}{r:List V->Hp->VK->Prop}
def UC(r:List V->Hp->VK->Prop)(t:TA):TE:=λa H Q=>t a H λvs b=>r vs b Q
theorem kf (z:G0 X (.builtin id) r) (v:Gl X x) (u:X.mg x=none) (o:bootBuiltins x=some (.builtin id)) (B:PA X (e::es) t) (q:x ≠ "__name__":=by decide) (c:(x == ("__debug__" : Str))=false:=by decide)
  (y:starEach (e::es) X.env=(false,eval e X.env)::starEach es X.env:=by rfl) (b:(backTo pos (starEach es X.env)).any (·.1)=false:=by rfl):PE X (.Call (.Name x p) (e::es) [] pos) (UC r t):=by
 refine .of ?_;intro a s d H Q I h;exact Yg (bG I v u o (PyProof.Rows.callWith_builtin1 (w5 (B pos a s d H _ I h) λg i ⟨vs,E,C,j,l⟩=>z a i d E vs g Q C j l) y b) q c)
theorem fW (z:G0 X (.type T) r) (v:Gl X x) (u:X.mg x=none) (o:bootBuiltins x=some (.type T)) (B:PA X (e::es) t) (q:x ≠ "__name__":=by decide) (c:(x == ("__debug__" : Str))=false:=by decide)
  (y:starEach (e::es) X.env=(false,eval e X.env)::starEach es X.env:=by rfl) (b:(backTo pos (starEach es X.env)).any (·.1)=false:=by rfl):PE X (.Call (.Name x p) (e::es) [] pos) (UC r t):=by
 refine .of ?_;intro a s d H Q I h;exact Yg (bG I v u o (Xy (w5 (B pos a s d H _ I h) λg i ⟨vs,E,C,j,l⟩=>z a i d E vs g Q C j l) y b) q c)
end
end L2
namespace HT
open PySem PyProof.Rows
section
open PySem.SeqAt
open PySem.AutoSeq1 (wpAny_loadPart')
open PySem.MeetsSeq PySem.MeetsSeq2 PySem.MeetsSeq3
end
section
variable{prog:Program}{w:World}{A:Around}{E:AAB}{s:Shared}
theorem Kn{vs a:ZU}{Q:AAB}(v:IsTup s.heap t vs.toArray)(x:IsTup s.heap b a.toArray)(o:vs≠[])
  (z:a=[]->Q (.ref t) s) (y:a≠[]->Q (.ref s.heap.objs.size) { s with heap:=s.heap.push { cls:=.type "tuple",data:=.seq (vs++a).toArray } })
  (hsz:vs.length+a.length<=sizeLine):wpAny (model prog w) A (binaryOp .Add (.ref t) (.ref b)) Q E s:=by
 obtain⟨⟨B,q,r,l⟩,j,p,n,hd⟩:=id v;obtain⟨⟨u,i,data2,d⟩,c,h,n2,g⟩:=id x;subst p hd h g;have e:vs.toArray++a.toArray=(vs++a).toArray:=by simp
 by_cases hw:a=[]
 ·exact ZH ⟨_,j,rfl⟩ ⟨_,c,rfl⟩ noFill_tuple_add seq_tuple_add YG YC (YA _ _)
   (tuple_addW1 t b vs.toArray a.toArray n n2 q i l d (by simpa using o) (by simp[hw])) ⟨j,c,z hw⟩
 ·refine ZH ⟨_,j,rfl⟩ ⟨_,c,rfl⟩ noFill_tuple_add seq_tuple_add YG YC (YA _ _)
   (tuple_addW2 t b vs.toArray a.toArray n n2 q i l d (by simpa using o) (by simpa using hw) (by rwa[])) ⟨j,c,?_⟩
  rw[e];exact y hw
noncomputable def F0(n d:Nat):Option Int->Nat
 | none=>d
 | some v=>if v<0 then(v+(n:Int)).toNat else min v.toNat n
theorem RG(n d:Nat)(hd:d<=n)(o:Option Int):F0 n d o<=n:=by
 cases o with
 | none=>exact hd
 | some v=>
  show(if v<0 then(v+n).toNat else min v.toNat n)<=n
  by_cases a:v<0
  ·rw[ux a];omega
  ·rw[uk a];exact Nat.min_le_right _ _
theorem Ac(v:Int)(n d:Nat):(if v<0 then max (v+(n:Int)) 0 else min v (n:Int))=((F0 n d (some v):Nat):Int):=by
 show(if v<0 then max (v+n) 0 else min v n)=(((if v<0 then(v+n).toNat else min v.toNat n)))
 by_cases a:v<0
 ·simp only[ux a];omega
 ·simp[uk a];omega
theorem yW(lo a:Option Int)(n:Nat):Builtin.Slice.sliceAdjust lo a 1 (n:Int)=(((F0 n 0 lo:Nat):Int),((F0 n n a:Nat):Int)):=by
 have b:=by omega
 unfold Builtin.Slice.sliceAdjust;refine Prod.ext ?_ ?_
 ·cases lo with
  | none=>rfl
  | some v=>exact Ac v n 0
 ·cases a with
  | none=>rfl
  | some v=>exact Ac v n n
theorem vU(i j:Nat):Builtin.Slice.slicePlaces (i:Int) (j:Int) 1=j-i:=by
 unfold Builtin.Slice.slicePlaces;have a:=by omega
 split<;>omega
theorem T9(p:IsPart v o)(h:Q o s):wpAny (model prog w) A (Builtin.Slice.slicePartIndex v) Q E s:=by
 cases p with
 | none=>exact slicePart_none h
 | int i t=>exact slicePart_int h
theorem Y4{lo b:Option Int}{Q:Int×Int×Nat->Shared->Prop}(j:s.heap.IsSliceOf g e d .none)(pl:IsPart e lo)(i:IsPart d b)
  (h:Q (((F0 n 0 lo:Nat):Int),1,F0 n n b-F0 n 0 lo) s):wpAny (model prog w) A (Builtin.Slice.sliceApplied (.ref g) (pure (n:Int))) Q E s:=by
 obtain⟨os,a,l,c⟩:=id j;refine eH (eH (Xo a c  rfl (eH (Xo a c  rfl (eH (Xo a c  rfl (hE (eH (slicePart_none ?_)))))))));refine eH (T9 pl (eH (T9 i (eH (hE ?_)))));show wpAny _ _ (match Builtin.Slice.sliceAdjust lo b 1 n with | (lo,b)=>pure (lo,(1:Int),Builtin.Slice.slicePlaces lo b 1)) _ _ s;rw[yW lo b n];show wpAny _ _ (pure (((F0 n 0 lo):Int),1,Builtin.Slice.slicePlaces ((F0 n 0 lo)) ((F0 n n b)) 1)) _ _ s;rw[vU];exact hE h
theorem Dt(xs:ZY)(i k:Nat):((List.range k).filterMap λ(m:Nat)=>xs[((i:Int)+(m:Int)*1).toNat]?).toArray=((xs.toList.drop i).take k).toArray:=by
 have e:(λ(m:Nat)=>xs[(i+(m:Int)*1).toNat]?)=λm=>xs[i+m]?:=by
  funext m
  have:(i+(m:Int)*1).toNat=i+m:=by omega
  rw[this]
 rw[e];have:=pick_run xs i k;rw[List.filterMap_map] at this;have a:((λx=>xs[x]?)∘λx=>i+x)=λm=>xs[i+m]?:=rfl;rw[a] at this;rw[this]
theorem eR{items:ZY}{lo b:Option Int}{Q:AAB}(c:IsTup s.heap t items)(p:s.heap.IsSliceOf d o l .none)(pl:IsPart o lo)(r:IsPart l b)
  (hw:¬(F0 items.size 0 lo=0/\F0 items.size items.size b=items.size))
  (h:Q (.ref s.heap.objs.size) { s with heap:=s.heap.push { cls:=.type "tuple",data:=.seq ((items.toList.drop (F0 items.size 0 lo)).take (F0 items.size items.size b-F0 items.size 0 lo)).toArray } })
  (hsz:items.size<=sizeLine):wpAny (model prog w) A (getItem (.ref t) (.ref d)) Q E s:=by
 have a:=by
  show((items.toList.drop (F0 items.size 0 lo)).take (F0 items.size items.size b-F0 items.size 0 lo)).toArray.size<=sizeLine;rw[u8,wE,Xd,v3];omega
 obtain⟨os,e,i,u⟩:=id p;have j:s.TypeIs (.ref d) "slice":=⟨os,e,i⟩
 unfold getItem
 try with_reducible refine FS ?_
 refine eH (ZF c.typeIs (by decide) (eH (IR  c.typeIs OV
  (Gc OV c.typeIs entry_tuple_getitem ?_ (args_tuple_getitem _ _)))))
 show wpAny _ _ (Builtin.Tuple.tupleItemsOf (.ref t) >>= _) _ _ s;refine eH (tupleItemsOf_ c (eH (Yk j ?_)));refine eH (Y4 p pl r ?_)
 have g:¬((((F0 items.size 0 lo):Int) == 0&&(1:Int) == 1&&(F0 items.size items.size b-F0 items.size 0 lo) == items.size)=true):=by
  intro q;rw[v8,v8] at q;have x:=eq_of_beq q.1.1;have v:=eq_of_beq q.2;exact hw ⟨by omega,by omega⟩
 show wpAny _ _ (if (((F0 items.size 0 lo):Int) == 0&&(1:Int) == 1&&(F0 items.size items.size b-F0 items.size 0 lo) == items.size)=true then _ else _) _ _ s;rw[uk g,Dt]
 first
  | exact eH (m:=Builtin.Tuple.tupleExact _) (wn (hE ⟨_,rfl,hE h⟩) a)
  | exact eH (m:=Builtin.Tuple.tupleExact _) (wn (eH (hE (hE ⟨_,rfl,hE h⟩))) a)
  | exact eH (eH (m:=Builtin.Tuple.tupleExact _) (wn (hE (hE ⟨_,rfl,hE h⟩)) a))
  | exact eH (eH (m:=Builtin.Tuple.tupleExact _) (wn (hE ⟨_,rfl,hE h⟩) a))
end
end HT
namespace L2
open PySem PySem.Spec PyProof.Rows
abbrev TO:=St->Hp->(Option Int->Hp->Prop)->Prop
structure PO(X:Cx)(e:Option Expr)(t:TO) : Prop where
 of ::
 run :
 ∀(pins:ZO) (s:Shared) (σ:St) (H:Hp) (Q:Option Int->Hp->Prop),Inv X pins σ H s->t σ H Q ->
  wpAny (model X.prog X.w) X.A (evalPart e X.env) (λu s'=>∃o H',Inv X pins σ H' s'/\IsPart u o/\Q o H') X.xe s
instance {X:Cx} {e:Option Expr} {t:TO} : CoeFun (PO X e t) λ_=>
 ∀(pins:ZO) (s:Shared) (σ:St) (H:Hp) (Q:Option Int->Hp->Prop),Inv X pins σ H s->t σ H Q ->
  wpAny (model X.prog X.w) X.A (evalPart e X.env) (λu s'=>∃o H',Inv X pins σ H' s'/\IsPart u o/\Q o H') X.xe s:=⟨PO.run⟩
def JY:TO:=λ_ H Q=>Q none H
def Tr(t:TE):TO:=λa H Q=>t a H λx b=>∃i,x=.int i/\Q (some i) b
section
variable{X:Cx}{e:Expr}{te:TE}{lo hi:Option Expr}{tl th:TO}{pos p2:Pos}
theorem Jy:PO X none JY:=by
 refine .of ?_;intro a s b H Q I h;exact hE ⟨none,H,I,.none,h⟩
theorem Mt(h:PE X e te):PO X (some e) (Tr te):=by
 refine .of ?_;intro a s b H Q I hw;refine w5 (h a s b H _ I hw) λu l ⟨x,j,g,c,d⟩=>?_;obtain⟨i,rfl,q⟩:=d;obtain⟨t,rfl⟩:=c;exact⟨some i,j,g,.int i t,q⟩
def NU(X:Cx)(r:V->Option Int->Option Int->Hp->VK->Prop):Prop:=
 ∀(a:ZO) (s:Shared) (b:St) (H:Hp) (x:V) (v d c:Value) (lo hi:Option Int) (g:Addr) (Q:VK),Inv X a b H s->RelV x v->s.heap.IsSliceOf g d c .none->IsPart d lo->IsPart c hi->r x lo hi H Q ->
  ∃T id,typeLookup (.type T) "__getitem__"=pure (some (.builtin id))/\s.TypeIs v T/\wpAny (model X.prog X.w) X.A (getItem v (.ref g)) (EP X a b Q) X.xe s
theorem NU.or(h:NU X r)(h':NU X j):NU X (λx lo hi H Q=>r x lo hi H Q\/j x lo hi H Q):=by
 intro a s b H x v d c lo hi g Q I i o pl l q;rcases q with q | q
 ·exact h a s b H x v d c lo hi g Q I i o pl l q
 ·exact h' a s b H x v d c lo hi g Q I i o pl l q
def WH(r:V->Option Int->Option Int->Hp->VK->Prop)(te:TE)(tl th:TO):TE:=λa H Q=>te a H λx d=>tl a d λl c=>th a c λu b=>r x l u b Q
theorem Ee(M:NU X r)(S:PE X e te)(O:PO X lo tl)(G:PO X hi th):PE X (.Subscript e (.Slice lo hi none p2) pos) (WH r te tl th):=by
 refine .of ?_;intro a s d H Q I h;refine Subscript_ (w5 (S a s d H _ I h) λv p ⟨x,H1,I1,y,C⟩=>wpAny_Slice (w5 (O a p d H1 _ I1 C) λi o ⟨l,H2,I2,pl,B⟩=>w5 (G a o d H2 _ I2 B) λg c ⟨u,j,I3,E,z⟩=>hE ?_));have Y:Inv X a d j { c with heap:=c.heap.push { cls:=.type "slice",data:=.fields #[i,g,.none] } }:=I3.kept  λb ob q=>hD _ q;obtain⟨T,id,U,J,R⟩:=M a { c with heap:=c.heap.push { cls:=.type "slice",data:=.fields #[i,g,.none] } } d j x v i g l u c.heap.objs.size Q Y y (ZD ..) pl E z;exact tail_any  J U R (by with_unfolding_all rfl)
noncomputable def jE(xs:List V)(lo hi:Option Int):List V:=(xs.drop (HT.F0 xs.length 0 lo)).take (HT.F0 xs.length xs.length hi-HT.F0 xs.length 0 lo)
theorem gH(xs:List V)(lo hi:Option Int):(jE xs lo hi).length<=xs.length:=by
 unfold jE;rw[wE,Xd];omega
def VA(K:AAD):V->Option Int->Option Int->Hp->VK->Prop:=λx lo hi H Q=>∃a b,x=.ref a/\S6 K H a b /\
 ¬(HT.F0 b.length 0 lo=0/\HT.F0 b.length b.length hi=b.length)/\∀p,H p=none->Q (.ref p) (upd H p (.tup (jE b lo hi)))
theorem Rg:NU X (VA X.K):=by
 intro i s B H x v E C lo hi G Q I p z pl u h;obtain⟨a,d,rfl,y,hw,q⟩:=h;cases p;obtain⟨g,r,l,j⟩:=I.tuple y;have c:g.toArray.size=d.length:=by exact r.length.symm
 refine⟨"tuple",_,PyProof.Rows.slot_tuple_getitem.lookup,l.typeIs,HT.eR l z pl u (by rwa[c]) ?_ (by rwa[c])⟩;rw[c];exact⟨.ref s.heap.objs.size,_,I.laid  (o:=.tup (jE d lo hi)) (λb ob q=>hD _ q) (sK _) ⟨GM (gH d lo hi) j,_,(r.drop (HT.F0 d.length 0 lo)).take (HT.F0 d.length d.length hi-HT.F0 d.length 0 lo),IsTup.new _ _⟩,rfl,q _ (I.hok.fresh (sK _))⟩
def SF(K:AAD):R2:=λx y H Q=>∃a b d c,x=.ref a/\y=.ref b/\S6 K H a d/\S6 K H b c/\d≠[]/\d.length+c.length<=sizeLine /\
 (c=[]->Q (.ref a) H)/\(c≠[]->∀p,H p=none->Q (.ref p) (upd H p (.tup (d++c))))
theorem Vals.ib(r:Vals xs a):a=[] ↔ xs=[]:=by
 cases r with
 | nil=>simp
 | cons _ _=>simp
theorem JA:P6 X (binaryOp .Add) (SF X.K):=by
 intro g s S H x y v u Q I B r h;obtain⟨a,b,p,l,rfl,rfl,R,O,M,j,E,C⟩:=h;cases B;cases r;obtain⟨J,d,G,_⟩:=I.tuple R;obtain⟨i,c,p2,_⟩:=I.tuple O;exact HT.Kn G p2 (λz=>M (d.ib.mp z)) (λz=>⟨.ref a,H,I,rfl,E (c.ib.mp z)⟩) (λz=>⟨.ref s.heap.objs.size,_,I.laid  (o:=.tup (p++l)) (λb ob q=>hD _ q) (sK _) ⟨by rwa[vv],_,d.append c,IsTup.new _ _⟩,rfl,C (λw=>z (c.ib.mpr w)) _ (I.hok.fresh (sK _))⟩) (by rwa[<-d.length,<-c.length])
end
noncomputable def mO(n:Nat)(i:Int):AAF:=if 0<=i then(if i<n then some i.toNat else none) else if -(n:Int)<=i then some (i+n).toNat else none
noncomputable def O7{a:Type}(xs:List a)(i:Int):Option a:=(mO xs.length i).bind λj=>xs[j]?
theorem zU(h:mO n i=some j):seqIndex? i n=some j/\j<n/\-(n:Int)<=i/\i<n:=by
 unfold mO at h
 by_cases b:0<=i
 ·rw[ux b] at h
  by_cases a:i<n
  ·rw[ux a] at h;have e:=x2 h;exact⟨by rw[seqIndex_of b a,e],by omega,by omega,a⟩
  ·rw[uk a] at h;cases h
 ·rw[uk b] at h
  by_cases a:-n<=i
  ·rw[ux a] at h;have e:=x2 h;exact⟨by rw[seqIndex_neg (by omega) a,e],by omega,a,by omega⟩
  ·rw[uk a] at h;cases h
theorem oG(h:O7 xs i=some v):∃j,seqIndex? i xs.length=some j/\xs[j]?=some v/\j<xs.length/\-(xs.length:Int)<=i/\i<xs.length:=by
 unfold O7 at h
 cases e:mO xs.length i with
 | none=>rw[e] at h;cases h
 | some j=>
  rw[e] at h;obtain⟨g,d,c,b⟩:=zU e;exact⟨j,g,h,d,c,b⟩
theorem pT{j:Nat}{v:a}(h:xs[j]?=some v):O7 xs (j:Int)=some v:=by
 have b:=(List.getElem?_eq_some_iff.mp h).1
 have e:mO xs.length j=some j:=by
  unfold mO;rw[ux (by omega),ux (by omega)];simp
 unfold O7;rwa[e]
def ie(b:Expr):Prop:=∀o i,subscripted b false o i=operate [o,i] (getItem o i)
def Jw(X:Cx)(r:R2):Prop:=
 ∀(c a:Expr) (b:ZO) (s:Shared) (d:St) (H:Hp) (x y:V) (v u:Value) (Q:VK),Inv X b d H s->RelV x v->RelV y u->r x y H Q ->
  subscripted a false v u=operate [v,u] (getItem v u)->wpAny (model X.prog X.w) X.A (subscriptTail c a v u) (EP X b d Q) X.xe s
def Vn(X:Cx)(id:String)(r:V->List V->Hp->VK->Prop):Prop:=
 ∀(a:ZO) (s:Shared) (b:St) (H:Hp) (x:V) (c:List V) (v:Value) (d:ZU) (Q:VK),Inv X a b H s->RelV x v->Vals c d->r x c H Q ->
  wpAny (model X.prog X.w) X.A (call (.builtin id) (v::d)) (EP X a b Q) X.xe s
section
variable{X:Cx}{a b:Expr}{ta tb:TE}{pos:Pos}
theorem Jw.or(h:Jw X r)(h':Jw X l):Jw X (λx y H Q=>r x y H Q\/l x y H Q):=by
 intro c d e s g H x y v u Q I j i q o;rcases q with q | q
 ·exact h c d e s g H x y v u Q I j i q o
 ·exact h' c d e s g H x y v u Q I j i q o
theorem NC(l:Jw X r)(p:PE X a ta)(o:PE X b tb)(j:ie b):PE X (.Subscript a b pos) (RH r ta tb):=by
 refine .of ?_;intro c s d H Q I h;exact Subscript_ (Pe p o I h λv u e x y B z i g q=>l a b c e d B x y v u Q z i g q (j _ _))
def Tp(K:AAD):R2:=λx y H Q=>∃p c i v,x=.ref p/\y=.int i/\G4 K H p c/\O7 c i=some v/\Q v H
def Ua(K:AAD):R2:=λx y H Q=>∃p c i v,x=.ref p/\y=.int i/\S6 K H p c/\O7 c i=some v/\Q v H
def SS:R2:=λx y H Q=>∃z i c,x=.str z/\y=.int i/\z.length<=sizeLine/\O7 z.cps.toList i=some c/\Q (.str ⟨#[c]⟩) H
theorem Kc:Jw X (Tp X.K):=by
 intro g l c s E H x y v u Q I S R h G;obtain⟨p,xs,i,z,rfl,rfl,T,Y,q⟩:=h;cases S;obtain⟨t,rfl⟩:=R;obtain⟨B,r,pl,hz⟩:=I.list T;obtain⟨j,e,h2,h3,h4,h5⟩:=oG Y;obtain⟨w,M,o⟩:=r.get h2;have U:=r.length;have hn:=fN;have d:EP X c E Q w s:=⟨z,H,I,o,q⟩
 by_cases J:0<=i
 ·have C:=by
   rw[seqIndex_of J h5] at e;exact x2 e
  exact item_listR pl.isList J (by omega) (by rw[C];simpa using M) d G
 ·have C:(i+B.toArray.size).toNat=j:=by
   rw[seqIndex_neg (by omega) h4] at e;rw[u8,<-U];exact x2 e
  exact subscriptTail_builtinR  pl.isList.typeIs slot_list_getitem.lookup
   (wpAny_getItem_list_neg  pl.isList (by omega) (by rw[u8]<;>omega) (by omega) (by rw[C];simpa using M) ⟨rfl,d⟩) G
theorem PK:Jw X (Ua X.K):=by
 intro d e c s o H x y v u Q I E C h J;obtain⟨p,Y,i,z,rfl,rfl,M,R,q⟩:=h;cases E;obtain⟨t,rfl⟩:=C;obtain⟨G,r,pl,hz⟩:=I.tuple M;obtain⟨j,T,S,h3,h4,h5⟩:=oG R;obtain⟨w,U,g⟩:=r.get S;have O:=r.length;have hn:=fN;have l:EP X c o Q w s:=⟨z,H,I,g,q⟩
 exact subscriptTail_builtinR  pl.typeIs slot_tuple_getitem.lookup
  (getItem_tuple   pl (by omega) (by omega) (by rwa[u8,<-O]) (by simpa using U) ⟨rfl,l⟩) J
theorem Rv:Jw X SS:=by
 intro d e g s R H x y v u Q I p o h r;obtain⟨z,i,c,rfl,rfl,T,C,q⟩:=h;obtain⟨t,rfl⟩:=p;obtain⟨S,rfl⟩:=o;obtain⟨j,l,J,Y,G,E⟩:=oG C;have B:z.cps.toList.length=z.length:=by simp[Str.length]
 rw[B] at l G E;have U:=fN
 exact tail_any (typeIs_str s z t) slot_str_getitem.lookup (getItem_str  (by
  have O:decide (i < -(2^63))=false:=wl (by omega);have M:decide (i ≥ 2^63)=false:=wl (by omega);rw[O,M,Bool.or_false]) (by rw[l];simpa using J) ⟨.str ⟨#[c]⟩,H,I.tok _,⟨_,rfl⟩,q⟩) r
def UM(K:AAD):R2:=λx y H Q=>Tp K x y H Q\/Ua K x y H Q\/SS x y H Q
theorem En:Jw X (UM X.K):=Kc.or (PK.or Rv)
theorem vS(its:ZU)(n j:Nat)(u:Value):Obj.mapSeq (·.setIfInBounds j u) { cls:=.type "list",data:=.seq its.toArray n }={ cls:=.type "list",data:=.seq (its.set j u).toArray n }:=by
 simp[Obj.mapSeq]
theorem Inv.lst{σ:St}(I:Inv X pins σ H s)(h:H p=some (.lst xs)) :
  ∃(its:ZU) (n:Nat),Vals xs its/\s.heap.get? p=some { cls:=.type "list",data:=.seq its.toArray n }/\xs.length<=sizeLine:=by
 obtain⟨z,its,n,r,e⟩:=I.hok p _ h;exact⟨its,n,r,e,z⟩
theorem Inv.OP{σ:St}{its its':ZU}(I:Inv X pins σ H s)(h:H p=some (.lst xs))
  (g:s.heap.get? p=some { cls:=.type "list",data:=.seq its.toArray n }) (d:f { cls:=.type "list",data:=.seq its.toArray n }={ cls:=.type "list",data:=.seq its'.toArray c }) (r:Vals ys its') (hz:ys.length<=sizeLine) (t:Nat) :
  Inv X pins σ (upd H p (.lst ys)) { s with heap:=s.heap.update p f,toks:=t }:=by
 have e:(s.heap.update p f).get? p=some { cls:=.type "list",data:=.seq its'.toArray c }:=by
  rw[FB f g (by rw[d]<;>rfl),d]
 exact I.write   (by rw[h];trivial) (.inl rfl) (λb u i q=>(Xf _ _ (Ps i)).trans q) ⟨_,e⟩ ⟨hz,its',c,r,e⟩
def NS:V->V->V->Hp->(Hp->Prop)->Prop:=λo i v H Q=>∃p c k j,o=.ref p/\i=.int k/\H p=some (.lst c)/\mO c.length k=some j/\Q (upd H p (.lst (c.set j v)))
theorem set_list:Uo X NS:=by
 intro c s G H o i v T U u Q I M O rv h;obtain⟨p,J,k,j,rfl,rfl,y,S,q⟩:=h;cases M;obtain⟨t,rfl⟩:=O;obtain⟨d,n,r,g,R⟩:=I.lst y;obtain⟨e,h2,B,z⟩:=zU S;have l:=r.length;have Y:=fN
 have E:=
  I.OP y g (vS d n j u) (r.set rv j) (by rwa[WP]) s.toks
 by_cases C:0<=k
 ·have x:=by
   rw[seqIndex_of C z] at e;exact x2 e
  exact PySem.W.ki_setAt g C (by omega) (by rwa[u8,<-l]) (by rw[x];exact⟨_,E,q⟩)
 ·have x:(k+d.toArray.size).toNat=j:=by
   rw[seqIndex_neg (by omega) B] at e;rw[u8,<-l];exact x2 e
  exact PySem.W.ki_setBack g (by omega) (by rwa[u8,<-l]) (by omega) (by rw[x];exact⟨_,E,q⟩)
theorem qw(lo c:Option Int)(n:Nat):(sliceBounds lo c none n).1=((HT.F0 n 0 lo:Nat):Int)/\(sliceBounds lo c none n).2.1=((HT.F0 n n c:Nat):Int)/\(sliceBounds lo c none n).2.2=1:=by
 refine⟨?_,?_,rfl⟩
 ·cases lo with
  | none=>simp[sliceBounds,HT.F0]
  | some i=>
   simp[sliceBounds,HT.F0]
   by_cases h:i<0
   ·simp[h]<;>omega
   ·simp[h]<;>omega
 ·cases c with
  | none=>simp[sliceBounds,HT.F0]
  | some i=>
   simp[sliceBounds,HT.F0]
   by_cases h:i<0
   ·simp[h]<;>omega
   ·simp[h]<;>omega
theorem kW(its:ZU)(lo c:Option Int):slicePick its.toArray lo c none=((its.drop (HT.F0 its.length 0 lo)).take (HT.F0 its.length its.length c-HT.F0 its.length 0 lo)).toArray:=by
 obtain⟨g,e,d⟩:=qw lo c its.toArray.size;unfold slicePick;rw[g,e,d];simp only[sliceRange_one,pick_run,u8]
def Sx(K:AAD):V->Option Int->Option Int->Hp->VK->Prop:=λx lo d H Q=>∃a c,x=.ref a/\G4 K H a c/\∀p,H p=none->Q (.ref p) (upd H p (.lst (jE c lo d)))
theorem MO:NU X (Sx X.K):=by
 intro g s B H x v E C lo e G Q I j z pl l h;obtain⟨a,c,rfl,y,q⟩:=h;cases j;obtain⟨p,r,i,u⟩:=I.list y;have d:=r.length;refine⟨"list",_,slot_list_getitem.lookup,i.isList.typeIs,wpAny_getItem_list_slice i.isList z pl l .none (by simp) ?_ (by rw[u8]<;>omega)⟩;rw[kW,<-d];exact⟨.ref s.heap.objs.size,_,I.laid  (o:=.lst (jE c lo e)) (λb ob q=>hD _ q) (sK _) ⟨GM (gH c lo e) u,_,0,(r.drop (HT.F0 c.length 0 lo)).take (HT.F0 c.length c.length e-HT.F0 c.length 0 lo),u0 _ rfl⟩,rfl,q _ (I.hok.fresh (sK _))⟩
noncomputable def bC:V->Bool
 | .o6=>true
 | .bl _=>true
 | .int _=>true
 | .str _=>true
 | _=>false
noncomputable def Lv:V->V->Bool
 | .o6,.o6=>true
 | .bl a,.bl b=>a == b
 | .bl a,.int b=>(if a then 1 else 0) == b
 | .int a,.bl b=>a == (if b then 1 else 0)
 | .int a,.int b=>a == b
 | .str a,.str b=>a == b
 | _,_=>false
theorem Rm(e:RelV y u)(c:RelV x v)(h:bC y=true)(g:bC x=true):SeqAt.EqAt A s u v (Lv y x):=by
 cases y with
 | o6=>
  cases e
  cases x with
  | o6=>cases c;exact SeqAt.EqAt.same _
  | bl b=>cases c;exact SeqAt.EqAt.none_bool b
  | int b=>obtain⟨t,rfl⟩:=c;exact SeqAt.EqAt.none_int b t
  | str b=>obtain⟨t,rfl⟩:=c;exact SeqAt.EqAt.none_str b t
  | _=>exact absurd (g) ud
 | bl a=>
  cases e
  cases x with
  | o6=>cases c;exact SeqAt.EqAt.bool_none a
  | bl b=>cases c;exact SeqAt.EqAt.bool_bool a b
  | int b=>obtain⟨t,rfl⟩:=c;exact SeqAt.EqAt.bool_int a b t
  | str b=>obtain⟨t,rfl⟩:=c;exact SeqAt.EqAt.bool_str a b t
  | _=>exact absurd (g) ud
 | int a=>
  obtain⟨d,rfl⟩:=e
  cases x with
  | o6=>cases c;exact SeqAt.EqAt.int_none a d
  | bl b=>cases c;exact SeqAt.EqAt.int_bool a d b
  | int b=>obtain⟨t,rfl⟩:=c;exact SeqAt.EqAt.int_int a d b t
  | str b=>obtain⟨t,rfl⟩:=c;exact SeqAt.EqAt.int_str a d b t
  | _=>exact absurd (g) ud
 | str a=>
  obtain⟨d,rfl⟩:=e
  cases x with
  | o6=>cases c;exact SeqAt.EqAt.str_none a d
  | bl b=>cases c;exact SeqAt.EqAt.str_bool a d b
  | int b=>obtain⟨t,rfl⟩:=c;exact SeqAt.EqAt.str_int a d b t
  | str b=>obtain⟨t,rfl⟩:=c;exact SeqAt.EqAt.str_str a d b t
  | _=>exact absurd (g) ud
 | _=>exact absurd (h) ud
noncomputable def xV(x:V)(u:Value):Bool:=match u with
 | .none=>Lv .o6 x
 | .bool b=>Lv (.bl b) x
 | .int i _=>Lv (.int i) x
 | .str z _=>Lv (.str z) x
 | _=>false
theorem Jd(r:RelV y u)(f:bC y=true):xV x u=Lv y x:=by
 cases y with
 | o6=>cases r;rfl
 | bl b=>cases r;rfl
 | int i=>obtain⟨t,rfl⟩:=r;rfl
 | str z=>obtain⟨t,rfl⟩:=r;rfl
 | _=>exact absurd (f) ud
theorem eE:∀{xs:List V} {c:ZU},Vals xs c->xs.all bC=true->c.any (xV x)=xs.any λy=>Lv y x
 | _,_,.nil,_=>rfl
 | y::xs,u::c,.cons r t,f=>by
  rw[Xt,v8] at f;rw[Xi,Xi,Jd r f.1,eE t f.2]
theorem bJ{x:V}{v:Value}(e:RelV x v)(g:bC x=true):∀{xs:List V} {d:ZU},Vals xs d->xs.all bC=true->∀u∈d,SeqAt.EqAt A s u v (xV x u)
 | _,_,.nil,_=>λu c=>by cases c
 | y::xs,u::d,.cons r t,f=>λh c=>by
  rw[Xt,v8] at f;rcases List.mem_cons.mp c with rfl | c
  ·rw[Jd r f.1];exact Rm r e f.1 g
  ·exact bJ e g t f.2 h c
noncomputable def UG(x:V)(xs:List V):Bool:=xs.any λy=>Lv y x
def Ux(K:AAD)(d:Bool):R2:=λx y H Q=>∃p c,y=.ref p/\(G4 K H p c\/S6 K H p c)/\bC x=true/\c.all bC=true/\Q (.bl (if d then !UG x c else UG x c)) H
theorem mD:P6 X (compareOp .In) (Ux X.K false):=by
 intro g s o H x y v u Q I e j h;obtain⟨p,z,rfl,d,i,fs,q⟩:=h;cases j;rcases d with d | d
 ·obtain⟨c,r,pl,l⟩:=I.list d;refine SeqAt.in_listAt (xV x) pl.isList (λw hw=>bJ e i r fs w (by simpa using hw)) ⟨.bl _,H,I,rfl,?_⟩;rwa[show c.toArray.any (xV x)=c.any (xV x) by simp,eE r fs]
 ·obtain⟨c,r,pl,l⟩:=I.tuple d;refine SeqAt.in_tupleAt (xV x) pl (λw hw=>bJ e i r fs w (by simpa using hw)) ⟨.bl _,H,I,rfl,?_⟩;rwa[show c.toArray.any (xV x)=c.any (xV x) by simp,eE r fs]
theorem qo:P6 X (compareOp .NotIn) (Ux X.K true):=by
 intro g s o H x y v u Q I e j h;obtain⟨p,z,rfl,d,i,fs,q⟩:=h;cases j;rcases d with d | d
 ·obtain⟨c,r,pl,l⟩:=I.list d;refine SeqAt.notIn_listAt (xV x) pl.isList (λw hw=>bJ e i r fs w (by simpa using hw)) ⟨.bl _,H,I,rfl,?_⟩;rwa[show c.toArray.any (xV x)=c.any (xV x) by simp,eE r fs]
 ·obtain⟨c,r,pl,l⟩:=I.tuple d;refine SeqAt.notIn_tupleAt (xV x) pl (λw hw=>bJ e i r fs w (by simpa using hw)) ⟨.bl _,H,I,rfl,?_⟩;rwa[show c.toArray.any (xV x)=c.any (xV x) by simp,eE r fs]
theorem pQ:G0 X (.type "list") (λxs H Q=>∃p ys,xs=[.ref p]/\(G4 X.K H p ys\/S6 X.K H p ys)/\∀l,H l=none->Q (.ref l) (upd H l (.lst ys))):=by
 intro j s G H xs M Q I r h;obtain⟨p,ys,rfl,x,q⟩:=h;obtain⟨u,rfl,J⟩:=vals1 r;cases J
 have z:∀(c:ZU),Vals ys c->ys.length<=sizeLine->∀(d:Heap) (i:Nat),(∀b E,s.heap.get? b=some E->d.get? b=some E) ->
   d.get? s.heap.objs.size=some { cls:=.type "list",dict:=none,data:=.seq c.toArray i,slots:=#[] }->EP X j G Q (.ref s.heap.objs.size) { s with heap:=d }:=λc g v d i kp e=>
  ⟨.ref s.heap.objs.size,_,I.laid  kp (sK _) (show u9 X.prog X.w _ d _ (.lst ys) from⟨v,c,i,g,e⟩),rfl,q _ (I.hok.fresh (sK _))⟩
 rcases x with x | x
 ·obtain⟨c,g,pl,v⟩:=I.list x;have y:=g.length;obtain⟨o,B,C,n,hd⟩:=pl.isList;exact call_list_seq p (.inl rfl) B C hd (λd i kp e=>z c g v d i kp e) (by simp[]<;>omega)
 ·obtain⟨c,g,pl,v⟩:=I.tuple x;have y:=g.length;obtain⟨o,B,C,n,hd⟩:=pl;exact call_list_seq p (.inr rfl) B C hd (λd i kp e=>z c g v d i kp e) (by simp[]<;>omega)
theorem D6:G0 X (.type "tuple") (λxs H Q=>∃p ys,xs=[.ref p]/\((G4 X.K H p ys/\∀l,H l=none->Q (.ref l) (upd H l (.tup ys)))\/(S6 X.K H p ys/\Q (.ref p) H))):=by
 intro c s v H xs E Q I r h;obtain⟨p,ys,rfl,h⟩:=h;obtain⟨u,rfl,B⟩:=vals1 r;cases B;rcases h with⟨j,q⟩ | ⟨j,q⟩
 ·obtain⟨d,i,pl,x⟩:=I.list j;have y:=i.length;refine call_tuple_list pl.isList (λg kp=>?_) (by simp[]<;>omega);have z:=I.kept (t':=s.toks) kp
  have C:=
   z.laid (t':=s.toks) (λb o e=>hD _ e) (sK _) (show u9 X.prog X.w _ _ _ (.tup ys) from⟨x,d,i,IsTup.new _ _⟩)
  exact⟨.ref g.objs.size,_,C,rfl,q _ (z.hok.fresh (sK _))⟩
 ·obtain⟨d,i,pl,x⟩:=I.tuple j;exact call_tuple_same pl ⟨.ref p,H,I,rfl,q⟩
def Vk(K:AAD)(T:String)(x:V)(H:Hp):Prop:=match x with
 | .str _=>T="str"
 | .int _=>T="int"
 | .ref p=>(T="list" /\ ∃d,G4 K H p d)\/(T="tuple" /\ ∃o,K.lookup p=some o/\o.cls=.type "tuple" /\ o.dict=none) \/
   (T="dict" /\ ((∃c,Dd H p c)\/∃c,H p=some (.dT c)))\/(T="set" /\ ∃S n,H p=some (.set S n))
 | _=>False
theorem GY{σ:St}(I:Inv X pins σ H s)(r:RelV x v)(ty:Vk X.K T x H) :
  s.TypeIs v T/\∀a,v=.ref a->∃ob,s.heap.get? a=some ob/\ob.dict=none:=by
 cases x with
 | str z=>
  obtain⟨t,rfl⟩:=r;cases(ty);exact⟨typeIs_str s z t,λ_ e=>nomatch e⟩
 | int i=>
  obtain⟨t,rfl⟩:=r;cases(ty);exact⟨typeIs_int s i t,λ_ e=>nomatch e⟩
 | ref p=>
  cases r;rcases ty with⟨rfl,u,l⟩ | ⟨rfl,o,d,q,hd⟩ | ⟨rfl,d⟩ | ⟨rfl,S,n,d⟩
  ·obtain⟨j,_,pl,_⟩:=I.list l;refine⟨pl.isList.typeIs,λa e=>?_⟩;cases e;obtain⟨o,n,e,c,hd,_⟩:=pl;exact⟨o,e,hd⟩
  ·refine⟨⟨o,I.ur p o d,q⟩,λa e=>?_⟩;cases e;exact⟨o,I.ur _ o d,hd⟩
  ·have z:∃o,s.heap.get? p=some o/\o.ExactDict:=by
    rcases d with⟨g,d⟩ | ⟨g,d⟩
    ·obtain⟨_,_,_,_,o,_,_,e,ex,_⟩:=(d.ok I.hok)
     exact⟨o,e,ex⟩
    ·obtain⟨_,_,_,_,o,_,_,e,ex,_⟩:=I.hok p _ d;exact⟨o,e,ex⟩
   obtain⟨o,e,ex⟩:=z;refine⟨⟨o,e,ex.1⟩,λa h=>?_⟩;cases h;exact⟨o,e,ex.2.1⟩
  ·obtain⟨o,_,_,_,e,ex,_⟩:=I.hok p _ d;refine⟨⟨o,e,ex.1⟩,λa h=>?_⟩;cases h;exact⟨o,e,ex.2.1⟩
 | _=>exact False.elim ty
def SN(K:AAD)(T:String)(r:V->List V->Hp->VK->Prop)(e:TE):TE:=λd H Q=>e d H λx c=>Vk K T x c/\r x [] c Q
def VI(K:AAD)(T:String)(r:V->List V->Hp->VK->Prop)(g:TE)(t:TA):TE:=λc H Q=>g c H λx d=>Vk K T x d/\t c d λe h=>r x e h Q
variable{o e:Expr}{es:ZV}{to:TE}{t:TA}{name:Str}{apos cpos:Pos}{T id:String}{r:V->List V->Hp->VK->Prop}
theorem RC (y:PlainAttrs T) (slot:Slot T name id) (i:typeOf (.builtin id)=pure (.type "method_descriptor")) (B:Vn X id r) (z:PE X o to)
  (g:attributeBase o name X.env (eval o X.env)=eval o X.env:=by rfl) (d:(apos.endLine == cpos.line)=true:=by rfl):PE X (.Call (.Attribute o name apos) [] [] cpos) (SN X.K T r to):=by
 refine .of ?_;intro c s j H Q I h;refine wpAny_Call_method0_late g d (w5 (z c s j H _ I h) λv q ⟨x,G,p,l,ty,u⟩=>?_);obtain⟨E,C⟩:=GY p l ty;exact⟨T,id,y,slot,i,E,C,Yl rfl (PySem.evalArgs_none (B c q j G x [] v [] Q p l .nil u))⟩
theorem V7 (M:PlainAttrs T) (slot:Slot T name id) (p:typeOf (.builtin id)=pure (.type "method_descriptor")) (S:Vn X id r) (R:PE X o to) (U:PA X (e::es) t)
  (i:attributeBase o name X.env (eval o X.env)=eval o X.env:=by rfl)
  (j:((backTo cpos (starEach (e::es) X.env)).all (λx=>!x.1)&&(backToKw cpos (keywordEach [] X.env)).all (λx=>x.1.isSome)
   && decide ((e::es).length+([]:List Keyword).length+(if ([]:List Keyword).isEmpty then 0 else 1)<30))=true:=by rfl)
  (g:(apos.endLine == cpos.line)=true:=by rfl) (O:starEach (e::es) X.env=(false,eval e X.env)::starEach es X.env:=by rfl) (d:(backTo cpos (starEach es X.env)).any (·.1)=false:=by rfl) :
  PE X (.Call (.Attribute o name apos) (e::es) [] cpos) (VI X.K T r to t):=by
 refine .of ?_;intro c s l H Q I h;refine wpAny_Call_method_late i j g rfl (w5 (R c s l H _ I h) λv C ⟨x,H1,y,q,ty,J⟩=>?_);obtain⟨h1,Y⟩:=GY y q ty;refine⟨T,id,M,slot,p,h1,Y,?_⟩;have u:=U cpos c C l H1 _ y J;rw[O] at u ⊢;exact Yl (by show(false||(backTo cpos (starEach es X.env)).any (·.1))=false;rw[d]<;>rfl) (Zo (w5 u λz B ⟨vs,H2,I2,E,G⟩=>S c B l H2 x vs v z Q I2 q E G))
end
def Wt(X:Cx)(id:String)(r:V->List V->Hp->VK->Prop):Prop:=
 ∀(a:ZO) (s:Shared) (b:St) (H:Hp) (x:V) (c:List V) (v:Value) (d:ZU) (Q:VK),Inv X a b H s->RelV x v->Vals c d->r x c H Q ->
  wpAny (model X.prog X.w) X.A (call (.builtin id) (v::d)) (EP X a b Q) X.xe s
theorem Vals.one:∀{x:V} {a:ZU},Vals [x] a->∃u,a=[u]/\RelV x u
 | _,_,.cons r .nil=>⟨_,rfl,r⟩
theorem Vals.zero:∀{a:ZU},Vals [] a->a=[]
 | _,.nil=>rfl
theorem Vals.reverse(h:Vals xs a):Vals xs.reverse a.reverse:=by
 induction h with
 | nil=>exact .nil
 | cons r t b=>rw[Yb,Yb];exact Vals.append b (.cons r .nil)
theorem Vals.rep(h:Vals xs a):∀k:Nat,Vals (List.replicate k xs).flatten (List.replicate k a).flatten
 | 0=>.nil
 | k+1=>by
  exact Vals.append h (Vals.rep h k)
theorem foldl_rep(its:ZU):∀(k:Nat) (acc:ZU),
  List.foldl (λb a=>b++a) acc.toArray (List.replicate k its.toArray)=(acc++(List.replicate k its).flatten).toArray
 | 0,acc=>by simp
 | k+1,acc=>by
  have e:acc.toArray++its.toArray=(acc++its).toArray:=by simp
  have c:(acc++its)++(List.replicate k its).flatten=acc++(List.replicate (k+1) its).flatten:=by
   rw[Tk,XC,wT]
  rw[<-c,<-foldl_rep its k (acc++its),<-e,Tk,WY]
section
variable{X:Cx}{pins:ZO}{σ:St}{H:Hp}{s:Shared}{l b:Addr}{xs ys zs:List V}
theorem Inv.SV{its its':ZU}{f:ZY->ZY}(I:Inv X pins σ H s)(h:H l=some (.lst xs))
  (e:s.heap.get? l=some { cls:=.type "list",data:=.seq its.toArray n }) (d:f its.toArray=its'.toArray) (a:Vals ys its') (hz:ys.length<=sizeLine) :
  Inv X pins σ (upd H l (.lst ys)) { s with heap:=s.heap.update l (Obj.mapSeq f),toks:=t' }:=by
 have q:=PySem.IsL.update e f;rw[d] at q;exact I.write   (by rw[h];exact trivial) (.inl rfl) (λi u g c=>(Xf s.heap (Obj.mapSeq f) (Ps g)).trans c) ⟨_,q⟩ ⟨hz,its',_,a,q⟩
theorem Inv.Ed(I:Inv X pins σ H s)(a:Vals ys its)(hz:ys.length<=sizeLine) :
  Inv X pins σ (upd H s.heap.objs.size (.lst ys)) { s with heap:=s.heap.push { cls:=.type "list",data:=.seq its.toArray },toks:=t' }:=
 I.laid (λ_ _ q=>hD _ q) (sK _) ⟨hz,its,0,a,u0 _ rfl⟩
theorem Inv.fresh(I:Inv X pins σ H s):H s.heap.objs.size=none:=I.hok.fresh (sK _)
theorem Inv.GK(I:Inv X pins σ H s)(a:H l=some (.lst xs)):xs.length<=sizeLine/\∃(its:ZU) (n:Nat),Vals xs its/\xs.length=its.length/\s.heap.get? l=some { cls:=.type "list",data:=.seq its.toArray n }:=by
 obtain⟨z,its,n,r,e⟩:=I.hok l _ a;exact⟨z,its,n,r,r.length,e⟩
theorem EC(h:n<=sizeLine):Builtin.List.listTooLong n=false:=wl (by omega)
end
section
variable{X:Cx}
def D2:V->List V->Hp->VK->Prop:=λx vs H Q=>∃l a y,x=.ref l/\vs=[y]/\H l=some (.lst a)/\a.length<sizeLine/\Q .o6 (upd H l (.lst (a++[y])))
theorem y1:Wt X "list.append" D2:=by
 intro b s i H x vs v o Q I d rv h;obtain⟨l,j,y,rfl,rfl,c,p,q⟩:=h;cases d;obtain⟨u,rfl,g⟩:=rv.one;obtain⟨z,a,n,r,B,e⟩:=I.GK c;refine ZA F.slot_list_append ⟨_,e,rfl⟩ F.entry_list_append (F.args_list_append_2 _ _) (PySem.list_append l a.toArray n u (by rw[List.size_toArray];omega)) ⟨e,⟨.o6,_,I.SV  c e (by simp) (r.append (.cons g .nil)) ?_,rfl,q⟩⟩;rw[vv,BB];omega
def Hs:V->List V->Hp->VK->Prop:=λx vs H Q=>∃l a,x=.ref l/\vs=[]/\H l=some (.lst a)/\Q .o6 (upd H l (.lst []))
theorem Jm:Wt X "list.clear" Hs:=by
 intro c s i H x vs v o Q I g rv h;obtain⟨l,j,rfl,rfl,d,q⟩:=h;cases g;have b:=rv.zero;subst b;obtain⟨z,a,n,r,p,e⟩:=I.GK d;exact ZA F.slot_list_clear ⟨_,e,rfl⟩ F.entry_list_clear (F.args_list_clear_1 _) (AutoSeq1.list_clear_list_0 l a.toArray n (by rw[u8];omega)) ⟨e,⟨.o6,_,I.SV   d e rfl .nil (xL _),rfl,q⟩⟩
def QY:R2:=λx y H Q=>∃l b c a,x=.ref l/\y=.ref b/\H l=some (.lst c)/\H b=some (.lst a)/\c.length+a.length<=sizeLine/\∀p,H p=none->Q (.ref p) (upd H p (.lst (c++a)))
theorem QG:P6 X (binaryOp .Add) QY:=by
 intro d s G H x y v u Q I i g h;obtain⟨l,b,M,J,rfl,rfl,p,B,O,q⟩:=h;cases i;cases g;obtain⟨z,c,n,r,R,e⟩:=I.GK p;obtain⟨z2,a,n2,j,o,E⟩:=I.GK B;refine PySem.P.add_list e E ?_ (by rw[u8,u8];omega);have C:c.toArray++a.toArray=(c++a).toArray:=by simp
 rw[C];exact⟨.ref _,_,I.Ed  (r.append j) (by rw[vv];omega),rfl,q _ I.fresh⟩
def Ta:R2:=λx y H Q=>∃l k a,x=.ref l/\y=.int k/\H l=some (.lst a)/\-(2^63)<=k/\k<2^63/\a.length*k.toNat<=sizeLine /\
 ∀p,H p=none->Q (.ref p) (upd H p (.lst (List.replicate k.toNat a).flatten))
theorem len_rep{a:Type}(xs:List a)(k:Nat):(List.replicate k xs).flatten.length=k*xs.length:=by
 induction k with
 | zero=>simp
 | succ k b=>rw[Tk,XC,vv,b,Nat.succ_mul,Nat.add_comm]
theorem Ry:P6 X (binaryOp .Mult) Ta:=by
 intro B s σ H x y v u Q I J G h;obtain⟨l,k,xs,rfl,rfl,O,S,R,C,q⟩:=h;cases J;obtain⟨t,rfl⟩:=G;obtain⟨z,b,n,r,M,e⟩:=I.GK O;have g:b.toArray.size*k.toNat<=sizeLine:=by rwa[u8,<-M]
 have j:¬b.toArray.size*k.toNat>(2^63-1)/8:=by
  have:sizeLine<=(2^63-1)/8:=by decide
  omega
 have i:¬(!Builtin.List.listFitsIndex k)=true:=by
  rw[fitsIndex_both S R];exact ud
 have c:¬Builtin.List.listTooLong (b.toArray.size*k.toNat)=true:=by
  rw[EC g];exact ud
 have d:List.foldl (λp o=>p++o) #[] (List.replicate (if b.toArray.isEmpty=true then 0 else k.toNat) b.toArray)=(List.replicate k.toNat b).flatten.toArray:=by
  have Y:=λm=>by
   have:=foldl_rep b m [];rwa[wf] at this
  rw[Y]
  cases b with
  | nil=>simp
  | cons a r'=>rw[uk (by simp)]
 refine wpAny_binaryOp_repeat_ref   (by decide) ⟨_,e,rfl⟩ (λE=>typeIs_int E k t) noFill_list_mul F.fills_int_mul F.slot_int_rmul repeat_list F.slot_int_index.lookup
  (ZA F.slot_int_rmul (typeIs_int s k t) F.entry_int_rmul (F.args_int_rmul_2 _ _) (int___rmul___int_list k t l b.toArray n)
   ⟨e,rfl,⟨_,e,rfl⟩,ZA F.slot_list_mul ⟨_,e,rfl⟩ F.entry_list_mul (F.args_list_mul_2 _ _) (AutoListH.list___mul___list_int_3 l b.toArray n k t i j c) ⟨e,?_⟩⟩)
 rw[d];exact⟨.ref _,_,I.Ed  (r.rep k.toNat) (by rwa[len_rep,Nat.mul_comm]),rfl,q _ I.fresh⟩
end
section
variable{prog:Program}{w:World}{A:Around}{E:AAB}{s:Shared}
end
section
variable{X:Cx}
end
end L2
namespace Att
open PySem PySem.W PySem.Calls PyProof.Rows
theorem hW:∀(ns:ZW) (vs:ZU),WellAll P h vs (ns.map WData.int)->IntsAre vs ns:=by
 intro ns
 induction ns with
 | nil=>
  intro vs w;cases w;exact .nil
 | cons n ns c=>
  intro vs w;cases w with
  | cons a b=>
   cases a;exact .cons _ _ (c _ b)
theorem AZ{l:OpenLaw}(C:l.most=some n){c:ZU}
  (e:l.row.toRowW.claim.pre b=true) (p:WellAll P h c b) :
  ∃a vs ns,c=[Value.ref a]/\b=[WData.list (ns.map WData.int)]/\h.get? a=some { cls:=.type "list",data:=.seq vs.toArray }/\IntsAre vs ns/\ns.length<=n:=by
 have u:=(pre_splitW e).1;have v:l.pre.holds [] { args:=b }=true:=(pre_splitW e).2;obtain⟨d,r,rfl,H,G⟩:=hasAllW_cons u;obtain rfl:=hasAllW_nil G;obtain⟨I,rfl,E⟩:=hasW_list H;obtain⟨ns,rfl⟩:=items_int E
 have g:ns.length<=n:=by
  have o:=by
   have o:=(holds_andW v).1;rwa[C] at o
  have j:=condW_of o (w_not (w_lt w_lit (w_len_list (w_arg rfl))));refine Zp λq=>?_;first
   | (rwa[] at j)
   | (simp at j;omega)
 cases p with
 | cons y x=>
  cases x
  cases y with
  | list B i=>exact⟨_,_,ns,rfl,rfl,B,hW ns _ i,g⟩
theorem AU(l:OpenLaw)(a:List WData):l.row.toRowW.claim.post a (.bool true) a=true:=
 postW_of  
  (show WShape.has [] (.bool true) .bool=true by first | rfl | decide | simp[])
  (w_eq_bool (w_res rfl) w_lit) rfl
theorem rM{l:OpenLaw}{c:ZT}{Q:(ZZ)->Heap->Prop}
  (U:l.most=some n) (C:d.params.defaults=[])
  (call:∀(w:World) (s₀ b:Shared) (mg y:ZZ) (p:Addr) (o:Obj) (x v g:Value) (a:Addr) (vs:ZU) (ns:ZW),
   Ground q c [] Q w s₀ mg y b.heap->O w b.heap ->
   b.heap.get? p=some o->o.data=.func (docDef d.name d.params d.body d.scope x v g)->b.heap.CodeRec v d.name->mg d.name=some (.ref p) ->
   b.heap.get? a=some { cls:=.type "list",data:=.seq vs.toArray }->IntsAre vs ns->ns.length<=n->b.gens=#[] ->
   codeAny (model l.prog w) callerA (.call (.ref p) ⟨[.ref a],[]⟩) (λr u=>r=.ok (.ret (.bool true))/\OldK b.heap u.heap/\u.os=b.os/\AllBare u.gens) b) :
  WalkO q c Q O l.row.toRowW d [] (λf vs=>PySem.call f vs):=by
 intro w s₀ b mg y G Y p o x v g dV kV T hd E J B hg M H as h I R z a0;obtain rfl:dV=.none:=Dflts.none J C;obtain rfl:kV=.none:=Dflts.noKw J;obtain⟨a,vs,ns,rfl,rfl,i,e,j⟩:=AZ U h z;refine enter_call (Yz (call w s₀ b mg y p o x v g a vs ns G Y T (fd_plain hd) E B i e j hg) λr u S=>?_);obtain⟨rfl,h2,h3,h4⟩:=S;exact⟨.inl ⟨.bool true,.bool true,[],rfl,λ_=>rfl,.bool true,AU l _,λ_=>⟨List.Pairwise.nil,λ_ X=>(nomatch X)⟩⟩,h2,h3,h4⟩
section
variable{prog:Program}{w:World}{A:Around}{E:AAB}{s:Shared}{K:Frag}
end
end Att
namespace L2
open PySem PySem.Spec PyProof.Rows
theorem nu:∀{vs:ZU} {ns:ZW},IntsAre vs ns->Vals (ns.map V.int) vs
 | _,_,.nil=>.nil
 | _,_,.cons n t h=>.cons ⟨t,rfl⟩ (nu h)
def PX(H:Hp):Prop:=∀b,H b=none\/∃o a,H b=some (.frz o (.lst a))
theorem GW{K:AAD}{mg S:ZZ}{vs:ZU}{ns:ZW}
  (KX:K.In c.heap) (G:c.heap.Ns mainGlobals mg) (i:c.heap.Ns builtinsNs S) (X:∀x:Str,x ≠ "__name__"->S x=bootBuiltins x) (I:c.heap.NoLimit) (hg:c.gens=#[])
  (Q:c.heap.get? a=some { cls:=.type "list",data:=.seq vs.toArray }) (hi:IntsAre vs ns) (hl:ns.length<=sizeLine) (hr:K8 k callerA)
  (F:∀base:Heap,K.In base->base.Ns mainGlobals mg->p7 P w K mg base CX k fa fd [x] sp) (y:∀(s:Shared) (u:Value),BindsTo s fd ⟨[u],[]⟩ [(x,u)])
  (T:∀H:Hp,PX H->G4 K H a (ns.map V.int)->sp [.ref a] H (λv _=>v=.bl true) λ_ _ _=>False)
  (Y:∀H e j,CX [] H c (λ_ _ _=>False) e j->False) :
  codeAny (model P w) callerA (.call (.ref fa) ⟨[.ref a],[]⟩) (λr j=>r=.ok (.ret (.bool true))/\OldK c.heap j.heap/\j.os=c.os/\AllBare j.gens) c:=by
 have rv:=nu hi;have C:=hi.length
 have p:∀H,PX H->G4 K H a (ns.map V.int)->cG P w H c.heap->(∀b,H b≠none->b=a)->(H a≠none->K.lookup a=none) ->
   codeAny (model P w) callerA (.call (.ref fa) ⟨[.ref a],[]⟩) (λr j=>r=.ok (.ret (.bool true))/\OldK c.heap j.heap/\j.os=c.os/\AllBare j.gens) c:=by
  intro H hO hS hok hA hK;have g:∀{b:Addr} {o:Obj},c.heap.get? b=some o->H b=none->(pG c.heap H).get? b=some o:=λe n=>Hn e n
  have R:∀{b:Addr} {o:Obj} {M:Array DictEntry} {O:Nat},c.heap.get? b=some o->o.data=.dict M O->H b=none:=λ{b o M O} e d=>by
   cases q:H b with
   | none=>rfl
   | some u=>
    have e':=hA b (by rw[q];simp);subst e';rw[Q] at e;cases e;have d':=d;cases d'
  have l:∀{b:Addr} {m:ZZ},c.heap.Ns b m->(pG c.heap H).Ns b m:=λ{b m} ⟨o,M,O,e,d,r⟩=>⟨o,M,O,g e (R e d),d,r⟩
  have J:=λb o e=>g (KX b o e) (by
   cases q:H b with
   | none=>rfl
   | some u=>
    have e':=hA b (by rw[q];simp);subst e';rw[hK (by rw[q];simp)] at e;cases e)
  have hM:Mod K mg (pG c.heap H):=⟨J,l G,⟨S,l i,X⟩,let ⟨mc,h1,h2⟩:=I;⟨mc,l h1,h2⟩⟩
  have e0:LC P w K mg (pG c.heap H) callerA [] c H:=⟨rfl,hM,λb o e=>KJ e,XI (Df _ _),trivial,λb i=>absurd (show b∈([]:ZS) from i) (by simp),hok,.of_eq hg⟩
  refine Yz ((F _ J (l G)).run callerA [] c H ⟨[.ref a],[]⟩ [.ref a] [.ref a] _ _ hr e0 (y c (.ref a)) (.cons rfl .nil) (T H hO hS)) λr j h=>?_
  cases r with
  | error e=>exact(Y H e j h).elim
  | ok fl=>
   cases fl with
   | next=>exact False.elim h
   | brk=>exact False.elim h
   | cont=>exact False.elim h
   | ret u=>
    obtain⟨v,H',os,bare,un,E,r',q⟩:=h;have q':v=.bl true:=q;subst q';obtain rfl:u=Value.bool true:=r';refine⟨rfl,OldK.of_keep λb o e=>?_,os,bare⟩
    cases q:H b with
    | none=>exact un.keep b o e q (by intro z;exact absurd (show b∈([]:ZS) from z) (by simp)) (by simp)
    | some u=>
     rcases hO b with z | ⟨ob,xs,z⟩
     ·rw[q] at z;cases z
     ·have z2:=un.frzs b ob _ z;obtain⟨e1,_⟩:=hok b _ z;obtain⟨e2,_⟩:=E b _ z2;rw[e] at e1;cases e1;exact e2
 cases U:K.lookup a with
 | some o=>
  have e:=KX a o U;rw[Q] at e;cases e;refine p (λ_=>none) (λ_=>.inl rfl) (.inr ⟨_,vs.toArray,_,U,rfl,rfl,rfl,by rw[u8,C];exact hl,by simpa using rv⟩) (λb u z=>by have B:(none:Option HO)=some u:=z;cases B) (λb z=>absurd rfl z) λz=>absurd rfl z
 | none=>
  refine p (λb=>if b=a then some (.frz { cls:=.type "list",data:=.seq vs.toArray } (.lst (ns.map V.int))) else none) (λb=>?_) (.inl (.inr ⟨{ cls:=.type "list",data:=.seq vs.toArray },ux rfl⟩)) (λb u z=>?_) (λb z=>?_) λ_=>U
  ·by_cases i:b=a
   ·exact .inr ⟨_,_,ux i⟩
   ·exact .inl (uk i)
  ·by_cases i:b=a
   ·have B:=(ux i).symm.trans z;cases B;subst i;exact⟨Q,by rw[dL];exact hl,vs,_,rv,Q⟩
   ·have B:=(uk i).symm.trans z;cases B
  ·by_cases i:b=a
   ·exact i
   ·exact absurd (uk i) z
theorem LA{l:PySem.W.OpenLaw}{i:ZT}{XP:(ZZ)->Heap->Prop}{K:Params->AAD}{CX:World->Dn}{sp:World->Sp}
  (S:l.most=some n) (C:n<=sizeLine) (I:d.params.defaults=[]) (R:K8 k callerA)
  (hY:∀(w:World) (h:Heap),O w h->(K w.params).In h)
  (F:∀(w:World) (mg:ZZ) (y:Addr) (h:Heap),(K w.params).In h->h.Ns mainGlobals mg->mg d.name=some (.ref y) ->
   ∃M:FuncData,(∀(s:Shared) (u:Value),BindsTo s M ⟨[u],[]⟩ [(x,u)]) /\
    ∀base:Heap,(K w.params).In base->base.Ns mainGlobals mg->p7 l.prog w (K w.params) mg base (CX w) k y M [x] (sp w))
  (B:∀(w:World) (H:Hp) (a:Addr) (ns:ZW),ns.length<=n->PX H->G4 (K w.params) H a (ns.map V.int)->sp w [.ref a] H (λv _=>v=.bl true) λ_ _ _=>False)
  (J:∀(w:World) (H:Hp) (s:Shared) (e:Value) (z:Shared),CX w [] H s (λ_ _ _=>False) e z->False) :
  PySem.W.WalkO q i XP O l.row.toRowW d [] (λf vs=>PySem.call f vs):=by
 refine Att.rM S I λw s₀ p mg mb y o pm cd a0 a vs ns G Y ho hd X E r j c U=>?_;have Q:=hY w _ Y;obtain⟨M,hb,hF⟩:=F w mg y _ Q G.T.g E;exact GW Q G.T.g G.T.b G.T.builtins G.T.nolimit U r j (GM c C) R hF hb (λH hO hS=>B w H a ns c hO hS) λH e z=>J w H p e z
noncomputable def ag(s:Stmt):Arguments:=match s with
 | .FunctionDef _ a _ _ _ _ _ _ _ _=>a
 | _=>{ posonlyargs:=[],args:=[],vararg:=none,kwonlyargs:=[],kw_defaults:=[],kwarg:=none,defaults:=[] }
noncomputable def P7(s:Stmt):AAA:=match s with
 | .FunctionDef _ _ b _ _ _ _ _ _ _=>b
 | _=>[]
noncomputable def c6(s:Stmt):Scope:=match s with
 | .FunctionDef _ _ _ _ _ _ a _ _ _=>a
 | _=>{ kind:=.function,names:=[],isGenerator:=false,isCoroutine:=false }
abbrev J7:Dn:=λ_ _ _ _ _ _=>False
abbrev E0:XK:=λ_ _ _=>False
theorem Ax:Passes J7 X E0:=λ_ _ _ _ _ _ _ h=>h.elim
structure L6(K:AAD)(x qual:Str)(st:Stmt)(f:Addr)(fd:FuncData):Prop where
 ex:∃(oc:Value) (od:Option Addr) (kV doc pm:Value) (an:Option Addr) (cdv ct:Value) (osl:Array (AAE)),
  fd=PySem.W.fnOf x qual (ag st) (P7 st) (c6 st) .none kV doc pm an cdv ct/\K.lookup f=some ⟨oc,od,.func fd,osl⟩/\PySem.W.codeIn K cdv qual=true
 kp:PySem.W.keepIn K (.ref f)=true
section
variable{P:Program}{w:World}{K:AAD}{mg:ZZ}{base:Heap}
theorem L6.ok{st:Stmt}(F:L6 K x a st f g)(S:g9 N ps (c6 st))(len:∀vs H Q E,sp vs H Q E->vs.length=ps.length)
  (c:∀(b:Value) (A:Around) (outer:List Env) (s:Shared) (H:Hp) (vs:List V) (Q:VK) (E:XK),K8 k (A.deeper (envOfC a (c6 st) s.heap.objs.size f b))->sp vs H Q E ->
   ∃t,qI (qW J7 P w K mg base N a (c6 st) f b A outer s H E).RM (P7 st) t/\t { nx:=λ_ o=>Q .o6 o,rt:=Q } (start N vs) H):p7 P w K mg base J7 (k+1) f g ps sp:=by
 obtain⟨u,r,kV,l,p,v,b,ct,i,rfl,lk,e⟩:=F.ex;refine SX lk e S len λA outer s H vs Q E j d=>?_;obtain⟨t,h,q⟩:=c b A outer s H vs Q E j d;exact⟨t,h.RM,q⟩
theorem L6.binds{st:Stmt}(F:L6 K x a st f i)
  (h:∀(kV b e:Value) (g:Option Addr) (c ct:Value) (d:ZU),d.length=ps.length->bindArgs (PySem.W.fnOf x a (ag st) (P7 st) (c6 st) .none kV b e g c ct) ⟨d,[]⟩=pure (ps.zip d)):Binds K i ps []:=by
 obtain⟨p,o,kV,b,e,g,c,ct,j,rfl,lk,l⟩:=F.ex;exact .all (h kV b e g c ct)
theorem Fy{st:Stmt}{e:Array (AAE)}{kV d g b ct:Value}(l:K.lookup f=some ⟨j,i,.func (PySem.W.fnOf x a (ag st) (P7 st) (c6 st) .none kV d g h b ct),e⟩)
  (c:PySem.W.codeIn K b a=true) (k:PySem.W.keepIn K (.ref f)=true):L6 K x a st f (PySem.W.fnOf x a (ag st) (P7 st) (c6 st) .none kV d g h b ct):=⟨⟨j,i,kV,d,g,h,b,ct,e,rfl,l,c⟩,k⟩
end
theorem C6(a:K8 k A):A.units+1<cLine:=Yt (Nat.add_le_add_left (by decide) _) a.units
theorem BU(h:n<=1000):n<sizeLine:=Yt h (by decide)
section
variable{X:Cx}
theorem pv (i:Nat)  {a:Pos} (d:X.N[i]?=some x:=by rfl) (c:RN X.env.scope x:=by first | exact Or.inl rfl | exact Or.inr (Or.inl rfl) | exact Or.inr (Or.inr rfl)) (hd:(x == ("__debug__" : Str))=false:=by decide)
  (b:(x == ("__classdict__" : Str))=false:=by decide):PE X (.Name x a) (cw i):=Ra d c hd b
end
def e6(H a:Hp):Prop:=∀b o,H b=some o->a b=some o
theorem e6.refl(H:Hp):e6 H H:=λ_ _ h=>h
theorem e6.trans(a:e6 H e)(b:e6 e d):e6 H d:=λc o h=>b c o (a c o h)
theorem e6.free(e:e6 H a)(h:a l=Option.none):H l=Option.none:=by
 cases q:H l with
 | none=>rfl
 | some o=>
  rw[e l o q] at h;cases h
theorem e6.seq{K:AAD}(e:e6 H b)(h:G4 K H a xs):G4 K b a xs:=by
 rcases h with(h | ⟨o,h⟩) | h
 ·exact .inl (.inl (e _ _ h))
 ·exact .inl (.inr ⟨o,e _ _ h⟩)
 ·exact .inr h
end L2
set_option maxHeartbeats 4000000
namespace L2
open PySem PySem.Spec PyProof.Rows
theorem pj{e:ZV}(I:Nat->Shared->Prop)
  (i:∀n s,I n s->wpAny (model prog w) A (pyNext it) (λr o=>match r with
   | none=>R (.ok .next) o
   | some v=>wpAny (model prog w) A (letOwnedTupleGo a it v) (λ_ y=>wpAny (model prog w) A (assign a env v) (λ_ u=>
     wpAny (model prog w) A (forIn e true λc r=>if r=true then do let ok <-isTrue c env (eval c env);pure (ForInStep.yield ok) else pure (ForInStep.yield r)) (λok l=>
      if ok=true then wpAny (model prog w) A (eval g env) (λx q=>
       wpAny (model prog w) A (call (.builtin "list.append") [acc,x]) (λ_ p=>∃m,m<n/\I m p) (λ_ _=>False) q) (λ_ _=>False) l
      else ∃m,m<n/\I m l) (λ_ _=>False) u) (λ_ _=>False) y) (λ_ _=>False) o) (λ_ _=>False) s)
  (n:Nat) (h:I n s) :
  codeAny (model prog w) A (.compLoop (.ListComp g [⟨a,d,e,0⟩] scope j) 0 it acc env) R s:=by
 refine ZI rfl I (λn s C=>wpAny_noted (eH (Tl (eH (A1 (i n s C) (λr o B=>?_) λ_ _ b=>b.elim))))) n h
 cases r with
 | none=>exact hE B
 | some v=>
  refine eH (A1 B (λ_ y J=>eH (A1 J (λ_ u H=>eH (A1 H (λok l z=>?_) λ_ _ b=>b.elim)) λ_ _ b=>b.elim)) λ_ _ b=>b.elim)
  cases ok with
  | false=>exact hE ⟨rfl,z⟩
  | true=>
   exact eH (eH (A1 z (λx q G=>eH (A1 G (λ_ p E=>hE (hE ⟨rfl,E⟩)) λ_ _ b=>b.elim)) λ_ _ b=>b.elim))
noncomputable def B0(env:Env):List (Str×NameKind)->ZQ->ZQ
 | [],b=>b
 | (n,k)::r,b=>if (k == .free)=true then(match env.cells.lookup n with
   | some a=>B0 env r ((n,a)::b)
   | none=>B0 env r b) else B0 env r b
theorem jm:∀(names:List (Str×NameKind)) (acc:ZQ),(∀x∈names,x.2=.free->∃a,env.cells.lookup x.1=some a) ->
  (forIn names acc λ(x:Str×NameKind) (cs:ZQ)=>(if (x.2 == NameKind.free)=true then(do let c <-cellOf env x.1;pure (ForInStep.yield ((x.1,c)::cs))) else pure (ForInStep.yield cs):Sem (ForInStep (ZQ))))=(pure (B0 env names acc):Sem (ZQ))
 | [],acc,_=>rfl
 | (n,k)::r,acc,h=>by
  have i:=λb=>jm  r b λx j=>h x (hH _ j);rw[List.forIn_cons];unfold B0
  by_cases e:(k == NameKind.free)=true
  ·obtain⟨a,l⟩:=h (n,k) hQ (by simpa using e);have g:=l;simp only[e,cellOf,g];exact i _
  ·have d:(k == NameKind.free)=false:=by simpa using e
   simp only[d];exact i _
theorem T6(h:∀x∈scope.names,x.2=.free->∃a,env.cells.lookup x.1=some a):closureFor scope env=pure (B0 env scope.names []):=by
 have e:=jm  scope.names [] h;exact(Sc (λz=>z >>= λcs=>pure cs) e).trans (by simp)
theorem eF:∀{names:List (Str×NameKind)} {acc:ZQ} {x:Str} {c:Addr},(B0 env names acc).lookup x=some c->acc.lookup x=some c\/env.cells.lookup x=some c
 | [],acc,x,c,h=>.inl h
 | (n,k)::r,acc,x,c,h=>by
  unfold B0 at h
  by_cases d:(k == NameKind.free)=true
  ·rw[ux d] at h
   cases e:env.cells.lookup n with
   | none=>rw[e] at h;exact eF h
   | some a=>
    rw[e] at h;rcases eF h with z | z
    ·by_cases b:x=n
     ·subst b;simp at z;subst z;exact .inr e
     ·rw[FM] at z;have:(x == n)=false:=by simpa using b
      rw[this] at z;exact .inl z
    ·exact .inr z
  ·rw[uk d] at h;exact eF h
theorem Y2:∀{names:List (Str×NameKind)} {acc:ZQ} {x:Str} {c:Addr},acc.lookup x=some c->∃g,(B0 env names acc).lookup x=some g
 | [],acc,x,c,h=>⟨c,h⟩
 | (n,k)::r,acc,x,c,h=>by
  unfold B0
  by_cases d:(k == NameKind.free)=true
  ·rw[ux d]
   cases e:env.cells.lookup n with
   | none=>exact Y2 h
   | some a=>
    by_cases b:x=n
    ·subst b;exact Y2 (c:=a) (by simp)
    ·refine Y2 (c:=c) ?_;rw[FM];have:(x == n)=false:=by simpa using b
     rwa[this]
  ·rw[uk d];exact Y2 h
theorem jY:∀{names:List (Str×NameKind)} {acc:ZQ} {x:Str},(∀y∈names,y.2=.free->∃a,env.cells.lookup y.1=some a)->(x,NameKind.free)∈names->∃c,(B0 env names acc).lookup x=some c
 | [],acc,x,_,h=>by cases h
 | (n,k)::r,acc,x,i,h=>by
  unfold B0;rcases List.mem_cons.mp h with z | z
  ·injection z with o l
   subst o;subst l;obtain⟨a,e⟩:=i (x,.free) hQ rfl;have p:=e;rw[p];exact Y2 (c:=a) (by simp)
  ·have d:=λb=>jY (acc:=b) (λy j=>i y (hH _ j)) z
   by_cases g:(k == NameKind.free)=true
   ·rw[ux g]
    cases e:env.cells.lookup n with
    | none=>exact d _
    | some a=>exact d _
   ·rw[uk g];exact d _
theorem ae{env:Env}:∀{names:List (Str×NameKind)} {x:Str} {k:NameKind},
  (names.map λ(n,k)=>if (k == NameKind.free&&env.scope.kind == .function&&env.kindOf n == some .cell) then(n,NameKind.cell) else(n,k)).lookup x=some k->(k=.cell\/k=.free)->(∀y∈names,y.2≠.cell)->(x,NameKind.free)∈names
 | [],_,_,h,_,_=>by cases h
 | (n,q)::r,x,k,h,g,i=>by
  have j:=@ae env r x k;rw[vc] at h
  by_cases e:(q == NameKind.free&&env.scope.kind == .function&&env.kindOf n == some .cell)=true
  ·have c:=by
    have:=(Bool.and_eq_true_iff.mp (Bool.and_eq_true_iff.mp e).1).1;simpa using this
   simp only[e,YF] at h
   by_cases a:x=n
   ·subst a;rw[c];exact hQ
   ·rw[FM] at h;have:(x == n)=false:=by simpa using a
    rw[this] at h;exact hH _ (j h g λy b=>i y (hH _ b))
  ·have d:(q == NameKind.free&&env.scope.kind == .function&&env.kindOf n == some .cell)=false:=by simpa using e
   simp only[d,XV,Ys] at h
   by_cases a:x=n
   ·subst a;simp at h;subst h;rcases g with z | z
    ·exact absurd z (i (x,q) hQ)
    ·rw[z];exact hQ
   ·rw[FM] at h;have:(x == n)=false:=by simpa using a
    rw[this] at h;exact hH _ (j h g λy b=>i y (hH _ b))
noncomputable def A8(X:Cx)(N:ZT)(scope:Scope)(cl:ZQ)(a:ZS)(s:Shared)(H:Hp):Cx where
 prog:=X.prog
 w:=X.w
 K:=X.K
 mg:=X.mg
 base:=X.base
 A:=X.A
 N:=N
 s₀:=s
 H₀:=H
 env:=compEnvC scope cl s.heap.objs.size X.env
 outer:=X.stack
 stack:=X.stack
 ex:=a
 fn:=λ_=>false
 calm:=X.calm
 pn:=[]
 xe:=λ_ _=>False
noncomputable def M0(cap:ZP)(σ:St):St:=cap.map λo=>match o with
 | some j=>(σ[j]?).join
 | none=>none
noncomputable def Z5(XN N:ZT)(XS scope:Scope)(cap:ZP):Bool:=
 (cap.length == N.length)&&(List.range N.length).all (λi=>match N[i]?,cap[i]? with
  | some x,some (some j)=>(XN[j]? == some x)&&((XS.names.lookup x == some .cell)||(XS.names.lookup x == some .free))&&(scope.names.lookup x == some .free)
  | some _,some none=>true
  | _,_=>false)
 && scope.names.all (λy=>y.2 != .cell)&&scope.names.all (λy=>y.2 != .free||(XS.names.lookup y.1 == some .cell)||(XS.names.lookup y.1 == some .free))
 && scope.names.all (λy=>y.2 != .local||(scope.names.lookup y.1 == some .local))
theorem dU{env:Env}:∀{names:List (Str×NameKind)} {x:Str},names.lookup x=some .free ->
  (names.map λ(n,k)=>if (k == NameKind.free&&env.scope.kind == .function&&env.kindOf n == some .cell) then(n,NameKind.cell) else(n,k)).lookup x=some .cell \/
  (names.map λ(n,k)=>if (k == NameKind.free&&env.scope.kind == .function&&env.kindOf n == some .cell) then(n,NameKind.cell) else(n,k)).lookup x=some .free
 | [],_,h=>by cases h
 | (n,q)::r,x,h=>by
  have g:=@dU env r x;rw[vc]
  by_cases e:x=n
  ·subst e;simp at h;subst h
   by_cases c:(NameKind.free == NameKind.free&&env.scope.kind == .function&&env.kindOf x == some .cell)=true
   ·left
    simp only[c];simp
   ·right
    have a:(NameKind.free == NameKind.free&&env.scope.kind == .function&&env.kindOf x == some .cell)=false:=by simpa using c
    simp only[a];simp
  ·have d:(x == n)=false:=by simpa using e
   rw[FM,d] at h;have b:=g h
   by_cases c:(q == NameKind.free&&env.scope.kind == .function&&env.kindOf n == some .cell)=true
   ·simp only[c,YF];rwa[FM,d]
   ·have a:(q == NameKind.free&&env.scope.kind == .function&&env.kindOf n == some .cell)=false:=by simpa using c
    simp only[a,XV,Ys];rwa[FM,d]
structure N2(X:Cx)(N:ZT)(scope:Scope)(cap:ZP):Prop where
 len:cap.length=N.length
 slot:∀(i:Nat) (x:Str) (j:Nat),N[i]?=some x->cap[i]?=some (some j)->X.N[j]?=some x/\(X.env.kindOf x=some .cell\/X.env.kindOf x=some .free)/\scope.names.lookup x=some .free
 nocell:∀y∈scope.names,y.2≠.cell
 free:∀y∈scope.names,y.2=.free->(X.env.kindOf y.1=some .cell\/X.env.kindOf y.1=some .free)
 loc:∀y∈scope.names,y.2=.local->scope.names.lookup y.1=some .local
theorem P9(B:X.N=XN)(v:X.env.scope=XS)(h:Z5 XN N XS scope cap=true):N2 X N scope cap:=by
 subst B;subst v;unfold Z5 at h;rw[v8,v8,v8,v8] at h;obtain⟨⟨⟨⟨C,l⟩,g⟩,e⟩,d⟩:=h;rw[XO] at l g e d;have c:=by simpa using C
 refine⟨c,λi x j o E=>?_,λy b z=>?_,λy b z=>?_,λy b z=>?_⟩
 ·have u:=(List.getElem?_eq_some_iff.mp o).1;have q:=l i (List.mem_range.mpr u);rw[o,E] at q;rw[v8,v8,YS] at q;obtain⟨⟨r,a⟩,p⟩:=q;refine⟨by simpa using r,?_,by simpa using p⟩;rcases a with a | a
  ·exact .inl (beq_iff_eq.mp a)
  ·exact .inr (beq_iff_eq.mp a)
 ·have q:=g y b;rw[z] at q;exact absurd q (by decide)
 ·have q:=e y b;rw[z,YS,YS] at q;rcases q with(q | q) | q
  ·exact absurd q (by decide)
  ·exact .inl (beq_iff_eq.mp q)
  ·exact .inr (beq_iff_eq.mp q)
 ·have q:=d y b;rw[z,YS] at q;rcases q with q | q
  ·exact absurd q (by decide)
  ·simpa using q
section
variable{X:Cx}{N:ZT}{scope:Scope}{cap:ZP}{fp:ZS}{pins:ZO}{σ:St}{H:Hp}{s:Shared}
theorem Inv.T5(I:Inv X pins σ H s)(c:N2 X N scope cap):∀y∈scope.names,y.2=.free->∃a,X.env.cells.lookup y.1=some a:=λy b z=>I.ok.has y.1 (c.free y b z)
theorem az(h:(B0 X.env scope.names []).lookup x=some c):X.env.cells.lookup x=some c:=by
 rcases eF h with z | z
 ·cases z
 ·exact z
theorem tL(I:Inv X pins σ H s)(M:N2 X N scope cap)(S:∀b∈fp,∀x c,X.env.cells.lookup x=some c->c≠b){C:Addr}{Y:Hp}{h':Heap}(u:Un (yd X.stack) fp H Y s.heap h') :
  ∀(i:Nat) (x:Str) (v:V),N[i]?=some x->(M0 cap σ)[i]?=some (some v)->∃w,RelV v w/\∀m,Look (compEnvC scope (B0 X.env scope.names []) C X.env) h' m x w:=by
 intro i x v U a;unfold M0 at a;rw[ue] at a
 cases E:cap[i]? with
 | none=>rw[E] at a;cases a
 | some o=>
  rw[E] at a
  cases o with
  | none=>cases a
  | some j=>
   have p:(σ[j]?).join=some v:=x2 a
   have T:σ[j]?=some (some v):=by
    cases q:σ[j]? with
    | none=>rw[q] at p;cases p
    | some o'=>rw[q] at p;exact Sc some p
   obtain⟨O,J,G⟩:=M.slot i x j U E;obtain⟨m,hn,R⟩:=I.loc
   have y:RN X.env.scope x:=by
    rcases J with k | k
    ·exact .inr (.inl k)
    ·exact .inr (.inr k)
   obtain⟨w,r,l⟩:=R j x v O T y;refine⟨w,r,λm'=>?_⟩;rcases l with⟨h,_⟩ | ⟨_,c,B,o,Q,hd⟩
   ·rcases J with k | k
    ·rw[k] at h;cases h
    ·rw[k] at h;cases h
   ·obtain⟨c',g⟩:=jY  (I.T5 M) (Xk G);have d:=az g;rw[B] at d;cases d;obtain⟨sl,e⟩:=u.any Q (I.freeC x c B) (λz=>S c z x c B rfl);exact .inr ⟨dU G,c,g,⟨_,e,hd⟩⟩
theorem Cx.Ok.comp(I:Inv X pins σ H s)(i:N2 X N scope cap)(j:scope.kind=.function)(d:∀b∈fp,N6 X pins H b)(l:∀b∈fp,b<s.heap.objs.size):(A8 X N scope (B0 X.env scope.names []) fp s H).Ok:=by
 refine⟨I.ok.mod,j,I.ok.glob,I.ok.blt,sK _,λx y c r p=>I.ok.inj x y c (az r) (az p),λx a=>?_,λx c z=>absurd (z) ud,I.ok.hd,I.ok.frames,.inl rfl,λb z=>⟨v6 (l b z),λx c h=>(d b z).2.2.2.2.1 x c (az h)⟩,I.bs,GM I.ok.bsz I.sz,λb o e z=>?_,λb z q=>?_,I.stack,I.AH⟩
 ·have g:(x,NameKind.free)∈scope.names:=by
   rcases a with a | a
   ·exact ae a (.inl rfl) i.nocell
   ·exact ae a (.inr rfl) i.nocell
  exact jY  (I.T5 i) g
 ·rcases(d b z).2.2.2.1 with q | q
  ·exact I.ok.noex b o e q
  ·exact absurd (ww (vu e) (GM I.ok.bsz q)) (XR _)
 ·rcases List.mem_cons.mp (I.yu b q) with e | e
  ·exact(d b z).2.1 e
  ·exact(d b z).2.2.1 e
theorem kH(I:Inv X pins σ H s)(d:N2 X N scope cap)(u:scope.kind=.function)(e:∀b∈fp,N6 X pins H b)(y:∀b∈fp,b<s.heap.objs.size){m:ZZ}
  (q:a.Ns s.heap.objs.size m) (keep:∀b o,s.heap.get? b=some o->a.get? b=some o):Inv (A8 X N scope (B0 X.env scope.names []) fp s H) [] (M0 cap σ) H { s with heap:=a,toks:=tk }:=by
 refine⟨Cx.Ok.comp I d u e y,rfl,I.bare,Un.kept keep,⟨m,q,λi x v E B _=>?_⟩,λx c h=>?_,I.hok.fresh (sK _),λx c h=>I.freeC x c (az h),λp g=>absurd (show p∈([]) from g) (by simp),I.hok.kept keep,?_⟩
 ·obtain⟨w,r,l⟩:=tL  I d (λb z=>(e b z).2.2.2.2.1) (Un.kept keep) i x v E B;exact⟨w,r,l m⟩
 ·obtain⟨v,o,j,hd⟩:=I.cell x c (az h);exact⟨v,o,keep c o j,hd⟩
 ·unfold M0;rw[dL];exact d.len
theorem fX(I:Inv X pins σ H s)(e:N2 X N scope cap)(j:∀b∈fp,N6 X pins H b){c:St}(J:Inv (A8 X N scope (B0 X.env scope.names []) fp s H) a c g d) :
  Inv (A8 X N scope (B0 X.env scope.names []) fp s H) a (M0 cap σ) g d:=by
 refine⟨J.ok,J.os,J.bare,J.base,?_,J.cell,J.free,J.freeC,J.pin,J.hok,?_⟩
 ·obtain⟨m,h,_⟩:=J.loc;refine⟨m,h,λi x v p o _=>?_⟩;obtain⟨w,r,l⟩:=tL  I e (λb z=>(j b z).2.2.2.2.1) J.base i x v p o;exact⟨w,r,l m⟩
 ·unfold M0;rw[dL];exact e.len
theorem Inv.sU(I:Inv X pins σ H s)(a:N6 X pins H C)(c:Heap.SameBut C s.heap h'):Inv X pins σ H { s with heap:=h' }:=
 I.turned  (λb o d e=>(c.2 b d).trans e) a.1 a.2.1 a.2.2.2.1 a.2.2.2.2.1 a.2.2.2.2.2
end
def xo(X:Cx)(d:ZV)(t:TT):Prop:=
 ∀(a:ZO) (s:Shared) (b:St) (H:Hp) (Q:Bool->Hp->Prop),Inv X a b H s->t b H Q ->
  wpAny (model X.prog X.w) X.A (forIn d true λc r=>if r=true then do let ok <-isTrue c X.env (eval c X.env);pure (ForInStep.yield ok) else pure (ForInStep.yield r)) (TP X a b Q) X.xe s
def VQ:TT:=λ_ H Q=>Q true H
theorem zI:xo X [] VQ:=λ_ _ _ H _ I h=>wpAny_tests_nil ⟨H,I,h⟩
theorem Ki(h:PT X c t):xo X [c] t:=λa s b H Q I q=>wpAny_tests_one (h a s b H Q I q)
def UQ(J:It)(g:TG)(tc:TT)(te:TE)(h:St)(Q:VK)(o:Hp):Prop:=∀d,o d=none ->
 ∃W:Nat->Nat->Hp->Prop,(∃m,W 0 m (upd o d (.lst [])))/\∀i m H,W i m H ->
  (J.stop i H/\Q (.ref d) H) \/
  (J.go i H/\∀x p,J.yld i H x p->g x h p λc q=>tc c q λb l=>
   if b=true then te c l λv j=>∃a,j d=some (.lst a)/\a.length<sizeLine/\∃e,e<m/\W (i+1) e (upd j d (.lst (a++[v])))
   else ∃e,e<m/\W (i+1) e l)
def VO(H c:Hp):Prop:=∀b a,H b=some (.tup a)->c b=some (.tup a)
theorem e6.T7(h:e6 H a):VO H a:=λb c e=>h b _ e
theorem e6.g7(h:H d=none):e6 H (upd H d o):=λb u e=>by
 rwa[i3 (t9 e h)]
section
variable{X:Cx}
noncomputable def SE:V->AAE
 | .ty n=>some (.type n)
 | .ref a=>some (.ref a)
 | _=>none
theorem gz:G0 X (.builtin "isinstance") (λxs H Q=>∃x c t cv b,xs=[x,c]/\SE c=some cv/\cM X.K H x t/\PySem.W.kitOne X.K t cv=some b/\Q (.bl b) H):=by
 intro g s v H xs y Q I r h;obtain⟨x,c,t,cv,b,rfl,d,l,o,q⟩:=h;obtain⟨u,i,rfl,j,e⟩:=vals2 r
 have p:i=cv:=by
  cases c with
  | ty n=>cases d;exact e
  | ref a=>cases d;exact e
  | _=>cases d
 subst p;exact BQ I j l o λtk=>⟨.bl b,H,I.tok tk,rfl,q⟩
def V8(i j:Int):Prop:=0<j/\j.natAbs.log2<9000
theorem IE:P6 X (binaryOp .FloorDiv) (rI V8 λi j=>.int (i/j)):=UT λi j _ _ _ _ _ a q=>by
 have b:=a.1;exact floordiv_int (by omega) (by rwa[Int.fdiv_eq_ediv_of_nonneg i (by omega)]) (.inl (PyProof.noPylong_of_log2 a.2))
end
section
variable{X:Cx}{pins:ZO}{σ:St}{H:Hp}{s:Shared}{h':Heap}
theorem Inv.CV{ch:ZS}{T:Addr}(I:Inv X pins σ H s)(a:∀b∈ch,N6 X pins H b)(k:∀b o,b∉ch->s.heap.get? b=some o->h'.get? b=some o)
  (j:s.heap.objs.size<=T) (rv:Vals xs its) (hz:xs.length<=sizeLine) (p:IsTup h' T its.toArray):Inv X pins σ (upd H T (.tup xs)) { s with heap:=h',toks:=t' }:=by
 have i:=I.hok.fresh j;have h:∀b u,H b=some u->b∉ch:=λb u e z=>by rw[(a b z).1] at e;cases e
 have neT:∀b o,s.heap.get? b=some o->b≠T:=λb o e=>v6 (ww (vu e) j)
 refine I.step    (λb g=>⟨(a b g).2.2.2.1,(a b g).2.1,(a b g).2.2.2.2.1,(a b g).2.2.2.2.2⟩) (λb o _ _ d e _=>k b o d e) (λb o _ _ d e _=>⟨o.slots,k b o d e⟩)
  (λb o d e n=>by rwa[i3 (neT b o e)]) (λb o d e=>⟨o,k b o d e⟩) (λb l e=>by rwa[i3 (t9 e i)]) (λb o u e=>by rwa[i3 (t9 e i)])
  (λb E e=>⟨#[],by rw[i3 (t9 e i),e];simp⟩) (λm y=>?_) (λb u e=>?_) I.bare
 ·obtain⟨o,B,C,x,r⟩:=y;exact⟨o,B,C,k _ o (λz=>(a _ z).2.1 rfl) x,r⟩
 ·by_cases g:b=T
  ·subst g;rw[c8] at e;cases e;exact⟨hz,its,rv,p⟩
  ·rw[i3 g] at e;refine(I.hok b u e).fH (λc v d q=>k c v ?_ q) (λc q=>by rwa[i3 (t9 q i)]) λc l q=>by rwa[i3 (t9 q i)]
   rcases d with z | z
   ·rw[z];exact h b u e
   ·exact h c _ z
theorem Inv.Kp{ch:ZS}(I:Inv X pins σ H s)(a:∀b∈ch,N6 X pins H b)(k:∀b o,b∉ch->s.heap.get? b=some o->h'.get? b=some o):Inv X pins σ H { s with heap:=h',toks:=t' }:=by
 have g:∀b u,H b=some u->b∉ch:=λb u e z=>by rw[(a b z).1] at e;cases e
 refine I.step    (λb h=>⟨(a b h).2.2.2.1,(a b h).2.1,(a b h).2.2.2.2.1,(a b h).2.2.2.2.2⟩) (λb o _ _ d e _=>k b o d e) (λb o _ _ d e _=>⟨o.slots,k b o d e⟩)
  (λb o d e n=>n) (λb o d e=>⟨o,k b o d e⟩) (λ_ _ e=>e) (λ_ _ _ e=>e) (λb x e=>⟨#[],by rw[e];simp⟩) (λm j=>?_) (λb u e=>?_) I.bare
 ·obtain⟨o,l,p,i,r⟩:=j;exact⟨o,l,p,k _ o (λz=>(a _ z).2.1 rfl) i,r⟩
 ·refine(I.hok b u e).fH (λc v d q=>k c v ?_ q) (λ_ q=>q) λ_ _ q=>q;rcases d with z | z
  ·rw[z];exact g b u e
  ·exact g c _ z
end
noncomputable def JS(K:AAD)(a:Addr):It:=
 ⟨λi H=>∃b x,G4 K H a b/\b[i]?=some x,λi H x c=>∃p y,x=.ref p/\H p=none/\c=upd H p (.tup [.int i,y])/\∀b,G4 K H a b->b[i]?=some y,λi H=>∃b,G4 K H a b/\b.length<=i⟩
theorem AO{K:AAD}{M:ZV}(a e it:Addr)(J:e≠it):Turn P w K (.Tuple M x1 tp) (JS K a) [e,it] e (λi h=>(∃old,IsEnum h e it (i:Nat) old)/\h.IsListIter it a i) where
 mem:=by simp
 obj:=λi h st b g=>by
  obtain⟨⟨old,r⟩,o,T,c,d⟩:=st;rcases List.mem_cons.mp g with rfl | g
  ·exact⟨_,r,λv z=>by
    have z':=z;cases z'⟩
  ·have z:=by simpa using g
   subst z;exact⟨o,T,λv z=>by rw[d] at z;cases z⟩
 keep:=λi h h' st k=>by
  obtain⟨⟨old,r⟩,hit⟩:=st;exact⟨⟨old,k e (by simp) _ r⟩,hit.at λo q=>k it (by simp) o q⟩
 item:=by
  intro X hP hw hK hc i j s σ H E I G st U;subst hP hw hK;obtain⟨⟨old,r⟩,hit⟩:=st;obtain⟨xs,x,O,R⟩:=U;obtain⟨Q,rv,p,hz⟩:=I.list O;obtain⟨u,hu,ru⟩:=rv.get R;refine wpAny_pyNext_enum_item r hit p.isList  (by simpa using hu) J λh1 Y B hT a1 hk=>⟨_,rfl,wpAny_letOwnedTupleGo_enum Y λh2 a0 y=>?_⟩;have l:=vu r;have C:it<s.heap.objs.size:=by obtain⟨o,T,_⟩:=hit;exact vu T
  have S:IsTup h2 s.heap.objs.size [Value.int i s.toks,u].toArray:=⟨_,(y.2 _ (Ya l)).trans hT,rfl,_,rfl⟩
  have I2:Inv X j σ (upd H s.heap.objs.size (.tup [.int i,x])) { s with heap:=h2,toks:=s.toks+1 }:=by
   refine I.CV  G (λb o g q=>?_) (sK _) (.cons ⟨_,rfl⟩ (.cons ru .nil)) (by show 2<=sizeLine;decide) S;have b1:b≠e:=λz=>g (by simp[z]);have b2:b≠it:=λz=>g (by simp[z]);exact(y.2 b b1).trans (hk b o b1 b2 q)
  refine⟨.ref s.heap.objs.size,_,I2,rfl,⟨s.heap.objs.size,x,rfl,I.fresh,rfl,λys hy=>by rwa[I.jo hy O]⟩,⟨⟨u,by simpa using a0⟩,B.extBut y.extBut (Ne.symm J)⟩,λb g=>?_⟩;rcases List.mem_cons.mp g with rfl | g
  ·rw[i3 (v6 l)];exact(G _ (by simp)).1
  ·have z:b=it:=by simpa using g
   subst z;rw[i3 (v6 C)];exact(G _ (by simp)).1
 done:=by
  intro X hP hw hK hc i j s σ H E I G st U;subst hP hw hK;obtain⟨⟨old,r⟩,hit⟩:=st;obtain⟨xs,O,R⟩:=U;obtain⟨Q,rv,p,hz⟩:=I.list O;have hl:=rv.length;refine wpAny_pyNext_enum_end (I.ok.hd hc) r hit p.isList (by simp;omega) λh1 eb=>⟨rfl,I.Kp (t':=s.toks) (ch:=[e,it]) G λb o g q=>eb b o (λz=>g (by simp[z])) q⟩
 self:=λ_ _ _ _ _ st h=>wpAny_pyIter_enum st.1.choose_spec h
def NZ(K:AAD)(e:TA):TI:=λc H R=>e c H λvs b=>∃a,vs=[.ref a]/\(∃d,G4 K b a d)/\R (JS K a) b
theorem MX  {j:ZV}      (U:Gl X "enumerate") (S:X.mg "enumerate"=none) (Y:PA X [a] v) (O:starEach [a] X.env=[(false,eval a X.env)]:=by rfl) :
  PI X (.Tuple j B tp) (.Call (.Name "enumerate" p) [a] [] i) (NZ X.K v):=by
 refine .of ?_;intro c s u H R I h;refine Call_ (bG I U S boot_enumerate (Xy (w5 (Y i c s u H _ I h) λus d ⟨vs,y,g,E,G⟩=>?_) O rfl));obtain⟨l,e,⟨xs,Q⟩,q⟩:=G;subst e
 cases E with
 | cons r C=>
  cases C;cases r;obtain⟨J,rv,pl,hz⟩:=g.list Q;refine call_enumerate_list pl.isList λh' x hit M T=>wpAny_pyIter_enum x ?_;have I2:=g.kept (t':=d.toks) T;refine⟨d.heap.objs.size+1,[d.heap.objs.size+1,d.heap.objs.size],_,_,y,rfl,I2,AO l _ _ (Nat.succ_ne_self _),⟨⟨_,x⟩,hit⟩,λb o=>?_,q⟩;rcases List.mem_cons.mp o with rfl | o
  ·exact g.fL (Yy _) (g.hok.fresh (Yy _))
  ·have z:=by simpa using o
   subst z;exact g.fL (sK _) (g.hok.fresh (sK _))
section
variable{prog:Program}{w:World}{A:Around}{E:AAB}{s:Shared}
end
def Ve(b:Bool)(h:Heap)(it l:Addr)(i:Nat):Prop:=match b with
 | true=>h.IsTupleIter it l i
 | false=>h.IsListIter it l i
def Tw(b:Bool)(h:Heap)(l:Addr)(items:ZY):Prop:=match b with
 | true=>h.IsTuple l items
 | false=>h.IsList l items
theorem Ve.at(x:Ve b h it l i)(k:∀o,h.get? it=some o->h'.get? it=some o):Ve b h' it l i:=by
 cases b with
 | true=>obtain⟨o,a,r⟩:=x;exact⟨o,k o a,r⟩
 | false=>obtain⟨o,a,r⟩:=x;exact⟨o,k o a,r⟩
theorem Tw.at(x:Tw b h l items)(k:∀o,h.get? l=some o->h'.get? l=some o):Tw b h' l items:=by
 cases b with
 | true=>obtain⟨o,a,r⟩:=x;exact⟨o,k o a,r⟩
 | false=>obtain⟨o,a,r⟩:=x;exact⟨o,k o a,r⟩
theorem Tw.lt(x:Tw b h l items):l<h.objs.size:=by
 cases b with
 | true=>obtain⟨o,a,r⟩:=x;exact vu a
 | false=>obtain⟨o,a,r⟩:=x;exact vu a
section
variable{prog:Program}{w:World}{A:Around}{E:AAB}{s:Shared}{z TI TO i1 i2 l1 l2:Addr}{b1 b2:Bool}{k:Nat}{xs ys:ZY}{x y a b:Value}
noncomputable def VL(b:Bool):String:=if b then "tuple_iterator" else "list_iterator"
end
end L2
namespace HT
open PySem PySem.Spec PyProof.Rows
section
variable{prog:Program}{w:World}{A:Around}{E:AAB}{s:Shared}
theorem IG{a:ZU}{Q:AAB}(o:IsTup s.heap t ([]:ZU).toArray)(p:IsTup s.heap b a.toArray)(h:Q (.ref b) s) :
  wpAny (model prog w) A (binaryOp .Add (.ref t) (.ref b)) Q E s:=by
 obtain⟨⟨c1,d1,r,l⟩,g1,i,n1,e⟩:=id o;obtain⟨⟨c2,d2,q,j⟩,c,g,n2,d⟩:=id p;subst i e g d;exact ZH ⟨_,g1,rfl⟩ ⟨_,c,rfl⟩ noFill_tuple_add seq_tuple_add YG YC (YA _ _) (tuple_addW0 t b _ a.toArray n1 n2 d1 d2 l j rfl) ⟨g1,c,h⟩
theorem xH{items:ZY}{lo b:Option Int}{Q:AAB}(a:IsTup s.heap t items)(l:s.heap.IsSliceOf c j i .none)(pl:IsPart j lo)(u:IsPart i b)
  (r:F0 items.size 0 lo=0) (q:F0 items.size items.size b=items.size) (h:Q (.ref t) s):wpAny (model prog w) A (getItem (.ref t) (.ref c)) Q E s:=by
 obtain⟨os,d,e,v⟩:=id l;have g:s.TypeIs (.ref c) "slice":=⟨os,d,e⟩
 unfold getItem
 try with_reducible refine FS ?_
 refine eH (ZF a.typeIs (by decide) (eH (IR (name:=Str.ofString "__getitem__") a.typeIs OV
  (Gc OV a.typeIs entry_tuple_getitem ?_ (args_tuple_getitem _ _)))))
 show wpAny _ _ (Builtin.Tuple.tupleItemsOf (.ref t) >>= _) _ _ s;refine eH (tupleItemsOf_ a (eH (Yk g ?_)));refine eH (Y4 l pl u ?_)
 have yes:(((F0 items.size 0 lo:Nat):Int) == 0&&(1:Int) == 1&&(F0 items.size items.size b-F0 items.size 0 lo) == items.size)=true:=by
  rw[r,q];simp
 show wpAny _ _ (if (((F0 items.size 0 lo:Nat):Int) == 0&&(1:Int) == 1&&(F0 items.size items.size b-F0 items.size 0 lo) == items.size)=true then _ else _) _ _ s;obtain⟨⟨c1,d1,x,y⟩,g1,p,n1,o⟩:=id a;simp only at p o;subst p o
 wp_walk using wpAny_loadPart' g1
 exact⟨_,rfl,hE h⟩
end
end HT
namespace L2
open PySem PySem.Spec PyProof.Rows
section
variable{X:Cx}{pos:Pos}
def FT:R2:=λx y H Q=>∃a b d c,x=.ref a/\y=.ref b/\H a=some (.tup d)/\H b=some (.tup c)/\d.length+c.length<=sizeLine/\∀r e,e6 H e->e r=some (.tup (d++c))->Q (.ref r) e
theorem Kl:P6 X (binaryOp .Add) FT:=by
 intro c s o H x y v u Q I j i h;obtain⟨a,b,g,r,rfl,rfl,e,d,J,q⟩:=h
 by_cases l:g=[]
 ·subst l;cases j;cases i;obtain⟨G,B,E,_⟩:=I.tuple (S6.of e);obtain⟨R,O,C,_⟩:=I.tuple (S6.of d);obtain rfl:G=[]:=B.ib.mpr rfl;exact HT.IG E C ⟨.ref b,H,I,rfl,q b H (e6.refl _) d⟩
 ·refine JA c s o H _ _ v u Q I j i ⟨a,b,g,r,rfl,rfl,S6.of e,S6.of d,l,J,λz=>q a H (e6.refl _) (by rwa[z,vy]),λz p M=>q p _ (e6.g7 M) c8⟩
def VS:V->Option Int->Option Int->Hp->VK->Prop:=λx lo d H Q=>∃a c,x=.ref a/\H a=some (.tup c)/\∀r b,e6 H b->b r=some (.tup (jE c lo d))->Q (.ref r) b
theorem Rt:NU X VS:=by
 intro d s y H x v B z lo u C Q I i o pl j h;obtain⟨a,c,rfl,g,q⟩:=h
 by_cases hw:HT.F0 c.length 0 lo=0/\HT.F0 c.length c.length u=c.length
 ·cases i;obtain⟨e,r,l,G⟩:=I.tuple (S6.of g);have b:e.toArray.size=c.length:=by exact r.length.symm
  refine⟨"tuple",_,PyProof.Rows.slot_tuple_getitem.lookup,l.typeIs,HT.xH l o pl j (by rw[b];exact hw.1) (by rw[b];exact hw.2) ⟨.ref a,H,I,rfl,q a H (e6.refl _) ?_⟩⟩;rw[g];unfold jE;rw[hw.1,hw.2];simp
 ·exact Rg d s y H _ v B z lo u C Q I i o pl j ⟨a,c,rfl,S6.of g,hw,λp E=>q p _ (e6.g7 E) c8⟩
end
section
variable{X:Cx}
noncomputable def isStar:Expr->Bool
 | .Starred _ _=>true
 | _=>false
theorem Y6{a:ZV}(h:isStar e=false):starEach (e::a) env=(false,eval e env)::starEach a env:=by
 cases e<;>first | rfl | cases h
theorem bp(d:PE X e te)(c:PA X a t)(b:isStar e=false):PA X (e::a) (Nm te t):=zC d c (Y6 b)
end
noncomputable def WK(b:Addr)(fs:List (Str×V)):HO:=.ext λh=>∃a,h.Ns1 b a/\(∀f,dS (fs.lookup f) (a f))/\Within a (fs.map (·.1))
end L2
namespace L3
open PySem PySem.Spec L2
inductive D where
 | o6 | bl (b:Bool) | int (i:Int) | str (x:Str)
 | tup (xs:List D) | lst (xs:List D) | dic (kvs:List (Key×D)) | ty (n:String) | adr (a:Addr) | fz (xs:List D) | st (ks:List Key) | xc (e dx:Addr) (fs:List (Str×V)) | dn (kvs:List (M3×Int))
mutual
noncomputable def u3:D->Bool
 | .o6=>true
 | .bl _=>true
 | .int _=>true
 | .str _=>true
 | .tup xs=>x3 xs
 | .lst _=>false
 | .dic _=>false
 | .st _=>false
 | .dn _=>false
 | .xc _ _ _=>false
 | .ty _=>true
 | .adr _=>true
 | .fz xs=>x3 xs
noncomputable def x3:List D->Bool
 | []=>true
 | x::xs=>u3 x&&x3 xs
end
def Oi(K:AAD)(H:Hp)(a:Addr)(xs:List V):Prop:=
 (∃o,H a=some (.frz o (.lst xs))) \/
  ∃(o:Obj) (b:ZY) (n:Nat),K.lookup a=some o/\o.cls=.type "list" /\ o.dict=none/\o.data=.seq b n/\b.size<=sizeLine/\Vals xs b.toList
theorem Oi.sq(h:Oi K H a xs):G4 K H a xs:=by
 rcases h with⟨o,h⟩ | h
 ·exact .inl (.inr ⟨o,h⟩)
 ·exact .inr h
mutual
inductive Rep(K:AAD)(H:Hp):V->D->ZS->Prop
 | o6:Rep K H .o6 .o6 []
 | bl {b:Bool}:Rep K H (.bl b) (.bl b) []
 | int {i:Int}:Rep K H (.int i) (.int i) []
 | str {x:Str}:Rep K H (.str x) (.str x) []
 | tup {p:Addr} {vs:List V} {ds:List D} {A:ZS}:H p=some (.tup vs)->i8 K H vs ds A->Rep K H (.ref p) (.tup ds) A
 | lst {p:Addr} {vs:List V} {ds:List D} {A:ZS}:H p=some (.lst vs)->i8 K H vs ds A->Rep K H (.ref p) (.lst ds) (p::A)
 | frz {p:Addr} {vs:List V} {ds:List D} {A:ZS}:Oi K H p vs->i8 K H vs ds A->Rep K H (.ref p) (.fz ds) A
 | dic {p:Addr} {kvs:List (Key×V)} {kds:List (Key×D)} {A:ZS} {ep:Nat}:H p=some (.dE kvs ep)->x6 K H kvs kds A->Rep K H (.ref p) (.dic kds) (p::A)
 | st {p:Addr} {S:Key->Bool} {n:Nat} {ks:List Key}:H p=some (.set S n)->(∀k:Key,S k=ks.any λz=>decide (z=k))->Rep K H (.ref p) (.st ks) [p]
 | xc {e dx:Addr} {fs:List (Str×V)}:H dx=some (WK dx fs)->Rep K H (.ref e) (.xc e dx fs) [dx]
 | dn {p:Addr} {kvs:List (M3×Int)}:H p=some (.dN (kvs.map λq=>(q.1,V.int q.2)))->Rep K H (.ref p) (.dn kvs) [p]
 | ty {n:String}:Rep K H (.ty n) (.ty n) []
 | adr {p:Addr}:Rep K H (.ref p) (.adr p) []
inductive i8(K:AAD)(H:Hp):List V->List D->ZS->Prop
 | nil:i8 K H [] [] []
 | cons {v:V} {d:D} {vs:List V} {ds:List D} {A B:ZS}:Rep K H v d A->i8 K H vs ds B->i8 K H (v::vs) (d::ds) (A++B)
inductive x6(K:AAD)(H:Hp):List (Key×V)->List (Key×D)->ZS->Prop
 | nil:x6 K H [] [] []
 | cons {k:Key} {v:V} {d:D} {vs:List (Key×V)} {ds:List (Key×D)} {A B:ZS}:Rep K H v d A->x6 K H vs ds B->x6 K H ((k,v)::vs) ((k,d)::ds) (A++B)
end
structure Y3(H H':Hp):Prop where
 T7:∀b xs,H b=some (.tup xs)->H' b=some (.tup xs)
 frzs:∀b o u,H b=some (.frz o u)->H' b=some (.frz o u)
 dom:∀b,H' b=none->H b=none
structure Tf(H H':Hp):Prop where
 T7:∀b xs,H b=some (.tup xs)->H' b=some (.tup xs)
 frzs:∀b o u,H b=some (.frz o u)->H' b=some (.frz o u)
theorem Y3.tf(s:Y3 H a):Tf H a:=⟨s.T7,s.frzs⟩
theorem Y3.refl(H:Hp):Y3 H H:=⟨λ_ _ h=>h,λ_ _ _ h=>h,λ_ h=>h⟩
theorem Y3.trans(a:Y3 H e)(b:Y3 e d):Y3 H d:=⟨λc x h=>b.T7 c x (a.T7 c x h),λc o u h=>b.frzs c o u (a.frzs c o u h),λc h=>a.dom c (b.dom c h)⟩
theorem Y3.of(s:e6 H a):Y3 H a:=⟨λb _ h=>s b _ h,λb _ _ h=>s b _ h,λb h=>s.free h⟩
theorem Tf.UH(s:Tf H b)(h:Oi K H a xs):Oi K b a xs:=by
 rcases h with⟨o,h⟩ | h
 ·exact .inl ⟨o,s.frzs _ _ _ h⟩
 ·exact .inr h
section
variable{K:AAD}{H H':Hp}
theorem i8.ind{P:List V->List D->ZS->Prop}(g:P [] [] [])(e:∀{v d A vs ds B},Rep K H v d A->i8 K H vs ds B->P vs ds B->P (v::vs) (d::ds) (A++B))(r:i8 K H vs ds A):P vs ds A:=by
 refine i8.rec (motive_1:=λ_ _ _ _=>True)  (motive_3:=λ_ _ _ _=>True) ?_ ?_ ?_ ?_ ?_ ?_ ?_ ?_ ?_ ?_ ?_ ?_ ?_ g (λh r _ p=>e h r p) ?_ ?_ r<;>intros<;>trivial
theorem x6.ind{P:List (Key×V)->List (Key×D)->ZS->Prop}(g:P [] [] [])(e:∀{k v d A vs ds B},Rep K H v d A->x6 K H vs ds B->P vs ds B->P ((k,v)::vs) ((k,d)::ds) (A++B))(r:x6 K H vs ds A):P vs ds A:=by
 refine x6.rec (motive_1:=λ_ _ _ _=>True) (motive_2:=λ_ _ _ _=>True)  ?_ ?_ ?_ ?_ ?_ ?_ ?_ ?_ ?_ ?_ ?_ ?_ ?_ ?_ ?_ g (λh r _ p=>e h r p) r<;>intros<;>trivial
theorem Rep.Z6(s:Tf H H')(r:Rep K H v d A):(∀a∈A,H' a=H a)->Rep K H' v d A:=
 Rep.rec  (motive_2:=λv d A _=>(∀a∈A,H' a=H a)->i8 K H' v d A) (motive_3:=λv d A _=>(∀a∈A,H' a=H a)->x6 K H' v d A)
  (λ_=>.o6) (λ_=>.bl) (λ_=>.int) (λ_=>.str) (λh _ i e=>.tup (s.T7 _ _ h) (i e)) (λh _ i e=>.lst ((e _ hQ).trans h) (i λa b=>e a (hH _ b))) (λh _ i e=>.frz (s.UH h) (i e))
  (λh _ i e=>.dic ((e _ hQ).trans h) (i λa b=>e a (hH _ b))) (λh q e=>.st ((e _ hQ).trans h) q) (λh e=>.xc ((e _ hQ).trans h)) (λh e=>.dn ((e _ hQ).trans h)) (λ_=>.ty) (λ_=>.adr)
  (λ_=>.nil) (λ_ _ g c e=>.cons (g λa b=>e a (v5 _ b)) (c λa b=>e a (tz _ b))) (λ_=>.nil) (λ_ _ g c e=>.cons (g λa b=>e a (v5 _ b)) (c λa b=>e a (tz _ b))) r
theorem i8.Z6(s:Tf H H')(r:i8 K H v d A):(∀a∈A,H' a=H a)->i8 K H' v d A:=
 r.ind (P:=λv d A=>(∀a∈A,H' a=H a)->i8 K H' v d A) (λ_=>.nil) λh _ c e=>.cons (h.Z6 s λa b=>e a (v5 _ b)) (c λa b=>e a (tz _ b))
theorem x6.Z6(s:Tf H H')(r:x6 K H v d A):(∀a∈A,H' a=H a)->x6 K H' v d A:=
 r.ind (P:=λv d A=>(∀a∈A,H' a=H a)->x6 K H' v d A) (λ_=>.nil) λh _ c e=>.cons (h.Z6 s λa b=>e a (v5 _ b)) (c λa b=>e a (tz _ b))
theorem Rep.mono(s:Y3 H H')(r:Rep K H v d A)(h:∀a∈A,H' a=H a):Rep K H' v d A:=r.Z6 s.tf h
theorem i8.mono(s:Y3 H H')(r:i8 K H v d A)(h:∀a∈A,H' a=H a):i8 K H' v d A:=r.Z6 s.tf h
theorem x6.mono(s:Y3 H H')(r:x6 K H v d A)(h:∀a∈A,H' a=H a):x6 K H' v d A:=r.Z6 s.tf h
theorem Rep.fu(r:Rep K H v d A):∀a∈A,fw (H a):=
 Rep.rec   (motive_3:=λ_ _ A _=>∀a∈A,fw (H a))
  (λa h=>(by cases h)) (λa h=>(by cases h)) (λa h=>(by cases h)) (λa h=>(by cases h)) (λ_ _ i=>i) (λh _ i a b=>(List.mem_cons.mp b).elim (λe=>by rw[e,h];trivial) (i a)) (λ_ _ i=>i) (λh _ i a b=>(List.mem_cons.mp b).elim (λe=>by rw[e,h];trivial) (i a))
  (λh _ a b=>by rw[List.mem_singleton.mp b,h];trivial) (λh a b=>by rw[List.mem_singleton.mp b,h];trivial) (λh a b=>by rw[List.mem_singleton.mp b,h];trivial) (λa h=>(by cases h)) (λa h=>(by cases h))
  (λa h=>(by cases h)) (λ_ _ i j a b=>(List.mem_append.mp b).elim (i a) (j a)) (λa h=>(by cases h)) (λ_ _ i j a b=>(List.mem_append.mp b).elim (i a) (j a)) r
theorem i8.fu(r:i8 K H v d A):∀a∈A,fw (H a):=
 r.ind (P:=λ_ _ A=>∀a∈A,fw (H a)) (λa h=>(by cases h)) λh _ j a b=>(List.mem_append.mp b).elim (h.fu a) (j a)
theorem x6.fu(r:x6 K H v d A):∀a∈A,fw (H a):=
 r.ind (P:=λ_ _ A=>∀a∈A,fw (H a)) (λa h=>(by cases h)) λh _ j a b=>(List.mem_append.mp b).elim (h.fu a) (j a)
theorem fw.some(h:fw o):∃x,o=Option.some x:=by
 cases o with
 | none=>cases h
 | some x=>exact⟨x,rfl⟩
theorem Rep.same(s:e6 H H')(r:Rep K H v d A):Rep K H' v d A:=
 r.mono (Y3.of s) λa b=>by
  obtain⟨o,e⟩:=fw.some (r.fu a b);rw[e];exact s a o e
theorem i8.same(s:e6 H H')(r:i8 K H v d A):i8 K H' v d A:=
 r.mono (Y3.of s) λa b=>by
  obtain⟨o,e⟩:=fw.some (r.fu a b);rw[e];exact s a o e
theorem Rep.E9(r:Rep K H v d A):u3 d=true->A=[]:=by
 refine Rep.rec  (motive_2:=λ_ d A _=>x3 d=true->A=[]) (motive_3:=λ_ _ _ _=>True)
  (λ_=>rfl) (λ_=>rfl) (λ_=>rfl) (λ_=>rfl) (λ_ _ i e=>i (by simpa[u3] using e)) ?_ (λ_ _ i e=>i (by simpa[u3] using e)) ?_ ?_ ?_ ?_ (λ_=>rfl) (λ_=>rfl) (λ_=>rfl) (λ_ _ i j e=>?_) trivial (λ_ _ _ _=>trivial) r
 case refine_6=>simp[x3] at e;rw[i e.1,j e.2];rfl
 all_goals intros;rename_i e;simp[u3] at e
theorem i8.E9(r:i8 K H v d A):x3 d=true->A=[]:=
 r.ind (P:=λ_ d A=>x3 d=true->A=[]) (λ_=>rfl) λh _ j e=>by
  simp[x3] at e;rw[h.E9 e.1,j e.2];rfl
theorem i8.length(r:i8 K H v d A):v.length=d.length:=r.ind (P:=λv d _=>v.length=d.length) rfl λ_ _ e=>Sc (·+1) e
theorem i8.get{i:Nat}(r:i8 K H vs ds A):ds[i]?=some d->∃v B,vs[i]?=some v/\Rep K H v d B/\B.Sublist A:=by
 refine r.ind (P:=λvs ds A=>∀{i:Nat},ds[i]?=some d->∃v B,vs[i]?=some v/\Rep K H v d B/\B.Sublist A) (λ{i} e=>by simp at e) λ{_ _ A _ _ _} h _ a {i} e=>?_
 cases i with
 | zero=>simp at e;subst e;exact⟨_,A,rfl,h,YB _ _⟩
 | succ i=>
  obtain⟨v,B,g,c,b⟩:=a (by simpa using e);exact⟨v,B,by simpa using g,c,b.trans (List.sublist_append_right _ _)⟩
theorem i8.append(r:i8 K H vs ds A)(q:i8 K H a b B):i8 K H (vs++a) (ds++b) (A++B):=r.ind (P:=λvs ds A=>i8 K H (vs++a) (ds++b) (A++B)) q λh _ c=>by rw[wT];exact .cons h c
theorem i8.split(n:Nat)(r:i8 K H vs ds A):∃B C,A=B++C/\i8 K H (vs.take n) (ds.take n) B/\i8 K H (vs.drop n) (ds.drop n) C:=by
 revert n
 refine r.ind (P:=λvs ds A=>∀n,∃B C,A=B++C/\i8 K H (vs.take n) (ds.take n) B/\i8 K H (vs.drop n) (ds.drop n) C) (λn=>⟨[],[],rfl,by rw[List.take_nil,List.take_nil];exact .nil,by rw[List.drop_nil,List.drop_nil];exact .nil⟩) λh r a n=>?_
 cases n with
 | zero=>exact⟨[],_,rfl,.nil,.cons h r⟩
 | succ n=>
  obtain⟨B,C,e,c,b⟩:=a n;exact⟨_++B,C,by rw[e,wT],.cons h c,b⟩
theorem i8.cut(i j:Nat)(r:i8 K H vs ds A):∃B,B.Sublist A/\i8 K H ((vs.drop i).take j) ((ds.drop i).take j) B:=by
 obtain⟨B,C,e,_,b⟩:=r.split i;obtain⟨d,g,c,a,_⟩:=b.split j;exact⟨d,by rw[e,c];exact(YB _ _).trans (Yv _ _),a⟩
theorem i8.set:∀{vs:List V} {ds:List D} {A:ZS} {v:V} {d:D} {B:ZS} (i:Nat),i8 K H vs ds A->Rep K H v d B->∃C,i8 K H (vs.set i v) (ds.set i d) C/\(∀a∈C,a∈A\/a∈B)/\(A.Nodup->B.Nodup->(∀a∈B,a∉A)->C.Nodup)
 | _,_,_,_,_,_,_,.nil,_=>⟨[],.nil,(λ_ h=>absurd h (by simp)),λ_ _ _=>uy⟩
 | _,_,_,_,_,B,0,.cons  (B:=o) h r,q=>⟨B++o,.cons q r,λa c=>(List.mem_append.mp c).elim .inr λz=>.inl (tz _ z),λn1 n2 g=>by
   refine List.nodup_append.mpr ⟨n2,(List.nodup_append.mp n1).2.1,λa c b j e=>?_⟩;subst e;exact g a c (tz _ j)⟩
 | _,_,_,_,_,B,i+1,.cons (A:=p)  h r,q=>by
  obtain⟨C,x,l,u⟩:=i8.set i r q;refine⟨p++C,.cons h x,λa c=>?_,λn1 n2 g=>?_⟩
  ·rcases List.mem_append.mp c with z | z
   ·exact .inl (v5 _ z)
   ·exact(l a z).elim (λy=>.inl (tz _ y)) .inr
  ·have:=List.nodup_append.mp n1;refine List.nodup_append.mpr ⟨this.1,u this.2.1 n2 λa c z=>g a c (tz _ z),λa c b j e=>?_⟩;subst e;rcases l a j with z | z
   ·exact this.2.2 a c a z rfl
   ·exact g a z (v5 _ c)
end
inductive Cl where | own | bor | loc | mk (H:Hp)
abbrev Ev:=List (Option D)
structure Ent where
 H₀:Hp
 L:Nat->ZS
 vs:List V
 cl:List Cl
 /-- what is frozen meanwhile (a loop's list),and how it stands -/
 Z:Addr->Prop
 Hz:Hp
def Ent.own(G:Ent)(i:Nat):Prop:=G.cl[i]?=some .own
structure Ent.Po(G:Ent):Prop where
 one:∀i,i<G.vs.length->G.own i->i=0
 lk:∀(j:Nat) (H':Hp),G.cl[j]?=some (.mk H')->∀a o,H' a=some o->G.H₀ a=some o/\∀i,i<G.vs.length->G.own i->a∉G.L i
structure E3(K:AAD)(G:Ent)(ρ:Ev)(σ:St)(H:Hp)(fa:AAC):Prop where
 rep:∀i d,ρ[i]?=some (some d)->∃v,σ[i]?=some (some v)/\Rep K H v d (fa i)
 emp:∀i,(∀d,ρ[i]?≠some (some d))->fa i=[]
 len:ρ.length=σ.length
 nd:∀i,(G.own i\/G.cl[i]?=some .loc)->(fa i).Nodup
 dj:∀i j,i≠j->G.own i->∀a∈fa i,a∉fa j
 par:∀i,i<G.vs.length->G.own i->σ[i]?=some G.vs[i]?
 old:∀i,i<G.vs.length->G.own i->∀a∈fa i,a∈G.L i\/G.H₀ a=none
 new:∀i,(G.cl[i]?=some .loc\/(G.own i/\¬i<G.vs.length))->∀a∈fa i,G.H₀ a=none
 frm:∀a o,G.H₀ a=some o->(∀i,i<G.vs.length->G.own i->a∉G.L i)->H a=some o
 stb:Y3 G.H₀ H
 zk:∀a,G.Z a->H a=G.Hz a
 zn:∀a,G.Z a->G.Hz a≠none
 zo:∀i,G.own i->∀a∈fa i,¬G.Z a
 po:G.Po
theorem E3.kept(E:E3 K G c σ H i){j:Nat}(h:G.cl[j]?=some (.mk b)):e6 b H:=λa o e=>let ⟨g,d⟩:=E.po.lk j b h a o e;E.frm a o g d
section
variable{K:AAD}{G:Ent}{ρ:Ev}{σ:St}{H H':Hp}{fa:AAC}
theorem E3.fu(E:E3 K G ρ σ H fa)(i:Nat):∀a∈fa i,fw (H a):=λa b=>by
 cases e:ρ[i]? with
 | none=>rw[E.emp i (λd z=>by rw[e] at z;cases z)] at b;cases b
 | some o=>
  cases o with
  | none=>rw[E.emp i (λd z=>by rw[e] at z;cases z)] at b;cases b
  | some d=>
   obtain⟨v,_,r⟩:=E.rep i d e;exact r.fu a b
theorem E3.there(E:E3 K G ρ σ H fa)(i:Nat)(b:a∈fa i):H a≠none:=λz=>by
 have:=E.fu i a b;rwa[z] at this
theorem E3.same(E:E3 K G ρ σ H fa)(s:e6 H H'):E3 K G ρ σ H' fa:=
 ⟨λi d e=>let ⟨v,c,b⟩:=E.rep i d e;⟨v,c,b.same s⟩,E.emp,E.len,E.nd,E.dj,E.par,E.old,E.new,λa o h n=>s a o (E.frm a o h n),E.stb.trans (Y3.of s),λa z=>(by
  obtain⟨o,e⟩:=Option.ne_none_iff_exists'.mp (E.zn a z);have h:=E.zk a z;rw[e] at h ⊢;exact s a o h),E.zn,E.zo,E.po⟩
inductive Fl where | any | stab | locl | fresh
def A4(G:Ent)(H:Hp)(fa:AAC)(B:ZS):Fl->Prop
 | .any=>True
 | .stab=>∀i,G.own i->∀a∈B,a∉fa i
 | .locl=>(∀i,G.own i->∀a∈B,a∉fa i)/\(∀a∈B,G.H₀ a=none)/\B.Nodup
 | .fresh=>B.Nodup/\∀a∈B,H a=none
noncomputable def kK:Fl->Fl->Bool
 | _,.any=>true
 | .any,_=>false
 | _,.stab=>true
 | .stab,_=>false
 | _,.locl=>true
 | .locl,_=>false
 | .fresh,.fresh=>true
theorem A4.cC(E:E3 K G ρ σ H fa)(h:A4 G H fa B .fresh):A4 G H fa B .stab:=λi _ a b z=>E.there i z (h.2 a b)
theorem A4.mn(E:E3 K G ρ σ H fa)(h:A4 G H fa B .fresh):A4 G H fa B .locl:=⟨A4.cC E h,λa b=>E.stb.dom a (h.2 a b),h.1⟩
theorem A4.weak(E:E3 K G ρ σ H fa)(h:A4 G H fa B f)(a:kK f g=true):A4 G H fa B g:=by
 cases f<;>cases g<;>first | trivial | exact h | (cases a;done) | exact h.1 | exact A4.cC E h | exact A4.mn E h
theorem A4.nil(f:Fl):A4 G H fa [] f:=by
 cases f with
 | any=>trivial
 | stab=>intro i _ a b;cases b
 | locl=>exact⟨λi _ a b=>(by cases b),λa b=>(by cases b),uy⟩
 | fresh=>exact⟨uy,λa b=>(by cases b)⟩
theorem A4.sub(h:A4 G H fa B f)(s:C.Sublist B):A4 G H fa C f:=by
 cases f with
 | any=>trivial
 | stab=>exactλi o a b=>h i o a (s.mem b)
 | locl=>exact⟨λi o a b=>h.1 i o a (s.mem b),λa b=>h.2.1 a (s.mem b),h.2.2.sublist s⟩
 | fresh=>exact⟨h.1.sublist s,λa b=>h.2 a (s.mem b)⟩
end
abbrev TU:=Ev->(D->Prop)->Prop
structure PU(X:Cx)(cl:List Cl)(e:Expr)(f:Fl)(u:TU):Prop where
 of ::
 run:∃t,PE X e t/\∀(G:Ent) (ρ:Ev) (σ:St) (H:Hp) (fa:AAC) (Q:D->Prop) (R:VK),G.cl=cl->E3 X.K G ρ σ H fa->u ρ Q ->
  (∀v H' d B,e6 H H'->Rep X.K H' v d B->A4 G H fa B f->Q d->R v H')->t σ H R
abbrev TM:=Ev->(D->Ev->Prop)->Prop
structure R3(K:AAD)(G:Ent)(H:Hp)(fa:AAC)(H':Hp)(fa':AAC):Prop where
 frm:∀a o,H a=some o->(∀i,G.own i->a∉fa i)->H' a=some o
 stb:Y3 H H'
 new:∀i,G.own i->∀a∈fa' i,a∈fa i\/H a=none
 bor:∀i,¬G.own i->fa' i=fa i
section
variable{K:AAD}{G:Ent}{ρ ρ':Ev}{σ:St}{H H' H2:Hp}{fa fa' fa2:AAC}
theorem R3.refl:R3 K G H fa H fa:=⟨λ_ _ h _=>h,Y3.refl H,λ_ _ _ h=>.inl h,λ_ _=>rfl⟩
theorem R3.same(s:e6 H H'):R3 K G H fa H' fa:=⟨λ_ _ h _=>s _ _ h,Y3.of s,λ_ _ _ h=>.inl h,λ_ _=>rfl⟩
theorem R3.trans(a:R3 K G H fa H' fa')(b:R3 K G H' fa' H2 fa2):R3 K G H fa H2 fa2:=
  ⟨λx o h n=>b.frm x o (a.frm x o h n) λi c z=>(a.new i c x z).elim (n i c) (λe=>by rw[h] at e;cases e),a.stb.trans b.stb,
   λi c x d=>(b.new i c x d).elim (a.new i c x) (λe=>.inr (a.stb.dom x e)),λi c=>(b.bor i c).trans (a.bor i c)⟩
theorem R3.keep(c:R3 K G H fa H' fa')(r:Rep K H v d B)(n:∀i,G.own i->∀a∈B,a∉fa i):Rep K H' v d B:=
 r.mono c.stb λa b=>by
  obtain⟨o,e⟩:=fw.some (r.fu a b);rw[e];exact c.frm a o e λi g=>n i g a b
theorem R3.apart(c:R3 K G H fa H' fa'){B:ZS}(t:∀a∈B,H a≠none)(n:∀i,G.own i->∀a∈B,a∉fa i):∀i,G.own i->∀a∈B,a∉fa' i:=λi b a d z=>
 (c.new i b a z).elim (n i b a d) (t a d)
theorem E3.step(E:E3 K G ρ σ H fa)(c:R3 K G H fa H' fa')(y:ρ'.length=ρ.length)(u:∀i,¬G.own i->ρ'[i]?=ρ[i]?)
  (x:∀i d,G.own i->ρ'[i]?=some (some d)->∃v,σ[i]?=some (some v)/\Rep K H' v d (fa' i)) (B:∀i,G.own i->(∀d,ρ'[i]?≠some (some d))->fa' i=[])
  (nd:∀i,G.own i->(fa' i).Nodup) (dj:∀i j,i≠j->G.own i->G.own j->∀a∈fa' i,a∉fa' j):E3 K G ρ' σ H' fa' where
 rep:=λi d e=>by
  by_cases b:G.own i
  ·exact x i d b e
  ·rw[u i b] at e;obtain⟨v,C,r⟩:=E.rep i d e;refine⟨v,C,?_⟩;rw[c.bor i b];exact c.keep r λj l a g z=>E.dj j i (λq=>b (q▸l)) l a z g
 emp:=λi e=>by
  by_cases b:G.own i
  ·exact B i b e
  ·rw[c.bor i b];exact E.emp i λd z=>e d (by rwa[u i b])
 len:=y.trans E.len
 nd:=λi h=>by
  by_cases b:G.own i
  ·exact nd i b
  ·rw[c.bor i b];exact E.nd i h
 dj:=λi j n b a g=>by
  by_cases l:G.own j
  ·exact dj i j n b l a g
  ·rw[c.bor j l];intro z;rcases c.new i b a g with q | q
   ·exact E.dj i j n b a q z
   ·exact E.there j z q
 par:=E.par
 old:=λi h b a g=>(c.new i b a g).elim (E.old i h b a) λq=>.inr (E.stb.dom a q)
 new:=λi h a g=>by
  by_cases b:G.own i
  ·exact(c.new i b a g).elim (E.new i h a) λq=>E.stb.dom a q
  ·rw[c.bor i b] at g;exact E.new i h a g
 frm:=λa o h n=>c.frm a o (E.frm a o h n) λi b z=>by
  by_cases p:i<G.vs.length
  ·rcases E.old i p b a z with q | q
   ·exact n i p b q
   ·rw[h] at q;cases q
  ·have q:=E.new i (.inr ⟨b,p⟩) a z;rw[h] at q;cases q
 stb:=E.stb.trans c.stb
 zk:=λa z=>by
  obtain⟨o,e⟩:=Option.ne_none_iff_exists'.mp (E.zn a z);have h:=E.zk a z;rw[e] at h ⊢;exact c.frm a o h λi b q=>E.zo i b a q z
 zn:=E.zn
 zo:=λi b a g z=>by
  rcases c.new i b a g with q | q
  ·exact E.zo i b a q z
  ·have h:=E.zk a z;rw[q] at h;exact E.zn a z h.symm
 po:=E.po
end
structure PM(X:Cx)(cl:List Cl)(e:Expr)(u:TM):Prop where
 of ::
 run:∃t,PE X e t/\∀(G:Ent) (ρ:Ev) (σ:St) (H:Hp) (fa:AAC) (Q:D->Ev->Prop) (R:VK),G.cl=cl->E3 X.K G ρ σ H fa->u ρ Q ->
  (∀v H' d B ρ' fa',E3 X.K G ρ' σ H' fa'->R3 X.K G H fa H' fa'->Rep X.K H' v d B->B.Nodup->(∀a∈B,H a=none/\∀i,a∉fa' i)->Q d ρ'->R v H')->t σ H R
structure R6 where
 nx:Ev->Prop
 rt:D->Ev->Prop
 bk:Ev->Prop:=λ_=>False
 ct:Ev->Prop:=λ_=>False
abbrev g4:=R6->Ev->Prop
def EY(K:AAD)(G:Ent)(N:Ev->Prop):St->Hp->Prop:=λb H=>∃a c,E3 K G a b H c/\N a
def VY(K:AAD)(G:Ent)(N:D->Ev->Prop):VK:=λv H=>∃d b e c B,E3 K G b e H c/\Rep K H v d B/\B.Nodup/\(∀a∈B,G.H₀ a=none)/\(∀i,i<G.vs.length->G.own i->∀a∈B,a∉c i)/\N d b
noncomputable def low(K:AAD)(G:Ent)(T:R6):Ends:={ nx:=EY K G T.nx,rt:=VY K G T.rt,bk:=EY K G T.bk,ct:=EY K G T.ct }
structure US(A B:Ends):Prop where
 nx:∀σ H,A.nx σ H->B.nx σ H
 rt:∀v H,A.rt v H->B.rt v H
 bk:∀σ H,A.bk σ H->B.bk σ H
 ct:∀σ H,A.ct σ H->B.ct σ H
theorem US.refl(A:Ends):US A A:=⟨λ_ _ h=>h,λ_ _ h=>h,λ_ _ h=>h,λ_ _ h=>h⟩
structure P0(X:Cx)(cl:List Cl)(e:Expr)(u:Ev->(Bool->Prop)->Prop):Prop where
 of ::
 run:∃t,PT X e t/\∀(G:Ent) (ρ:Ev) (σ:St) (H:Hp) (fa:AAC) (Q:Bool->Prop) (R:Bool->Hp->Prop),G.cl=cl->E3 X.K G ρ σ H fa->u ρ Q ->
  (∀b H',e6 H H'->Q b->R b H')->t σ H R
structure K3(X:Cx)(cl:List Cl)(st:Stmt)(s:g4):Prop where
 of ::
 run:∃t,PS X st t/\∀(G:Ent) (T:R6) (ρ:Ev) (σ:St) (H:Hp) (fa:AAC) (R:Ends),G.cl=cl->E3 X.K G ρ σ H fa->s T ρ->US (low X.K G T) R->t R σ H
structure qx(X:Cx)(cl:List Cl)(st:AAA)(s:g4):Prop where
 of ::
 run:∃t,qI X st t/\∀(G:Ent) (T:R6) (ρ:Ev) (σ:St) (H:Hp) (fa:AAC) (R:Ends),G.cl=cl->E3 X.K G ρ σ H fa->s T ρ->US (low X.K G T) R->t R σ H
section
variable{X:Cx}{cl:List Cl}{e a b c:Expr}{f:Fl}{pos:Pos}
def uC(d:D):TU:=λ_ Q=>Q d
def a6(i:Nat):TU:=λg Q=>match g[i]? with
 | some (some d)=>Q d
 | _=>False
noncomputable def Rx:Option Cl->Fl
 | some .bor=>.stab
 | some .loc=>.locl
 | _=>.any
theorem E3.Ap(E:E3 K G l σ H d){i:Nat}(h:¬G.own i):∀j,G.own j->∀a∈d i,a∉d j:=λj g a o z=>
 E.dj j i (λe=>h (e▸g)) g a z o
theorem E3.var(E:E3 K G g σ H d)(i:Nat):A4 G H d (d i) (Rx G.cl[i]?):=by
 cases e:G.cl[i]? with
 | none=>trivial
 | some k=>
  cases k with
  | own=>trivial
  | mk _=>trivial
  | bor=>exact E.Ap (λz=>by unfold Ent.own at z;rw[e] at z;cases z)
  | loc=>exact⟨E.Ap (λz=>by unfold Ent.own at z;rw[e] at z;cases z),E.new i (.inl e),E.nd i (.inr e)⟩
theorem Pt(i:Nat)(h:PE X (.Name x pos) (cw i))(l:Rx cl[i]?=f):PU X cl (.Name x pos) f (a6 i):=.of<|by
 refine⟨_,h,λG j y H q Q R p E g k=>?_⟩;unfold a6 at g
 cases e:j[i]? with
 | none=>rw[e] at g;cases g
 | some o=>
  cases o with
  | none=>rw[e] at g;cases g
  | some d=>
   rw[e] at g;obtain⟨v,u,r⟩:=E.rep i d e;refine⟨v,u,k v H d (q i) (e6.refl H) r ?_ g⟩;rw[<-l,<-p];exact E.var i
theorem a7:PU X cl (.Constant (.int i) j pos) .fresh (uC (.int i)):=.of ⟨_,Qs,λG h g H l Q R _ E d k=>k _ H _ _ (e6.refl H) .int (A4.nil _) d⟩
theorem Ak:PU X cl (.Constant (.bool i) j pos) .fresh (uC (.bl i)):=.of ⟨_,Tn,λG h g H l Q R _ E d k=>k _ H _ _ (e6.refl H) .bl (A4.nil _) d⟩
theorem u6:PU X cl (.Constant .none j pos) .fresh (uC .o6):=.of ⟨_,OB,λG h g H i Q R _ E d k=>k _ H _ _ (e6.refl H) .o6 (A4.nil _) d⟩
theorem M6:PU X cl (.Constant (.str x) j pos) .fresh (uC (.str x)):=.of ⟨_,Qa,λG h g H i Q R _ E d k=>k _ H _ _ (e6.refl H) .str (A4.nil _) d⟩
theorem PU.weak(h:PU X cl e f u)(p:kK f g=true):PU X cl e g u:=.of<|by
 obtain⟨t,o,h⟩:=h.run;exact⟨t,o,λG j i H z Q R x E l k=>h G j i H z Q R x E l λv C d B s r y q=>k v C d B s r (y.weak E p) q⟩
def p9(u:TU):TU:=λg Q=>u g λd=>u3 d=true/\Q d
theorem PU.u3(h:PU X cl e f u):PU X cl e .fresh (p9 u):=.of<|by
 obtain⟨t,l,h⟩:=h.run;refine⟨t,l,λG i g H p Q R o E j k=>h G i g H p _ R o E j λv x d B s r y q=>k v x d B s r ?_ q.2⟩;rw[r.E9 q.1];exact A4.nil _
section
variable{K:AAD}{G:Ent}{H H':Hp}{fa:AAC}{B:ZS}{f:Fl}
theorem A4.back(s:e6 H H')(h:A4 G H' fa B f):A4 G H fa B f:=by
 cases f with
 | any=>trivial
 | stab=>exact h
 | locl=>exact h
 | fresh=>exact⟨h.1,λa d=>s.free (h.2 a d)⟩
end
theorem u2(q:PU X cl a O C)(p:PU X cl b M z):∃j i,PE X a j/\PE X b i/\∀(G:Ent) (g:Ev) (σ:St) (H:Hp) (h:AAC) (Q:D->D->Prop) (R:V->V->Hp->Prop),G.cl=cl->E3 X.K G g σ H h->(C g λx=>z g λy=>Q x y) ->
  (∀v w l d e A B,e6 H l->Rep X.K l v d A->Rep X.K l w e B->A4 G H h A O->A4 G H h B M->Q d e->R v w l)->j σ H λx u=>i σ u λy r=>R x y r:=by
 obtain⟨j,pa,q⟩:=q.run;obtain⟨i,pb,p⟩:=p.run;exact⟨j,i,pa,pb,λG g σ H h Q R J E hu k=>q G g σ H h _ _ J E hu λv u d A o T f1 Y=>p G g σ u h _ _ J (E.same o) Y λw r e B I S f2 U=>k v w r d e A B (o.trans I) (T.same I) S f1 (f2.back o) U⟩
def cy(X:Cx)(r:R2)(g:D->D->(D->Prop)->Prop):Prop:=∀(H:Hp) (v w:V) (d e:D) (A B:ZS) (Q:D->Prop) (R:VK),Rep X.K H v d A->Rep X.K H w e B->g d e Q ->
 (∀x h y C,e6 H h->Rep X.K h x y C->C.Nodup->(∀a∈C,H a=none)->Q y->R x h)->r v w H R
def o5(g:D->D->(D->Prop)->Prop)(i h:TU):TU:=λd Q=>i d λx=>h d λy=>g x y Q
theorem Th(o:cy X r g)(ht:t=RH r)(l:PU X cl a fa u)(hb:PU X cl b fb p)(mk:∀{j i},PE X a j->PE X b i->PE X e (t j i)):PU X cl e .fresh (o5 g u p):=.of<|by
 obtain⟨j,i,Y,U,h⟩:=u2 l hb;subst ht;exact⟨_,mk Y U,λG I z H fo Q R hG E hu k=>h G I z H fo _ _ hG E hu λv w H' d e A B s S O _ _ q=>o H' v w d e A B Q R S O q λx H2 y C J M n1 n2 T=>k x H2 y C (s.trans J) M ⟨n1,λa l=>s.free (n2 a l)⟩ T⟩
theorem jv(p:P6 X (binaryOp i) r)(o:cy X r g)(u:PU X cl a x h)(q:PU X cl b v d):PU X cl (.BinOp a i b pos) .fresh (o5 g h d):=
 Th o rfl u q λl j=>Nb p l j
theorem kB(p:P6 X (compareOp d) r)(o:cy X r g)(v:PU X cl a y i)(u:PU X cl b x h)(q:behindInMarks d b=false):PU X cl (.Compare a [d] [b] pos) .fresh (o5 g i h):=
 Th o rfl v u λl j=>Ar p l j q
def gI(C:Int->Int->Prop)(g:Int->Int->D):D->D->(D->Prop)->Prop
 | .int i,.int j,Q=>C i j/\Q (g i j)
 | _,_,_=>False
def AR(g:Int->Int->D):D->D->(D->Prop)->Prop
 | .int i,.int j,Q=>Q (g i j)
 | _,_,_=>False
theorem w6(h:Rep K H v (.int i) A):v=.int i:=by cases h;rfl
theorem D3(h:Rep K H v (.str i) A):v=.str i:=by cases h;rfl
theorem aa(h:Rep K H v (.bl i) A):v=.bl i:=by cases h;rfl
theorem eG(h:Rep K H v .o6 A):v=.o6:=by cases h;rfl
theorem rl{g:Int->Int->Int}:cy X (rI C λi j=>.int (g i j)) (gI C λi j=>.int (g i j)):=by
 intro H v w d e A B Q R o l q k;cases d<;>cases e<;>first | exact q.elim | skip
 cases w6 o;cases w6 l;exact⟨_,_,rfl,rfl,q.1,k _ H _ _ (e6.refl H) .int uy (λ_ h=>(by cases h)) q.2⟩
theorem Gn{g:Int->Int->Int}:cy X (Dq λi j=>.int (g i j)) (AR λi j=>.int (g i j)):=by
 intro H v w d e A B Q R o l q k;cases d<;>cases e<;>first | exact q.elim | skip
 cases w6 o;cases w6 l;exact⟨_,_,rfl,rfl,k _ H _ _ (e6.refl H) .int uy (λ_ h=>(by cases h)) q⟩
theorem jt{g:Int->Int->Bool}:cy X (Dq λi j=>.bl (g i j)) (AR λi j=>.bl (g i j)):=by
 intro H v w d e A B Q R o l q k;cases d<;>cases e<;>first | exact q.elim | skip
 cases w6 o;cases w6 l;exact⟨_,_,rfl,rfl,k _ H _ _ (e6.refl H) .bl uy (λ_ h=>(by cases h)) q⟩
section
variable{ua ub:TU}{fa fb:Fl}
theorem D8(g:PU X cl a fa ua)(d:PU X cl b fb ub):PU X cl (.BinOp a .Sub b pos) .fresh (o5 (AR λi j=>.int (i-j)) ua ub):=jv Qj Gn g d
theorem ir(g:PU X cl a fa ua)(d:PU X cl b fb ub):PU X cl (.BinOp a .FloorDiv b pos) .fresh (o5 (gI V8 λi j=>.int (i/j)) ua ub):=jv IE rl g d
theorem W5(g:PU X cl a fa ua)(d:PU X cl b fb ub):PU X cl (.BinOp a .Mod b pos) .fresh (o5 (gI (λ_ j=>0<j) λi j=>.int (i%j)) ua ub):=jv Jg rl g d
theorem pV(g:PU X cl a fa ua)(d:PU X cl b fb ub):PU X cl (.BinOp a .Pow b pos) .fresh (o5 (gI bM λi j=>.int (i^j.toNat)) ua ub):=jv Qb rl g d
theorem Sr(h:PU X cl a fa ua)(g:PU X cl b fb ub)(d:behindInMarks .Lt b=false):PU X cl (.Compare a [.Lt] [b] pos) .fresh (o5 (AR λi j=>.bl (decide (i<j))) ua ub):=kB Of jt h g d
def Vg:D->D->(D->Prop)->Prop
 | .str i,.str j,Q=>i.length+j.length<=sizeLine/\Q (.str (i++j))
 | _,_,_=>False
theorem Tv:cy X (λx y H Q=>∃i j,x=.str i/\y=.str j/\i.length+j.length<=sizeLine/\Q (.str (i++j)) H) Vg:=by
 intro H v w d e A B Q R l g q k;cases d<;>cases e<;>first | exact q.elim | skip
 cases D3 l;cases D3 g;exact⟨_,_,rfl,rfl,q.1,k _ H _ _ (e6.refl H) .str uy (λ_ h=>(by cases h)) q.2⟩
noncomputable def aJ:D->Bool
 | .o6=>true
 | .bl _=>true
 | .int _=>true
 | .str _=>true
 | _=>false
noncomputable def toV:D->V
 | .o6=>.o6
 | .bl b=>.bl b
 | .int i=>.int i
 | .str x=>.str x
 | _=>.o6
theorem Y0(h:Rep K H v d A)(f:aJ d=true):v=toV d/\A=[]:=by
 cases h<;>first | exact⟨rfl,rfl⟩ | cases f
noncomputable def ng(d b:Bool):Bool:=match d with
 | true=>!b
 | false=>b
noncomputable def Vl:D->D->Option Bool
 | .int a,.int b=>some (decide (a=b))
 | .str a,.str b=>some (decide (a=b))
 | .bl a,.bl b=>some (decide (a=b))
 | .o6,.o6=>some true
 | .o6,.int _=>some false
 | .int _,.o6=>some false
 | .o6,.bl _=>some false
 | .bl _,.o6=>some false
 | .o6,.str _=>some false
 | .str _,.o6=>some false
 | .int _,.str _=>some false
 | .str _,.int _=>some false
 | .bl _,.str _=>some false
 | .str _,.bl _=>some false
 | _,_=>none
theorem Gz{d e:D}{b:Bool}(h:Vl d e=some b):aJ d=true/\aJ e=true/\OI (toV d) (toV e)=true/\decide (toV d=toV e)=b:=by
 cases d<;>cases e
 all_goals cases h
 all_goals refine⟨rfl,rfl,rfl,?_⟩
 all_goals first | rfl | (simp[toV])
def RS(g:Bool):D->D->(D->Prop)->Prop:=λd e Q=>match Vl d e with
 | some b=>Q (.bl (ng g b))
 | none=>False
theorem EG{d e:D}(h:RS g d e Q):∃b,Vl d e=some b/\Q (.bl (ng g b)):=by
 unfold RS at h;split at h
 ·exact⟨_,by assumption,h⟩
 ·exact h.elim
theorem Rc:cy X Wm (RS false):=by
 intro H v w d e A B Q R i g q k;obtain⟨b,r,q⟩:=EG q;obtain⟨p,o,l,j⟩:=Gz r;obtain⟨rfl,rfl⟩:=Y0 i p;obtain⟨rfl,rfl⟩:=Y0 g o;refine⟨l,?_⟩;rw[j];exact k _ H _ _ (e6.refl H) .bl uy (λ_ h=>(by cases h)) q
theorem Vd:cy X Wx (RS true):=by
 intro H v w d e A B Q R i g q k;obtain⟨b,r,q⟩:=EG q;obtain⟨p,o,l,j⟩:=Gz r;obtain⟨rfl,rfl⟩:=Y0 i p;obtain⟨rfl,rfl⟩:=Y0 g o;refine⟨l,?_⟩;rw[j];exact k _ H _ _ (e6.refl H) .bl uy (λ_ h=>(by cases h)) q
noncomputable def Af:D->Bool
 | .o6=>true
 | _=>false
def Wj(g:Bool):D->D->(D->Prop)->Prop
 | d,.o6,Q=>Q (.bl (ng g (Af d)))
 | _,_,_=>False
theorem zf(h:Rep K H v d A):decide (v=.o6)=Af d:=by
 cases h<;>first | rfl | simp[]
theorem VR:cy X (λx y H Q=>y=.o6/\Q (.bl (decide (x=.o6))) H) (Wj false):=by
 intro H v w d e A B Q R i g q k;cases e<;>first | exact q.elim | skip
 cases eG g;refine⟨rfl,?_⟩;rw[zf i];exact k _ H _ _ (e6.refl H) .bl uy (λ_ h=>(by cases h)) q
theorem RD:cy X (λx y H Q=>y=.o6/\Q (.bl (!decide (x=.o6))) H) (Wj true):=by
 intro H v w d e A B Q R i g q k;cases e<;>first | exact q.elim | skip
 cases eG g;refine⟨rfl,?_⟩;rw[zf i];exact k _ H _ _ (e6.refl H) .bl uy (λ_ h=>(by cases h)) q
noncomputable def rQ:D->Option (List D)
 | .lst d=>some d
 | .tup d=>some d
 | .fz d=>some d
 | _=>none
theorem eZ(h:Rep K H v d A)(e:rQ d=some xs):∃p vs B,v=.ref p/\(G4 K H p vs\/S6 K H p vs)/\i8 K H vs xs B/\B.Sublist A:=by
 cases h with
 | tup h r=>cases e;exact⟨_,_,_,rfl,.inr (S6.of h),r,XE _⟩
 | lst h r=>cases e;exact⟨_,_,_,rfl,.inl (G4.of h),r,Xb _ _⟩
 | frz h r=>cases e;exact⟨_,_,_,rfl,.inl h.sq,r,XE _⟩
 | _=>cases e
theorem tE(h:aJ d=true):bC (toV d)=true:=by cases d<;>first | rfl | cases h
theorem i8.flat(r:i8 K H vs ds A):ds.all aJ=true->vs=ds.map toV/\vs.all bC=true:=by
 refine r.ind (P:=λvs ds _=>ds.all aJ=true->vs=ds.map toV/\vs.all bC=true) (λ_=>⟨rfl,rfl⟩) λh _ i f=>?_;rw[Xt,v8] at f;obtain⟨j,_⟩:=Y0 h f.1;obtain⟨g,d⟩:=i f.2;subst j;refine⟨by rw[vc,<-g],?_⟩;rw[Xt,d,Bool.and_true];exact tE f.1
noncomputable def inD(x:D)(xs:List D):Bool:=xs.any λy=>Lv (toV y) (toV x)
def Wl(h:Bool):D->D->(D->Prop)->Prop:=λd e Q=>aJ d=true/\∃g,rQ e=some g/\g.all aJ=true/\Q (.bl (ng h (inD d g)))
theorem VM:cy X (Ux X.K g) (Wl g):=by
 intro H v w d e A B Q R o l q k;obtain⟨j,i,E,y,q⟩:=q;obtain⟨rfl,rfl⟩:=Y0 o j;obtain⟨p,vs,C,rfl,u,r,_⟩:=eZ l E;obtain⟨rfl,x⟩:=r.flat y;refine⟨p,_,rfl,u,tE j,x,k _ H _ _ (e6.refl H) .bl uy (λ_ h=>(by cases h)) ?_⟩;have z:UG (toV d) (i.map toV)=inD d i:=by unfold UG inD;rw[List.any_map];rfl
 rw[z];cases g
 ·exact q
 ·exact q
theorem i8.O7(r:i8 K H vs ds A)(h:L2.O7 ds i=some d):∃v B,L2.O7 vs i=some v/\Rep K H v d B/\B.Sublist A:=by
 unfold L2.O7 at h ⊢;rw[r.length]
 cases e:mO ds.length i with
 | none=>rw[e] at h;cases h
 | some j=>
  rw[e] at h;exact r.get h
def Wy:D->D->(D->Prop)->Prop
 | .str z,.int i,Q=>z.length<=sizeLine/\∃c,L2.O7 z.cps.toList i=some c/\Q (.str ⟨#[c]⟩)
 | .lst g,.int i,Q=>∃d,L2.O7 g i=some d/\Q d
 | .tup g,.int i,Q=>∃d,L2.O7 g i=some d/\Q d
 | .fz g,.int i,Q=>∃d,L2.O7 g i=some d/\Q d
 | _,_,_=>False
end
end
section
variable{X:Cx}{cl:List Cl}{e a b c:Expr}{es:ZV}{f:Fl}{pos:Pos}{ua ub uc:TU}{fa fb fc:Fl}
abbrev dH:=Ev->(List D->Prop)->Prop
structure Ul(X:Cx)(cl:List Cl)(es:ZV)(u:dH):Prop where
 of ::
 run:∃t,PA X es t/\∀(G:Ent) (ρ:Ev) (σ:St) (H:Hp) (fa:AAC) (Q:List D->Prop) (R:List V->Hp->Prop),G.cl=cl->E3 X.K G ρ σ H fa->u ρ Q ->
  (∀vs H' ds A,e6 H H'->i8 X.K H' vs ds A->A.Nodup->(∀a∈A,H a=none)->ds.length=es.length->Q ds->R vs H')->t σ H R
structure HH(X:Cx)(cl:List Cl)(es:ZV)(u:dH):Prop where
 of ::
 run:∃t,PA X es t/\∀(G:Ent) (ρ:Ev) (σ:St) (H:Hp) (fa:AAC) (Q:List D->Prop) (R:List V->Hp->Prop),G.cl=cl->E3 X.K G ρ σ H fa->u ρ Q ->
  (∀vs H' ds A,e6 H H'->i8 X.K H' vs ds A->ds.length=es.length->Q ds->R vs H')->t σ H R
def e9:dH:=λ_ Q=>Q []
def a9(ua:TU)(h:dH):dH:=λd Q=>ua d λx=>h d λg=>Q (x::g)
theorem o7:Ul X cl [] e9:=.of ⟨_,M4,λG i g H fa Q R _ E d k=>k [] H [] [] (e6.refl H) .nil uy (λ_ h=>(by cases h)) rfl d⟩
theorem c7:HH X cl [] e9:=.of ⟨_,M4,λG h g H fa Q R _ E d k=>k [] H [] [] (e6.refl H) .nil rfl d⟩
theorem Rep.there(r:Rep K H v d A)(g:x∈A):H x≠none:=λz=>by
 have:=r.fu x g;rwa[z] at this
theorem e7(ha:PU X cl e .fresh ua)(Y:Ul X cl es l)(U:isStar e=false):Ul X cl (e::es) (a9 ua l):=.of<|by
 obtain⟨t1,M,h1⟩:=ha.run;obtain⟨t2,J,h2⟩:=Y.run;refine⟨_,bp M J U,λG j i H fa Q R q E T k=>h1 G j i H fa _ _ q E T λv H1 d A g p r I=>h2 G j i H1 fa _ _ q (E.same g) I λvs H2 ds B o u n1 n2 O C=>k (v::vs) H2 (d::ds) (A++B) (g.trans o) (.cons (p.same o) u) ?_ (λx h=>?_) (by simp[O]) C⟩
 ·refine List.nodup_append.mpr ⟨r.1,n1,λx h y S e=>?_⟩;subst e;exact p.there h (n2 x S)
 ·rcases List.mem_append.mp h with z | z
  ·exact r.2 x z
  ·exact g.free (n2 x z)
theorem a8(M:PU X cl e f ua)(J:HH X cl es i)(I:isStar e=false):HH X cl (e::es) (a9 ua i):=.of<|by
 obtain⟨t1,y,S⟩:=M.run;obtain⟨t2,x,O⟩:=J.run;exact⟨_,bp y x I,λG h g H fa Q R o E C k=>S G h g H fa _ _ o E C λv Y d A l q f1 u=>O G h g Y fa _ _ o (E.same l) u λvs U T B j p z r=>k (v::vs) U (d::T) (A++B) (l.trans j) (.cons (q.same j) p) (by simp[z]) r⟩
def U9(h:dH):TU:=λd Q=>h d λg=>Q (.lst g)
def X0(h:dH):TU:=λd Q=>h d λg=>Q (.tup g)
theorem bN(h:n<=1000):n<=sizeLine:=SL (BU h)
theorem B4(h:Ul X cl es g)(v:Nat.ble es.length 1000=true):PU X cl (.List es pos) .fresh (U9 g):=.of<|by
 obtain⟨t,p,h⟩:=h.run;refine⟨_,Gm p,λG j i H fa Q R B E u k=>h G j i H fa _ _ B E u λvs I C A s r n1 n2 l q=>⟨by rw[r.length,l];exact bN (x0 v),λx d=>k _ _ (.lst C) (x::A) (s.trans (e6.g7 d)) (.lst c8 (r.same (e6.g7 d))) ⟨List.nodup_cons.mpr ⟨λz=>?_,n1⟩,λy o=>?_⟩ q⟩⟩
 ·have:=r.fu x z;rwa[d] at this
 ·rcases List.mem_cons.mp o with z | z
  ·rw[z];exact s.free d
  ·exact n2 y z
theorem E7(h:Ul X cl es d)(v:Nat.ble es.length 1000=true):PU X cl (.Tuple es l pos) .fresh (X0 d):=.of<|by
 obtain⟨t,p,h⟩:=h.run;exact⟨_,qj p,λG j i H fa Q R y E u k=>h G j i H fa _ _ y E u λvs B z A s r n1 n2 o q=>⟨by rw[r.length,o];exact bN (x0 v),λx g=>k _ _ (.tup z) A (s.trans (e6.g7 g)) (.tup c8 (r.same (e6.g7 g))) ⟨n1,n2⟩ q⟩⟩
def Call3(X:Cx)(r:List V->Hp->VK->Prop)(g:List D->(D->Prop)->Prop):Prop:=∀(H:Hp) (vs:List V) (h:List D) (A:ZS) (Q:D->Prop) (R:VK),i8 X.K H vs h A->g h Q ->
 (∀x d y C,e6 H d->Rep X.K d x y C->C.Nodup->(∀a∈C,H a=none)->Q y->R x d)->r vs H R
def W3(g:List D->(D->Prop)->Prop)(h:dH):TU:=λd Q=>h d λi=>g i Q
theorem WC(o:Call3 X r g)(h:HH X cl es d)(mk:∀{t},PA X es t->PE X e (UC r t)):PU X cl e .fresh (W3 g d):=.of<|by
 obtain⟨t,p,h⟩:=h.run;exact⟨_,mk p,λG j i H fa Q R I E z k=>h G j i H fa _ _ I E z λvs O J A s r S q=>o O vs J A Q R r q λx M y C l u n1 n2 v=>k x M y C (s.trans l) u ⟨n1,λa B=>s.free (n2 a B)⟩ v⟩
section
variable{id T:String}{r:List V->Hp->VK->Prop}{g:List D->(D->Prop)->Prop}{x:Str}{p:Pos}{us:dH}
theorem p3 (v:G0 X (.builtin id) r) (o:Call3 X r g) (q:Gl X x) (l:X.mg x=none) (i:bootBuiltins x=some (.builtin id)) (y:HH X cl (e::es) us) (j:x ≠ "__name__":=by decide) (hd:(x == ("__debug__" : Str))=false:=by decide)
  (u:starEach (e::es) X.env=(false,eval e X.env)::starEach es X.env:=by rfl) (d:(backTo pos (starEach es X.env)).any (·.1)=false:=by rfl):PU X cl (.Call (.Name x p) (e::es) [] pos) .fresh (W3 g us):=
 WC o y λh=>kf v q l i h j hd u d
theorem y4 (v:G0 X (.type T) r) (o:Call3 X r g) (q:Gl X x) (l:X.mg x=none) (i:bootBuiltins x=some (.type T)) (y:HH X cl (e::es) us) (j:x ≠ "__name__":=by decide) (hd:(x == ("__debug__" : Str))=false:=by decide)
  (u:starEach (e::es) X.env=(false,eval e X.env)::starEach es X.env:=by rfl) (d:(backTo pos (starEach es X.env)).any (·.1)=false:=by rfl):PU X cl (.Call (.Name x p) (e::es) [] pos) .fresh (W3 g us):=
 WC o y λh=>fW v q l i h j hd u d
end
theorem i8.one(r:i8 K H vs [d] A):∃v,vs=[v]/\Rep K H v d A:=by
 cases r with
 | cons h t=>cases t;exact⟨_,rfl,by rwa[vy]⟩
theorem i8.two{d e:D}(r:i8 K H vs [d,e] A):∃v w B C,vs=[v,w]/\Rep K H v d B/\Rep K H w e C/\A=B++C:=by
 cases r with
 | cons h t=>
  cases t with
  | cons i g=>cases g;exact⟨_,_,_,_,rfl,h,i,by rw[vy]⟩
theorem D1(h:Rep K H v (.lst xs) A):∃p vs B,v=.ref p/\H p=some (.lst vs)/\i8 K H vs xs B/\A=p::B:=by
 cases h with
 | lst h r=>exact⟨_,_,_,rfl,h,r,rfl⟩
theorem fB(h:Rep K H v (.fz xs) A):∃p vs,v=.ref p/\Oi K H p vs/\i8 K H vs xs A:=by
 cases h with
 | frz h r=>exact⟨_,_,rfl,h,r⟩
theorem N0(h:Rep K H v (.tup xs) A):∃p vs,v=.ref p/\H p=some (.tup vs)/\i8 K H vs xs A:=by
 cases h with
 | tup h r=>exact⟨_,_,rfl,h,r⟩
def cx:List D->(D->Prop)->Prop
 | [.lst d],Q=>Q (.int d.length)
 | [.tup d],Q=>Q (.int d.length)
 | [.fz d],Q=>Q (.int d.length)
 | [.str z],Q=>z.length<=sizeLine/\Q (.int z.length)
 | _,_=>False
theorem W0:Call3 X (λxs H Q=>∃x n,xs=[x]/\Ph X.K x H n/\Q (.int n) H) cx:=by
 intro H vs C A Q R r q k;have i:∀{n:Nat},Q (.int n)->R (.int n) H:=λq=>k _ H _ _ (e6.refl H) .int uy (λ_ h=>(by cases h)) q
 have sq:∀{d:D} {xs:List D},C=[d]->rQ d=some xs->Q (.int xs.length)->∃x n,vs=[x]/\Ph X.K x H n/\R (.int n) H:=λ{d xs} z y u=>by
  subst z;obtain⟨v,rfl,j⟩:=r.one;obtain⟨p,l,B,rfl,g,o,_⟩:=eZ j y;refine⟨_,l.length,rfl,?_,i (by rwa[o.length])⟩;rcases g with g | g
  ·exact .inl ⟨_,g,rfl⟩
  ·exact .inr ⟨_,g,rfl⟩
 unfold cx at q;split at q
 ·exact sq rfl rfl q
 ·exact sq rfl rfl q
 ·exact sq rfl rfl q
 ·obtain⟨v,rfl,j⟩:=r.one;cases D3 j;exact⟨_,_,rfl,⟨q.1,rfl⟩,i q.2⟩
 ·exact q.elim
def NY:List D->(D->Prop)->Prop:=λh Q=>∃d g,h=[d]/\rQ d=some g/\x3 g=true/\Q (.lst g)
theorem QV:Call3 X (λxs H Q=>∃p ys,xs=[.ref p]/\(G4 X.K H p ys\/S6 X.K H p ys)/\∀l,H l=none->Q (.ref l) (upd H l (.lst ys))) NY:=by
 intro H vs z A Q R r q k;obtain⟨d,xs,rfl,e,o,q⟩:=q;obtain⟨v,rfl,j⟩:=r.one;obtain⟨p,i,B,rfl,u,h,_⟩:=eZ j e;have y:=h.E9 o;subst y;refine⟨p,i,rfl,u,λl g=>k _ _ (.lst xs) [l] (e6.g7 g) (.lst c8 (h.same (e6.g7 g))) (by simp) (λa x=>?_) q⟩;have:=by simpa using x
 rwa[this]
def cY:List D->(D->Prop)->Prop:=λh Q=>∃d g,h=[d]/\rQ d=some g/\x3 g=true/\Q (.tup g)
theorem cb:Call3 X (λxs H Q=>∃p ys,xs=[.ref p]/\((G4 X.K H p ys/\∀l,H l=none->Q (.ref l) (upd H l (.tup ys)))\/(S6 X.K H p ys/\Q (.ref p) H))) cY:=by
 intro H vs z A Q R r q k;obtain⟨d,xs,rfl,e,y,q⟩:=q;obtain⟨v,rfl,x⟩:=r.one
 cases d with
 | lst ys=>
  cases e;obtain⟨p,u,B,rfl,h,g,_⟩:=D1 x;have o:=g.E9 y;subst o;exact⟨p,u,rfl,.inl ⟨G4.of h,λl i=>k _ _ (.tup xs) [] (e6.g7 i) (.tup c8 (g.same (e6.g7 i))) uy (λa j=>(by cases j)) q⟩⟩
 | fz ys=>
  cases e;obtain⟨p,u,rfl,h,g⟩:=fB x;have o:=g.E9 y;subst o;exact⟨p,u,rfl,.inl ⟨h.sq,λl i=>k _ _ (.tup xs) [] (e6.g7 i) (.tup c8 (g.same (e6.g7 i))) uy (λa j=>(by cases j)) q⟩⟩
 | tup ys=>
  cases e;obtain⟨p,u,rfl,h,g⟩:=N0 x;have o:=g.E9 y;subst o;exact⟨_,_,rfl,.inr ⟨S6.of h,k _ H (.tup xs) [] (e6.refl H) x uy (λa j=>(by cases j)) q⟩⟩
 | _=>cases e
def SM:List D->(D->Prop)->Prop
 | [.int i],Q=>Q (.int i)
 | [.bl k],Q=>Q (.int (if k then 1 else 0))
 | _,_=>False
theorem Nn:Call3 X (λxs H Q=>(∃i,xs=[.int i]/\Q (.int i) H)\/∃k,xs=[.bl k]/\Q (.int (if k then 1 else 0)) H) SM:=by
 intro H vs g A Q R r q k;unfold SM at q;split at q
 ·obtain⟨v,rfl,d⟩:=r.one;cases w6 d;exact .inl ⟨_,rfl,k _ H _ _ (e6.refl H) .int uy (λ_ h=>(by cases h)) q⟩
 ·obtain⟨v,rfl,d⟩:=r.one;cases aa d;exact .inr ⟨_,rfl,k _ H _ _ (e6.refl H) .int uy (λ_ h=>(by cases h)) q⟩
 ·exact q.elim
def QR(g:Int->Int->Int):List D->(D->Prop)->Prop
 | [.int i,.int j],Q=>Q (.int (g i j))
 | _,_=>False
theorem FF:Call3 X (λxs H Q=>∃i j,xs=[.int i,.int j]/\Q (.int (g i j)) H) (QR g):=by
 intro H vs o A Q R r q k;unfold QR at q;split at q
 ·obtain⟨v,w,B,C,rfl,l,d,_⟩:=r.two;cases w6 l;cases w6 d;exact⟨_,_,rfl,k _ H _ _ (e6.refl H) .int uy (λ_ h=>(by cases h)) q⟩
 ·exact q.elim
end
structure Br(b:Bool)(P Q:Prop):Prop where
 t:b=true->P
 f:b=false->Q
theorem Br.yes(h:b=true)(p:P):Br b P Q:=⟨λ_=>p,λe=>by rw[h] at e;cases e⟩
theorem Br.no(h:b=false)(p:Q):Br b P Q:=⟨λe=>(by rw[h] at e;cases e),λ_=>p⟩
abbrev aS:=Ev->(Bool->Prop)->Prop
section
variable{X:Cx}{cl:List Cl}{e a b c:Expr}{es:ZV}{f:Fl}{pos:Pos}{ua ub uc:TU}{fa fb fc:Fl}
def uT(u:TU):aS:=λg Q=>u g λd=>match d with
 | .bl k=>Q k
 | _=>False
theorem X4(T:P6 X (compareOp i) r)(o:cy X r g)(ha:PU X cl a fa ua)(Y:PU X cl b fb ub)(U:behindInMarks i b=false):P0 X cl (.Compare a [i] [b] pos) (uT (o5 g ua ub)):=.of<|by
 obtain⟨ta,tb,O,M,h⟩:=u2 ha Y;refine⟨_,zy T O M U,λG p l H fo Q R hG E S k=>h G p l H fo (λd e=>g d e λd=>match d with | .bl k=>Q k | _=>False) _ hG E S λv w H' d e A B s J I _ _ q=>o H' v w d e A B _ _ J I q λx H2 y C u z n1 n2 j=>?_⟩;cases y<;>first | exact(j).elim | skip
 cases aa z;exact⟨_,rfl,k _ H2 (s.trans u) j⟩
theorem Aj(h:PU X cl a fa ua)(g:PU X cl b fb ub)(d:behindInMarks .Lt b=false):P0 X cl (.Compare a [.Lt] [b] pos) (uT (o5 (AR λi j=>.bl (decide (i<j))) ua ub)):=X4 Of jt h g d
theorem tX(h:PU X cl a fa ua)(g:PU X cl b fb ub)(d:behindInMarks .Gt b=false):P0 X cl (.Compare a [.Gt] [b] pos) (uT (o5 (AR λi j=>.bl (decide (j<i))) ua ub)):=X4 DU jt h g d
theorem HA(h:PU X cl a fa ua)(g:PU X cl b fb ub)(d:behindInMarks .GtE b=false):P0 X cl (.Compare a [.GtE] [b] pos) (uT (o5 (AR λi j=>.bl (decide (j<=i))) ua ub)):=X4 TN jt h g d
def wo(u:TU):aS:=λj Q=>u j λd=>match d with
 | .o6=>Q false
 | .bl k=>Q k
 | .int i=>Q (i != 0)
 | .str y=>y.length<=sizeLine/\Q ((y.length:Int) != 0)
 | .lst g=>Q (!g.isEmpty)
 | .tup g=>Q (!g.isEmpty)
 | .fz g=>Q (!g.isEmpty)
 | .dic h=>Q (!h.isEmpty)
 | _=>False
theorem x6.empty(r:x6 K H kvs d A):kvs.isEmpty=d.isEmpty:=by cases r<;>rfl
theorem i8.empty(r:i8 K H kvs d A):kvs.isEmpty=d.isEmpty:=by cases r<;>rfl
theorem Y5(h:PU X cl e f ua)(I:∀g,isTrue e X.env g=(do let v <-g;standAt e.pos;holding [v] (truthy v))):P0 X cl e (wo ua):=.of<|by
 obtain⟨t,p,h⟩:=h.run;refine⟨_,Gf p I,λG y x H M Q R J E C k=>h G y x H M _ _ J E C λv j d B s r _ q=>?_⟩
 cases d with
 | o6=>cases eG r;exact⟨_,rfl,k _ j s q⟩
 | bl i=>cases aa r;exact⟨_,rfl,k _ j s q⟩
 | int i=>cases w6 r;exact⟨_,rfl,k _ j s q⟩
 | str i=>cases D3 r;exact⟨_,⟨q.1,rfl⟩,k _ j s q.2⟩
 | lst u=>
  obtain⟨p,vs,B,rfl,o,l,_⟩:=D1 r;exact⟨_,.inl ⟨vs,G4.of o,rfl⟩,by rw[l.empty];exact k _ j s q⟩
 | tup u=>
  obtain⟨p,vs,rfl,o,l⟩:=N0 r;exact⟨_,.inr (.inl ⟨vs,S6.of o,rfl⟩),by rw[l.empty];exact k _ j s q⟩
 | fz u=>
  obtain⟨p,vs,rfl,o,l⟩:=fB r;exact⟨_,.inl ⟨vs,o.sq,rfl⟩,by rw[l.empty];exact k _ j s q⟩
 | dic z=>
  cases r with
  | dic o l=>exact⟨_,.inr (.inr ⟨_,.inr ⟨_,o⟩,rfl⟩),by rw[l.empty];exact k _ j s q⟩
 | _=>exact(q).elim
structure ji(X:Cx)(cl:List Cl)(e:Expr)(u:aS):Prop where
 of ::
 run:∃t,PW X e t/\∀(G:Ent) (ρ:Ev) (σ:St) (H:Hp) (fa:AAC) (Q:Bool->Prop) (R:Bool->Hp->Prop),G.cl=cl->E3 X.K G ρ σ H fa->u ρ Q ->
  (∀b H',e6 H H'->Q b->R b H')->t σ H R
theorem ji.pt(h:ji X cl e u):P0 X cl e u:=.of<|let ⟨t,p,h⟩:=h.run;⟨t,PW.pt p,h⟩
def Gv(c:aS):aS:=λd Q=>c d λk=>Q (!k)
def fT(c d:aS):aS:=λg Q=>c g λk=>Br k (d g Q) (Q false)
def RP(c d:aS):aS:=λg Q=>c g λk=>Br k (Q true) (d g Q)
variable{tc td:aS}{rest:ZV}
theorem oK(h:P0 X cl a tc):P0 X cl (.UnaryOp .Not a pos) (Gv tc):=.of<|by
 obtain⟨t,p,h⟩:=h.run;exact⟨_,OE p,λG g d H l Q R j E i k=>h G g d H l _ _ j E i λb o s q=>k _ o s q⟩
theorem P4(h:P0 X cl a tc):ji X cl (.BoolOp .And [a] pos) tc:=.of<|let ⟨t,p,h⟩:=h.run;⟨t,Ka p,h⟩
theorem jk(h:P0 X cl a tc):ji X cl (.BoolOp .Or [a] pos) tc:=.of<|let ⟨t,p,h⟩:=h.run;⟨t,QC p,h⟩
theorem R0(h:P0 X cl a tc)(d:ji X cl (.BoolOp .And (b::rest) pos) td):ji X cl (.BoolOp .And (a::b::rest) pos) (fT tc td):=.of<|by
 obtain⟨t,p,h⟩:=h.run;obtain⟨z,v,d⟩:=d.run;refine⟨_,Pk p v,λG i g H l Q R j E x k=>h G i g H l _ _ j E x λb o s q=>?_⟩
 cases b with
 | true=>
  exact d G i g o l Q R j (E.same s) (q.t rfl) λb y r u=>k b y (s.trans r) u
 | false=>exact k _ o s (q.f rfl)
theorem sD(h:P0 X cl a tc)(d:ji X cl (.BoolOp .Or (b::rest) pos) td):ji X cl (.BoolOp .Or (a::b::rest) pos) (RP tc td):=.of<|by
 obtain⟨t,p,h⟩:=h.run;obtain⟨z,v,d⟩:=d.run;refine⟨_,Uy p v,λG i g H l Q R j E x k=>h G i g H l _ _ j E x λb o s q=>?_⟩
 cases b with
 | true=>exact k _ o s (q.t rfl)
 | false=>
  exact d G i g o l Q R j (E.same s) (q.f rfl) λb y r u=>k b y (s.trans r) u
def LN(ua ub:TU):TU:=λd Q=>ua d λx=>match x with
 | .bl k=>Br k (ub d Q) (Q (.bl false))
 | _=>False
def Vm(ua ub:TU):TU:=λd Q=>ua d λx=>match x with
 | .bl k=>Br k (Q (.bl true)) (ub d Q)
 | _=>False
theorem iL(h:PU X cl a f ua):PU X cl (.BoolOp d [a] pos) f ua:=.of<|let ⟨t,p,h⟩:=h.run;⟨t,RB p,h⟩
theorem yi(h:PU X cl a fa ua)(i:PU X cl (.BoolOp .And (b::rest) pos) fb ub):PU X cl (.BoolOp .And (a::b::rest) pos) fb (LN ua ub):=.of<|by
 obtain⟨t,p,h⟩:=h.run;obtain⟨O,C,i⟩:=i.run;refine⟨_,Oy p C,λG g j H o Q R l E I k=>h G g j H o _ _ l E I λv u d B s r _ q=>?_⟩;cases d<;>first | exact(q).elim | skip
 rename_i b
 cases aa r;refine⟨_,rfl,?_⟩;cases b with
 | true=>
  exact i G g j u o Q R l (E.same s) (q.t rfl) λv M d B x y J z=>k v M d B (s.trans x) y (J.back s) z
 | false=>exact k _ u _ [] s .bl (A4.nil _) (q.f rfl)
theorem Nc(h:PU X cl a fa ua)(i:PU X cl (.BoolOp .Or (b::rest) pos) fb ub):PU X cl (.BoolOp .Or (a::b::rest) pos) fb (Vm ua ub):=.of<|by
 obtain⟨t,p,h⟩:=h.run;obtain⟨O,C,i⟩:=i.run;refine⟨_,Uv p C,λG g j H o Q R l E I k=>h G g j H o _ _ l E I λv u d B s r _ q=>?_⟩;cases d<;>first | exact(q).elim | skip
 rename_i b
 cases aa r;refine⟨_,rfl,?_⟩;cases b with
 | true=>exact k _ u _ [] s .bl (A4.nil _) (q.t rfl)
 | false=>
  exact i G g j u o Q R l (E.same s) (q.f rfl) λv M d B x y J z=>k v M d B (s.trans x) y (J.back s) z
def Ws(c:aS)(ua ub:TU):TU:=λd Q=>c d λk=>Br k (ua d Q) (ub d Q)
theorem TB(o:P0 X cl c tc)(O:PU X cl a f ua)(M:PU X cl b f ub):PU X cl (.IfExp c a b pos) f (Ws tc ua ub):=.of<|by
 obtain⟨t,p,o⟩:=o.run;obtain⟨Y,I,T⟩:=O.run;obtain⟨U,C,S⟩:=M.run;refine⟨_,DH p I C,λG h g H u Q R r E J k=>o G h g H u _ _ r E J λb z s q=>?_⟩
 cases b with
 | true=>exact T G h g z u Q R r (E.same s) (q.t rfl) λv y d B i j x l=>k v y d B (s.trans i) j (x.back s) l
 | false=>exact S G h g z u Q R r (E.same s) (q.f rfl) λv y d B i j x l=>k v y d B (s.trans i) j (x.back s) l
end
structure PN(X:Cx)(cl:List Cl)(e:Expr)(u:TM):Prop where
 of ::
 run:∃t,PE X e t/\∀(G:Ent) (ρ:Ev) (σ:St) (H:Hp) (fa:AAC) (Q:D->Ev->Prop) (R:VK),G.cl=cl->E3 X.K G ρ σ H fa->u ρ Q ->
  (∀v H' d B ρ' fa',E3 X.K G ρ' σ H' fa'->R3 X.K G H fa H' fa'->Rep X.K H' v d B->(∀i,G.own i->∀a∈B,a∉fa' i)->Q d ρ'->R v H')->t σ H R
section
variable{X:Cx}{cl:List Cl}{e a b c:Expr}{es:ZV}{f:Fl}{pos:Pos}{ua ub uc:TU}{fa fb fc:Fl}{ma mb:TM}
def mP(u:TU):TM:=λg Q=>u g λd=>Q d g
theorem PU.m(h:PU X cl e .fresh ua):PM X cl e (mP ua):=.of<|by
 obtain⟨t,p,h⟩:=h.run;exact⟨t,p,λG g o H l Q R y E u k=>h G g o H l _ _ y E u λv C d B s r f q=>k v C d B g l (E.same s) (R3.same s) r f.1 (λx j=>⟨f.2 x j,λi z=>E.there i z (f.2 x j)⟩) q⟩
theorem PU.n(h:PU X cl e f ua)(o:kK f .stab=true):PN X cl e (mP ua):=.of<|by
 obtain⟨t,p,h⟩:=h.run;exact⟨t,p,λG g j H i Q R u E l k=>h G g j H i _ _ u E l λv x d B s r f q=>k v x d B g i (E.same s) (R3.same s) r (f.weak E o) q⟩
theorem PM.n(h:PM X cl e ma):PN X cl e ma:=.of<|by
 obtain⟨t,p,h⟩:=h.run;exact⟨t,p,λG o l H z Q R y E u k=>h G o l H z _ _ y E u λv C d B g j I c r n1 n2 q=>k v C d B g j I c r (λi _ a x=>(n2 a x).2 i) q⟩
def xI(u:TM):TM:=λh Q=>u h λd g=>u3 d=true/\Q d g
theorem PN.u3(h:PN X cl e ma):PM X cl e (xI ma):=.of<|by
 obtain⟨t,p,h⟩:=h.run;refine⟨t,p,λG l j H y Q R x E o k=>h G l j H y _ _ x E o λv z d B g i C c r n q=>?_⟩;have e:=r.E9 q.1;subst e;exact k v z d [] g i C c r uy (λa u=>(by cases u)) q.2
theorem m2(C:PN X cl a ma)(z:PN X cl b mb):∃r q,PE X a r/\PE X b q/\∀(G:Ent) (p:Ev) (σ:St) (H:Hp) (u:AAC) (Q:D->D->Ev->Prop) (R:V->V->Hp->Prop),G.cl=cl->E3 X.K G p σ H u->(ma p λx j=>mb j λy h=>Q x y h) ->
  (∀v w o d e A B l g,E3 X.K G l σ o g->R3 X.K G H u o g->Rep X.K o v d A->Rep X.K o w e B->(∀i,G.own i->∀a∈A,a∉g i)->(∀i,G.own i->∀a∈B,a∉g i)->Q d e l->R v w o)->r σ H λx O=>q σ O λy M=>R x y M:=by
 obtain⟨r,pa,C⟩:=C.run;obtain⟨q,pb,z⟩:=z.run;exact⟨r,q,pa,pb,λG p σ H u Q R T E hu k=>C G p σ H u _ _ T E hu λv O d A j J E1 c1 S n1 q1=>z G j σ O J _ _ T E1 q1 λw M e B h I E2 c2 U n2 Y=>k v w M d e A B h I E2 (c1.trans c2) (c2.keep S n1) U (c2.apart (λx hx=>S.there hx) n1) n2 Y⟩
def bL(g:D->D->(D->Prop)->Prop)(ma mb:TM):TM:=λj Q=>ma j λx i=>mb i λy h=>g x y λd=>Q d h
theorem Sf(o:cy X r g)(j:PN X cl a ma)(hb:PN X cl b mb)(mk:∀{u p},PE X a u->PE X b p->PE X e (RH r u p)):PM X cl e (bL g ma mb):=.of<|by
 obtain⟨u,p,pa,pb,h⟩:=m2 j hb;exact⟨_,mk pa pb,λG S O H fo Q R hG E hu k=>h G S O H fo _ _ hG E hu λv w H' d e A B l I M c Y U _ _ q=>o H' v w d e A B _ R Y U q λx H2 y C J T n1 n2 q2=>k x H2 y C l I (M.same J) (c.trans (R3.same J)) T n1 (λa j=>⟨c.stb.dom a (n2 a j),λi z=>M.there i z (n2 a j)⟩) q2⟩
theorem DR(j:P6 X (binaryOp d) r)(o:cy X r g)(p:PN X cl a ma)(l:PN X cl b mb):PM X cl (.BinOp a d b pos) (bL g ma mb):=Sf o p l λi h=>Nb j i h
theorem OW(j:P6 X (compareOp d) r)(o:cy X r g)(q:PN X cl a ma)(p:PN X cl b mb)(l:behindInMarks d b=false):PM X cl (.Compare a [d] [b] pos) (bL g ma mb):=Sf o q p λi h=>Ar j i h l
theorem Rp(g:PN X cl a ma)(d:PN X cl b mb):PM X cl (.BinOp a .Mod b pos) (bL (gI (λ_ j=>0<j) λi j=>.int (i%j)) ma mb):=DR Jg rl g d
theorem Og(h:PN X cl a ma)(g:PN X cl b mb)(d:behindInMarks .Gt b=false):PM X cl (.Compare a [.Gt] [b] pos) (bL (AR λi j=>.bl (decide (j<i))) ma mb):=OW DU jt h g d
theorem Om{d e:D}(y:Rep X.K H v d A)(u:Rep X.K H w e B)(q:Wy d e Q)(k:∀x z C,Rep X.K H x z C->C.Sublist A->Q z->R x H):UM X.K v w H R:=by
 have go:∀{l:List D} {i:Int} {z:D},rQ d=some l->e=.int i->L2.O7 l i=some z->Q z->UM X.K v w H R:=λ{l i z} U T S E=>by
  subst T;cases w6 u;obtain⟨p,vs,C,rfl,j,r,o⟩:=eZ y U;obtain⟨x,M,J,I,G⟩:=r.O7 S;rcases j with j | j
  ·exact .inl ⟨p,vs,i,x,rfl,rfl,j,J,k x z M I (G.trans o) E⟩
  ·exact .inr (.inl ⟨p,vs,i,x,rfl,rfl,j,J,k x z M I (G.trans o) E⟩)
 cases d<;>cases e<;>first | exact(q).elim | skip
 ·obtain⟨O,c,h,g⟩:=q;cases D3 y;cases w6 u;exact .inr (.inr ⟨_,_,c,rfl,rfl,O,h,k _ _ [] .str (Zr _) g⟩)
 ·obtain⟨z,h,g⟩:=q;exact go rfl rfl h g
 ·obtain⟨z,h,g⟩:=q;exact go rfl rfl h g
 ·obtain⟨z,h,g⟩:=q;exact go rfl rfl h g
theorem p5(h:a6 i g Q):∃d,g[i]?=some (some d)/\Q d:=by
 unfold a6 at h;split at h
 ·exact⟨_,by assumption,h⟩
 ·exact h.elim
abbrev vH:=Ev->(Bool->Ev->Prop)->Prop
structure RL(X:Cx)(cl:List Cl)(e:Expr)(u:vH):Prop where
 of ::
 run:∃t,PT X e t/\∀(G:Ent) (ρ:Ev) (σ:St) (H:Hp) (fa:AAC) (Q:Bool->Ev->Prop) (R:Bool->Hp->Prop),G.cl=cl->E3 X.K G ρ σ H fa->u ρ Q ->
  (∀b H' ρ' fa',E3 X.K G ρ' σ H' fa'->R3 X.K G H fa H' fa'->Q b ρ'->R b H')->t σ H R
def tP(u:aS):vH:=λd Q=>u d λb=>Q b d
variable{tc td:aS}{mc md:vH}{rest:ZV}
theorem P0.m(h:P0 X cl e tc):RL X cl e (tP tc):=.of<|by
 obtain⟨t,p,h⟩:=h.run;exact⟨t,p,λG d i H g Q R l E j k=>h G d i H g _ _ l E j λb o s q=>k b o d g (E.same s) (R3.same s) q⟩
def mT(u:TM):vH:=λh Q=>u h λd g=>match d with
 | .bl k=>Q k g
 | _=>False
theorem GA(Y:P6 X (compareOp j) r)(o:cy X r g)(ha:PN X cl a ma)(hb:PN X cl b mb)(hm:behindInMarks j b=false):RL X cl (.Compare a [j] [b] pos) (mT (bL g ma mb)):=.of<|by
 obtain⟨ta,tb,T,S,h⟩:=m2 ha hb;refine⟨_,zy Y T S hm,λG I z H fo Q R hG E U k=>h G I z H fo (λd e i=>g d e λd=>match d with | .bl k=>Q k i | _=>False) _ hG E U λv w H' d e A B i l E' c O M _ _ q=>o H' v w d e A B _ _ O M q λx H2 y C p J n1 n2 u=>?_⟩;cases y<;>first | exact(u).elim | skip
 cases aa J;exact⟨_,rfl,k _ H2 i l (E'.same p) (c.trans (R3.same p)) u⟩
theorem Oe(h:PN X cl a ma)(g:PN X cl b mb)(d:behindInMarks .Gt b=false):RL X cl (.Compare a [.Gt] [b] pos) (mT (bL (AR λi j=>.bl (decide (j<i))) ma mb)):=GA DU jt h g d
inductive zO(K:AAD)(H:Hp)(N:Addr->Prop):List V->List D->List (ZS)->Prop
 | nil:zO K H N [] [] []
 | cons {v:V} {d:D} {B:ZS} {vs:List V} {ds:List D} {Bs:List (ZS)}:Rep K H v d B->(∀a∈B,¬N a)->zO K H N vs ds Bs->zO K H N (v::vs) (d::ds) (B::Bs)
def Su(G:Ent)(fa:AAC):Addr->Prop:=λa=>∃i,G.own i/\a∈fa i
abbrev oN:=Ev->(List D->Ev->Prop)->Prop
structure Kb(X:Cx)(cl:List Cl)(es:ZV)(u:oN):Prop where
 of ::
 run:∃t,PA X es t/\∀(G:Ent) (ρ:Ev) (σ:St) (H:Hp) (fa:AAC) (Q:List D->Ev->Prop) (R:List V->Hp->Prop),G.cl=cl->E3 X.K G ρ σ H fa->u ρ Q ->
  (∀vs H' ds Bs ρ' fa',E3 X.K G ρ' σ H' fa'->R3 X.K G H fa H' fa'->zO X.K H' (Su G fa') vs ds Bs->ds.length=es.length->Q ds ρ'->R vs H')->t σ H R
def y8:oN:=λd Q=>Q [] d
def l3(ma:TM)(j:oN):oN:=λh Q=>ma h λx g=>j g λi d=>Q (x::i) d
theorem o4:Kb X cl [] y8:=.of ⟨_,M4,λG d h H fa Q R _ E g k=>k [] H [] [] d fa E R3.refl .nil rfl g⟩
theorem i9(j:PN X cl e ma)(Y:Kb X cl es r)(U:isStar e=false):Kb X cl (e::es) (l3 ma r):=.of<|by
 obtain⟨t1,M,h1⟩:=j.run;obtain⟨t2,J,h2⟩:=Y.run;exact⟨_,bp M J U,λG y p H fa Q R u E T k=>h1 G y p H fa _ _ u E T λv H1 d A h o E1 c1 q n1 I=>h2 G h p H1 o _ _ u E1 I λvs H2 ds Bs g l E2 c2 B O C=>k (v::vs) H2 (d::ds) (A::Bs) g l E2 (c1.trans c2) (.cons (c2.keep q n1) (λa j ⟨i,hi,z⟩=>c2.apart (λx S=>q.there S) n1 i hi a j z) B) (by simp[O]) C⟩
structure RK(X:Cx)(cl:List Cl)(es:ZV)(u:oN):Prop where
 of ::
 run:∃t,PA X es t/\∀(G:Ent) (ρ:Ev) (σ:St) (H:Hp) (fa:AAC) (Q:List D->Ev->Prop) (R:List V->Hp->Prop),G.cl=cl->E3 X.K G ρ σ H fa->u ρ Q ->
  (∀vs H' ds B ρ' fa',E3 X.K G ρ' σ H' fa'->R3 X.K G H fa H' fa'->i8 X.K H' vs ds B->B.Nodup->(∀a∈B,H a=none/\∀i,a∉fa' i)->ds.length=es.length->Q ds ρ'->R vs H')->t σ H R
theorem cR:RK X cl [] y8:=.of ⟨_,M4,λG d i H fa Q R _ E g k=>k [] H [] [] d fa E R3.refl .nil uy (λa h=>(by cases h)) rfl g⟩
theorem B9(o:PM X cl e ma)(hr:RK X cl es u)(hs:isStar e=false):RK X cl (e::es) (l3 ma u):=.of<|by
 obtain⟨t1,U,h1⟩:=o.run;obtain⟨t2,T,h2⟩:=hr.run;refine⟨_,bp U T hs,λG J r H fa Q R I E hu k=>h1 G J r H fa _ _ I E hu λv H1 d A h q E1 c1 j n1 n2 S=>h2 G h r H1 q _ _ I E1 S λvs H2 ds B g p E2 c2 M m1 m2 Y O=>k (v::vs) H2 (d::ds) (A++B) g p E2 (c1.trans c2) (.cons (c2.keep j λi _ a o=>(n2 a o).2 i) M) ?_ (λx l=>?_) (by simp[Y]) O⟩
 ·refine List.nodup_append.mpr ⟨n1,m1,λx l y hy e=>?_⟩;subst e;exact j.there l (m2 x hy).1
 ·rcases List.mem_append.mp l with z | z
  ·refine⟨(n2 x z).1,λi y=>?_⟩
   by_cases C:G.own i
   ·rcases c2.new i C x y with w | w
    ·exact(n2 x z).2 i w
    ·exact j.there z w
   ·rw[c2.bor i C] at y;exact(n2 x z).2 i y
  ·exact⟨c1.stb.dom x (m2 x z).1,(m2 x z).2⟩
def JG(i:oN):TM:=λg Q=>i g λh d=>Q (.lst h) d
def KC(i:oN):TM:=λg Q=>i g λh d=>Q (.tup h) d
theorem wJ(h:RK X cl es l)(J:Nat.ble es.length 1000=true):PM X cl (.List es pos) (JG l):=.of<|by
 obtain⟨t,p,h⟩:=h.run;refine⟨_,Gm p,λG v u H fa Q R M E I k=>h G v u H fa _ _ M E I λvs S O A g j o c r n1 n2 B q=>⟨by rw[r.length,B];exact bN (x0 J),λx d=>k _ _ (.lst O) (x::A) g j (o.same (e6.g7 d)) (c.trans (R3.same (e6.g7 d))) (.lst c8 (r.same (e6.g7 d))) (List.nodup_cons.mpr ⟨λz=>?_,n1⟩) (λy C=>?_) q⟩⟩
 ·have:=r.fu x z;rwa[d] at this
 ·rcases List.mem_cons.mp C with z | z
  ·rw[z];exact⟨c.stb.dom x d,λi z=>o.there i z d⟩
  ·exact n2 y z
theorem vO(h:RK X cl es j)(z:Nat.ble es.length 1000=true):PM X cl (.Tuple es u pos) (KC j):=.of<|by
 obtain⟨t,p,h⟩:=h.run;exact⟨_,qj p,λG o l H fa Q R B E y k=>h G o l H fa _ _ B E y λvs J C A d i I c r n1 n2 v q=>⟨by rw[r.length,v];exact bN (x0 z),λx g=>k _ _ (.tup C) A d i (I.same (e6.g7 g)) (c.trans (R3.same (e6.g7 g))) (.tup c8 (r.same (e6.g7 g))) n1 n2 q⟩⟩
def SJ(g:List D->(D->Prop)->Prop)(j:oN):TM:=λi Q=>j i λl h=>g l λd=>Q d h
theorem zO.Pc:∀{vs:List V} {ds:List D} {d:List (ZS)},zO K H N vs ds d->∃A,i8 K H vs ds A
 | _,_,_,.nil=>⟨_,.nil⟩
 | _,_,_,.cons h _ r=>let ⟨A,q⟩:=r.Pc;⟨_,.cons h q⟩
theorem Wg(o:Call3 X r g)(h:Kb X cl es u)(mk:∀{t},PA X es t->PE X e (UC r t)):PM X cl e (SJ g u):=.of<|by
 obtain⟨t,p,h⟩:=h.run;refine⟨_,mk p,λG J I H fa Q R T E S k=>h G J I H fa _ _ T E S λvs H1 U Bs d j B c r n3 q=>?_⟩;obtain⟨A,r⟩:=r.Pc;exact o H1 vs U A _ R r q λx Y y C l M n1 n2 O=>k x Y y C d j (B.same l) (c.trans (R3.same l)) M n1 (λa v=>⟨c.stb.dom a (n2 a v),λi z=>B.there i z (n2 a v)⟩) O
section
variable{id T:String}{r:List V->Hp->VK->Prop}{g:List D->(D->Prop)->Prop}{x:Str}{p:Pos}{ms:oN}
theorem GN (v:G0 X (.builtin id) r) (o:Call3 X r g) (q:Gl X x) (l:X.mg x=none) (i:bootBuiltins x=some (.builtin id)) (y:Kb X cl (e::es) ms) (j:x ≠ "__name__":=by decide) (hd:(x == ("__debug__" : Str))=false:=by decide)
  (u:starEach (e::es) X.env=(false,eval e X.env)::starEach es X.env:=by rfl) (d:(backTo pos (starEach es X.env)).any (·.1)=false:=by rfl):PM X cl (.Call (.Name x p) (e::es) [] pos) (SJ g ms):=
 Wg o y λh=>kf v q l i h j hd u d
theorem Dk (v:G0 X (.type T) r) (o:Call3 X r g) (q:Gl X x) (l:X.mg x=none) (i:bootBuiltins x=some (.type T)) (y:Kb X cl (e::es) ms) (j:x ≠ "__name__":=by decide) (hd:(x == ("__debug__" : Str))=false:=by decide)
  (u:starEach (e::es) X.env=(false,eval e X.env)::starEach es X.env:=by rfl) (d:(backTo pos (starEach es X.env)).any (·.1)=false:=by rfl):PM X cl (.Call (.Name x p) (e::es) [] pos) (SJ g ms):=
 Wg o y λh=>fW v q l i h j hd u d
end
end
end L3
namespace L3
open PySem PySem.Spec L2 PyProof.Rows
abbrev Cp:=List D->(D->Prop)->Prop
abbrev Cm:=List D->(D->D->Prop)->Prop
def N5(K:AAD)(c:Cp):Sp:=λvs H Q _=>∃d A e,i8 K H vs d A/\c d e/\∀r v b B,e r->e6 H b->Rep K b v r B->B.Nodup->(∀a∈B,H a=none)->Q v b
def Jv(K:AAD)(c:Cm):Sp:=λvs H Q _=>∃w b d h A j i,vs=w::b/\Rep K H w d A/\A.Nodup/\zO K H (λa=>a∈A) b h j/\c (d::h) i/\∀r l v e g B,i r l->Rep K e w l g->g.Nodup->(∀a∈g,a∈A\/H a=none) ->
 (∀a o,H a=some o->a∉A->e a=some o)->Y3 H e->Rep K e v r B->B.Nodup->(∀a∈B,H a=none/\a∉g)->Q v e
structure NN(P:Program)(w:World)(K:AAD)(mg:ZZ)(base:Heap)(x:Str)(k:Nat)(ps:ZT)(sp:Sp)(f:Addr)(fd:FuncData):Prop where
 ok:p7 P w K mg base J7 k f fd ps sp
 mgf:mg x=some (.ref f)
 kp:PySem.W.keepIn K (.ref f)=true
 bd:Binds K fd ps []
section
variable{X:Cx}{cl:List Cl}{e a b:Expr}{es:ZV}{f:Fl}{pos:Pos}{ua:TU}{ma mb:TM}{us:dH}{ms:oN}{k:Nat}{fn:Addr}{fd:FuncData}{ps:ZT}{x:Str}{p:Pos}
def i5(c:Cp)(us:dH):TU:=λd Q=>us d λg=>c g Q
theorem Lq  (C:NN X.prog X.w X.K X.mg X.base x k ps (N5 X.K c) fn fd) (M:K8 k X.A) (O:Gl X x) (j:HH X cl (e::es) us) (d:isStar e=false) (i:(x == ("__debug__" : Str))=false:=by decide)
  (g:(backTo pos (starEach es X.env)).any (·.1)=false:=by rfl):PU X cl (.Call (.Name x p) (e::es) [] pos) .fresh (i5 c us):=.of<|by
 obtain⟨t,pt,h⟩:=j.run;refine⟨_,iz C.ok M O C.mgf C.kp C.bd .nil Ax pt i (Y6 d) g,λG o l H T Q R S E J I=>h G o l H T _ _ S E J λvs H1 U A s r n3 q=>?_⟩;rw[vy];exact⟨U,A,Q,r,q,λr v Y B z u y n1 n2=>I v Y r B (s.trans u) y ⟨n1,λa j=>s.free (n2 a j)⟩ z⟩
def Nz(c:Cp)(ms:oN):TM:=λh Q=>ms h λi g=>c i λd=>Q d g
theorem DM  (C:NN X.prog X.w X.K X.mg X.base x k ps (N5 X.K c) fn fd) (hr:K8 k X.A) (hg:Gl X x) (d:Kb X cl (e::es) ms) (j:isStar e=false) (o:(x == ("__debug__" : Str))=false:=by decide)
  (l:(backTo pos (starEach es X.env)).any (·.1)=false:=by rfl):PM X cl (.Call (.Name x p) (e::es) [] pos) (Nz c ms):=.of<|by
 obtain⟨t,pt,h⟩:=d.run;refine⟨_,iz C.ok hr hg C.mgf C.kp C.bd .nil Ax pt o (Y6 j) l,λG O M H fa Q R hG E Y U=>h G O M H fa _ _ hG E Y λvs H1 ds Bs g u J I r n3 q=>?_⟩;obtain⟨A,r⟩:=r.Pc;rw[vy];exact⟨ds,A,_,r,q,λr v H2 B T y S n1 n2=>U v H2 r B g u (J.same y) (I.trans (R3.same y)) S n1 (λa d=>⟨I.stb.dom a (n2 a d),λi z=>J.there i z (n2 a d)⟩) T⟩
def w8(j:Nat)(c:Cm)(ms:oN):TM:=λh Q=>a6 j h λ_=>ms h λi g=>a6 j g λd=>c (d::i) λr l=>Q r (g.set j (some l))
theorem zO.imp{K:AAD}(h:∀a,c a->N a):∀{vs:List V} {ds:List D} {d:List (ZS)},zO K H N vs ds d->zO K H c vs ds d
 | _,_,_,.nil=>.nil
 | _,_,_,.cons r n t=>.cons r (λa g z=>n a g (h a z)) (t.imp h)
theorem KY  (j:Nat)   (hv:PE X (.Name y vp) (cw j)) (hj:cl[j]?=some .own) (C:NN X.prog X.w X.K X.mg X.base x k ps (Jv X.K c) fn fd) (hr:K8 k X.A) (hg:Gl X x) (g:Kb X cl es ms) (a1:(x == ("__debug__" : Str))=false:=by decide)
  (a0:(backTo pos (starEach es X.env)).any (·.1)=false:=by rfl):PM X cl (.Call (.Name x p) (.Name y vp::es) [] pos) (w8 j c ms):=.of<|by
 obtain⟨t,pt,h⟩:=g.run;refine⟨_,iz C.ok hr hg C.mgf C.kp C.bd .nil Ax (bp hv pt rfl) a1 (Y6 rfl) a0,λG ρ σ H fa Q R hG E hu kk=>?_⟩;obtain⟨d0,e0,hu⟩:=p5 hu;obtain⟨v,Y,_⟩:=E.rep j d0 e0;refine⟨v,Y,h G ρ σ H fa _ _ hG E hu λvs H1 ds Bs J S u c' r n3 q=>?_⟩;obtain⟨d,e1,q⟩:=p5 q;obtain⟨v',O,rp⟩:=u.rep j d e1;have ev:v'=v:=by rw[Y] at O;cases O;rfl
 subst ev;have own:G.own j:=by unfold Ent.own;rwa[hG]
 rw[vy];refine⟨v',vs,d,ds,S j,Bs,_,rfl,rp,u.nd j (.inl own),r.imp λa g=>⟨j,own,g⟩,q,λr l v H2 A' B qd r2 n1 n2 n3 n4 r3 n5 n6=>?_⟩
 have ch:R3 X.K G H1 S H2 (λi=>if i=j then A' else S i):=by
  refine⟨λa o h n=>n3 a o h (n j own),n4,λi I a g=>?_,λi I=>uk λe=>I (by rwa[e])⟩
  ·by_cases e:i=j
   ·subst e;rw[ux rfl] at g;exact n2 a g
   ·rw[uk e] at g;exact .inl g
 have lj:=(List.getElem?_eq_some_iff.mp e1).1;have M:∀i,i≠j->(J.set j (some l))[i]?=J[i]?:=λi n=>AC (Ps n);refine kk v H2 r B (J.set j (some l)) _ (u.step ch (by simp) (λi I=>M i λe=>I (by rwa[e])) (λi d' I e=>?_) (λi I e=>?_) (λi I=>?_) λi U n I a2 a g z=>?_) (c'.trans ch) r3 n5 (λa g=>⟨c'.stb.dom a (n6 a g).1,λi z=>?_⟩) qd
 ·by_cases q:i=j
  ·subst q;rw[xi lj] at e;cases e;exact⟨v',O,by rwa[ux rfl]⟩
  ·rw[M i q] at e;obtain⟨w,e2,r4⟩:=u.rep i d' e;refine⟨w,e2,?_⟩;rw[uk q];refine r4.mono n4 λa g=>?_;obtain⟨o,eo⟩:=fw.some (r4.fu a g);rw[eo];exact n3 a o eo λz=>u.dj i j q I a g z
 ·by_cases q:i=j
  ·subst q;exact absurd (xi lj) (e l)
  ·rw[uk q];exact u.emp i λd z=>e d (by rwa[M i q])
 ·by_cases q:i=j
  ·rwa[ux q]
  ·rw[uk q];exact u.nd i (.inl I)
 ·by_cases q:i=j
  ·rw[ux q] at g;have T:U≠j:=λe=>n (q.trans e.symm);rw[uk T] at z;rcases n2 a g with y | y
   ·exact u.dj j U (Ps T) own a y z
   ·exact u.there U z y
  ·rw[uk q] at g
   by_cases T:U=j
   ·rw[ux T] at z;rcases n2 a z with y | y
    ·exact u.dj i j q I a g y
    ·exact u.there i g y
   ·rw[uk T] at z;exact u.dj i U n I a g z
 ·by_cases q:i=j
  ·rw[ux q] at z;exact(n6 a g).2 z
  ·rw[uk q] at z;exact u.there i z (n6 a g).1
def IF(c:Cm)(ma:TM)(ms:oN):TM:=λi Q=>ma i λd g=>ms g λj h=>c (d::j) λr _=>Q r h
theorem i8.WJ{K:AAD}(r:i8 K H vs ds B):(∀a∈B,¬N a)->∃c,zO K H N vs ds c:=
 r.ind (P:=λvs ds B=>(∀a∈B,¬N a)->∃c,zO K H N vs ds c) (λ_=>⟨_,.nil⟩) λh _ i n=>let ⟨c,q⟩:=i λa d=>n a (tz _ d);⟨_,.cons h (λa d=>n a (v5 _ d)) q⟩
theorem E3.away{K:AAD}{A:ZS}(E:E3 K G j σ H c)(s:Y3 H g)(k:∀a o,H a=some o->a∉A->g a=some o)(n:∀i,∀a∈A,a∉c i)(B:∀a∈A,G.H₀ a=none)(z:∀a∈A,¬G.Z a):E3 K G j σ g c where
 rep:=λi d e=>by
  obtain⟨v,C,r⟩:=E.rep i d e;refine⟨v,C,r.mono s λa l=>?_⟩;obtain⟨o,u⟩:=fw.some (r.fu a l);rw[u];exact k a o u λq=>n i a q l
 emp:=E.emp
 len:=E.len
 nd:=E.nd
 dj:=E.dj
 par:=E.par
 old:=E.old
 new:=E.new
 frm:=λa o h q=>k a o (E.frm a o h q) λy=>by rw[B a y] at h;cases h
 stb:=E.stb.trans s
 zk:=λa y=>by
  obtain⟨o,e⟩:=Option.ne_none_iff_exists'.mp (E.zn a y);have h:=E.zk a y;rw[e] at h ⊢;exact k a o h λq=>z a q y
 zn:=E.zn
 zo:=E.zo
 po:=E.po
theorem Fz  (C:NN X.prog X.w X.K X.mg X.base x k ps (Jv X.K c) fn fd) (hr:K8 k X.A) (hg:Gl X x) (h0:PM X cl e ma) (g:RK X cl es ms) (I:isStar e=false) (a0:(x == ("__debug__" : Str))=false:=by decide)
  (Y:(backTo pos (starEach es X.env)).any (·.1)=false:=by rfl):PM X cl (.Call (.Name x p) (e::es) [] pos) (IF c ma ms):=.of<|by
 obtain⟨t0,p0,h0⟩:=h0.run;obtain⟨t,pt,h⟩:=g.run;refine⟨_,iz C.ok hr hg C.mgf C.kp C.bd .nil Ax (bp p0 pt I) a0 (Y6 I) Y,λG ρ σ H fa Q R hG E hu kk=>h0 G ρ σ H fa _ _ hG E hu λw H0 d A O a2 E0 c0 T m1 m2 q0=>h G O σ H0 a2 _ _ hG E0 q0 λvs H1 ds B1 S u E' M r k1 k2 U q=>?_⟩;show Jv X.K c ((w::vs)++[]) H1 R L2.E0;rw[vy]
 have j:∀i,∀a∈A,a∉u i:=λi a g z=>by
  by_cases hi:G.own i
  ·rcases M.new i hi a z with y | y
   ·exact(m2 a g).2 i y
   ·exact T.there g y
  ·rw[M.bor i hi] at z;exact(m2 a g).2 i z
 obtain⟨Bs,a1⟩:=r.WJ  λa g z=>T.there z (k2 a g).1;refine⟨w,vs,d,ds,A,Bs,_,rfl,M.keep T λi _ a g=>(m2 a g).2 i,m1,a1,q,λr l v H2 A' B qd r2 n1 n2 U n4 r3 n5 n6=>?_⟩;have J:=c0.trans M;have ch:R3 X.K G H fa H2 u:=⟨λa o h n=>U a o (J.frm a o h n) λz=>(by rw[(m2 a z).1] at h;cases h),J.stb.trans n4,J.new,J.bor⟩
 refine kk v H2 r B S u (E'.away n4 U j (λa g=>E.stb.dom a (m2 a g).1) λa g z=>?_) ch r3 n5 (λa g=>⟨J.stb.dom a (n6 a g).1,λi z=>E'.there i z (n6 a g).1⟩) qd;have h:=E.zk a z;rw[(m2 a g).1] at h;exact E.zn a z h.symm
end
noncomputable def i4(n:Nat)(ds:List D):Ev:=ds.map some++List.replicate (n-ds.length) none
theorem i8.each{K:AAD}:∀{vs:List V} {ds:List D} {A:ZS},i8 K H vs ds A->∃a:Nat->ZS,(∀i d,ds[i]?=some d->∃v,vs[i]?=some v/\Rep K H v d (a i))/\∀i,ds.length<=i->a i=[]
 | _,_,_,.nil=>⟨λ_=>[],λi d e=>(by simp at e),λ_ _=>rfl⟩
 | _,_,_,.cons (A:=A) h r=>by
  obtain⟨a,g,c⟩:=r.each;refine⟨λi=>match i with | 0=>A | i+1=>a i,λi d e=>?_,λi b=>?_⟩
  ·cases i with
   | zero=>simp at e;subst e;exact⟨_,rfl,h⟩
   | succ i=>
    obtain⟨v,l,j⟩:=g i d (by simpa using e);exact⟨v,by simpa using l,j⟩
  ·cases i with
   | zero=>simp at b
   | succ i=>exact c i (by simpa using b)
theorem zO.each{K:AAD}:∀{vs:List V} {ds:List D} {u:List (ZS)},zO K H N vs ds u->∃b:Nat->ZS,(∀i d,ds[i]?=some d->∃v,vs[i]?=some v/\Rep K H v d (b i))/\(∀i,ds.length<=i->b i=[])/\(∀i,∀a∈b i,¬N a)/\ds.length=vs.length
 | _,_,_,.nil=>⟨λ_=>[],λi d e=>(by simp at e),λ_ _=>rfl,λ_ _ h=>(by cases h),rfl⟩
 | _,_,_,.cons (B:=B) h n r=>by
  obtain⟨b,o,l,j,g⟩:=r.each;refine⟨λi=>match i with | 0=>B | i+1=>b i,λi d e=>?_,λi c=>?_,λi=>?_,by simp[g]⟩
  ·cases i with
   | zero=>simp at e;subst e;exact⟨_,rfl,h⟩
   | succ i=>
    obtain⟨v,q,p⟩:=o i d (by simpa using e);exact⟨v,by simpa using q,p⟩
  ·cases i with
   | zero=>simp at c
   | succ i=>exact l i (by simpa using c)
  ·cases i with
   | zero=>exact n
   | succ i=>exact j i
theorem kA{i:Nat}(h:(i4 n ds)[i]?=some (some d)):ds[i]?=some d:=by
 unfold i4 at h
 by_cases a:i<ds.length
 ·rw[wr (by simpa using a),ue] at h
  cases e:ds[i]? with
  | none=>rw[e] at h;cases h
  | some x=>rw[e] at h;cases h;rfl
 ·rw[Ix (by simpa using a),List.getElem?_replicate] at h;split at h<;>cases h
theorem cm{i:Nat}(h:vs[i]?=some v):(L2.start N vs)[i]?=some (some v):=by
 unfold L2.start;have a:=(List.getElem?_eq_some_iff.mp h).1;rw[wr (by simpa using a),ue,h];rfl
theorem jg(h:ds.length=vs.length):(i4 N.length ds).length=(L2.start N vs).length:=by
 unfold i4 L2.start;simp[h]
theorem gp{i:Nat}(h:ds[i]?=some d):(i4 n ds)[i]?=some (some d):=by
 unfold i4;have a:=(List.getElem?_eq_some_iff.mp h).1;rw[wr (by simpa using a),ue,h];rfl
section
variable{P:Program}{w:World}{K:AAD}{mg:ZZ}{base:Heap}
noncomputable def Ou:List Cl->Bool
 | []=>true
 | .mk _::_=>false
 | _::r=>Ou r
theorem tQ:∀{cl:List Cl} {j:Nat} {a:Hp},Ou cl=true->cl[j]?=some (.mk a)->False
 | [],j,_,_,e=>by cases j<;>cases e
 | c::r,0,a,h,e=>by
  cases e;cases h
 | c::r,j+1,a,h,e=>by
  cases c<;>first | cases h | exact tQ (cl:=r) h e
noncomputable def noOwn:List Cl->Nat->Bool
 | cl,0=>Ou cl
 | .bor::r,n+1=>noOwn r n
 | _,_=>false
theorem fC:∀{cl:List Cl} {n i:Nat},noOwn cl n=true->i<n->cl[i]?=some .bor
 | _,0,i,_,h=>by omega
 | .bor::r,n+1,0,h,_=>rfl
 | .bor::r,n+1,i+1,h,a=>by
  exact fC (cl:=r)   h (by omega)
 | [],n+1,i,h,_=>by cases h
 | .own::r,n+1,i,h,_=>by cases h
 | .loc::r,n+1,i,h,_=>by cases h
 | .mk _::r,n+1,i,h,_=>by cases h
theorem kM:∀{cl:List Cl} {n j:Nat} {a:Hp},noOwn cl n=true->cl[j]?=some (.mk a)->False
 | cl,0,j,_,h,e=>by
  rw[noOwn] at h;exact tQ h e
 | .bor::r,n+1,0,_,h,e=>by cases e
 | .bor::r,n+1,j+1,_,h,e=>kM   (show noOwn r n=true from h) (by rwa[] at e)
 | [],n+1,j,_,h,_=>by cases h
 | .own::r,n+1,j,_,h,_=>by cases h
 | .loc::r,n+1,j,_,h,_=>by cases h
 | .mk _::r,n+1,j,_,h,_=>by cases h
theorem R9{st:Stmt}(F:L6 K x l st f fd)(S:g9 N ps (c6 st))(Y:noOwn cl ps.length=true)
  (hl:∀ds Q,c ds Q->ds.length=ps.length)
  (hb:∀(y:Value) (A:Around) (outer:List Env) (s0:Shared) (H:Hp) (E:XK),K8 k (A.deeper (envOfC l (c6 st) s0.heap.objs.size f y))->qx (qW J7 P w K mg base N l (c6 st) f y A outer s0 H E).RM cl (P7 st) s)
  (hc:∀ds Q,c ds Q->s { nx:=λ_=>Q .o6,rt:=λd _=>Q d } (i4 N.length ds)):p7 P w K mg base J7 (k+1) f fd ps (N5 K c):=by
 refine F.ok S (λvs H Q E h=>?_) (λy A outer s0 H vs Q E hr h=>?_)
 ·obtain⟨ds,A,T,r,q,_⟩:=h;rw[r.length];exact hl ds T q
 ·obtain⟨ds,B,T,r,q,kk⟩:=h;have X:=hl ds T q;obtain⟨t,pt,h⟩:=(hb y A outer s0 H E hr).run;obtain⟨fa,h1,h2⟩:=r.each
  let G:Ent:=⟨H,λ_=>[],vs,cl,λ_=>False,H⟩
  have vl:=r.length.trans X;have bor:∀i,i<vs.length->cl[i]?=some .bor:=λi b=>fC Y (by omega)
  have g:∀i,i<vs.length->¬G.own i:=λi b z=>by
   have C:cl[i]?=some .own:=z;rw[bor i b] at C;cases C
  have a0:=λi b=>h2 i (by
   have q1:¬i<vs.length:=λq=>g i q b;omega)
  have E0:E3 K G (i4 N.length ds) (L2.start N vs) H fa:=by
   refine⟨λi d e=>?_,λi e=>h2 i ?_,jg r.length.symm,λi b=>?_,λi j _ b a u=>?_,λi b p=>absurd p (g i b),λi b p=>absurd p (g i b),λi b a u=>?_,λa o h _=>h,Y3.refl H,λa z=>z.elim,λa z=>z.elim,λi _ a _ z=>z,⟨λi b p=>absurd p (g i b),λj U e=>(kM Y e).elim⟩⟩
   ·obtain⟨v,e1,r1⟩:=h1 i d (kA e);exact⟨v,cm e1,r1⟩
   ·by_cases b:i<ds.length
    ·exact absurd (gp (nA b)) (e _)
    ·omega
   ·rw[h2 i (by
     by_cases q:i<ds.length
     ·rcases b with b | b
      ·exact absurd b (g i (by omega))
      ·have C:=b;rw[bor i (by omega)] at C;cases C
     ·omega)];exact uy
   ·rw[a0 i b] at u;cases u
   ·rcases b with b | b
    ·have:¬i<vs.length:=λq=>by
      have C:=b;rw[bor i q] at C;cases C
     rw[h2 i (by omega)] at u;cases u
    ·rw[a0 i b.1] at u;cases u
  refine⟨t,pt,h G { nx:=λ_=>T .o6,rt:=λd _=>T d } _ _ H fa _ rfl E0 (hc ds T q) ⟨λI U O=>?_,λv U O=>?_,λI U O=>?_,λI U O=>?_⟩⟩
  ·obtain⟨J,R,E',M⟩:=O;exact kk .o6 .o6 U [] M (λa o h=>E'.frm a o h λi b p=>absurd p (g i b)) .o6 uy λa u=>(by cases u)
  ·obtain⟨d,J,I,R,B',E',r',n1,n2,_,M⟩:=O;exact kk d v U B' M (λa o h=>E'.frm a o h λi b p=>absurd p (g i b)) r' n1 n2
  ·obtain⟨J,R,E',M⟩:=O;exact M
  ·obtain⟨J,R,E',M⟩:=O;exact M
theorem UL{st:Stmt}(F:L6 K x U st f fd)(S:g9 N ps (c6 st))(a1:noOwn cl (ps.length-1)=true)
  (hl:∀ds Q,c ds Q->ds.length=ps.length)
  (hb:∀(X:Value) (A:Around) (outer:List Env) (s0:Shared) (H:Hp) (E:XK),K8 k (A.deeper (envOfC U (c6 st) s0.heap.objs.size f X))->qx (qW J7 P w K mg base N U (c6 st) f X A outer s0 H E).RM (.own::cl) (P7 st) s)
  (hc:∀ds Q,c ds Q->s { nx:=λρ=>a6 0 ρ λl=>Q .o6 l,rt:=λd ρ=>a6 0 ρ λl=>Q d l } (i4 N.length ds)):p7 P w K mg base J7 (k+1) f fd ps (Jv K c):=by
 refine F.ok S (λvs H Q E h=>?_) (λX A outer s0 H vs Q E hr h=>?_)
 ·obtain⟨w,p,d,ds,A,Bs,Qd,rfl,r,n,ap,q,_⟩:=h;obtain⟨fa,h1,h2,h3,h4⟩:=ap.each;have:=hl _ Qd q;simp at this ⊢;omega
 ·obtain⟨w,p,d,ds,A0,Bs,Qd,rfl,r,n,ap,q,kk⟩:=h;obtain⟨fa,h1,h2,h3,h4⟩:=ap.each;have a0:=hl _ Qd q;have a5:=by simp at a0;omega
  obtain⟨t,pt,h⟩:=(hb X A outer s0 H E hr).run
  let fb:=λi=>match i with | 0=>A0 | i+1=>fa i
  let G:Ent:=⟨H,λi=>if i=0 then A0 else[],w::p,.own::cl,λ_=>False,H⟩
  have bor:∀i,i<p.length->cl[i]?=some .bor:=λi b=>fC a1 (by omega)
  have g:∀i,i<p.length->¬G.own (i+1):=λi b z=>by
   have Y:cl[i]?=some .own:=z;rw[bor i b] at Y;cases Y
  have J:G.own 0:=rfl
  have a3:∀i,G.own (i+1)->fa i=[]:=λi b=>h2 i (by
   have q1:¬i<p.length:=λq=>g i q b;omega)
  have E0:E3 K G (i4 N.length (d::ds)) (L2.start N (w::p)) H fb:=by
   refine⟨λi d' e=>?_,λi e=>?_,jg (by simp[h4]),λi b=>?_,λi j a4 b a I=>?_,λi b ho=>?_,λi b ho a I=>?_,λi b a I=>?_,λa o h _=>h,Y3.refl H,λa z=>z.elim,λa z=>z.elim,λi _ a _ z=>z,⟨λi b ho=>?_,λj R e=>?_⟩⟩
   ·have e':=kA e
    cases i with
    | zero=>simp at e';subst e';exact⟨w,cm (vs:=w::p) (i:=0) rfl,r⟩
    | succ i=>
     obtain⟨v,e1,r1⟩:=h1 i d' (by simpa using e');exact⟨v,cm (by simpa using e1),r1⟩
   ·cases i with
    | zero=>exact absurd (gp (ds:=d::ds) (i:=0) rfl) (e _)
    | succ i=>
     refine h2 i ?_
     by_cases b:i<ds.length
     ·exact absurd (gp (ds:=d::ds) (i:=i+1) (by rw[AT];exact nA b)) (e _)
     ·omega
   ·cases i with
    | zero=>exact n
    | succ i=>
     show(fa i).Nodup
     rw[h2 i (by
      by_cases q:i<ds.length
      ·rcases b with b | b
       ·exact absurd b (g i (by omega))
       ·have Y:cl[i]?=some .loc:=b;rw[bor i (by omega)] at Y;cases Y
      ·omega)];exact uy
   ·cases i with
    | zero=>
     cases j with
     | zero=>exact absurd rfl a4
     | succ j=>exactλz=>h3 j a z I
    | succ i=>
     have C:a∈fa i:=I;rw[a3 i b] at C;cases C
   ·cases i with
    | zero=>exact cm (vs:=w::p) (i:=0) rfl
    | succ i=>exact absurd ho (g i (by simpa[G] using b))
   ·cases i with
    | zero=>exact .inl I
    | succ i=>exact absurd ho (g i (by simpa[G] using b))
   ·cases i with
    | zero=>
     rcases b with b | b
     ·have z:some Cl.own=some .loc:=b;cases z
     ·exact absurd (YD _) b.2
    | succ i=>
     have C:a∈fa i:=I;rcases b with b | b
     ·have:¬i<p.length:=λq=>by
       have Y:cl[i]?=some .loc:=b;rw[bor i q] at Y;cases Y
      rw[h2 i (by omega)] at C;cases C
     ·rw[a3 i b.1] at C;cases C
   ·cases i with
    | zero=>rfl
    | succ i=>exact absurd ho (g i (by simpa[G] using b))
   ·cases j with
    | zero=>exact absurd (show some Cl.own=some (.mk R) from e) (by intro z;cases z)
    | succ j=>exact(kM a1 (show cl[j]?=some (.mk R) from e)).elim
  have a2:∀{y:Ev} {M:L2.St} {R:Hp} {u:AAC} {v:V} {r':D} {l:D} {B:ZS},E3 K G y M R u->y[0]?=some (some l)->Qd r' l->Rep K R v r' B->B.Nodup->(∀a∈B,H a=none)->(∀a∈B,a∉u 0)->Q v R:=λ{y M R u v r' l B} T e O rr n1 n2 n3=>by
   obtain⟨v',e1,r1⟩:=T.rep 0 l e;have e2:=T.par 0 (YD _) J;rw[e1] at e2
   have e3:v'=w:=by
    have e4:some (some v')=some (some w):=e2;cases e4;rfl
   subst e3;refine kk r' l v R (u 0) B O r1 (T.nd 0 (.inl J)) (λa I=>?_) (λa o h hn=>T.frm a o h λi b ho z=>?_) T.stb rr n1 λa I=>⟨n2 a I,n3 a I⟩
   ·exact T.old 0 (YD _) J a I
   ·cases i with
    | zero=>exact hn z
    | succ i=>exact absurd ho (g i (by simpa[G] using b))
  refine⟨t,pt,h G { nx:=λρ=>a6 0 ρ λl=>Qd .o6 l,rt:=λd ρ=>a6 0 ρ λl=>Qd d l } _ _ H fb _ rfl E0 (hc _ Qd q) ⟨λM R hq=>?_,λv R hq=>?_,λM R hq=>?_,λM R hq=>?_⟩⟩
  ·obtain⟨y,u,T,O⟩:=hq;obtain⟨l,e,O⟩:=p5 O;exact a2 T e O .o6 uy (λa I=>(by cases I)) λa I=>(by cases I)
  ·obtain⟨d,y,M,u,B',T,r',n1,n2,n3,O⟩:=hq;obtain⟨l,e,O⟩:=p5 O;exact a2 T e O r' n1 n2 (n3 0 (YD _) J)
  ·obtain⟨y,u,T,O⟩:=hq;exact O
  ·obtain⟨y,u,T,O⟩:=hq;exact O
end
end L3
namespace L3
open PySem PySem.Spec L2
section
variable{K:AAD}{G:Ent}{ρ:Ev}{σ:St}{H:Hp}{fa:AAC}
def hV(G:Ent)(fa:AAC)(B:ZS)(i:Nat):Prop:=
 (∀j,j≠i->G.own j->∀a∈B,a∉fa j) /\
 match G.cl[i]? with
 | some .own=>i≠0/\B.Nodup/\(∀a∈B,G.H₀ a=none/\¬G.Z a/\∀j,j≠i->a∉fa j)
 | some .loc=>B.Nodup/\∀a∈B,G.H₀ a=none
 | _=>True
theorem E3.set(E:E3 K G ρ σ H fa)(x:i<ρ.length)(r:Rep K H v d B)(h:hV G fa B i):E3 K G (ρ.set i (some d)) (σ.set i (some v)) H (λj=>if j=i then B else fa j):=by
 have I:i<σ.length:=by rwa[<-E.len]
 have c:G.own i->i≠0/\B.Nodup/\(∀a∈B,G.H₀ a=none/\¬G.Z a/\∀j,j≠i->a∉fa j):=λo=>by
  have q:=h.2;rwa[o] at q
 have p:G.cl[i]?=some .loc->B.Nodup/\∀a∈B,G.H₀ a=none:=λo=>by
  have q:=h.2;rwa[o] at q
 refine⟨λj M e=>?_,λj e=>?_,by simp[E.len],λj b=>?_,λj l n b a g=>?_,λj b u=>?_,λj b u a g=>?_,λj b a g=>?_,E.frm,E.stb,E.zk,E.zn,λj b a g=>?_,E.po⟩
 ·by_cases q:j=i
  ·subst q;rw[xi x] at e;cases e;exact⟨v,xi I,by rwa[ux rfl]⟩
  ·rw[AC (Ps q)] at e;obtain⟨w,J,C⟩:=E.rep j M e;exact⟨w,by rwa[AC (Ps q)],by rwa[uk q]⟩
 ·by_cases q:j=i
  ·subst q;exact absurd (xi x) (e d)
  ·rw[uk q];exact E.emp j λd z=>e d (by rwa[AC (Ps q)])
 ·by_cases q:j=i
  ·subst q;rw[ux rfl];rcases b with b | b
   ·exact(c b).2.1
   ·exact(p b).1
  ·rw[uk q];exact E.nd j b
 ·by_cases q:j=i
  ·subst q;rw[ux rfl] at g;rw[uk (Ps n)];exact((c b).2.2 a g).2.2 l (Ps n)
  ·rw[uk q] at g
   by_cases y:l=i
   ·subst y;rw[ux rfl];exactλz=>h.1 j q b a z g
   ·rw[uk y];exact E.dj j l n b a g
 ·have q:j≠i:=λe=>(c (e▸u)).1 (e▸E.po.one j b u);rw[AC (Ps q)];exact E.par j b u
 ·have q:j≠i:=λe=>(c (e▸u)).1 (e▸E.po.one j b u);rw[uk q] at g;exact E.old j b u a g
 ·by_cases q:j=i
  ·subst q;rw[ux rfl] at g;rcases b with b | b
   ·exact(p b).2 a g
   ·exact((c b.1).2.2 a g).1
  ·rw[uk q] at g;exact E.new j b a g
 ·by_cases q:j=i
  ·subst q;rw[ux rfl] at g;exact((c b).2.2 a g).2.1
  ·rw[uk q] at g;exact E.zo j b a g
noncomputable def Dm(c:Option Cl)(f:Fl)(i:Nat):Bool:=match c,f with
 | some .own,.fresh=>decide (i≠0)
 | some .own,_=>false
 | some .loc,.fresh=>true
 | some .loc,.locl=>true
 | some .loc,_=>false
 | _,.any=>false
 | _,_=>true
theorem E3.qR(E:E3 K G ρ σ H fa)(h:H a=none):¬G.Z a:=λz=>by
 have q:=E.zk a z;rw[h] at q;exact E.zn a z q.symm
theorem hV.of(E:E3 K G ρ σ H fa)(h:A4 G H fa B f)(b:Dm G.cl[i]? f i=true):hV G fa B i:=by
 have st:f≠.any->A4 G H fa B .stab:=λn=>h.weak E (by cases f<;>first | rfl | exact absurd rfl n)
 have l:f≠.any:=λe=>by
  subst e;generalize G.cl[i]?=c at b
  cases c with
  | none=>cases b
  | some c=>cases c<;>cases b
 refine⟨λj _ o a d=>st l j o a d,?_⟩
 cases e:G.cl[i]? with
 | none=>trivial
 | some c=>
  rw[e] at b
  cases c with
  | own=>
   cases f with
   | fresh=>exact⟨Ch b,h.1,λa d=>⟨E.stb.dom a (h.2 a d),E.qR (h.2 a d),λj _ z=>E.there j z (h.2 a d)⟩⟩
   | _=>cases b
  | loc=>
   have q:=h.weak E (g:=.locl) (by cases f<;>first | rfl | cases b);exact⟨q.2.2,q.2.1⟩
  | bor=>trivial
  | mk _=>trivial
theorem hV.new(E:E3 K G ρ σ H fa)(E0:E3 K G g d l h)(n1:B.Nodup)(n2:∀a∈B,l a=none/\∀j,a∉fa j)(o:G.cl[i]?≠some .own\/i≠0):hV G fa B i:=by
 refine⟨λj _ p a b=>(n2 a b).2 j,?_⟩
 cases e:G.cl[i]? with
 | none=>trivial
 | some c=>
  cases c with
  | own=>exact⟨o.resolve_left (λz=>z e),n1,λa b=>⟨E0.stb.dom a (n2 a b).1,E0.qR (n2 a b).1,λj _=>(n2 a b).2 j⟩⟩
  | loc=>exact⟨n1,λa b=>E0.stb.dom a (n2 a b).1⟩
  | bor=>trivial
  | mk _=>trivial
end
section
variable{X:Cx}{cl:List Cl}{e a b:Expr}{es:ZV}{f:Fl}{pos pos':Pos}{ua ub:TU}{ma mb:TM}{x:Str}{i:Nat}{st:Stmt}{sts:AAA}{s s2:g4}
def y9:g4:=λT c=>T.nx c
def e5(s u:g4):g4:=λT c=>s { nx:=u T,rt:=T.rt,bk:=T.bk,ct:=T.ct } c
theorem A6:qx X cl [] y9:=.of ⟨_,Ml,λG T d c H g R j E h le=>le.nx c H ⟨d,g,E,h⟩⟩
theorem x9(j:K3 X cl st s)(g:qx X cl sts s2):qx X cl (st::sts) (e5 s s2):=.of<|by
 obtain⟨I,v,j⟩:=j.run;obtain⟨C,u,g⟩:=g.run;refine⟨_,DQ v u,λG T r p H y R o E h le=>j G _ r p H y _ o E h ⟨λc z q=>?_,le.rt,le.bk,le.ct⟩⟩;obtain⟨d,l,B,q⟩:=q;exact g G T d c z l R o B q le
theorem gM(c:K3 X cl st s):qx X cl [st] s:=.of<|let ⟨g,d,c⟩:=c.run;⟨_,Kh d,c⟩
def FY:g4:=λT c=>T.bk c
theorem MJ:K3 X cl (.Break pos) FY:=.of ⟨_,FI,λG T d c H g R j E h le=>le.bk c H ⟨d,g,E,h⟩⟩
def qt:g4:=λ_ _=>False
theorem pP:K3 X cl st qt:=.of ⟨_,Fe,λG T d c H j R g E h le=>h.elim⟩
def n9(i:Nat)(u:TU):g4:=λT c=>u c λd=>Nat.blt i c.length=true/\T.nx (c.set i (some d))
theorem gL(J:X.N.Nodup)(y:X.N[i]?=some x)(l:Loc X.env.scope x)(C:PU X cl e f ua)(I:Dm cl[i]? f i=true)(u:swapsWith e (some (.Name x pos')) pos.line X.env=pure false:=by rfl)(z:X.fn x=true\/X.env.scope.names.lookup x=some .local:=by first | exact .inl rfl | exact .inr rfl | assumption) :
  K3 X cl (.Assign [.Name x pos'] e pos) (n9 i ua):=.of<|by
 obtain⟨t,p,h⟩:=C.run;exact⟨_,Dw J y l p u z,λG T j g H O R c E o le=>h G j g H O _ _ c E o λv Q d B s r M q=>le.nx _ _ ⟨_,_,(E.same s).set (x0 q.1) r (hV.of E M (by rwa[c])),q.2⟩⟩
def J0(i:Nat)(u:TM):g4:=λT g=>u g λd c=>Nat.blt i c.length=true/\T.nx (c.set i (some d))
noncomputable def iB(c:Option Cl)(i:Nat):Bool:=match c with
 | some .own=>decide (i≠0)
 | _=>true
theorem iM(h:iB c i=true):c≠some .own\/i≠0:=by
 unfold iB at h;split at h
 ·exact .inr (Ch h)
 ·rename_i q
  exact .inl λe=>q e
theorem D4(Q:X.N.Nodup)(I:X.N[i]?=some x)(y:Loc X.env.scope x)(M:PM X cl e ma)(O:iB cl[i]? i=true)(C:swapsWith e (some (.Name x pos')) pos.line X.env=pure false:=by rfl)(J:X.fn x=true\/X.env.scope.names.lookup x=some .local:=by first | exact .inl rfl | exact .inr rfl | assumption) :
  K3 X cl (.Assign [.Name x pos'] e pos) (J0 i ma):=.of<|by
 obtain⟨t,p,h⟩:=M.run;exact⟨_,Dw Q I y p C J,λG T u l H U R g E z le=>h G u l H U _ _ g E z λv Y d B o S j c r n1 n2 q=>le.nx _ _ ⟨_,_,j.set (x0 q.1) r (hV.new j E n1 n2 (by rw[g];exact iM O)),q.2⟩⟩
def aY(c:vH)(s u:g4):g4:=λT g=>c g λk d=>Br k (s T d) (u T d)
theorem G8(j:RL X cl c o)(J:qx X cl A s)(I:qx X cl B s2):K3 X cl (.If c A B pos) (aY o s s2):=.of<|by
 obtain⟨t,p,j⟩:=j.run;obtain⟨U,z,O⟩:=J.run;obtain⟨S,y,M⟩:=I.run;refine⟨_,RX p z y,λG T v h H Q R l E C le=>j G v h H Q _ _ l E C λb r d g u c q=>?_⟩
 cases b with
 | true=>exact O G T d h r g R l u (q.t rfl) le
 | false=>exact M G T d h r g R l u (q.f rfl) le
def r8(u:TU):g4:=λT c=>u c λd=>T.rt d c
theorem o9(z:PU X cl e f ua)(y:kK f .locl=true):K3 X cl (.Return (some e) pos) (r8 ua):=.of<|by
 obtain⟨t,p,h⟩:=z.run;refine⟨_,oF p,λG T j g H l R I E o le=>h G j g H l _ _ I E o λv M d B s r J q=>?_⟩;have c:=J.weak E y;exact le.rt v M ⟨d,j,g,l,B,E.same s,r,c.2.2,c.2.1,λi _ u a C=>c.1 i u a C,q⟩
def Ht(u:TM):g4:=λT g=>u g λd c=>T.rt d c
theorem Jn(z:PM X cl e ma):K3 X cl (.Return (some e) pos) (Ht ma):=.of<|by
 obtain⟨t,p,h⟩:=z.run;exact⟨_,oF p,λG T u o H I R C E y le=>h G u o H I _ _ C E y λv J d B g l M c r n1 n2 q=>le.rt v J ⟨d,g,o,l,B,M,r,n1,λa j=>E.stb.dom a (n2 a j).1,λi _ O a j=>(n2 a j).2 i,q⟩⟩
theorem K6(i:Nat)(h:PE X (.Name x c) (cw i))(g:i≠0)(I:cl[i]?=some .own):K3 X cl (.Return (some (.Name x c)) pos) (r8 (a6 i)):=.of<|by
 refine⟨_,oF h,λG T u p H l R M E y le=>?_⟩;obtain⟨d,e,q⟩:=p5 y;obtain⟨v,O,r⟩:=E.rep i d e;have o:G.own i:=by unfold Ent.own;rwa[M]
 exact⟨v,O,le.rt v H ⟨d,u,p,l,l i,E,r,E.nd i (.inl o),E.new i (.inr ⟨o,λz=>g (E.po.one i z o)⟩),λj C B a J z=>(E.dj i j (λe=>g (e▸E.po.one j C B)) o a J z),q⟩⟩
def U6(u:TM):g4:=λT d=>u d λ_ c=>T.nx c
theorem N1(z:PN X cl e ma)(y:swapsWith e none pos.line X.env=pure false:=by rfl):K3 X cl (.Expr e pos) (U6 ma):=.of<|by
 obtain⟨t,p,h⟩:=z.run;exact⟨_,Ly p y,λG T o l H I R C E u le=>h G o l H I _ _ C E u λv M d B g j J c r n q=>le.nx _ _ ⟨g,j,J,q⟩⟩
end
section
variable{K:AAD}{G:Ent}{ρ:Ev}{σ:St}{H H1 H2:Hp}{fa fa1:AAC}
theorem E3.put(E:E3 K G ρ σ H1 fa1)(o:G.own i)(M:i<ρ.length)(T:σ[i]?=some (some v))(x:p∈fa1 i)(k:∀a,a≠p->H2 a=H1 a)(I:H2 p≠none)
  (r:Rep K H2 v d A) (n1:A.Nodup) (n2:∀a∈A,a∈fa1 i\/(G.H₀ a=none/\¬G.Z a/\∀j,a∉fa1 j)):E3 K G (ρ.set i (some d)) σ H2 (λj=>if j=i then A else fa1 j):=by
 have B:=E.fu i p x
 have stb:Y3 H1 H2:=⟨λb Y h=>by
   by_cases e:b=p
   ·subst e;rw[h] at B;exact B.elim
   ·rwa[k b e],λb u w h=>by
   by_cases e:b=p
   ·subst e;rw[h] at B;exact B.elim
   ·rwa[k b e],λb h=>by
   by_cases e:b=p
   ·subst e;exact absurd h I
   ·rwa[k b e] at h⟩
 have S:=λj n z=>E.dj i j (Ps n) o p x z;refine⟨λj X e=>?_,λj e=>?_,by simp[E.len],λj g=>?_,λj l n g a c=>?_,E.par,λj g Q a c=>?_,λj g a c=>?_,λa u h n=>?_,E.stb.trans stb,λa z=>?_,E.zn,λj g a c=>?_,E.po⟩
 ·by_cases q:j=i
  ·subst q;rw[xi M] at e;cases e;exact⟨v,T,by rwa[ux rfl]⟩
  ·rw[AC (Ps q)] at e;obtain⟨w,U,R⟩:=E.rep j X e;refine⟨w,U,?_⟩;rw[uk q];exact R.mono stb λa c=>k a λe=>S j q (e▸c)
 ·by_cases q:j=i
  ·subst q;exact absurd (xi M) (e d)
  ·rw[uk q];exact E.emp j λd z=>e d (by rwa[AC (Ps q)])
 ·by_cases q:j=i
  ·rwa[ux q]
  ·rw[uk q];exact E.nd j g
 ·by_cases q:j=i
  ·subst q;rw[ux rfl] at c;rw[uk (Ps n)];rcases n2 a c with y | y
   ·exact E.dj j l n o a y
   ·exact y.2.2 l
  ·rw[uk q] at c
   by_cases O:l=i
   ·subst O;rw[ux rfl];intro z;rcases n2 a z with y | y
    ·exact E.dj j l q g a c y
    ·exact y.2.2 j c
   ·rw[uk O];exact E.dj j l n g a c
 ·by_cases q:j=i
  ·subst q;rw[ux rfl] at c;rcases n2 a c with y | y
   ·exact E.old j g Q a y
   ·exact .inr y.1
  ·rw[uk q] at c;exact E.old j g Q a c
 ·by_cases q:j=i
  ·subst q;rw[ux rfl] at c;rcases n2 a c with y | y
   ·exact E.new j g a y
   ·exact y.1
  ·rw[uk q] at c;exact E.new j g a c
 ·have J:a≠p:=λe=>by
   subst e
   by_cases C:i<G.vs.length
   ·rcases E.old i C o a x with y | y
    ·exact n i C o y
    ·rw[h] at y;cases y
   ·have y:=E.new i (.inr ⟨o,C⟩) a x;rw[h] at y;cases y
  rw[k a J];exact E.frm a u h n
 ·rw[k a (λe=>E.zo i o p x (e▸z))];exact E.zk a z
 ·by_cases q:j=i
  ·subst q;rw[ux rfl] at c;rcases n2 a c with y | y
   ·exact E.zo j g a y
   ·exact y.2.1
  ·rw[uk q] at c;exact E.zo j g a c
theorem R3.put{A:ZS}(c:R3 K G H fa H1 fa1)(E:E3 K G ρ σ H1 fa1)(o:G.own i)(x:p∈fa1 i)(k:∀a,a≠p->H2 a=H1 a)(r:H2 p≠none)(n2:∀a∈A,a∈fa1 i\/H a=none):R3 K G H fa H2 (λj=>if j=i then A else fa1 j):=by
 have g:=E.fu i p x;refine⟨λa u h n=>?_,c.stb.trans ⟨λb z h=>?_,λb u w h=>?_,λb h=>?_⟩,λj d a l=>?_,λj d=>(uk λe=>d (by rwa[e])).trans (c.bor j d)⟩
 ·have v:a≠p:=λe=>by
   subst e;rcases c.new i o a x with y | y
   ·exact n i o y
   ·rw[h] at y;cases y
  rw[k a v];exact c.frm a u h n
 ·by_cases e:b=p
  ·subst e;rw[h] at g;exact g.elim
  ·rwa[k b e]
 ·by_cases e:b=p
  ·subst e;rw[h] at g;exact g.elim
  ·rwa[k b e]
 ·by_cases e:b=p
  ·subst e;exact absurd h r
  ·rwa[k b e] at h
 ·by_cases q:j=i
  ·subst q;rw[ux rfl] at l;rcases n2 a l with y | y
   ·exact c.new j d a y
   ·exact .inr y
  ·rw[uk q] at l;exact c.new j d a l
theorem V9:∀a,a≠p->upd H p o a=H a:=λa n=>i3 n
end
section
variable{X:Cx}{cl:List Cl}{e a b:Expr}{es:ZV}{f:Fl}{pos pos':Pos}{ua ub:TU}{ma mb:TM}{x:Str}{i:Nat}{st:Stmt}{sts:AAA}{s s2:g4}
noncomputable def Sg:D->Bool
 | .lst _=>true
 | _=>false
def Ru(i:Nat)(d:D)(g:Ev)(Q:Ev->Prop):D->Prop
 | .lst c=>c.length<sizeLine/\Q (g.set i (some (.lst (c++[d]))))
 | _=>False
def eK(i:Nat)(ma:TM):TM:=λg Q=>a6 i g λl=>Sg l=true/\ma g λd c=>a6 i c (Ru i d c (Q .o6))
theorem A7{r:V->List V->Hp->VK->Prop}(i:Nat)(hv:PE X (.Name x Y) (cw i))(hi:cl[i]?=some .own)(he:PM X cl e ma)(a2:isStar e=false)
  (mk:∀{t},PA X [e] t->PE X (.Call (.Attribute (.Name x Y) "append" j) [e] [] pos) (VI X.K "list" D2 (cw i) t)):PM X cl (.Call (.Attribute (.Name x Y) "append" j) [e] [] pos) (eK i ma):=.of<|by
 obtain⟨t,p,h⟩:=he.run;refine⟨_,mk (bp p M4 a2),λG ρ σ H fa Q R hG E hu k=>?_⟩;obtain⟨l0,e0,il,hu⟩:=p5 hu;have own:G.own i:=by unfold Ent.own;rwa[hG]
 obtain⟨v,J,r0⟩:=E.rep i l0 e0;cases l0<;>first | cases il | skip
 obtain⟨p,vs,B,rfl,hp,_,_⟩:=D1 r0;refine⟨_,J,.inl ⟨rfl,vs,G4.of hp⟩,h G ρ σ H fa _ _ hG E hu λw H1 d O I M T c1 r1 n1 n2 q=>?_⟩;obtain⟨l1,e1,q⟩:=p5 q;obtain⟨v',o,r2⟩:=T.rep i l1 e1;have ev:v'=.ref p:=by rw[J] at o;cases o;rfl
 subst ev;cases l1<;>first | exact(q).elim | skip
 rename_i U
 obtain⟨p',l,B',ep,C,rs,S⟩:=D1 r2;cases ep;have nd:=T.nd i (.inl own);have pin:p∈M i:=by rw[S];exact hQ
 rw[S] at nd;obtain⟨np,a1⟩:=List.nodup_cons.mp nd;have g:=λz=>(n2 p z).2 i pin
 have st:Y3 H1 (upd H1 p (.lst (l++[w]))):=⟨λb ys h=>by
   by_cases e:b=p
   ·subst e;rw[C] at h;cases h
   ·rwa[i3 e],λb u w' h=>by
   by_cases e:b=p
   ·subst e;rw[C] at h;cases h
   ·rwa[i3 e],λb h=>by
   by_cases e:b=p
   ·subst e;rw[c8] at h;cases h
   ·rwa[i3 e] at h⟩
 have rn:Rep X.K (upd H1 p (.lst (l++[w]))) (.ref p) (.lst (U++[d])) (p::(B'++(O++[]))):=
  .lst c8 ((rs.mono st λa c=>i3 λe=>np (e▸c)).append (.cons (r1.mono st λa c=>i3 λe=>g (e▸c)) .nil))
 rw[vy] at rn
 have n3:∀a∈p::(B'++O),a∈M i\/a∈O:=λa c=>by
  rcases List.mem_cons.mp c with z | z
  ·exact .inl (z▸pin)
  ·rcases List.mem_append.mp z with y | y
   ·exact .inl (by rw[S];exact hH _ y)
   ·exact .inr y
 have a0:=List.nodup_cons.mpr ⟨λz=>(List.mem_append.mp z).elim np g,List.nodup_append.mpr ⟨a1,n1,λa c b hb e=>(n2 b hb).2 i (by rw[S,<-e];exact hH _ c)⟩⟩;have li:=(List.getElem?_eq_some_iff.mp e1).1;refine⟨p,l,w,rfl,rfl,C,by rw[rs.length];exact q.1,k .o6 _ .o6 [] _ _ (T.put own li o pin V9 (by rw[c8];exactλz=>nomatch z) rn a0 λa c=>(n3 a c).imp id λy=>⟨E.stb.dom a (n2 a y).1,E.qR (n2 a y).1,(n2 a y).2⟩) (c1.put T own pin V9 (by rw[c8];exactλz=>nomatch z) λa c=>(n3 a c).imp id λy=>(n2 a y).1) .o6 uy (λa c=>(by cases c)) q.2⟩
def To(i:Nat)(k:Int)(d:D)(g:Ev)(Q:Ev->Prop):D->Prop
 | .lst c=>∃j,mO c.length k=some j/\Q (g.set i (some (.lst (c.set j d))))
 | _=>False
def Dc(i:Nat)(j mk:TM):g4:=λT h=>j h λd g=>a6 i g λ_=>mk g λk c=>match k with
 | .int k=>a6 i c (To i k d c T.nx)
 | _=>False
theorem rY(i:Nat)(hv:PE X (.Name x vp) (cw i))(hi:cl[i]?=some .own)(he:PM X cl e ma)(hk:PN X cl Q mk)
  (a3:∀{te ti},PE X e te->PE X Q ti->PS X (.Assign [.Subscript (.Name x vp) Q tp] e pos) (tU te (U0 (cw i) ti NS))):K3 X cl (.Assign [.Subscript (.Name x vp) Q tp] e pos) (Dc i ma mk):=.of<|by
 obtain⟨t,p,h⟩:=he.run;obtain⟨t2,p2,h2⟩:=hk.run;refine⟨_,a3 p p2,λG T ρ σ H fa R hG E hu le=>?_⟩;have own:G.own i:=by unfold Ent.own;rwa[hG]
 refine h G ρ σ H fa _ _ hG E hu λw H1 d B1 U a4 E1 c1 r1 n1 n2 q=>?_;obtain⟨l0,e0,q⟩:=p5 q;obtain⟨v,J,r0⟩:=E1.rep i l0 e0;refine⟨_,J,h2 G U σ H1 a4 _ _ hG E1 q λwk H2 dk Bk I o E2 c2 rk nk q=>?_⟩;cases dk<;>first | exact(q).elim | skip
 rename_i kk
 cases w6 rk;obtain⟨l1,e1,q⟩:=p5 q;obtain⟨v',g,r2⟩:=E2.rep i l1 e1;have ev:v'=v:=by rw[J] at g;cases g;rfl
 subst ev;cases l1<;>first | exact(q).elim | skip
 rename_i Y
 obtain⟨p,vs,B,rfl,hp,rs,S⟩:=D1 r2;obtain⟨j,hj,q⟩:∃j,mO Y.length kk=some j/\T.nx (I.set i (some (.lst (Y.set j d)))):=q;have a0:=c2.keep r1 λi _ a c=>(n2 a c).2 i
 have r:∀a∈B1,∀l,a∉o l:=λa c l z=>by
  by_cases ho:G.own l
  ·rcases c2.new l ho a z with y | y
   ·exact(n2 a c).2 l y
   ·exact r1.there c y
  ·rw[c2.bor l ho] at z;exact(n2 a c).2 l z
 have nd:=E2.nd i (.inl own);have pin:p∈o i:=by rw[S];exact hQ
 rw[S] at nd;obtain⟨np,a2⟩:=List.nodup_cons.mp nd;have O:=λz=>r p z i pin
 have st:∀ws,Y3 H2 (upd H2 p (.lst ws)):=λws=>⟨λb ys h=>by
   by_cases e:b=p
   ·subst e;rw[hp] at h;cases h
   ·rwa[i3 e],λb u w' h=>by
   by_cases e:b=p
   ·subst e;rw[hp] at h;cases h
   ·rwa[i3 e],λb h=>by
   by_cases e:b=p
   ·subst e;rw[c8] at h;cases h
   ·rwa[i3 e] at h⟩
 obtain⟨C,rC,mC,nC⟩:=i8.set j rs a0;have M:=λz=>(mC p z).elim np O;have rn:Rep X.K (upd H2 p (.lst (vs.set j w))) (.ref p) (.lst (Y.set j d)) (p::C):=.lst c8 (rC.mono (st _) λa c=>i3 λe=>M (e▸c))
 have n3:∀a∈p::C,a∈o i\/a∈B1:=λa c=>by
  rcases List.mem_cons.mp c with z | z
  ·exact .inl (z▸pin)
  ·exact(mC a z).imp (λy=>by rw[S];exact hH _ y) id
 have a1:(p::C).Nodup:=List.nodup_cons.mpr ⟨M,nC a2 n1 λa c z=>r a c i (by rw[S];exact hH _ z)⟩;have li:i<I.length:=(List.getElem?_eq_some_iff.mp e1).1;exact⟨p,vs,kk,j,rfl,rfl,hp,by rw[rs.length];exact hj,le.nx _ _ ⟨_,_,E2.put own li g pin V9 (by rw[c8];exactλz=>nomatch z) rn a1 λa c=>(n3 a c).imp id λy=>⟨E.stb.dom a (n2 a y).1,E.qR (n2 a y).1,r a y⟩,q⟩⟩
end
def aV(K:AAD)(J:It)(xs:List D)(C:ZS)(H:Hp):Prop:=∀b,Tf H b->(∀a∈C,b a=H a)->∀i,(xs.length=i->J.stop i b) /\
 ∀d,xs[i]?=some d->J.go i b/\∀x c,J.yld i b x c->e6 b c/\∃B,Rep K c x d B/\B.Sublist C
abbrev mr:=Ev->(List D->Prop)->Prop
abbrev Ql:=Ev->(List D->Ev->Prop)->Prop
structure S0(X:Cx)(cl:List Cl)(tg iter:Expr)(f:Fl)(u:mr):Prop where
 of ::
 run:∃wi,PI X tg iter wi/\∀(G:Ent) (ρ:Ev) (σ:St) (H:Hp) (fa:AAC) (Q:List D->Prop) (R:It->Hp->Prop),G.cl=cl->E3 X.K G ρ σ H fa->u ρ Q ->
  (∀J H1 xs C,e6 H H1->aV X.K J xs C H1->(∀a∈C,H1 a≠none)->A4 G H fa C f->Q xs->R J H1)->wi σ H R
structure UI(X:Cx)(cl:List Cl)(tg iter:Expr)(u:Ql):Prop where
 of ::
 run:∃wi,PI X tg iter wi/\∀(G:Ent) (ρ:Ev) (σ:St) (H:Hp) (fa:AAC) (Q:List D->Ev->Prop) (R:It->Hp->Prop),G.cl=cl->E3 X.K G ρ σ H fa->u ρ Q ->
  (∀J H1 xs C ρ1 fa1,E3 X.K G ρ1 σ H1 fa1->R3 X.K G H fa H1 fa1->aV X.K J xs C H1->(∀a∈C,H1 a≠none)->(∀i,G.own i->∀a∈C,a∉fa1 i)->Q xs ρ1->R J H1)->wi σ H R
section
variable{X:Cx}{cl:List Cl}{tg e a b:Expr}{es:ZV}{f:Fl}{pos pos':Pos}{ua ub:TU}{ma mb:TM}{x:Str}{i:Nat}
def iP(u:mr):Ql:=λc Q=>u c λd=>Q d c
theorem S0.m(h:S0 X cl tg e f u)(r:kK f .stab=true):UI X cl tg e (iP u):=.of<|by
 obtain⟨t,p,h⟩:=h.run;exact⟨t,p,λG c g H d Q R v E o k=>h G c g H d _ _ v E o λJ z j C s l tr y q=>k J z j C c d (E.same s) (R3.same s) l tr (y.weak E r) q⟩
theorem aw(r:i8 K H vs xs C)(tf:Tf H c)(k:∀a∈C,c a=H a)(e:xs[i]?=some d):∃v B,vs[i]?=some v/\Rep K c v d B/\B.Sublist C:=(r.Z6 tf k).get e
theorem WW(h:H p=some (.lst vs))(r:i8 K H vs xs C):aV K (UJ K p) xs (p::C) H:=λo tf k i=>by
 have g:=(k p hQ).trans h;have z:=λa G=>k a (hH _ G);refine⟨λE=>⟨vs,G4.of g,by rw[r.length];exact XI E⟩,λd e=>?_⟩;obtain⟨v,B,l,u,q⟩:=aw r tf z e;refine⟨⟨vs,v,G4.of g,l⟩,λy J c=>?_⟩;obtain⟨I,c⟩:=c;subst I;have j:=c vs (G4.of g);rw[l] at j;cases j;exact⟨e6.refl _,B,u,q.trans (Xb _ _)⟩
theorem WT(h:Oi K H p vs)(r:i8 K H vs xs C):aV K (UJ K p) xs C H:=λE tf k i=>by
 have g:=(tf.UH h).sq;refine⟨λu=>⟨vs,g,by rw[r.length];exact XI u⟩,λd e=>?_⟩;obtain⟨v,B,l,q,o⟩:=aw r tf k e;refine⟨⟨vs,v,g,l⟩,λy G c=>?_⟩;obtain⟨z,c⟩:=c;subst z;have j:=c vs g;rw[l] at j;cases j;exact⟨e6.refl _,B,q,o⟩
theorem VL(h:H p=some (.tup vs))(r:i8 K H vs xs C):aV K (UZ K p) xs C H:=λE tf k i=>by
 have g:S6 K E p vs:=S6.of (tf.T7 _ _ h);refine⟨λu=>⟨vs,g,by rw[r.length];exact XI u⟩,λd e=>?_⟩;obtain⟨v,B,l,q,o⟩:=aw r tf k e;refine⟨⟨vs,v,g,l⟩,λy G c=>?_⟩;obtain⟨z,c⟩:=c;subst z;have j:=c vs g;rw[l] at j;cases j;exact⟨e6.refl _,B,q,o⟩
theorem i8.there(r:i8 K H v d A):∀x∈A,H x≠none:=λx c z=>by
 have:=r.fu x c;rwa[z] at this
noncomputable def cV(lo:Int)(n:Nat):List D:=(List.range n).map λ(k:Nat)=>D.int (lo+(k:Int))
theorem itR(lo:Int)(n:Nat):aV K (TV lo n) (cV lo n) [] H:=λo tf k i=>by
 refine⟨λc=>by unfold cV at c;rw[dL,vr] at c;exact XI c,λd e=>?_⟩;unfold cV at e;rw[ue] at e
 by_cases g:i<n
 ·rw[Zd g] at e;cases e;refine⟨g,λy l h=>?_⟩;obtain⟨j,rfl⟩:=h;subst j;exact⟨e6.refl _,[],.int,Zr _⟩
 ·rw[Xx (by rw[vr];omega)] at e;cases e
def Sn(u:TM):Ql:=λg Q=>u g λd c=>match d with
 | .int j=>(-(2^62)<=j/\j<2^62)/\Q (cV 0 j.toNat) c
 | _=>False
theorem BA  (T:Gl X "range") (S:X.mg "range"=none) (h:PN X cl e ma) (l:isStar e=false)
  (mk:∀{t},PA X [e] t->PI X tg (.Call (.Name "range" p) [e] [] pos) (GG t)):UI X cl tg (.Call (.Name "range" p) [e] [] pos) (Sn ma):=.of<|by
 obtain⟨t,pt,h⟩:=h.run;refine⟨_,mk (bp pt M4 l),λG z y H J Q R I E C k=>h G z y H J _ _ I E C λv M d B g u O c r n q=>?_⟩;cases d<;>first | exact(q).elim | skip
 rename_i j
 cases w6 r;exact⟨j,rfl,q.1.1,q.1.2,k _ M _ [] g u O c (itR 0 _) (λa o=>(by cases o)) (λ_ _ a o=>(by cases o)) q.2⟩
def eQ(u:TU):mr:=λc Q=>u c λd=>match d with
 | .int j=>(-(2^62)<=j/\j<2^62)/\Q (cV 0 j.toNat)
 | _=>False
theorem Q9  (J:Gl X "range") (I:X.mg "range"=none) (h:PU X cl e f ua) (c:isStar e=false)
  (mk:∀{t},PA X [e] t->PI X tg (.Call (.Name "range" p) [e] [] pos) (GG t)):S0 X cl tg (.Call (.Name "range" p) [e] [] pos) .fresh (eQ ua):=.of<|by
 obtain⟨t,pt,h⟩:=h.run;refine⟨_,mk (bp pt M4 c),λG l g H z Q R y E o k=>h G l g H z _ _ y E o λv C d B s r M q=>?_⟩;cases d<;>first | exact(q).elim | skip
 rename_i j
 cases w6 r;exact⟨j,rfl,q.1.1,q.1.2,k _ C _ [] s (itR 0 _) (λa u=>(by cases u)) (A4.nil _) q.2⟩
noncomputable def jD:Nat->List D->List D
 | _,[]=>[]
 | k,x::c=>.tup [.int k,x]::jD (k+1) c
theorem fm:∀{xs:List D} {k i:Nat} {d:D},(jD k xs)[i]?=some d->∃x,xs[i]?=some x/\d=.tup [.int ((k+i:Nat):Int),x]
 | [],_,_,_,e=>by simp[jD] at e
 | x::xs,k,0,d,e=>by simp[jD] at e;exact⟨x,rfl,e.symm⟩
 | x::xs,k,i+1,d,e=>by
  rw[jD] at e;obtain⟨y,g,c⟩:=fm e;exact⟨y,by simpa using g,by rw[c];congr 3;omega⟩
theorem eM:∀{xs:List D} {k:Nat},(jD k xs).length=xs.length
 | [],_=>rfl
 | x::xs,k=>by simp[jD,eM]
theorem WQ(h:H p=some (.lst vs))(r:i8 K H vs xs C):aV K (JS K p) (jD 0 xs) (p::C) H:=λg tf k i=>by
 have c:=(k p hQ).trans h;have I:=λa Q=>k a (hH _ Q);refine⟨λO=>⟨vs,G4.of c,by rw[r.length,<-eM  ];exact XI O⟩,λd e=>?_⟩;obtain⟨x,S,R⟩:=fm e;obtain⟨v,B,q,E,u⟩:=aw r tf I S;refine⟨⟨vs,v,G4.of c,q⟩,λy T M=>?_⟩;obtain⟨G,z,rfl,l,rfl,J⟩:=M;have o:=J vs (G4.of c);rw[q] at o;cases o;refine⟨e6.g7 l,B,?_,u.trans (Xb _ _)⟩;rw[R];have j:i8 K (upd g G (.tup [.int i,v])) [.int i,v] [.int ((0+i:Nat)),x] ([]++(B++[])):=.cons (by rw[Nat.zero_add];exact .int) (.cons (E.same (e6.g7 l)) .nil);rw[vy] at j;exact .tup c8 j
theorem Vq(h:Oi K H p vs)(r:i8 K H vs xs C):aV K (JS K p) (jD 0 xs) C H:=λq tf k i=>by
 have c:=(tf.UH h).sq;refine⟨λM=>⟨vs,c,by rw[r.length,<-eM  ];exact XI M⟩,λd e=>?_⟩;obtain⟨x,Q,O⟩:=fm e;obtain⟨v,B,o,E,u⟩:=aw r tf k Q;refine⟨⟨vs,v,c,o⟩,λy R J=>?_⟩;obtain⟨G,z,rfl,j,rfl,I⟩:=J;have l:=I vs c;rw[o] at l;cases l;refine⟨e6.g7 j,B,?_,u⟩;rw[O];have g:i8 K (upd q G (.tup [.int i,v])) [.int i,v] [.int ((0+i:Nat)),x] ([]++(B++[])):=.cons (by rw[Nat.zero_add];exact .int) (.cons (E.same (e6.g7 j)) .nil);rw[vy] at g;exact .tup c8 g
def SG(u:TU):mr:=λg Q=>u g λd=>match d with
 | .lst c=>Q (jD 0 c)
 | .fz c=>Q (jD 0 c)
 | _=>False
theorem Qf(h:PU X cl e f ua)(j:isStar e=false)
  (mk:∀{t},PA X [e] t->PI X tg (.Call (.Name "enumerate" p) [e] [] pos) (NZ X.K t)):S0 X cl tg (.Call (.Name "enumerate" p) [e] [] pos) f (SG ua):=.of<|by
 obtain⟨t,pt,h⟩:=h.run;refine⟨_,mk (bp pt M4 j),λG y u H O Q R M E I k=>h G y u H O _ _ M E I λv o d B s r l q=>?_⟩;cases d<;>first | exact(q).elim | skip
 ·have z:=r;obtain⟨p,vs,C,rfl,c,g,rfl⟩:=D1 r;exact⟨p,rfl,⟨vs,G4.of c⟩,k _ o _ _ s (WQ c g) (λa J=>z.there J) l q⟩
 ·obtain⟨p,vs,rfl,c,g⟩:=fB r;exact⟨p,rfl,⟨vs,c.sq⟩,k _ o _ _ s (Vq c g) g.there l q⟩
noncomputable def kindB(b:Bool)(d:D):Option (List D):=match b,d with
 | false,.lst c=>some c
 | false,.fz c=>some c
 | true,.tup c=>some c
 | _,_=>none
end
end L3
namespace L2
open PySem PySem.Spec PyProof.Rows
theorem oi{σ:St}{g:ZQ->ZS->Shared->Hp->TG}{tc:ZQ->ZS->Shared->Hp->TT}{te:ZQ->ZS->Shared->Hp->TE}
  {E:AAB} {RR:Value->Addr->Result->Shared->Prop} {Q:VK} (S:X.calm=true) (cf:N2 X N scope cap) (hk:scope.kind=.function)
  (hg:∀cl a s H,PG (A8 X N scope cl a s H) l (g cl a s H)) (hc:∀cl a s H,xo (A8 X N scope cl a s H) ab (tc cl a s H)) (he:∀cl a s H,PE (A8 X N scope cl a s H) Y (te cl a s H))
  (I:Inv X pins σ H s) (T:Turn X.prog X.w X.K l J a it tn) (st:tn 0 s.heap) (hf:∀b∈a,N6 X pins H b) (q:∀cl a s z,UQ J (g cl a s z) (tc cl a s z) (te cl a s z) (M0 cap σ) Q H)
  (b6:∀d C z s' m,Inv X pins σ z s'->s'.heap.Ns C m->N6 X pins z C->Q (.ref d) z->RR (.ref d) C (.ok .next) s') :
  wpAny (model X.prog X.w) X.A (newList []) (λacc B=>wpAny (model X.prog X.w) X.A (newFunctionEnv scope X.env.globals (B0 X.env scope.names []) [] X.env.qual none .none (some X.env)) (λa3 s4=>
   codeAny (model X.prog X.w) X.A (.compStart (.ListComp Y [⟨l,a2,ab,0⟩] scope ap) 0 (.ref it) acc { a3 with scope:=relabel scope X.env }) (RR acc a3.locals) s4) E B) E s:=by
 refine wn (Zi cf.nocell (by intro y hy;simp at hy) (λh1 ad ac=>?_) hk);have I3:Inv X pins σ (upd H s.heap.objs.size (.lst [])) { s with heap:=s.heap.push { cls:=.type "list",data:=.seq ([]:ZU).toArray } }:=I.Ed (its:=[]) (t':=s.toks) .nil (xL _);have b5:H s.heap.objs.size=none:=I.fresh;obtain⟨W,⟨m0,w0⟩,a0⟩:=q (B0 X.env scope.names []) a { s with heap:=s.heap.push { cls:=.type "list",data:=.seq ([]:ZU).toArray } } (upd H s.heap.objs.size (.lst [])) s.heap.objs.size b5
 have b0:∀b∈a,b<s.heap.objs.size:=λb j=>by
  obtain⟨o,e,_⟩:=T.obj 0 _ st b j;exact vu e
 have al:∀b∈a,N6 X pins (upd H s.heap.objs.size (.lst [])) b:=λb j=>⟨by rw[i3 (v6 (b0 b j))];exact(hf b j).1,(hf b j).2⟩
 have R:∀b∈a,b<(s.heap.push { cls:=.type "list",data:=.seq ([]:ZU).toArray }).objs.size:=λb j=>by
  rw[Pv];exact SC (b0 b j)
 dsimp only at ad ac ⊢;generalize U:({ s with heap:=s.heap.push { cls:=.type "list",data:=.seq ([]:ZU).toArray } }:Shared)=B at I3 a0;have G:B.heap=s.heap.push { cls:=.type "list",data:=.seq ([]:ZU).toArray }:=by rw[<-U]
 have bi:B.toks=s.toks:=by rw[<-U]
 rw[<-G] at ad ac R;have O:∀b o,B.heap.get? b=some o->h1.get? b=some o:=λb o e=>ac.extBut b o (v6 (vu e)) (hD _ e);have keep:∀b o,s.heap.get? b=some o->h1.get? b=some o:=λb o e=>O b o (by rw[G];exact hD _ e);have Ic:=kH (tk:=s.toks) I3 cf hk al R ad O;have ao:tn 0 h1:=T.keep 0 _ _ st λb _ o e=>keep b o e;have b8:∀b∈a,(upd H s.heap.objs.size (.lst [])) b=none:=λb j=>(al b j).1
 have M:∀{z:Hp},(∀b∈a,z b=none)->∀b∈a,N6 (A8 X N scope (B0 X.env scope.names []) a B (upd H s.heap.objs.size (.lst []))) [] z b:=λhn b j=>
  ⟨hn b j,v6 (R b j),Ic.ok.exfs b j,.inl j,λx c h=>(hf b j).2.2.2.2.1 x c (az h),λp hp=>absurd (show p∈([]:ZO) from hp) (by simp)⟩
 have bn:B.os=s.os:=by rw[<-U]
 have bv:B.gens=s.gens:=by rw[<-U]
 have a1:codeAny (model X.prog X.w) X.A (.compLoop (.ListComp Y [⟨l,a2,ab,0⟩] scope ap) 0 (.ref it) (.ref s.heap.objs.size) (compEnvC scope (B0 X.env scope.names []) B.heap.objs.size X.env))
   (RR (.ref s.heap.objs.size) B.heap.objs.size) { B with heap:=h1,toks:=s.toks }:=by
  refine pj (λn s'=>∃i z,Inv (A8 X N scope (B0 X.env scope.names []) a B (upd H s.heap.objs.size (.lst []))) [] (M0 cap σ) z s'/\tn i s'.heap/\(∀b∈a,z b=none)/\W i n z) ?_ m0 ⟨0,_,Ic,ao,b8,w0⟩;rintro n s4 ⟨i,H4,I4,an,b3,w4⟩;rcases a0 i n H4 w4 with⟨stop,qn⟩ | ⟨go,step⟩
  ·refine w5 (T.done (A8 X N scope (B0 X.env scope.names []) a B (upd H s.heap.objs.size (.lst []))) rfl rfl rfl S i [] s4 _ H4 (λ_ _=>False) I4 (M b3) an stop) λr s5 ⟨hr,I5⟩=>?_;subst hr;obtain⟨m,b4,_⟩:=I5.loc;refine b6 _ _ H4 s5 m ?_ b4 (I3.fL (sK _) I5.free) qn;exact I3.Hk I5.os I5.base I5.hok I5.bare λb j=>⟨(hf b j).2.2.2.1,(hf b j).2.1,(hf b j).2.2.2.2.1,(hf b j).2.2.2.2.2⟩
  ·refine w5 (T.item (A8 X N scope (B0 X.env scope.names []) a B (upd H s.heap.objs.size (.lst []))) rfl rfl rfl S i [] s4 _ H4 (λ_ _=>False) I4 (M b3) an go) λr s5 ⟨u,hr,h5⟩=>?_;subst hr;refine w5 h5 λ_ s6 ⟨x,H6,I6,r6,y6,a5,b7⟩=>?_;have bb:=I6.pinned (M b7) (T.obj _ _ a5);refine w5 (hg _ _ _ _ _ s6 _ H6 x u _ bb r6 (step x H6 y6)) λ_ s7 ⟨a4,H7,I7,q7⟩=>?_;refine w5 (hc _ _ _ _ _ s7 a4 H7 _ I7 q7) λok s8 ⟨H8,I8,q8⟩=>?_
   have again:∀{am:St} {H9:Hp} {s9:Shared},Inv (A8 X N scope (B0 X.env scope.names []) a B (upd H s.heap.objs.size (.lst []))) ([]++bu a s6.heap) am H9 s9->(∃m',m'<n/\W (i+1) m' H9) ->
     ∃m,m<n/\∃i z,Inv (A8 X N scope (B0 X.env scope.names []) a B (upd H s.heap.objs.size (.lst []))) [] (M0 cap σ) z s9/\tn i s9.heap/\(∀b∈a,z b=none)/\W i m z:=λ{am H9 s9} I9 ⟨m',hm,w9⟩=>by
    refine⟨m',hm,i+1,H9,fX I3 cf al I9.T8,T.keep _ _ _ a5 λb j o e=>(I9.pin (b,o) (tz _ (tz _ (C5 j e)))).1,λb j=>?_,w9⟩;obtain⟨o,e,d⟩:=T.obj _ _ a5 b j;exact(I9.pin (b,o) (tz _ (tz _ (C5 j e)))).2.1
   cases ok with
   | false=>exact again I8 q8
   | true=>
    show wpAny _ _ (eval Y _) _ _ s8;refine w5 (he _ _ _ _ _ s8 a4 H8 _ I8 q8) λy s9 ⟨v,H9,I9,r9,acc,b2,b1,m',hm,w9⟩=>?_;refine w5 (y1 _ s9 a4 H9 (.ref s.heap.objs.size) [v] (.ref s.heap.objs.size) [y] (λ_ z=>z=upd H9 s.heap.objs.size (.lst (acc++[v]))) I9 rfl (.cons r9 .nil) ⟨_,acc,v,rfl,rfl,b2,b1,rfl⟩) λ_ bm ⟨_,c0,bg,_,b9⟩=>?_;subst b9;exact again bg ⟨m',hm,w9⟩
 have e4:({ s with heap:=h1,toks:=s.toks+([]:ZR).length }:Shared)={ B with heap:=h1,toks:=s.toks }:=by rw[<-U];rfl
 rw[<-G,e4];exact codeAny_compStart_list a1 (T.self _ 0 _ _ _ ao a1)
def Sh(cap:ZP)(d:TI)(g:ZQ->ZS->Shared->Hp->TG)(tc:ZQ->ZS->Shared->Hp->TT)(te:ZQ->ZS->Shared->Hp->TE):TE:=λc H Q=>d c H λJ e=>∀cl a s b,UQ J (g cl a s b) (tc cl a s b) (te cl a s b) (M0 cap c) Q e
theorem OM
  (l:Z5 XN N XS scope cap=true) (hN:X.N=XN) (hS:X.env.scope=XS) (E:scope.kind=.function) (i:X.calm=true) (U:PI X a b B)
  (Y:∀cl c s H,PG (A8 X N scope cl c s H) a (g cl c s H)) (hc:∀cl c s H,xo (A8 X N scope cl c s H) j (tc cl c s H)) (he:∀cl c s H,PE (A8 X N scope cl c s H) o (te cl c s H))
  (R:∀x,foldedSetIterable b X.env x=pure x:=by intro _;rfl):PE X (.ListComp o [⟨a,b,j,0⟩] scope r) (Sh cap B g tc te):=by
 refine .of ?_;intro e s z H Q I h;have u:=P9 hN hS l;refine Xq  rfl R (T6 (I.T5 u)) E u.loc (w5 (U e s z H _ I h) λv s1 h1=>w5 h1 λO s2 h2=>?_);obtain⟨it,c,tn,J,H2,rfl,I2,T,p,f2,q⟩:=h2;exact oi  i u E Y hc he I2 T p f2 q λd C H' s' m I' S hC M=>⟨m,S,λh' G=>⟨.ref d,H',I'.sU hC G,rfl,M⟩⟩
theorem nG{u r G:Pos}
  (Y:X.N.Nodup) (U:X.N[i]?=some y) (hy:X.env.scope.names.lookup y=some .local)
  (M:Z5 XN N XS scope cap=true) (hN:X.N=XN) (hS:X.env.scope=XS) (hk:scope.kind=.function) (B:X.calm=true) (hi:PI X b c wi)
  (hg:∀cl o s H,PG (A8 X N scope cl o s H) b (g cl o s H)) (hc:∀cl o s H,xo (A8 X N scope cl o s H) l (tc cl o s H)) (he:∀cl o s H,PE (A8 X N scope cl o s H) p (te cl o s H))
  (S:swapsWith (.ListComp p [⟨b,c,l,0⟩] scope u) (some (.Name y G)) r.line X.env=pure true:=by rfl)
  (hs:∀x,foldedSetIterable c X.env x=pure x:=by intro _;rfl):PS X (.Assign [.Name y G] (.ListComp p [⟨b,c,l,0⟩] scope u) r) (tU (Sh cap wi g tc te) (mH i)):=by
 refine .of ?_;intro j s σ H D I h;have cf:=P9 hN hS M;rw[Zg _ _ _ _ S];refine eH (Tl (eH ?_));refine eH (A1 (Xq   rfl hs (T6 (I.T5 cf)) hk cf.loc (w5 (hi j s σ H _ I h) λv s1 h1=>w5 h1 λa1 s2 h2=>?_))
  (λ_ E hq=>hE (hE hq)) λ_ _ e=>e)
 obtain⟨it,o,tn,J,H2,rfl,I2,T,O,f2,q⟩:=h2;refine oi  B cf hk hg hc he I2 T O f2 q λd C H' E m I' hn hC q'=>?_;refine YN (bR (v:=.ref d) I' Y U (.inl hy) rfl (λs2 I2 ⟨a,sb,ha⟩=>⟨m,hn.sameBut sb ?_,λh' R=>⟨_,H',I2.sU hC R,q'⟩⟩) (.inr hy));rcases ha with z | z
 ·rw[z];exact hC.2.1
 ·exactλe=>hC.2.2.2.2.1 y a z e.symm
end L2
namespace L3
open PySem PySem.Spec L2
abbrev aQ:=D->Ev->(Ev->Prop)->Prop
abbrev xG:=List D->Ev->(Ev->Prop)->Prop
structure Aa(X:Cx)(cl:List Cl)(tg:Expr)(g:aQ):Prop where
 of ::
 run:∃t,PG X tg t/\∀(G:Ent) (ρ:Ev) (σ:St) (H:Hp) (fa:AAC) (v:V) (d:D) (B:ZS) (Q:Ev->Prop) (R:St->Hp->Prop),G.cl=cl->E3 X.K G ρ σ H fa->Rep X.K H v d B->(∀i,G.own i->∀a∈B,a∉fa i)->g d ρ Q ->
  (∀σ' ρ' fa',E3 X.K G ρ' σ' H fa'->(∀i,G.own i->fa' i=fa i/\σ'[i]?=σ[i]?)->(∀i,G.own i->ρ'[i]?=ρ[i]?)->Q ρ'->R σ' H)->t v σ H R
structure Lh(X:Cx)(cl:List Cl)(tgs:ZV)(g:xG):Prop where
 of ::
 run:∃t,Ju X tgs t/\∀(G:Ent) (ρ:Ev) (σ:St) (H:Hp) (fa:AAC) (vs:List V) (ds:List D) (B:ZS) (Q:Ev->Prop) (R:St->Hp->Prop),G.cl=cl->E3 X.K G ρ σ H fa->i8 X.K H vs ds B->(∀i,G.own i->∀a∈B,a∉fa i)->g ds ρ Q ->
  (∀σ' ρ' fa',E3 X.K G ρ' σ' H fa'->(∀i,G.own i->fa' i=fa i/\σ'[i]?=σ[i]?)->(∀i,G.own i->ρ'[i]?=ρ[i]?)->Q ρ'->R σ' H)->t vs σ H R
section
variable{X:Cx}{cl:List Cl}{tg e a b:Expr}{es:ZV}{f:Fl}{pos pos':Pos}{ua ub:TU}{ma mb:TM}{x:Str}{i:Nat}
def g1(i:Nat):aQ:=λd c Q=>Nat.blt i c.length=true/\Q (c.set i (some d))
theorem wt(h:PG X (.Name x pos) (mH i))(l:cl[i]?=some .bor):Aa X cl (.Name x pos) (g1 i):=.of<|by
 refine⟨_,h,λG y u H C v d B Q R p E r n q k=>?_⟩;have g:G.cl[i]?=some .bor:=by rwa[p]
 have no:¬G.own i:=λz=>by unfold Ent.own at z;rw[g] at z;cases z
 refine k _ _ _ (E.set (x0 q.1) r ⟨λj _ c a o=>n j c a o,by rw[g];trivial⟩) (λj c=>⟨uk λe=>no (by rwa[<-e]),AC λe=>no (by rwa[e])⟩) (λj c=>?_) q.2
 ·exact AC λe=>no (by rwa[e])
def J9:xG:=λd c Q=>match d with
 | []=>Q c
 | _=>False
def j4(g:aQ)(gs:xG):xG:=λh j Q=>match h with
 | d::h=>g d j λc=>gs h c Q
 | _=>False
theorem P1:Lh X cl [] J9:=.of<|by
 refine⟨_,LS,λG d c H g vs h B Q R j E r n q k=>?_⟩
 cases h with
 | cons _ _=>exact(q).elim
 | nil=>
  cases r;exact⟨rfl,k c d g E (λ_ _=>⟨rfl,rfl⟩) (λ_ _=>rfl) q⟩
theorem l9(C:Aa X cl e g)(z:Lh X cl es gs)(hs:(assignEach (e::es) X.env).map (·.2)=assign e X.env::(assignEach es X.env).map (·.2):=by rfl):Lh X cl (e::es) (j4 g gs):=.of<|by
 obtain⟨t1,p1,C⟩:=C.run;obtain⟨t2,p2,z⟩:=z.run;refine⟨_,Ig p1 p2 hs,λG U T H fa vs M B Q R S E r n q k=>?_⟩
 cases M with
 | nil=>exact(q).elim
 | cons d M=>
  cases r with
  | cons r1 Y=>
   exact⟨_,_,rfl,C G U T H fa _ d _ _ _ S E r1 (λi c a y=>n i c a (v5 _ y)) q λj o J E' v u q'=>z G o j H J _ M _ Q R S E' Y (λi c a y=>by rw[(v i c).1];exact n i c a (tz _ y)) q' λh l I E2 O p q2=>k h l I E2 (λi c=>⟨(O i c).1.trans (v i c).1,(O i c).2.trans (v i c).2⟩) (λi c=>(p i c).trans (u i c)) q2⟩
def gT(gs:xG):aQ:=λd c Q=>match d with
 | .tup g=>gs g c Q
 | _=>False
theorem Ju.len(h:Ju X c t):True:=trivial
theorem Z1(h:Lh X cl es gs)(o:∀ds c Q,gs ds c Q->ds.length=n)(mk:∀{t},Ju X es t->PG X (.Tuple es k pos) (Uq X.K n t)):Aa X cl (.Tuple es k pos) (gT gs):=.of<|by
 obtain⟨t,p,h⟩:=h.run;refine⟨_,mk p,λG c j H z v d B Q R y E r nn q l=>?_⟩;cases d<;>first | exact(q).elim | skip
 rename_i ds
 obtain⟨a,vs,rfl,u,g⟩:=N0 r;exact⟨a,vs,rfl,S6.of u,by rw[g.length];exact o ds c Q q,h G c j H z vs ds B Q R y E g nn q l⟩
structure Le(g:aQ)(body:g4)(xs:List D)(T:R6)(ρ:Ev):Prop where
 of ::
 ex:∃W:Nat->Ev->Prop,W 0 ρ/\(∀i d ρ,xs[i]?=some d->W i ρ->g d ρ λρ1=>body { nx:=W (i+1),rt:=T.rt,bk:=T.nx,ct:=W (i+1) } ρ1)/\∀ρ,W xs.length ρ->T.nx ρ
def D9(j:Ql)(g:aQ)(body:g4):g4:=λT d=>j d λh c=>Le g body h T c
noncomputable def frozen(G:Ent)(H:Hp)(C:ZS):Ent:={ G with Z:=λa=>G.Z a\/a∈C\/(H a≠none/\¬fw (H a)),Hz:=H }
theorem E3.freeze(E:E3 K G g σ H d)(l:∀a∈C,H a≠none)(j:∀i,G.own i->∀a∈C,a∉d i):E3 K (frozen G H C) g σ H d:=
 ⟨E.rep,E.emp,E.len,E.nd,E.dj,E.par,E.old,E.new,E.frm,E.stb,λa _=>rfl,λa z=>by
  rcases z with z | z | z
  ·show H a≠none;rw[E.zk a z];exact E.zn a z
  ·exact l a z
  ·exact z.1,λi h a c z=>by
  rcases z with z | z | z
  ·exact E.zo i h a c z
  ·exact j i h a z c
  ·exact z.2 (E.fu i a c),⟨E.po.one,E.po.lk⟩⟩
theorem E3.OX(E0:E3 K G d c l g)(E:E3 K (frozen G l C) h σ H j):E3 K G h σ H j:=
 ⟨E.rep,E.emp,E.len,E.nd,E.dj,E.par,E.old,E.new,E.frm,E.stb,λa z=>(E.zk a (.inl z)).trans (E0.zk a z),E0.zn,λi o a p z=>E.zo i o a p (.inl z),⟨E.po.one,E.po.lk⟩⟩
theorem y3(hi:UI X cl tg l ui)(hg:Aa X cl tg g)(hb:qx X cl body sb)
  (mk:∀{wi g tb},PI X tg l wi->PG X tg g->qI X body tb->PS X (.For tg l body [] pos) (TF wi g tb)):K3 X cl (.For tg l body [] pos) (D9 ui g sb):=.of<|by
 obtain⟨wi,pi,hi⟩:=hi.run;obtain⟨an,pg,hg⟩:=hg.run;obtain⟨tb,pb,hb⟩:=hb.run;refine⟨_,mk pi pg pb,λG T ρ σ H fa R hG E hu le=>hi G ρ σ H fa _ _ hG E hu λJ Q r C a5 ad E1 c1 it tr ap q=>?_⟩;have F1:=E1.freeze tr ap;obtain⟨W,w0,step,done⟩:=q.ex;refine⟨λi m I S=>m=r.length-i/\i<=r.length/\∃c p,E3 X.K (frozen G Q C) c I S p/\W i c,⟨r.length,by simp,xL _,a5,ad,F1,w0⟩,?_⟩;rintro i m I S ⟨rfl,ao,c,p,U,q'⟩
 have tf:Tf Q S:=⟨λb ys h=>by
   rwa[U.zk b (.inr (.inr ⟨(by rw[h];intro z;cases z),(by rw[h];exactλz=>z)⟩))],λb o u h=>by
   rwa[U.zk b (.inr (.inr ⟨(by rw[h];intro z;cases z),(by rw[h];exactλz=>z)⟩))]⟩
 have kC:=λa ha=>U.zk a (.inr (.inl ha))
 by_cases Y:i<r.length
 ·right
  have ex:=nA Y;obtain⟨go,yl⟩:=(it S tf kC i).2 _ ex;refine⟨go,EY X.K (frozen G Q C) (W (i+1)),λam H2 hn=>?_,λy H2 hy=>?_⟩
  ·obtain⟨a4,ac,E2,q2⟩:=hn;exact⟨r.length-(i+1),by omega,rfl,Y,a4,ac,E2,q2⟩
  ·obtain⟨s2,B,rB,sB⟩:=yl y H2 hy;refine hg (frozen G Q C) c I H2 p y _ B _ _ hG (U.same s2) rB (λj hj a ha z=>U.zo j hj a z (.inr (.inl (sB.mem ha)))) (step i _ c ex q') λa2 a3 ab al _ _ q3=>hb (frozen G Q C) _ a3 a2 H2 ab _ hG al q3 ⟨λ_ _ h=>h,λv H3 h=>?_,λa1 H4 h=>?_,λ_ _ h=>h⟩
   ·obtain⟨d,M,a0,O,B5,E5,r5,n5,m5,l5,q5⟩:=h;exact le.rt v H3 ⟨d,M,a0,O,B5,E1.OX E5,r5,n5,m5,l5,q5⟩
   ·obtain⟨M,O,E5,q5⟩:=h;exact le.nx a1 H4 ⟨M,O,E1.OX E5,q5⟩
 ·have ei:i=r.length:=by omega
  subst ei
  left
  exact⟨(it S tf kC _).1 rfl,le.nx _ _ ⟨c,p,E1.OX U,done c q'⟩⟩
def Ij(j:vH)(body:g4):g4:=λT h=>∃W:Nat->Ev->Prop,(∃m,W m h)/\∀m h,W m h->j h λb d=>Br b (body { nx:=λc=>∃g,g<m/\W g c,rt:=T.rt,bk:=T.nx,ct:=λc=>∃g,g<m/\W g c } d) (T.nx d)
theorem LG(hp:PassesOwn (model X.prog X.w) X.A X.env X.xe)(v:RL X cl c M)(y:qx X cl body J):K3 X cl (.While c body [] pos) (Ij M J):=.of<|by
 obtain⟨tc,pc,v⟩:=v.run;obtain⟨tb,pb,y⟩:=y.run;refine⟨_,FP hp pc pb,λG T U σ H fa R O E hu le=>?_⟩;obtain⟨W,⟨m0,w0⟩,step⟩:=hu;refine⟨λm r H'=>∃l C,E3 X.K G l r H' C/\W m l,⟨m0,U,fa,E,w0⟩,?_⟩;rintro m g H1 ⟨j,B,E1,w1⟩;refine v G j g H1 B _ _ O E1 (step m j w1) λb H2 d o Q c2 q=>?_
 cases b with
 | true=>
  refine⟨EY X.K G (λd=>∃p,p<m/\W p d),λS H3 h=>?_,y G _ d g H2 o _ O Q (q.t rfl) ⟨λ_ _ h=>h,le.rt,le.nx,λ_ _ h=>h⟩⟩;obtain⟨u,z,I,p,hm,Y⟩:=h;exact⟨p,hm,u,z,I,Y⟩
 | false=>exact le.nx _ _ ⟨d,o,Q,q.f rfl⟩
noncomputable def V4(cap:ZP)(c:Ev):Ev:=cap.map λo=>match o with
 | some j=>(c[j]?).join
 | none=>none
noncomputable def C3(cap:ZP):List Cl:=cap.map λ_=>.bor
theorem jC{p j:Nat}(h:cap[p]?=some (some j))(e:σ[j]?=some (some v)):(M0 cap σ)[p]?=some (some v):=by
 unfold M0;rw[ue,h];show some ((σ[j]?).join)=_;rw[e];rfl
theorem uO{p:Nat}(h:(V4 cap c)[p]?=some (some d)):∃j,cap[p]?=some (some j)/\c[j]?=some (some d):=by
 unfold V4 at h;rw[ue] at h
 cases e:cap[p]? with
 | none=>rw[e] at h;cases h
 | some o=>
  rw[e] at h
  cases o with
  | none=>cases h
  | some j=>
   have h:some ((c[j]?).join)=some (some d):=h
   cases g:c[j]? with
   | none=>rw[g] at h;cases h
   | some o=>rw[g] at h;cases h;exact⟨j,rfl,g⟩
noncomputable def dP(cap:ZP)(c:Ev)(d:AAC)(p:Nat):ZS:=match (V4 cap c)[p]? with
 | some (some _)=>match cap[p]? with
  | some (some j)=>d j
  | _=>[]
 | _=>[]
noncomputable def X7(cap:ZP):Ent:=⟨λ_=>none,λ_=>[],[],C3 cap,λ_=>False,λ_=>none⟩
theorem G2(h:(X7 cap).own i):False:=by
 have h:(C3 cap)[i]?=some .own:=h;unfold C3 at h;rw[ue] at h
 cases e:cap[i]? with
 | none=>rw[e] at h;cases h
 | some o=>rw[e] at h;cases h
theorem qX(h:(X7 cap).cl[i]?=some .loc):False:=by
 have h:(C3 cap)[i]?=some .loc:=h;unfold C3 at h;rw[ue] at h
 cases e:cap[i]? with
 | none=>rw[e] at h;cases h
 | some o=>rw[e] at h;cases h
theorem JP(h:(X7 cap).cl[i]?=some (.mk c)):False:=by
 have h:(C3 cap)[i]?=some (.mk c):=h;unfold C3 at h;rw[ue] at h
 cases e:cap[i]? with
 | none=>rw[e] at h;cases h
 | some o=>rw[e] at h;cases h
theorem E3.comp(cap:ZP)(E:E3 K G c σ H g):E3 K (X7 cap) (V4 cap c) (M0 cap σ) H (dP cap c g):=by
 refine⟨λi d e=>?_,λi e=>?_,by unfold V4 M0;simp,λi h=>h.elim (λz=>(G2 z).elim) λz=>(qX z).elim,λi j _ h=>(G2 h).elim,λi _ h=>(G2 h).elim,λi _ h=>(G2 h).elim,λi h=>h.elim (λz=>(qX z).elim) λz=>(G2 z.1).elim,
  λa o h=>(nomatch h),⟨λb y h=>(nomatch h),λb o u h=>(nomatch h),λ_ _=>rfl⟩,λa z=>z.elim,λa z=>z.elim,λi h=>(G2 h).elim,⟨λi _ h=>(G2 h).elim,λj B h=>(JP h).elim⟩⟩
 ·obtain⟨j,l,q⟩:=uO e;obtain⟨v,p,r⟩:=E.rep j d q;refine⟨v,jC l p,?_⟩;unfold dP;rwa[e,l]
 ·unfold dP;split
  ·rename_i d h
   exact absurd h (e d)
  ·rfl
def vd(g:aQ)(tc:aS)(te:TU)(h:Ev):List D->List D->(List D->Prop)->Prop
 | [],c,Q=>Q c
 | x::l,c,Q=>g x h λj=>tc j λb=>Br b (te j λd=>vd g tc te h l (c++[d]) Q) (vd g tc te h l c Q)
def lB(cap:ZP)(h:mr)(g:aQ)(tc:aS)(te:TU):TU:=λc Q=>h c λd=>d.length<sizeLine/\vd g tc te (V4 cap c) d [] λj=>Q (.lst j)
structure sI(X:Cx)(cl:List Cl)(es:ZV)(u:aS):Prop where
 of ::
 run:∃t,xo X es t/\∀(G:Ent) (ρ:Ev) (σ:St) (H:Hp) (fa:AAC) (Q:Bool->Prop) (R:Bool->Hp->Prop),G.cl=cl->E3 X.K G ρ σ H fa->u ρ Q ->
  (∀b H',e6 H H'->Q b->R b H')->t σ H R
def R1:aS:=λ_ Q=>Q true
theorem C8:sI X cl [] R1:=.of ⟨_,zI,λG g d H h Q R _ E c k=>k true H (e6.refl H) c⟩
theorem df{tc:aS}(h:P0 X cl e tc):sI X cl [e] tc:=.of<|let ⟨t,p,h⟩:=h.run;⟨t,Ki p,h⟩
theorem Ww
  (hg:∀(G:Ent) (I:Ev) (σ:St) (H:Hp) (O:AAC) (v:V) (d:D) (B:ZS) (Q:Ev->Prop) (R:St->Hp->Prop),G.cl=C3 cap->E3 K G I σ H O->Rep K H v d B->(∀i,G.own i->∀a∈B,a∉O i)->g3 d I Q ->
   (∀a2 a3 al,E3 K G a3 a2 H al->(∀i,G.own i->al i=O i/\a2[i]?=σ[i]?)->(∀i,G.own i->a3[i]?=I[i]?)->Q a3->R a2 H)->g v σ H R)
  (hc:∀(G:Ent) (I:Ev) (σ:St) (H:Hp) (O:AAC) (Q:Bool->Prop) (R:Bool->Hp->Prop),G.cl=C3 cap->E3 K G I σ H O->a5 I Q->(∀b S,e6 H S->Q b->R b S)->tc σ H R)
  (he:∀(G:Ent) (I:Ev) (σ:St) (H:Hp) (O:AAC) (Q:D->Prop) (R:VK),G.cl=C3 cap->E3 K G I σ H O->a4 I Q->(∀v S d B,e6 H S->Rep K S v d B->A4 G H O B .fresh->Q d->R v S)->te σ H R)
  (E:E3 K G I σ M O) (it:aV K J xs C M) (tr:∀a∈C,M a≠none) (hn:xs.length<sizeLine) (q:vd g3 a5 a4 (V4 cap I) xs [] Q)
  (k:∀d S ds B,e6 M S->Rep K S (.ref d) (.lst ds) B->B.Nodup->(∀a∈B,M a=none)->Q ds->R (.ref d) S):UQ J g tc te (M0 cap σ) R M:=by
 intro d hd
 refine⟨λi m H=>m=xs.length-i/\i<=xs.length/\e6 M H/\∃c ds B,H d=some (.lst c)/\c.length<=i/\i8 K H c ds B/\B.Nodup/\d∉B/\(∀a∈B,M a=none)/\vd g3 a5 a4 (V4 cap I) (xs.drop i) ds Q,
  ⟨xs.length,by simp,xL _,e6.g7 hd,[],[],[],c8,sK _,.nil,uy,(by simp),(λa r=>by cases r),q⟩,?_⟩
 rintro i m H ⟨rfl,ap,s1,c,ds,B,a1,b0,rs,nB,dB,hB,q⟩;have tf:Tf M H:=⟨λb ys h=>s1 _ _ h,λb o u h=>s1 _ _ h⟩
 have kC:∀a∈C,H a=M a:=λa r=>by
  obtain⟨o,eo⟩:=Option.ne_none_iff_exists'.mp (tr a r);rw[eo];exact s1 a o eo
 by_cases T:i<xs.length
 ·right
  obtain⟨go,yl⟩:=(it H tf kC i).2 _ (nA T);rw[Fk T] at q;refine⟨go,λy H2 hy=>?_⟩;obtain⟨Y,By,rB,sB⟩:=yl y H2 hy;have E2:=(E.same (s1.trans Y)).comp cap;refine hg (X7 cap) _ _ H2 _ y _ By _ _ rfl E2 rB (λj hj=>(G2 hj).elim) q λab ac ad am _ _ q3=>hc (X7 cap) ac ab H2 ad _ _ rfl am q3 λb H3 U q4=>?_;have l:H3 d=some (.lst c):=U _ _ (Y _ _ a1)
  cases b with
  | false=>
   rw[uk ud];exact⟨xs.length-(i+1),by omega,rfl,T,(s1.trans Y).trans U,c,ds,B,l,by omega,(rs.same Y).same U,nB,dB,hB,q4.f rfl⟩
  | true=>
   rw[ux rfl];refine he (X7 cap) ac ab H3 ad _ _ rfl (am.same U) (q4.t rfl) λv H4 dv Bv s4 rv fo q5=>?_;have p:H4 d=some (.lst c):=s4 _ _ l;have an:e6 M H4:=((s1.trans Y).trans U).trans s4;have a0:d∉Bv:=λz=>by rw[fo.2 d z] at l;cases l
   have st:Y3 H4 (upd H4 d (.lst (c++[v]))):=⟨λb ys h=>by
     by_cases e:b=d
     ·subst e;rw[p] at h;cases h
     ·rw[i3 e];exact h,λb u w' h=>by
     by_cases e:b=d
     ·subst e;rw[p] at h;cases h
     ·rw[i3 e];exact h,λb h=>by
     by_cases e:b=d
     ·subst e;rw[c8] at h;cases h
     ·rw[i3 e] at h;exact h⟩
   have ao:=((rs.same Y).same U).same s4;refine⟨c,p,by omega,xs.length-(i+1),by omega,rfl,T,λb o e=>?_,c++[v],ds++[dv],B++(Bv++[]),c8,by rw[vv,BB];omega,?_,?_,?_,λa r=>?_,q5⟩
   ·rw[i3 (t9 e hd)];exact an _ _ e
   ·exact(ao.mono st λa r=>i3 λe=>dB (e▸r)).append (.cons (rv.mono st λa r=>i3 λe=>a0 (e▸r)) .nil)
   ·rw[vy];refine List.nodup_append.mpr ⟨nB,fo.1,λa r b hb e=>?_⟩;subst e;exact((rs.same Y).same U).there a r (fo.2 a hb)
   ·rw[vy];exactλz=>(List.mem_append.mp z).elim dB a0
   ·rw[vy] at r;rcases List.mem_append.mp r with z | z
    ·exact hB a z
    ·exact((s1.trans Y).trans U).free (fo.2 a z)
 ·have ei:i=xs.length:=by omega
  subst ei
  left
  rw[XM] at q;refine⟨(it H tf kC _).1 rfl,k d H ds (d::B) s1 (.lst a1 rs) (List.nodup_cons.mpr ⟨dB,nB⟩) (λa r=>?_) q⟩;rcases List.mem_cons.mp r with z | z
  ·rw[z];exact hd
  ·exact hB a z
section
variable{XN N:ZT}{XS scope:Scope}{cap:ZP}{elt target iter:Expr}{ifs:ZV}{ui:mr}{g3:aQ}{tc3:aS}{te3:TU}
theorem U7(l:Z5 XN N XS scope cap=true)(hN:X.N=XN)(hS:X.env.scope=XS)(hk:scope.kind=.function)(j:X.calm=true)(p:S0 X cl target iter f ui)
  (u:∀c h s H,Aa (A8 X N scope c h s H) (C3 cap) target g3) (y:∀c h s H,sI (A8 X N scope c h s H) (C3 cap) ifs tc3) (v:∀c h s H,PU (A8 X N scope c h s H) (C3 cap) elt .fresh te3)
  (hs:∀x,foldedSetIterable iter X.env x=pure x:=by intro _;rfl):PU X cl (.ListComp elt [⟨target,iter,ifs,0⟩] scope pos) .fresh (lB cap ui g3 tc3 te3):=.of<|by
 obtain⟨wi,T,p⟩:=p.run
 exact⟨_,OM    l hN hS hk j T
  (λc h s H=>(tt (u c h s H).run).1) (λc h s H=>(tt (y c h s H).run).1) (λc h s H=>(tt (v c h s H).run).1) hs,λG M I H fa Q R hG E Y k=>p G M I H fa _ _ hG E Y λJ H1 xs C s U tr fo q=>λc h o z=>Ww  (tt (u c h o z).run).2 (tt (y c h o z).run).2 (tt (v c h o z).run).2 (E.same s) U tr q.1 q.2 λd H2 ds B O r n1 n2 S=>k _ H2 _ B (s.trans O) r ⟨n1,λa ha=>s.free (n2 a ha)⟩ S⟩
theorem iy{j py:Pos}(S:X.N.Nodup)(v:X.N[i]?=some y)(hy:X.env.scope.names.lookup y=some .local)(O:Dm cl[i]? .fresh i=true)
  (o:Z5 XN N XS scope cap=true) (hN:X.N=XN) (hS:X.env.scope=XS) (hk:scope.kind=.function) (l:X.calm=true) (z:S0 X cl target iter f ui)
  (I:∀c h s H,Aa (A8 X N scope c h s H) (C3 cap) target g3) (Q:∀c h s H,sI (A8 X N scope c h s H) (C3 cap) ifs tc3) (M:∀c h s H,PU (A8 X N scope c h s H) (C3 cap) elt .fresh te3)
  (u:swapsWith (.ListComp elt [⟨target,iter,ifs,0⟩] scope pos) (some (.Name y py)) j.line X.env=pure true:=by rfl)
  (hs:∀x,foldedSetIterable iter X.env x=pure x:=by intro _;rfl):K3 X cl (.Assign [.Name y py] (.ListComp elt [⟨target,iter,ifs,0⟩] scope pos) j) (n9 i (lB cap ui g3 tc3 te3)):=.of<|by
 obtain⟨wi,pi,z⟩:=z.run
 exact⟨_,nG    S v hy o hN hS hk l pi
  (λc h s H=>(tt (I c h s H).run).1) (λc h s H=>(tt (Q c h s H).run).1) (λc h s H=>(tt (M c h s H).run).1) u hs,λG T ρ σ H fa R hG E hu le=>z G ρ σ H fa _ _ hG E hu λJ H1 xs C s it tr fo q=>λc h p U=>Ww  (tt (I c h p U).run).2 (tt (Q c h p U).run).2 (tt (M c h p U).run).2 (E.same s) it tr q.1 q.2 λd H2 ds B s2 r n1 n2 Y=>le.nx _ _ ⟨_,_,(E.same (s.trans s2)).set (x0 Y.1) r (hV.of (f:=.fresh) E ⟨n1,λa ha=>s.free (n2 a ha)⟩ (by rwa[hG])),Y.2⟩⟩
end
end
end L3
namespace L2
open PySem PySem.Spec PyProof.Rows
section
variable{X:Cx}
theorem ko:∀{bs:ZT} {a:ZU},Vals (bs.map V.str) a->StrsAre a bs
 | [],_,r=>by cases r;exact .nil
 | b::bs,_,r=>by
  cases r with
  | cons h t=>obtain⟨u,rfl⟩:=h;exact .cons b u (ko t)
def rJoin(K:AAD):V->List V->Hp->VK->Prop:=λx vs H Q=>∃z p a,x=.str z/\vs=[.ref p]/\G4 K H p (a.map V.str)/\(a.map (·.length)).sum+a.length*z.length<=16777216/\Q (.str (Txt.join z a)) H
theorem MB:Vn X "str.join" (rJoin X.K):=by
 intro a s j H x o v r Q I b c h;obtain⟨z,p,l,rfl,rfl,g,i,q⟩:=h;obtain⟨t,rfl⟩:=b;obtain⟨u,rfl,d⟩:=vals1 c;cases d;obtain⟨e,rv,pl,B⟩:=I.list g;exact join_list pl.isList (by simpa using ko rv) i λy k=>⟨.str _,H,I.tok _,⟨_,rfl⟩,q⟩
theorem MA:P6 X (binaryOp .Mult) (λx y H Q=>∃z n,x=.str z/\y=.int n/\MulOk z n/\Q (.str (Txt.mul z n)) H):=by
 intro a s g H x y v u Q I d c h;obtain⟨z,n,rfl,rfl,e,q⟩:=h;obtain⟨t,rfl⟩:=d;obtain⟨b,rfl⟩:=c;exact SB.mul e λb k=>⟨.str _,H,I.tok _,⟨_,rfl⟩,q⟩
end
end L2
namespace L3
open PySem PySem.Spec L2
section
variable{X:Cx}{cl:List Cl}{e a b:Expr}{es:ZV}{f:Fl}{pos:Pos}{ua ub:TU}{ma mb:TM}{fa fb:Fl}
theorem i8.strs:∀{bs:ZT} {vs:List V} {A:ZS},i8 K H vs (bs.map D.str) A->vs=bs.map V.str
 | [],_,_,r=>by cases r;rfl
 | b::bs,_,_,r=>by
  cases r with
  | cons h t=>rw[D3 h,t.strs];rfl
theorem aD(r:Rep K H v d A)(e:kindB false d=some xs):∃p vs B,v=.ref p/\G4 K H p vs/\i8 K H vs xs B/\B.Sublist A:=by
 cases d<;>first | cases e | skip
 ·obtain⟨p,vs,C,rfl,g,c,rfl⟩:=D1 r;exact⟨p,vs,C,rfl,G4.of g,c,Xb _ _⟩
 ·obtain⟨p,vs,rfl,g,c⟩:=fB r;exact⟨p,vs,A,rfl,g.sq,c,XE _⟩
noncomputable def tyName:D->Option String
 | .o6=>some "NoneType"
 | .bl _=>some "bool"
 | .int _=>some "int"
 | .str _=>some "str"
 | .lst _=>some "list"
 | .tup _=>some "tuple"
 | .dic _=>some "dict"
 | _=>none
noncomputable def JF(a T:String):Bool:=a == T||(a =="bool" && T =="int")
noncomputable def wg:List String:=["int","bool","str","list","tuple","dict"]
def PH:List D->(D->Prop)->Prop:=λc Q=>∃d a T,c=[d,.ty T]/\tyName d=some a/\wg.contains T=true/\Q (.bl (JF a T))
theorem LL (K:AAD) {a T:String} (c:["NoneType","bool","int","str","list","tuple","dict"].contains a=true) (d:wg.contains T=true):PySem.W.kitOne K (.type a) (.type T)=some (JF a T):=by
 have h:=by simpa using c
 have g:=by simpa[wg] using d
 rcases h with rfl | rfl | rfl | rfl | rfl | rfl | rfl<;>rcases g with rfl | rfl | rfl | rfl | rfl | rfl<;>first | rfl | decide +kernel
theorem Ts(r:Rep K H v d A)(e:tyName d=some n):cM K H v (.type n)/\["NoneType","bool","int","str","list","tuple","dict"].contains n=true:=by
 cases r<;>first | (cases e;done) | skip
 ·cases e;exact⟨.o6,rfl⟩
 ·cases e;exact⟨.bl _,rfl⟩
 ·cases e;exact⟨.int _,rfl⟩
 ·cases e;exact⟨.str _,rfl⟩
 ·cases e;rename_i h _;exact⟨.tup h,rfl⟩
 ·cases e;rename_i h _;exact⟨.lst h,rfl⟩
 ·cases e;rename_i h _;exact⟨.dK (.inr ⟨_,h⟩),rfl⟩
theorem Nj:Call3 X (λxs H Q=>∃x c t cv b,xs=[x,c]/\SE c=some cv/\cM X.K H x t/\PySem.W.kitOne X.K t cv=some b/\Q (.bl b) H) PH:=by
 intro H vs p A Q R r q k;obtain⟨d,n,T,rfl,e,o,q⟩:=q;obtain⟨v,w,B,C,rfl,l,j,_⟩:=r.two;cases j;obtain⟨i,g⟩:=Ts l e;exact⟨_,_,_,_,_,rfl,rfl,i,LL X.K g o,k _ H _ _ (e6.refl H) .bl uy (λ_ h=>(by cases h)) q⟩
theorem NT(h:PE X (.Name x pos) (tC (.ty T))):PU X cl (.Name x pos) .fresh (uC (.ty T)):=.of ⟨_,h,λG g d H fa Q R _ E c k=>k _ H _ _ (e6.refl H) .ty (A4.nil _) c⟩
def NB:D->D->(D->Prop)->Prop:=λd e Q=>∃(z:Str) (g:List D) (c:ZT),d=.str z/\kindB false e=some g/\g=c.map D.str/\(c.map (·.length)).sum+c.length*z.length<=16777216/\Q (.str (Txt.join z c))
theorem LH{d e:D}(i:Rep X.K H v d A)(h:Rep X.K H w e B)(q:NB d e Q)(k:∀y,Q (.str y)->R (.str y) H):rJoin X.K v [w] H R:=by
 obtain⟨z,r,c,rfl,o,rfl,l,q⟩:=q;cases D3 i;obtain⟨p,u,B,rfl,j,g,_⟩:=aD h o;cases g.strs;exact⟨z,p,c,rfl,rfl,j,l,k _ q⟩
def Jf(ua ub:TU):TU:=λc Q=>ua c λx=>isStrD x=true/\ub c λy=>NB x y Q
where isStrD
 | .str _=>true
 | _=>false
theorem CU(h:Jf.isStrD d=true):∃z,d=.str z:=by
 cases d<;>first | exact⟨_,rfl⟩ | cases h
theorem LO  (j:PU X cl a fa ua) (i:PU X cl b fb ub) (h:isStar b=false) (mk:∀{p t},PE X a p->PA X [b] t->PE X (.Call (.Attribute a "join" c) [b] [] pos) (VI X.K "str" (rJoin X.K) p t)):PU X cl (.Call (.Attribute a "join" c) [b] [] pos) .fresh (Jf ua ub):=.of<|by
 obtain⟨ta,S,j⟩:=j.run;obtain⟨tb,O,i⟩:=i.run;refine⟨_,mk S (bp O M4 h),λG o l H C Q R x E U k=>j G o l H C _ _ x E U λv H1 d A r u f1 g=>?_⟩;obtain⟨T,g⟩:=g;obtain⟨z,rfl⟩:=CU T;cases D3 u;exact⟨rfl,i G o l H1 C _ _ x (E.same r) g λw Y e B q I f2 M=>LH (u.same q) I M λy J=>k _ Y _ _ (r.trans q) .str (A4.nil _) J⟩
def Uh:D->D->(D->Prop)->Prop
 | .str z,.int n,Q=>MulOk z n/\Q (.str (Txt.mul z n))
 | _,_,_=>False
theorem PY:cy X (λx y H Q=>∃z n,x=.str z/\y=.int n/\MulOk z n/\Q (.str (Txt.mul z n)) H) Uh:=by
 intro H v w d e A B Q R g c q k;cases d<;>cases e<;>first | exact q.elim | skip
 cases D3 g;cases w6 c;exact⟨_,_,rfl,rfl,q.1,k _ H _ _ (e6.refl H) .str uy (λ_ h=>(by cases h)) q.2⟩
def VJ:D->D->(D->Prop)->Prop
 | .lst d,.lst c,Q=>x3 d=true/\x3 c=true/\d.length+c.length<=sizeLine/\Q (.lst (d++c))
 | _,_,_=>False
theorem TX:cy X QY VJ:=by
 intro H v w d e A B Q R o j q k;cases d<;>cases e<;>first | exact q.elim | skip
 obtain⟨r,vs,M,rfl,E,g,_⟩:=D1 o;obtain⟨p,i,J,rfl,C,c,_⟩:=D1 j;obtain⟨x,u,y,q⟩:=q;have I:=g.E9 x;have G:=c.E9 u;subst I;subst G;refine⟨r,p,vs,i,rfl,rfl,E,C,by rwa[g.length,c.length],λl h=>k _ _ _ [l] (e6.g7 h) (.lst c8 ((g.same (e6.g7 h)).append (c.same (e6.g7 h)))) (by simp) (λa z=>?_) q⟩;have:=by simpa using z
 rwa[this]
noncomputable def cutD(xs:List D)(lo c:Option Int):List D:=(xs.drop (HT.F0 xs.length 0 lo)).take (HT.F0 xs.length xs.length c-HT.F0 xs.length 0 lo)
abbrev Qt:=Ev->(Option Int->Prop)->Prop
structure UE(X:Cx)(cl:List Cl)(e:Option Expr)(u:Qt):Prop where
 of ::
 run:∃t,PO X e t/\∀(G:Ent) (ρ:Ev) (σ:St) (H:Hp) (fa:AAC) (Q:Option Int->Prop) (R:Option Int->Hp->Prop),G.cl=cl->E3 X.K G ρ σ H fa->u ρ Q->(∀o H',e6 H H'->Q o->R o H')->t σ H R
def nU:Qt:=λ_ Q=>Q none
def cE(u:TU):Qt:=λc Q=>u c λd=>match d with
 | .int i=>Q (some i)
 | _=>False
theorem eU:UE X cl none nU:=.of ⟨_,Jy,λG g d H fa Q R _ E c k=>k none H (e6.refl H) c⟩
theorem ah(h:PU X cl e f ua):UE X cl (some e) (cE ua):=.of<|by
 obtain⟨t,p,h⟩:=h.run;refine⟨_,Mt p,λG g c H fa Q R j E i k=>h G g c H fa _ _ j E i λv l d B s r _ q=>?_⟩;cases d<;>first | exact(q).elim | skip
 cases w6 r;exact⟨_,rfl,k _ l s q⟩
end
noncomputable def Q7:ZP->Nat->List Cl
 | [],_=>[]
 | _::r,0=>.own::C3 r
 | _::r,p+1=>.bor::Q7 r p
theorem qb{q:Nat}(h:(C3 r)[q]?=some c):c=.bor:=by
 unfold C3 at h;rw[ue] at h
 cases e:r[q]? with
 | none=>rw[e] at h;cases h
 | some o=>rw[e] at h;cases h;rfl
theorem bx:∀{cap:ZP} {p q:Nat},(Q7 cap p)[q]?=some .own->q=p
 | [],_,_,h=>by simp[Q7] at h
 | _::r,0,0,_=>rfl
 | _::r,0,q+1,h=>by
  exact nomatch qb h
 | _::r,p+1,0,h=>by rw[] at h;cases h
 | _::r,p+1,q+1,h=>by
  rw[Q7] at h;rw[bx h]
theorem rg:∀{cap:ZP} {p q:Nat},(Q7 cap p)[q]?=some .loc->False
 | [],_,_,h=>by simp[Q7] at h
 | _::r,0,0,h=>by cases h
 | _::r,0,q+1,h=>by
  exact nomatch qb h
 | _::r,p+1,0,h=>by rw[] at h;cases h
 | _::r,p+1,q+1,h=>by
  rw[Q7] at h;exact rg h
theorem zd:∀{cap:ZP} {p q:Nat} {a:Hp},(Q7 cap p)[q]?=some (.mk a)->False
 | [],_,_,_,h=>by simp[Q7] at h
 | _::r,0,0,_,h=>by cases h
 | _::r,0,q+1,_,h=>by
  exact nomatch qb h
 | _::r,p+1,0,_,h=>by rw[] at h;cases h
 | _::r,p+1,q+1,_,h=>by
  rw[Q7] at h;exact zd h
noncomputable def kZ(cap:ZP)(p:Nat):Ent:=⟨λ_=>none,λ_=>[],[],Q7 cap p,λ_=>False,λ_=>none⟩
theorem E3.Sj(E:E3 K G g σ H y)(own:G.own j)(I:cap[p]?=some (some j))(O:∀q,cap[q]?=some (some j)->q=p):E3 K (kZ cap p) (V4 cap g) (M0 cap σ) H (dP cap g y):=by
 have Q:∀a∈dP cap g y p,a∈y j:=λa c=>by
  unfold dP at c;split at c
  ·rwa[I] at c
  ·cases c
 refine⟨λi d e=>?_,λi e=>?_,by unfold V4 M0;simp,λi h=>?_,λi l n h a c=>?_,λi h=>absurd h (XT _),λi h=>absurd h (XT _),λi h a _=>rfl,
  λa o h=>(nomatch h),⟨λb T h=>(nomatch h),λb o u h=>(nomatch h),λ_ _=>rfl⟩,λa z=>z.elim,λa z=>z.elim,λi h a _ z=>z,⟨λi h=>absurd h (XT _),λj U h=>(zd h).elim⟩⟩
 ·obtain⟨x,M,S⟩:=uO e;obtain⟨v,R,r⟩:=E.rep x d S;refine⟨v,jC M R,?_⟩;unfold dP;rwa[e,M]
 ·unfold dP;split
  ·rename_i d h
   exact absurd h (e d)
  ·rfl
 ·rcases h with h | h
  ·have e:=bx h;subst e;unfold dP;split
   ·rw[I];exact E.nd j (.inl own)
   ·exact uy
  ·exact(rg h).elim
 ·have e:=bx h;subst e;have C:=Q a c;intro z;unfold dP at z;split at z
  ·split at z
   ·rename_i x B
    by_cases J:x=j
    ·subst J;exact n (O l B).symm
    ·exact E.dj j x (Ps J) own a C z
   ·cases z
  ·cases z
def nM(p j:Nat)(cap:ZP)(g:aQ)(tc:vH)(te:TM):List D->List D->Ev->(List D->Ev->Prop)->Prop
 | [],a,e,Q=>Q a e
 | x::o,a,e,Q=>g x (V4 cap e) λi=>tc i λb c=>Br b (te c λd h=>a6 p h λl=>nM p j cap g tc te o (a++[d]) (e.set j (some l)) Q) (a6 p c λl=>nM p j cap g tc te o a (e.set j (some l)) Q)
structure Kq(p j:Nat)(cap:ZP)(g:aQ)(tc:vH)(te:TM)(xs:List D)(ρ:Ev)(Q:List D->Ev->Prop):Prop where
 of ::
 ex:∃W:Nat->List D->Ev->Prop,W 0 [] ρ/\(∀i x acc ρ,xs[i]?=some x->W i acc ρ->g x (V4 cap ρ) λρ1=>tc ρ1 λb ρ2=>Br b (te ρ2 λd ρ3=>a6 p ρ3 λl=>W (i+1) (acc++[d]) (ρ.set j (some l))) (a6 p ρ2 λl=>W (i+1) acc (ρ.set j (some l))))/\∀acc ρ,W xs.length acc ρ->Q acc ρ
theorem Kq.go(h:nM p j cap g tc te xs [] b Q):Kq p j cap g tc te xs b Q:=.of ⟨λi a b=>nM p j cap g tc te (xs.drop i) a b Q,h,λi x a b e w=>by
  obtain⟨c,rfl⟩:=List.getElem?_eq_some_iff.mp e;have w:nM p j cap g tc te (xs.drop i) a b Q:=w;rwa[Fk c] at w,λa b w=>by
  have w:nM p j cap g tc te (xs.drop xs.length) a b Q:=w;rwa[XM] at w⟩
def Wo(p j:Nat)(cap:ZP)(e:Ql)(g:aQ)(tc:vH)(te:TM):TM:=λd Q=>e d λc a=>c.length<sizeLine/\a6 j a λ_=>Kq p j cap g tc te c a λh b=>Q (.lst h) b
theorem Ih(E:E3 K G J σ H g)(own:G.own j)(hp:cap[p]?=some (some j))(hj:∃d,J[j]?=some (some d))(s:e6 H M)
  (Ei:E3 K (kZ cap p) B x r u) (cf:∀a o,M a=some o->a∉g j->r a=some o) (cs:Y3 M r) (cn:∀a∈u p,a∈g j\/M a=none) (Q:(kZ cap p).own p) (O:x[p]?=(M0 cap σ)[p]?) (el:B[p]?=some (some l)) :
  E3 K G (J.set j (some l)) σ r (λq=>if q=j then u p else g q)/\R3 K G H g r (λq=>if q=j then u p else g q):=by
 obtain⟨d0,Y⟩:=hj;obtain⟨v,T,_⟩:=E.rep j d0 Y;have S:=(List.getElem?_eq_some_iff.mp Y).1;have new:=λa b=>(cn a b).imp id λy=>s.free y;have keep:=λa o h n=>cf a o (s a o h) n;have stb:=(Y3.of s).trans cs
 have ch:R3 K G H g r (λq=>if q=j then u p else g q):=by
  refine⟨λa o h n=>keep a o h (n j own),stb,λi c a b=>?_,λi c=>uk λe=>c (by rwa[e])⟩
  by_cases q:i=j
  ·subst q;rw[ux rfl] at b;exact new a b
  ·rw[uk q] at b;exact .inl b
 refine⟨E.step ch (by simp) (λi c=>AC λe=>c (by rwa[<-e])) (λi d' c e=>?_) (λi c e=>?_) (λi c=>?_) λi I n c a0 a b z=>?_,ch⟩
 ·by_cases q:i=j
  ·subst q;rw[xi S] at e;cases e;obtain⟨v',X,r1⟩:=Ei.rep p l el;rw[O,jC hp T] at X;cases X;exact⟨v,T,by rwa[ux rfl]⟩
  ·rw[AC (Ps q)] at e;obtain⟨w,e2,R⟩:=E.rep i d' e;refine⟨w,e2,?_⟩;rw[uk q];refine R.mono stb λa b=>?_;obtain⟨o,U⟩:=fw.some (R.fu a b);rw[U];exact keep a o U λz=>E.dj i j q c a b z
 ·by_cases q:i=j
  ·subst q;exact absurd (xi S) (e l)
  ·rw[uk q];exact E.emp i λd z=>e d (by rwa[AC (Ps q)])
 ·by_cases q:i=j
  ·rw[ux q];exact Ei.nd p (.inl Q)
  ·rw[uk q];exact E.nd i (.inl c)
 ·by_cases q:i=j
  ·rw[ux q] at b;have C:I≠j:=λe=>n (q.trans e.symm);rw[uk C] at z;rcases new a b with y | y
   ·exact E.dj j I (Ps C) own a y z
   ·exact E.there I z y
  ·rw[uk q] at b
   by_cases C:I=j
   ·rw[ux C] at z;rcases new a z with y | y
    ·exact E.dj i j q c a b y
    ·exact E.there i b y
   ·rw[uk C] at z;exact E.dj i I n c a b z
theorem WR
  (own:G.own j) (hp:cap[p]?=some (some j)) (hq:∀q,cap[q]?=some (some j)->q=p) (a3:(kZ cap p).own p) (bi:∃d,T[j]?=some (some d))
  (hg:∀(G:Ent) (T:Ev) (σ:St) (H:Hp) (S:AAC) (v:V) (d:D) (B:ZS) (Q:Ev->Prop) (R:St->Hp->Prop),G.cl=Q7 cap p->E3 K G T σ H S->Rep K H v d B->(∀i,G.own i->∀a∈B,a∉S i)->g3 d T Q ->
   (∀an r c,E3 K G r an H c->(∀i,G.own i->c i=S i/\an[i]?=σ[i]?)->(∀i,G.own i->r[i]?=T[i]?)->Q r->R an H)->g v σ H R)
  (hc:∀(G:Ent) (T:Ev) (σ:St) (H:Hp) (S:AAC) (Q:Bool->Ev->Prop) (R:Bool->Hp->Prop),G.cl=Q7 cap p->E3 K G T σ H S->b3 T Q->(∀b Y r c,E3 K G r σ Y c->R3 K G H S Y c->Q b r->R b Y)->tc σ H R)
  (he:∀(G:Ent) (T:Ev) (σ:St) (H:Hp) (S:AAC) (Q:D->Ev->Prop) (R:VK),G.cl=Q7 cap p->E3 K G T σ H S->b2 T Q->(∀v Y d B r c,E3 K G r σ Y c->R3 K G H S Y c->Rep K Y v d B->B.Nodup->(∀a∈B,H a=none/\∀i,a∉c i)->Q d r->R v Y)->te σ H R)
  (E:E3 K G T σ X S) (it:aV K J xs C X) (tr:∀a∈C,X a≠none) (ap:∀i,G.own i->∀a∈C,a∉S i) (hn:xs.length<sizeLine) (q:Kq p j cap g3 b3 b2 xs T Q)
  (k:∀d Y ds B r c,E3 K G r σ Y c->R3 K G X S Y c->Rep K Y (.ref d) (.lst ds) B->B.Nodup->(∀a∈B,X a=none/\∀i,a∉c i)->Q ds r->R (.ref d) Y):UQ J g tc te (M0 cap σ) R X:=by
 intro d hd;obtain⟨W,w0,step,done⟩:=q.ex;have E1:E3 K G T σ (upd X d (.lst [])) S:=E.same (e6.g7 hd)
 refine⟨λi m H=>m=xs.length-i/\i<=xs.length/\∃r c I ds B,E3 K G r σ H c/\R3 K G X S H c/\(∃d,r[j]?=some (some d))/\H d=some (.lst I)/\(∀q,d∉c q)/\I.length<=i/\i8 K H I ds B/\B.Nodup/\d∉B/\(∀a∈B,X a=none/\∀q,a∉c q)/\W i ds r,
  ⟨xs.length,by simp,xL _,T,S,[],[],[],E1,R3.same (e6.g7 hd),bi,c8,λq z=>E.there q z hd,sK _,.nil,uy,(by simp),(λa x=>by cases x),w0⟩,?_⟩
 rintro i m H ⟨rfl,ch,r,c,I,ds,B,E',c',bm,O,a1,cj,rs,nB,dB,hB,q⟩;have tf:Tf X H:=c'.stb.tf
 have kC:∀a∈C,H a=X a:=λa x=>by
  obtain⟨o,eo⟩:=Option.ne_none_iff_exists'.mp (tr a x);rw[eo];exact c'.frm a o eo λi hi=>ap i hi a x
 by_cases a4:i<xs.length
 ·right
  obtain⟨go,yl⟩:=(it H tf kC i).2 _ (nA a4);refine⟨go,λy H2 hy=>?_⟩;obtain⟨s2,By,rB,sB⟩:=yl y H2 hy;have E2:=(E'.same s2).Sj (cap:=cap) (p:=p) own hp hq
  have ad:∀a∈dP cap r c p,a∈c j:=λa x=>by
   unfold dP at x;split at x
   ·rw[hp] at x;exact x
   ·cases x
  refine hg (kZ cap p) _ _ H2 _ y _ By _ _ rfl E2 rB (λl hl a x z=>?_) (step i _ ds r (nA a4) q) λa2 b9 b0 cd k3 cf q3=>?_
  ·have e:=bx hl;subst e;exact c'.apart tr ap j own a (sB.mem x) (ad a z)
  refine hc (kZ cap p) b9 a2 H2 b0 _ _ rfl cd q3 λb H3 b8 bv E4 c4 q4=>?_;have bg:∀i,(kZ cap p).own i->i=p:=λi h=>bx h;obtain⟨d0,e0⟩:=bm
  have b7:dP cap r c p=c j:=by
   have:(V4 cap r)[p]?=some (some d0):=by
    unfold V4;rw[ue,hp];show some ((r[j]?).join)=_;rw[e0];rfl
   unfold dP;rw[this,hp]
  have f3:b0 p=c j:=(k3 p a3).1.trans b7;have b1:a2[p]?=(M0 cap σ)[p]?:=(k3 p a3).2
  have al:∀{U:Hp} {fi:AAC} {ao:Ev} {l:D},E3 K (kZ cap p) ao a2 U fi->R3 K (kZ cap p) H2 b0 U fi->ao[p]?=some (some l) ->
    E3 K G (r.set j (some l)) σ U (λq=>if q=j then fi p else c q)/\R3 K G H c U (λq=>if q=j then fi p else c q):=λ{U fi ao l} Ei ci el=>
   Ih E' own hp ⟨d0,e0⟩ s2 Ei (λa o h n=>ci.frm a o h λi hi=>by rw[bg i hi,f3];exact n) ci.stb (λa x=>by rw[<-f3];exact ci.new p a3 a x) a3 b1 el
  have lj:j<r.length:=(List.getElem?_eq_some_iff.mp e0).1
  have ac:∀{fi:AAC} {U:Hp} {X':Addr},R3 K G H c U (λq=>if q=j then fi p else c q)->H X'≠none->(∀q,X'∉c q)->∀q,X'∉(if q=j then fi p else c q):=λ{fi U X'} cc ht b4 q z=>by
   by_cases a0:q=j
   ·rcases cc.new j own X' (by rw[ux rfl];rw[ux a0] at z;exact z) with y | y
    ·exact b4 j y
    ·exact ht y
   ·rw[uk a0] at z;exact b4 q z
  cases b with
  | false=>
   rw[uk ud];obtain⟨l,el,q5⟩:=p5 (q4.f rfl);obtain⟨Eo,co⟩:=al E4 c4 el;have M:H3 d=some (.lst I):=co.frm d _ O λi _=>a1 i;refine⟨xs.length-(i+1),by omega,rfl,a4,_,_,I,ds,B,Eo,c'.trans co,⟨l,xi lj⟩,M,ac co (by rw[O];intro z;cases z) a1,by omega,?_,nB,dB,λa x=>⟨(hB a x).1,ac co (rs.there a x) (hB a x).2⟩,q5⟩
   exact rs.mono co.stb λa x=>by
    obtain⟨o,eo⟩:=fw.some (rs.fu a x);rw[eo];exact co.frm a o eo λi _=>(hB a x).2 i
  | true=>
   rw[ux rfl];refine he (kZ cap p) b8 a2 H3 bv _ _ rfl E4 (q4.t rfl) λv U dv Bv ce ab E5 c5 rv nv mv q5=>?_;obtain⟨l,el,q5⟩:=p5 q5;have c3:=c4.trans c5;obtain⟨Eo,co⟩:=al E5 c3 el;have M:U d=some (.lst I):=co.frm d _ O λi _=>a1 i;have b5:=ac co (by rw[O];intro z;cases z) a1
   have bb:i8 K U I ds B:=rs.mono co.stb λa x=>by
    obtain⟨o,eo⟩:=fw.some (rs.fu a x);rw[eo];exact co.frm a o eo λi _=>(hB a x).2 i
   have bn:∀a∈B,X a=none/\∀q,a∉(if q=j then ab p else c q):=λa x=>⟨(hB a x).1,ac co (rs.there a x) (hB a x).2⟩
   have ca:∀a,H3 a=none->H a=none:=λa h=>s2.free (c4.stb.dom a h);have a5:∀a∈Bv,H a=none:=λa x=>ca a (mv a x).1
   have c0:∀a∈Bv,∀q,a∉(if q=j then ab p else c q):=λa x q z=>by
    by_cases a0:q=j
    ·rw[ux a0] at z;exact(mv a x).2 p z
    ·rw[uk a0] at z;exact E'.there q z (a5 a x)
   have am:d∉Bv:=λz=>by rw[a5 d z] at O;cases O
   have st:Y3 U (upd U d (.lst (I++[v]))):=⟨λb ys h=>by
     by_cases e:b=d
     ·subst e;rw[M] at h;cases h
     ·rw[i3 e];exact h,λb u w' h=>by
     by_cases e:b=d
     ·subst e;rw[M] at h;cases h
     ·rw[i3 e];exact h,λb h=>by
     by_cases e:b=d
     ·subst e;rw[c8] at h;cases h
     ·rw[i3 e] at h;exact h⟩
   have Ef:E3 K G (r.set j (some l)) σ (upd U d (.lst (I++[v]))) (λq=>if q=j then ab p else c q):=Eo.away (A:=[d]) st (λa o h n=>by rw[i3 (by simpa using n)];exact h)
    (λq a x=>by
     have:a=d:=by simpa using x
     rw[this];exact b5 q)
    (λa x=>by
     have:a=d:=by simpa using x
     rw[this];exact E.stb.dom d hd)
    λa x=>by
     have:a=d:=by simpa using x
     rw[this];exact E.qR hd
   have b6:R3 K G X S (upd U d (.lst (I++[v]))) (λq=>if q=j then ab p else c q):=by
    have ct:=c'.trans co;exact⟨λa o h n=>by rw[i3 (t9 h hd)];exact ct.frm a o h n,ct.stb.trans st,ct.new,ct.bor⟩
   refine⟨I,M,by omega,xs.length-(i+1),by omega,rfl,a4,_,_,I++[v],ds++[dv],B++(Bv++[]),Ef,b6,⟨l,xi lj⟩,c8,b5,by rw[vv,BB];omega,?_,?_,?_,λa x=>?_,q5⟩
   ·exact(bb.mono st λa x=>i3 λe=>dB (e▸x)).append (.cons (rv.mono st λa x=>i3 λe=>am (e▸x)) .nil)
   ·rw[vy];refine List.nodup_append.mpr ⟨nB,nv,λa x b hb e=>?_⟩;subst e;exact rs.there a x (a5 a hb)
   ·rw[vy];exactλz=>(List.mem_append.mp z).elim dB am
   ·rw[vy] at x;rcases List.mem_append.mp x with z | z
    ·exact bn a z
    ·exact⟨c'.stb.dom a (a5 a z),c0 a z⟩
 ·have ei:i=xs.length:=by omega
  subst ei
  left
  refine⟨(it H tf kC _).1 rfl,k d H ds (d::B) r c E' c' (.lst O rs) (List.nodup_cons.mpr ⟨dB,nB⟩) (λa x=>?_) (done ds r q)⟩;rcases List.mem_cons.mp x with z | z
  ·rw[z];exact⟨hd,a1⟩
  ·exact hB a z
structure TJ(X:Cx)(cl:List Cl)(es:ZV)(u:vH):Prop where
 of ::
 run:∃t,xo X es t/\∀(G:Ent) (ρ:Ev) (σ:St) (H:Hp) (fa:AAC) (Q:Bool->Ev->Prop) (R:Bool->Hp->Prop),G.cl=cl->E3 X.K G ρ σ H fa->u ρ Q ->
  (∀b H' ρ' fa',E3 X.K G ρ' σ H' fa'->R3 X.K G H fa H' fa'->Q b ρ'->R b H')->t σ H R
section
variable{X:Cx}{cl:List Cl}{e:Expr}{pos:Pos}{XN N:ZT}{XS scope:Scope}{cap:ZP}{elt target iter:Expr}{ifs:ZV}{ui:Ql}{g3:aQ}{tc3:vH}{te3:TM}
def Si:vH:=λa Q=>Q true a
theorem Mz:TJ X cl [] Si:=.of ⟨_,zI,λG a d H c Q R _ E b k=>k true H a c E R3.refl b⟩
noncomputable def xh(cap:ZP)(p j:Nat):Bool:=(cap[p]? == some (some j))&&(List.range cap.length).all λq=>cap[q]? != some (some j)||q == p
theorem Cr(h:xh cap p j=true):cap[p]?=some (some j)/\∀q,cap[q]?=some (some j)->q=p:=by
 unfold xh at h;rw[v8] at h;refine⟨by simpa using h.1,λq e=>?_⟩;have a:=(List.getElem?_eq_some_iff.mp e).1;have:=(List.all_eq_true.mp h.2) q (List.mem_range.mpr a);rw[e] at this;simpa using this
theorem Fb{h py:Pos}(p j:Nat)(U:X.N.Nodup)(z:X.N[i]?=some y)(hy:X.env.scope.names.lookup y=some .local)(Q:iB cl[i]? i=true)(hj:cl[j]?=some .own)(h1:xh cap p j=true)(h2:(Q7 cap p)[p]?=some .own)
  (o:Z5 XN N XS scope cap=true) (hN:X.N=XN) (hS:X.env.scope=XS) (hk:scope.kind=.function) (l:X.calm=true) (I:UI X cl target iter ui)
  (M:∀c b s H,Aa (A8 X N scope c b s H) (Q7 cap p) target g3) (S:∀c b s H,TJ (A8 X N scope c b s H) (Q7 cap p) ifs tc3) (O:∀c b s H,PM (A8 X N scope c b s H) (Q7 cap p) elt te3)
  (v:swapsWith (.ListComp elt [⟨target,iter,ifs,0⟩] scope pos) (some (.Name y py)) h.line X.env=pure true:=by rfl)
  (hs:∀x,foldedSetIterable iter X.env x=pure x:=by intro _;rfl):K3 X cl (.Assign [.Name y py] (.ListComp elt [⟨target,iter,ifs,0⟩] scope pos) h) (J0 i (Wo p j cap ui g3 tc3 te3)):=.of<|by
 obtain⟨wi,pi,I⟩:=I.run;obtain⟨hp,hq⟩:=Cr h1
 refine⟨_,nG    U z hy o hN hS hk l pi
  (λc b s H=>(tt (M c b s H).run).1) (λc b s H=>(tt (S c b s H).run).1) (λc b s H=>(tt (O c b s H).run).1) v hs,λG T ρ σ H fa R Y E hu le=>?_⟩
 have own:G.own j:=by unfold Ent.own;rwa[Y]
 refine I G ρ σ H fa _ _ Y E hu λJ H1 xs C a1 a3 E1 c1 it tr ap q=>λc b u H'=>?_;obtain⟨d0,e0,q2⟩:=p5 q.2
 exact WR  own hp hq h2 ⟨d0,e0⟩ (tt (M c b u H').run).2 (tt (S c b u H').run).2 (tt (O c b u H').run).2 E1 it tr ap q.1 q2
  λd H2 ds B a0 a2 E2 c2 r n1 n2 q3=>le.nx _ _ ⟨_,_,E2.set (x0 q3.1) r (hV.new E2 E n1 (λa ha=>⟨c1.stb.dom a (n2 a ha).1,(n2 a ha).2⟩) (by rw[Y];exact iM Q)),q3.2⟩
end
end L3
namespace L2
open PySem PySem.Spec PyProof.Rows
section
variable{κ:Type}[DecidableEq κ]
noncomputable def aR(kvs:List (κ×V))(k:κ):Option V:=(kvs.find? λa=>decide (a.1=k)).map (·.2)
noncomputable def putK(kvs:List (κ×V))(k:κ)(v:V):List (κ×V):=
 if (kvs.any λa=>decide (a.1=k))=true then kvs.map (λa=>if a.1=k then(a.1,v) else a) else kvs++[(k,v)]
noncomputable def ND(kvs:List (κ×V))(k:κ):List (κ×V):=kvs.filter λa=>decide (a.1≠k)
theorem eD{k:κ}(e:p.1=k):aR (p::r) k=some p.2:=by simp[aR,e]
theorem aZ{k:κ}(e:¬p.1=k):aR (p::r) k=aR r k:=by simp[aR,e]
theorem sX(k:κ):∀kvs:List (κ×V),(kvs.any λa=>decide (a.1=k))=(aR kvs k).isSome
 | []=>rfl
 | p::r=>by
  rw[Xi]
  by_cases e:p.1=k
  ·simp[eD e,v1 e]
  ·rw[aZ e,wl e];exact sX k r
theorem G3(kvs:List (κ×V))(k:κ)(v:V):(putK kvs k v).length<=kvs.length+1:=by
 unfold putK;split
 ·rw[dL];omega
 ·rw[vv,wP,XU];omega
theorem dS.X9(r:dS o u):o.isSome=u.isSome:=by
 cases o with
 | none=>cases u with
  | none=>rfl
  | some _=>exact(r).elim
 | some _=>cases u with
  | none=>exact(r).elim
  | some _=>rfl
theorem dS.getD(r:dS o u)(a:RelV d d'):RelV (o.getD d) (u.getD d'):=by
 cases o with
 | none=>cases u with
  | none=>exact a
  | some _=>exact(r).elim
 | some _=>cases u with
  | none=>exact(r).elim
  | some _=>exact r
theorem KV.val(r:KV kvs vs)(k:κ):dS (aR kvs k) (valueAt vs k):=by
 induction r with
 | nil=>exact True.intro
 | @cons p q j a h t g=>
  obtain⟨d,i⟩:=h
  by_cases e:p.1=k
  ·have c:=d.symm.trans e;have b:valueAt (q::a) k=some q.2:=by simp[valueAt,c]
   rwa[eD e,b]
  ·have c:¬q.1=k:=λz=>e (d.trans z);have b:valueAt (q::a) k=valueAt a k:=by simp[valueAt,c]
   rwa[aZ e,b]
theorem KV.any(r:KV kvs vs)(k:κ):(kvs.any λa=>decide (a.1=k))=vs.any λa=>decide (a.1=k):=by
 induction r with
 | nil=>rfl
 | cons h t b=>rw[Xi,Xi,b,h.1]
theorem KV.BH(r:KV kvs vs)(k:κ)(c:RelV y u) :
  KV (kvs.map λa=>if a.1=k then(a.1,y) else a) (vs.map λa=>if a.1=k then(a.1,u) else a):=by
 induction r with
 | nil=>exact .nil
 | @cons p q j i h t d=>
  rw[vc,vc];refine .cons ?_ d;obtain⟨b,g⟩:=h
  by_cases e:p.1=k
  ·rw[ux e,ux (b.symm.trans e)];exact⟨b,c⟩
  ·rw[uk e,uk (λz=>e (b.trans z))];exact⟨b,g⟩
theorem KV.put(r:KV kvs vs)(k:κ)(a:RelV y u):KV (putK kvs k y) (stored vs k u):=by
 unfold putK stored;rw[r.any k]
 by_cases e:(vs.any λb=>decide (b.1=k))=true
 ·rw[ux e,ux e];exact r.BH k a
 ·rw[uk e,uk e];exact Paired.snoc r ⟨rfl,a⟩
theorem KV.drop(r:KV kvs vs)(k:κ):KV (ND kvs k) (without vs k):=by
 unfold ND without
 induction r with
 | nil=>exact .nil
 | @cons p q l j h t d=>
  obtain⟨c,g⟩:=h;rw[Re,Re]
  by_cases e:p.1=k
  ·have a:¬decide (p.1≠k)=true:=by simp[e]
   have b:¬decide (q.1≠k)=true:=by simp[c.symm.trans e]
   rwa[uk a,uk b]
  ·have i:¬q.1=k:=λz=>e (c.trans z);have a:decide (p.1≠k)=true:=by simp[e]
   have b:decide (q.1≠k)=true:=by simp[i]
   rw[ux a,ux b];exact .cons ⟨c,g⟩ d
theorem KV.keys{vs:List (κ×Value)}(r:KV kvs vs):kvs.map (·.1)=vs.map (·.1):=by
 induction r with
 | nil=>rfl
 | cons h t a=>rw[vc,vc,a,h.1]
theorem KV.length{vs:List (κ×Value)}(r:KV kvs vs):kvs.length=vs.length:=Zv r
end
theorem aL(r:RelV (kV k) u):(j6 P w).is k u=true:=by
 cases k with
 | inl i=>obtain⟨t,e⟩:=(r);subst e;exact tO P w i t
 | inr x=>obtain⟨t,e⟩:=(r);subst e;exact vz P w x t
theorem mU:∀{a:List Key} {b:ZU},Vals (a.map kV) b->ItemsAre (j6 P w) a b
 | [],_,r=>by cases r;exact .nil
 | k::a,_,r=>by
  cases r with
  | cons h t=>exact .cons (aL h) (mU t)
abbrev KT(H:Hp):List (List Key×V)->List (List Key×Addr×Value)->Prop:=Paired λp q=>p.1=q.1/\H q.2.1=some (.tup (p.1.map kV))/\RelV p.2 q.2.2
theorem KT.val(r:KT H kvs xs)(k:List Key):dS (aR kvs k) ((atKey xs k).map (·.2)):=by
 induction r with
 | nil=>exact True.intro
 | @cons p q j a h t g=>
  obtain⟨d,_,i⟩:=h
  by_cases e:p.1=k
  ·have c:=d.symm.trans e;have b:atKey (q::a) k=some q.2:=by simp[atKey,c]
   rwa[eD e,b]
  ·have c:¬q.1=k:=λz=>e (d.trans z);have b:atKey (q::a) k=atKey a k:=by simp[atKey,c]
   rwa[aZ e,b]
theorem KT.BH(r:KT H kvs xs)(k:List Key)(d:RelV y u) :
  KT H (kvs.map λb=>if b.1=k then(b.1,y) else b) (xs.map (putAt k u)):=by
 induction r with
 | nil=>exact .nil
 | @cons p q l j h t g=>
  rw[vc];refine .cons ?_ g;obtain⟨a,c,i⟩:=h;unfold putAt
  by_cases e:p.1=k
  ·rw[ux e,ux (a.symm.trans e)];exact⟨a,c,d⟩
  ·rw[uk e,uk (λz=>e (a.trans z))];exact⟨a,c,i⟩
theorem KT.put(r:KT H kvs xs)(k:List Key)(d:H b=some (.tup (k.map kV)))(a:RelV y u) :
  KT H (putK kvs k y) (storedH xs k b u):=by
 have e:(kvs.any λc=>decide (c.1=k))=(atKey xs k).isSome:=by
  rw[sX,(r.val k).X9,Yx]
 unfold putK storedH;rw[e]
 by_cases q:(atKey xs k).isSome=true
 ·rw[ux q,ux q];exact r.BH k a
 ·rw[uk q,uk q];exact Paired.snoc r ⟨rfl,d,a⟩
theorem KT.keeps(r:KT H kvs xs)(c:∀b ys,H b=some (.tup ys)->a b=some (.tup ys)):KT a kvs xs:=
 Paired.Px r λ_ _ z=>⟨z.1,c _ _ z.2.1,z.2.2⟩
section
variable{P:Program}{w:World}{H:Hp}{h:Heap}{a:Addr}
theorem TH(ok:cG P w H h)(e:Rd H a u):u9 P w H h a u:=e.ok ok
def Oz(H:Hp)(a:Addr)(kvs:List (Key×V)):Prop:=Rd H a (.dK kvs)\/∃b,H a=some (.dE kvs b)
theorem Oz.of(r:Dd H a kvs):Oz H a kvs:=r.elim (λh=>.inl (.inl h)) .inr
theorem Oz.ok(r:Oz H a kvs)(x:cG P w H h):u9 P w H h a (.dK kvs):=r.elim (λh=>h.ok x) λh=>(show Dd H a kvs from .inr h).ok x
theorem cB(ok:cG P w H h)(e:Oz H a kvs):kvs.length<=sizeLine/\(a == sysModules)=false/\∃vs,KV kvs vs/\h.DictOf (j6 P w) a vs:=
 e.ok ok
theorem zm(ok:cG P w H h)(e:H a=some (.dK kvs)):kvs.length<=sizeLine/\(a == sysModules)=false/\∃vs,KV kvs vs/\h.DictOf (j6 P w) a vs:=cB ok (.inl (.inl e))
theorem fY(ok:cG P w H h)(e:H a=some (.tup (b.map kV))):(tupleKind (j6 P w)).is h b a:=by
 obtain⟨_,c,r,o,i,g,n,d⟩:=(ok a _ e)
 exact⟨o,c.toArray,n,i,g,d,by simpa using mU r⟩
theorem jL(ok:cG P w H h)(e:Rd H a (.dT kvs)):kvs.length<=sizeLine/\(a == sysModules)=false /\
  ∃xs,KT H kvs xs/\h.DictOfH (tupleKind (j6 P w)) a xs:=by
 obtain⟨z,y,xs,r,o,B,C,v,u,j,i,g⟩:=(TH ok e)
 refine⟨z,y,xs,r,o,B,C,v,u,j,i,λx b=>?_,g⟩
 have all:∀{l:List (List Key×V)} {m:List (List Key×Addr×Value)},KT H l m->∀x∈m,(tupleKind (j6 P w)).is h x.1 x.2.1:=by
  intro l m q
  induction q with
  | nil=>intro x b;exact nomatch b
  | @cons p q G E c t d=>
   intro x b;rcases List.mem_cons.mp b with e | b
   ·subst e;exact fY ok (by rw[<-c.1];exact c.2.1)
   ·exact d x b
 exact all r x b
theorem Sd(ok:cG P w H h)(e:H a=some (.dT kvs)):kvs.length<=sizeLine/\(a == sysModules)=false /\
  ∃xs,KT H kvs xs/\h.DictOfH (tupleKind (j6 P w)) a xs:=jL ok (.inl e)
end
def av(H:Hp)(a:Addr)(y:V)(r:Option V):Prop:=
 (∃c k,Oz H a c/\y=kV k/\r=aR c k)\/∃c k b,Rd H a (.dT c)/\y=.ref b/\H b=some (.tup (k.map kV))/\r=aR c k
def oY(H:Hp)(a:Addr)(y v:V)(d:Hp):Prop:=
 (∃c k,Dd H a c/\y=kV k/\c.length<sizeLine/\d=upd H a (.dK (putK c k v))) \/
 ∃c k b,H a=some (.dT c)/\y=.ref b/\H b=some (.tup (k.map kV))/\c.length<sizeLine/\d=upd H a (.dT (putK c k v))
theorem av.k{k:Key}(e:Dd H a kvs):av H a (kV k) (aR kvs k):=.inl ⟨kvs,k,.of e,rfl,rfl⟩
theorem av.t{k:List Key}(e:H a=some (.dT kvs))(c:H b=some (.tup (k.map kV))):av H a (.ref b) (aR kvs k):=.inr ⟨kvs,k,b,.inl e,rfl,c,rfl⟩
theorem oY.k{k:Key}(e:Dd H a kvs)(b:kvs.length<sizeLine):oY H a (kV k) v (upd H a (.dK (putK kvs k v))):=.inl ⟨kvs,k,e,rfl,b,rfl⟩
theorem oY.t{k:List Key}(e:H a=some (.dT kvs))(d:H b=some (.tup (k.map kV)))(c:kvs.length<sizeLine) :
  oY H a (.ref b) v (upd H a (.dT (putK kvs k v))):=.inr ⟨kvs,k,b,e,rfl,d,c,rfl⟩
section
variable{X:Cx}{pins:ZO}{σ:St}{H:Hp}{s:Shared}{a:Addr}{y v:V}{u r:Value}{o:Option V}{A:Around}{E:AAB}
theorem Inv.big(I:Inv X pins σ H s):sysModules<s.heap.objs.size:=by
 have h:=(I.mod.glob.keeps I.bk).lt;exact Nat.lt_trans (by decide) h
theorem oz{Q:AAB}(M:A.units+1<cLine)(I:Inv X pins σ H s)(g:av H a y (some v))(G:RelV y u)(h:∀i C,Inv X pins σ H C->RelV v i->Q i C) :
  wpAny (model X.prog X.w) A (getItem (.ref a) u) Q E s:=by
 rcases g with⟨j,k,e,x,l⟩ | ⟨j,k,b,e,x,R,l⟩
 ·subst x;obtain⟨z,hd,vs,d,B⟩:=cB I.hok e;obtain⟨i,hw,c⟩:=dS.some_of   (by rw[l];exact d.val k);exact wpAny_getItem_of (aL G) B.mapOf hw (h i _ (I.tok _) c)
 ·subst x;cases(G);obtain⟨z,hd,J,d,B⟩:=jL I.hok e;obtain⟨i,hw,c⟩:=dS.some_of   (by rw[l];exact d.val k);obtain⟨p,O,q⟩:=Option.map_eq_some_iff.mp hw;refine wpAny_getItem_heap (Yh M) (fY I.hok R) B O ?_;rw[q];exact h i _ (I.tok _) c
theorem Vo{Q:AAB}(B:A.units+1<cLine)(I:Inv X pins σ H s)(g:av H a y o)(x:RelV y u)(h:∀p,Inv X pins σ H p->Q (.bool o.isSome) p) :
  wpAny (model X.prog X.w) A (compareOp .In u (.ref a)) Q E s:=by
 rcases g with⟨d,k,e,i,l⟩ | ⟨d,k,b,e,i,C,l⟩
 ·subst i;obtain⟨z,hd,vs,c,j⟩:=cB I.hok e;refine wpAny_in_of (aL x) hd j.mapOf ?_;rw[<-(c.val k).X9,<-l];exact h _ (I.tok _)
 ·subst i;cases(x);obtain⟨z,hd,G,c,j⟩:=jL I.hok e;refine wpAny_in_heap (Yh B) (fY I.hok C) hd j ?_;have q:=(c.val k).X9;rw[Yx] at q;rw[<-q,<-l];exact h _ (I.tok _)
theorem MP{Q:AAB}(B:A.units+1<cLine)(I:Inv X pins σ H s)(g:av H a y o)(x:RelV y u)(h:∀p,Inv X pins σ H p->Q (.bool (!o.isSome)) p) :
  wpAny (model X.prog X.w) A (compareOp .NotIn u (.ref a)) Q E s:=by
 rcases g with⟨d,k,e,i,l⟩ | ⟨d,k,b,e,i,C,l⟩
 ·subst i;obtain⟨z,hd,vs,c,j⟩:=cB I.hok e;refine wpAny_notIn_of (aL x) hd j.mapOf ?_;rw[<-(c.val k).X9,<-l];exact h _ (I.tok _)
 ·subst i;cases(x);obtain⟨z,hd,G,c,j⟩:=jL I.hok e;refine wpAny_notIn_heap (Yh B) (fY I.hok C) hd j ?_;have q:=(c.val k).X9;rw[Yx] at q;rw[<-q,<-l];exact h _ (I.tok _)
theorem bY(I:Inv X pins σ H s)(c:fw (H a))(d:Heap.SameBut a s.heap h')(g:∃q,h'.get? a=some q)(new:u9 X.prog X.w (upd H a ob) h' a ob) :
  Inv X pins σ (upd H a ob) { s with heap:=h',toks:=t' }:=
 I.write   c (.inl rfl) (λb q h z=>(d.2 b h).trans z) g new
theorem kE(z:kvs.length<=sizeLine)(hd:(a == sysModules)=false)(b:KV kvs vs)(c:h'.DictOf (j6 P w) a vs) :
  u9 P w d h' a (.dK kvs):=⟨z,hd,vs,b,c⟩
theorem Inv.Fd(I:Inv X pins σ H s)(e:H a=some (.dK kvs)):∃ep,Inv X pins σ (upd H a (.dE kvs ep)) s:=by
 obtain⟨z,hd,vs,c,d⟩:=zm I.hok e;obtain⟨ep,h⟩:=d.dictAt;exact⟨ep,I.write      (by rw[e];exact True.intro) (.inl rfl) (λb q i z=>z) (let ⟨q,_,_,g,_⟩:=d;⟨q,g⟩) ⟨z,hd,vs,c,h⟩⟩
theorem oj(hu:A.units+1<cLine)(I:Inv X pins σ H s)(g:oY H a y v Y)(R:RelV y u)(rv:RelV v r)(h:∀O,Inv X pins σ Y O->Q () O) :
  wpAny (model X.prog X.w) A (setItem (.ref a) u r) Q E s:=by
 rcases g with⟨i,k,e,G,l,J⟩ | ⟨i,k,b,e,G,U,l,J⟩
 ·subst G J;obtain⟨z,hd,vs,d,M⟩:=cB I.hok (.of e);have x:vs.length<=sizeLine:=by rwa[<-d.length]
  have C:(putK i k v).length<=sizeLine:=by have:=G3 i k v;omega
  refine wpAny_setItem_pairs  (aL R) M λS j B=>h _ ?_;have he:∃q,S.get? a=some q:=let ⟨q,_,_,p,_⟩:=j;⟨q,p⟩;exact bY I e.mut B he (kE C hd (d.put k rv) j)
 ·subst G J;cases(R);obtain⟨z,hd,xs,d,M⟩:=Sd I.hok e;have x:xs.length<=sizeLine:=by rwa[<-Zv d]
  have C:(putK i k v).length<=sizeLine:=by have:=G3 i k v;omega
  refine wpAny_setItem_heap  (Yh hu) (fY I.hok U) M λS j B=>h _ ?_;obtain⟨q,es,ep,p,h2,h3,h4,_,h5⟩:=j;refine bY I (by rw[e];exact True.intro) B ⟨q,p⟩ ⟨C,hd,_,(d.put k U rv).keeps λc ys T=>?_,q,es,ep,p,h2,h3,h4,h5⟩;rwa[i3 (qJ T e (λz=>nomatch z))]
end
section
variable{X:Cx}{pins:ZO}{σ:St}{H:Hp}{s:Shared}{a:Addr}{kvs:List (Key×V)}{k:Key}{u:Value}{A:Around}{E:AAB}
end
theorem tD{σ:St}(I:Inv X pins σ H s)(g:av H a y o):s.TypeIs (.ref a) "dict":=by
 rcases g with⟨c,k,e,_,_⟩ | ⟨c,k,b,e,_,_,_⟩
 ·obtain⟨_,_,vs,_,d⟩:=cB I.hok e;exact d.typeIs
 ·obtain⟨_,_,h,_,d⟩:=jL I.hok e;exact d.typeIs
def SR(e ty d:TE):TS:=λD b H=>d b H λv i=>e b i λx h=>ty b h λy g=>∃a c,x=.ref a/\oY g a y v c/\D.nx b c
def Ud(h ty g:TE)(i:V->V->Hp->VK->Prop):TS:=λD b H=>h b H λx o=>ty b o λy d=>∃a v,x=.ref a/\av d a y (some v) /\
 g b d λe l=>i v e l λz j=>∃c,oY j a y z c/\D.nx b c
section
variable{X:Cx}{o i e value:Expr}{pos pos' tpos:Pos}{td ty tv:TE}
theorem LF(E:X.A.units+1<cLine)(J:PE X o td)(M:PE X i ty)(C:PE X value tv)(G:swapsWith value (some (.Subscript o i pos')) pos.line X.env=pure false) :
  PS X (.Assign [.Subscript o i pos'] value pos) (SR td ty tv):=by
 refine .of ?_;intro b s c H D I h;refine wpAny_Assign_Subscript (w5 (C b s c H _ I h) λr j ⟨v,Y,S,rv,B⟩=>w5 (J b j c Y _ S B) λu d ⟨x,U,R,p,z⟩=>w5 (M b d c U _ R z) λiv s3 ⟨y,H3,Q,l,a,T,ex,g,q⟩=>?_) G;subst ex;obtain rfl:u=Value.ref a:=p;exact oj E Q g l rv λs4 O=>⟨c,T,O,q⟩
theorem Mg(E:X.A.units+1<cLine)(ho:PE X o td)(hi:PE X i ty)(hv:PE X value tv)(q:VG X C B)
  (ha:∀j d new,augStore i j d new=(do holding [new,j,d] (setItem j d new);release [new,j,d] [];pure .next)):PS X (.AugAssign (.Subscript o i tpos) C value pos) (Ud td ty tv B):=by
 refine .of ?_;intro b s c H D I h;refine wpAny_AugAssign_SubscriptAny (w5 (ho b s c H _ I h) λu R ⟨x,H1,I1,T,q1⟩=>w5 (hi b R c H1 _ I1 q1) λd s2 ⟨y,H2,I2,r,a,v,ex,g,q2⟩=>?_) ha;subst ex;obtain rfl:u=Value.ref a:=T;exact oz E I2 g r λM Q I3 p=>w5 (hv b Q c H2 _ I3 q2) λJ O ⟨G,H3,I4,l,Y⟩=>w5 (q b O c H3 v G M J _ I4 p l Y) λw3 s5 ⟨z,H4,I5,S,H5,g5,U⟩=>oj E I5 g5 r S λs6 I6=>⟨c,H5,I6,U⟩
end
theorem bh(h:Heap)(a:sysModules<h.objs.size):u9 P w H (h.push { cls:=.type "dict",data:=.dict #[] }) h.objs.size (.dK []):=
 ⟨xL _,beq_eq_false_iff_ne.mpr (Ps (v6 a)),[],.nil,Heap.DictOf.new h⟩
def OL:TE:=λ_ H Q=>∀p,H p=none->Q (.ref p) (upd H p (.dK []))
section
variable{X:Cx}{pos:Pos}
theorem DO:PE X (.Dict [] [] pos) OL:=.of <| λb s c H Q I h=>
 wpAny_Dict_empty ⟨.ref s.heap.objs.size,_,I.laid    (λ_ _ q=>hD _ q) (sK _) (bh s.heap I.big),rfl,h _ (I.hok.fresh (sK _))⟩
end
def yh:List (TE×TE)->St->Hp->(List (V×V)->Hp->Prop)->Prop
 | [],_,H,Q=>Q [] H
 | (tk,b)::r,a,H,Q=>tk a H λx g=>b a g λy e=>yh r a e λc d=>Q ((x,y)::c) d
abbrev VV:List (V×V)->List (Value×Value)->Prop:=Paired λp q=>RelV p.1 q.1/\RelV p.2 q.2
def UB(X:Cx)(e:Pos)(keys:List (Option Expr))(a:ZV)(d:List (TE×TE)):Prop:=
 ∀(b:ZO) (s:Shared) (c:St) (H:Hp) (Q:List (V×V)->Hp->Prop),Inv X b c H s->yh d c H Q ->
  wpAny (model X.prog X.w) X.A (evalPairs (pairTrees keys a X.env e)) (λvs i=>∃g h,Inv X b c h i/\VV g vs/\Q g h) X.xe s
theorem KS:UB X a [] [] []:=λb s c H Q I h=>pairTrees_nil_walk ⟨[],H,I,.nil,h⟩
theorem FV(G:PE X k tk)(C:PE X v g)(E:UB X c i vs b) :
  UB X c (some k::i) (v::vs) ((tk,g)::b):=λa s d H Q I h=>
 pairTrees_cons_walk (w5 (G a s d H _ I h) λu l ⟨x,T,O,p,z⟩=>w5 (C a l d T _ O z) λY j ⟨y,S,M,o,r⟩=>
  w5 (E a j d S _ M r) λU s3 ⟨B,R,J,e,q⟩=>⟨(x,y)::B,R,J,.cons ⟨p,o⟩ e,q⟩)
noncomputable def B3(kvs more:List (Key×V)):List (Key×V):=more.foldl (λa b=>putK a b.1 b.2) kvs
theorem KV.merge:∀{more:List (Key×V)} {rs:List (Key×Value)} {kvs:List (Key×V)} {vs:List (Key×Value)},KV more rs->KV kvs vs->KV (B3 kvs more) (merged vs rs):=by
 intro more rs kvs vs r;induction r generalizing kvs vs with
 | nil=>intro q;exact q
 | @cons p q d c h t b=>
  intro a
  have e:KV (putK kvs p.1 p.2) (stored vs q.1 q.2):=by
   have:=a.put p.1 h.2;rwa[<-h.1]
  exact b e
theorem X1:∀(more kvs:List (Key×V)),(B3 kvs more).length<=kvs.length+more.length
 | [],kvs=>by show kvs.length<=kvs.length+0;omega
 | p::r,kvs=>by
  have b:=X1 r (putK kvs p.1 p.2);have a:=G3 kvs p.1 p.2;show(B3 (putK kvs p.1 p.2) r).length<=_;rw[wP];omega
theorem jf:∀{kvs:List (Key×V)} {d:List (Value×Value)},VV (kvs.map λe=>(kV e.1,e.2)) d->∃rs,Carries (j6 P w) d rs/\KV kvs rs
 | [],_,r=>by cases r;exact⟨[],True.intro,.nil⟩
 | p::kvs,_,r=>by
  cases r with
  | @cons a b j bs h t=>
   obtain⟨rs,c,q⟩:=jf   t;obtain⟨i,g⟩:=b;exact⟨(p.1,g)::rs,⟨aL h.1,rfl,c⟩,.cons ⟨rfl,h.2⟩ q⟩
def Tb(b:List (TE×TE)):TE:=λe H Q=>∀p,H p=none->yh b e (upd H p (.dK [])) λg d=>d p=some (.dK [])/\∃a:List (Key×V),g=a.map (λc=>(kV c.1,c.2))/\a.length<=15/\Q (.ref p) (upd d p (.dK (B3 [] a)))
theorem MK(h:UB X g keys b d)(l:keys.all (·.isSome)=true)(S:keys.length=b.length)(Y:keys≠[])
  (u:keys.length<=15):PE X (.Dict keys b g) (Tb d):=by
 refine .of ?_;intro i s x H Q I q;have R:=I.hok.fresh (sK s.heap.objs.size);have I1:=I.laid    (t':=s.toks) (λ_ _ q=>hD _ q) (sK _) (bh s.heap I.big);refine wpAny_Dict_walk (knd:=j6 X.prog X.w) l S Y u (w5 (h i _ x _ _ I1 (q _ R)) λws s2 ⟨ps,H2,v,r,e,j,ep,lk,G⟩=>?_);subst ep;obtain⟨B,c,C⟩:=jf   r;obtain⟨z,hd,y,E,dd⟩:=zm v.hok e;cases E;refine⟨B,c,dd,λh' p M=>⟨.ref s.heap.objs.size,_,?_,rfl,G⟩⟩
 have J:(B3 [] j).length<=sizeLine:=by
  have U:=X1 j [];rw[XU] at U;rw[Uf];omega
 have T:∃q,h'.get? s.heap.objs.size=some q:=let ⟨q,_,_,O,_⟩:=p;⟨q,O⟩;exact bY v (by rw[e];exact True.intro) M T (kE J hd (C.merge .nil) p)
structure M2(X:Cx)(o:Expr)(m:Str)(apos:Pos)(e f:Expr)(cpos:Pos):Prop where
 base:attributeBase o m X.env (eval o X.env)=eval o X.env
 few:((backTo cpos (starEach [e,f] X.env)).all (λx=>!x.1)&&(backToKw cpos (keywordEach [] X.env)).all (λx=>x.1.isSome)
  && decide (([e,f]:ZV).length+([]:List Keyword).length+(if ([]:List Keyword).isEmpty then 0 else 1)<30))=true
 line:(apos.endLine == cpos.line)=true
 trees:backTo cpos (starEach [e,f] X.env)=[(false,eval e X.env),(false,eval f X.env)]
def WA(H:Hp)(a:Addr):Prop:=(∃b,Oz H a b)\/∃b,Rd H a (.dT b)
theorem QU{σ:St}(I:Inv X pins σ H s)(d:WA H a) :
  s.TypeIs (.ref a) "dict" /\ (∀b,Value.ref a=.ref b->∃ob,s.heap.get? b=some ob/\ob.dict=none)/\(a == sysModules)=false:=by
 rcases d with⟨g,e⟩ | ⟨g,e⟩
 ·obtain⟨_,hd,vs,_,c⟩:=cB I.hok e;refine⟨c.typeIs,λb q=>?_,hd⟩;cases q;obtain⟨ob,_,_,i,h,_⟩:=c;exact⟨ob,i,h.2.1⟩
 ·obtain⟨_,hd,j,_,c⟩:=jL I.hok e;refine⟨c.typeIs,λb q=>?_,hd⟩;cases q;obtain⟨ob,_,_,i,h,_⟩:=c;exact⟨ob,i,h.2.1⟩
section
variable{X:Cx}{pins:ZO}{σ:St}{H:Hp}{s:Shared}{a:Addr}{y d:V}{u r:Value}{o:Option V}{A:Around}{E:AAB}
theorem Qc{Q:AAB}(G:A.units+1<cLine)(I:Inv X pins σ H s)(g:av H a y o)(x:RelV y u)(B:RelV d r)(h:∀q v,Inv X pins σ H v->RelV (o.getD d) q->Q q v) :
  wpAny (model X.prog X.w) A (call (.builtin "dict.get") [.ref a,u,r]) Q E s:=by
 rcases g with⟨j,k,e,p,l⟩ | ⟨j,k,b,e,p,J,l⟩
 ·subst p;obtain⟨z,hd,vs,c,i⟩:=cB I.hok e;refine ZJ Xe i.typeIs XZ (XW _ _ _) (Zb (j6 X.prog X.w) a (aL x) hd r) ⟨_,i.mapOf,h _ _ (I.tok _) ?_⟩;rw[l];exact(c.val k).getD B
 ·subst p;cases(x);obtain⟨z,hd,C,c,i⟩:=jL I.hok e;refine ZJ Xe i.typeIs XZ (XW _ _ _) (meetsH_dict_get_default (tupleKind (j6 X.prog X.w)) a b hd r) ⟨Yh G,k,C,fY I.hok J,i,h _ _ (I.tok _) ?_⟩;rw[l];exact(c.val k).getD B
end
section
variable{X:Cx}{o e f:Expr}{apos cpos:Pos}{td ty tx:TE}
end
section
variable{X:Cx}{pins:ZO}{σ:St}{H:Hp}{s:Shared}{a:Addr}{kvs:List (Key×V)}{A:Around}{E:AAB}
end
section
variable{X:Cx}{pins:ZO}{σ:St}{H:Hp}{s:Shared}{a:Addr}{y:V}{u:Value}{A:Around}{E:AAB}
end
section
variable{X:Cx}
end
section
variable{κ:Type}[DecidableEq κ]
end
theorem Pw{h:Heap}{f:Key->AAE}(m:h.MapOf (j6 P w) a f):h.MapOf (aU P w) a (λk=>k.bind f):=by
 obtain⟨o,d,u,r,p,l,g,j⟩:=m;refine⟨o,d,u,r,p,l,λe c=>?_,λk=>?_⟩
 ·obtain⟨k,b,v⟩:=g e c;exact⟨some k,b,v⟩
 ·cases k with
  | some k=>exact j k
  | none=>
   have no:∀e∈d,km none e.key=false:=λe c=>by
    cases q:km none e.key with
    | false=>rfl
    | true=>
     obtain⟨k,b,_⟩:=g e c;rw[B8 q] at b;rcases o8 (b) with⟨i,t,_,e⟩ | ⟨x,t,_,e⟩<;>cases e
   unfold findBy;simp;exact no
def Dx(H:Hp)(a:Addr)(y:V)(r:Option V):Prop:=av H a y r\/(y=.o6/\(∃b,Dd H a b)/\r=none)
def KG(g ty e:TE):TE:=λb H Q=>g b H λx d=>∃a,x=.ref a/\WA d a/\ty b d λy h=>e b h λz c=>∃o,Dx c a y o/\Q (o.getD z) c
theorem CY     (hu:X.A.units+1<cLine) (ho:PE X o r) (he:PE X e ty) (hf:PE X f q) (m:M2 X o "get" i e f c):PE X (.Call (.Attribute o "get" i) [e,f] [] c) (KG r ty q):=by
 refine .of ?_;intro b s j H Q I h;refine wpAny_Call_method m.base m.few m.line PySem.F.plainAttrs_dict Xe PySem.F.type_dict_get (w5 (ho b s j H _ I h) λu S ⟨x,H1,G,T,a,ex,d,q1⟩=>?_);subst ex;obtain rfl:u=Value.ref a:=T;obtain⟨O,M,_⟩:=QU G d;refine⟨O,M,?_⟩;rw[m.trees]
 refine Yl rfl (Zo (Yi (w5 (he b S j H1 _ G q1) λiv R ⟨y,H2,I2,B,Y⟩=>
  Yi (w5 (hf b R j H2 _ I2 Y) λfv s3 ⟨z,J,p,v,ov,g,C⟩=>ZM ?_))))
 rcases g with g | ⟨rfl,⟨a0,hk⟩,rfl⟩
 ·exact Qc hu p g B v λw' s4 I4 l=>⟨_,J,I4,l,C⟩
 ·cases B;obtain⟨zz,hd,vs,U,E⟩:=cB p.hok (.of hk);refine ZJ Xe E.typeIs XZ (XW _ _ _) (Zb (aU X.prog X.w) (k:=none) a (by rfl) hd fv) ⟨_,Pw E.mapOf,⟨_,J,p.tok _,v,C⟩⟩
def RO(Q:VK):VK:=λv b=>∃p a,v=.ref p/\b p=some (.dK a)/\∀c,Q v (upd b p (.dE a c))
noncomputable def Ends.RO(D:Ends):Ends:={ D with nx:=λb c=>∃p a,c p=some (.dK a)/\∀d,D.nx b (upd c p (.dE a d)) }
section
variable{X:Cx}
theorem wF(h:PE X e t):PE X e (λσ H Q=>t σ H (RO Q)):=by
 refine .of ?_;intro a s σ H Q I q;exact w5 (h a s σ H _ I q) λv o ⟨x,u,l,b,p,d,r,i,c⟩=>let ⟨g,j⟩:=l.Fd i;⟨x,_,j,b,c g⟩
theorem GU(h:G0 X f r):G0 X f (λxs H Q=>r xs H (RO Q)):=by
 intro a s b H xs c Q I rv q;exact w5 (h a s b H xs c _ I rv q) λv u ⟨x,z,o,d,p,g,y,j,e⟩=>let ⟨i,l⟩:=o.Fd j;⟨x,_,l,d,e i⟩
theorem xy{st:Stmt}(h:PS X st t):PS X st (λD σ H=>t D.RO σ H):=by
 refine .of ?_;intro a s σ H D I q;refine w5 (h a s σ H _ I q) λf o b=>?_
 cases f with
 | next=>
  obtain⟨c,r,l,p,g,e,d⟩:=b;obtain⟨i,j⟩:=l.Fd e;exact⟨_,_,j,d i⟩
 | brk=>exact b
 | cont=>exact b
 | ret v=>exact b
end
theorem SK(h:(j6 P w).is k u=true):RelV (kV k) u:=by
 rcases o8 (h) with⟨i,t,rfl,rfl⟩ | ⟨x,t,rfl,rfl⟩
 ·exact⟨t,rfl⟩
 ·exact⟨t,rfl⟩
end L2
namespace L3
open PySem PySem.Spec L2
noncomputable def X5:D->Option Key
 | .int i=>some (.inl i)
 | .str x=>some (.inr x)
 | _=>none
noncomputable def u4(kvs:List (Key×D))(k:Key):Option D:=(kvs.find? λa=>decide (a.1=k)).map (·.2)
noncomputable def putD(kvs:List (Key×D))(k:Key)(v:D):List (Key×D):=
 if (kvs.any λa=>decide (a.1=k))=true then kvs.map (λa=>if a.1=k then(a.1,v) else a) else kvs++[(k,v)]
section
variable{K:AAD}{H:Hp}
theorem x6.val:∀{kvs:List (Key×V)} {a:List (Key×D)} {A:ZS} (k:Key),x6 K H kvs a A->(∀d,u4 a k=some d->∃v B,aR kvs k=some v/\Rep K H v d B/\B.Sublist A)/\(u4 a k=none->aR kvs k=none)
 | _,_,_,k,.nil=>⟨λd e=>by simp[u4] at e,λ_=>rfl⟩
 | _,_,_,k,.cons (k:=c)   h r=>by
  obtain⟨i,g⟩:=r.val k
  by_cases e:c=k
  ·subst e;refine⟨λd e=>?_,λe=>?_⟩
   ·simp[u4] at e;subst e;exact⟨_,_,eD rfl,h,YB _ _⟩
   ·simp[u4] at e
  ·have l:∀(x:D) (j:List (Key×D)),u4 ((c,x)::j) k=u4 j k:=λx j=>by simp[u4,e]
   refine⟨λd b=>?_,λb=>?_⟩
   ·rw[l] at b;obtain⟨v,B,u,q,o⟩:=i d b;exact⟨v,B,by rwa[aZ  e],q,o.trans (Yv _ _)⟩
   ·rw[l] at b;rw[aZ  e];exact g b
theorem x6.any(k:Key)(r:x6 K H kvs a A):(kvs.any λb=>decide (b.1=k))=a.any λb=>decide (b.1=k):=
 r.ind (P:=λkvs a _=>(kvs.any λb=>decide (b.1=k))=a.any λb=>decide (b.1=k)) rfl λ_ _ e=>by rw[Xi,Xi,e]
theorem x6.length(r:x6 K H kvs c A):kvs.length=c.length:=r.ind (P:=λa b _=>a.length=b.length) rfl λ_ _ e=>Sc (·+1) e
theorem x6.E9(r:x6 K H kvs a A):(a.all λb=>u3 b.2)=true->A=[]:=
 r.ind (P:=λ_ a A=>(a.all λb=>u3 b.2)=true->A=[]) (λ_=>rfl) λh _ j e=>by
  rw[Xt,v8] at e;rw[h.E9 e.1,j e.2];rfl
theorem x6.BH(k:Key)(rv:Rep K H v d []):∀{kvs:List (Key×V)} {b:List (Key×D)} {A:ZS},x6 K H kvs b A->∃C,x6 K H (kvs.map λa=>if a.1=k then(a.1,v) else a) (b.map λa=>if a.1=k then(a.1,d) else a) C/\C.Sublist A
 | _,_,_,.nil=>⟨[],.nil,XE _⟩
 | _,_,_,.cons (k:=i) (A:=A)  h r=>by
  obtain⟨C,g,c⟩:=x6.BH k rv r;rw[vc,vc]
  by_cases e:i=k
  ·rw[ux e,ux e];exact⟨[]++C,.cons rv g,c.trans (Yv _ _)⟩
  ·rw[uk e,uk e];exact⟨A++C,.cons h g,c.append_left A⟩
theorem x6.snoc(r:x6 K H kvs c A)(rv:Rep K H v d B):x6 K H (kvs++[(k,v)]) (c++[(k,d)]) (A++B):=by
 refine r.ind (P:=λa b A=>x6 K H (a++[(k,v)]) (b++[(k,d)]) (A++B)) ?_ λh _ i=>by rw[wT];exact .cons h i
 have q:=x6.cons (k:=k) rv x6.nil;rwa[vy] at q
theorem x6.put(k:Key)(r:x6 K H kvs a A)(rv:Rep K H v d []):∃C,x6 K H (putK kvs k v) (putD a k d) C/\C.Sublist A:=by
 unfold putK putD;rw[r.any k]
 by_cases e:(a.any λb=>decide (b.1=k))=true
 ·rw[ux e,ux e];exact r.BH k rv
 ·rw[uk e,uk e];have q:=r.snoc (k:=k) rv;rw[vy] at q;exact⟨A,q,XE _⟩
theorem bX(h:Rep K H v (.dic a) A):∃p kvs B,v=.ref p/\Dd H p kvs/\x6 K H kvs a B/\A=p::B:=by
 cases h with
 | dic h r=>exact⟨_,_,_,rfl,.inr ⟨_,h⟩,r,rfl⟩
theorem vm(h:Rep K H v (.dic a) A):∃p kvs ep B,v=.ref p/\H p=some (.dE kvs ep)/\x6 K H kvs a B/\A=p::B:=by
 cases h with
 | dic h r=>exact⟨_,_,_,_,rfl,h,r,rfl⟩
theorem Y3.Ri(m:fw (H p)):Y3 H (upd H p o):=⟨λb a h=>by
  by_cases e:b=p
  ·subst e;rw[h] at m;exact m.elim
  ·rwa[i3 e],λb u c h=>by
  by_cases e:b=p
  ·subst e;rw[h] at m;exact m.elim
  ·rwa[i3 e],λb h=>by
  by_cases e:b=p
  ·subst e;rw[c8] at h;cases h
  ·rwa[i3 e] at h⟩
theorem Ay{d ep:Nat}(g:e6 c H)(hd:c d=none)(i:H d=some (.dK acc))(r:x6 K H acc ds []):e6 c (upd H d (.dE acc ep))/\Rep K (upd H d (.dE acc ep)) (.ref d) (.dic ds) [d]:=by
 refine⟨λb o e=>?_,.dic c8 (r.mono (Y3.Ri (by rw[i];exact True.intro)) λa h=>by cases h)⟩;rw[i3 (t9 e hd)];exact g _ _ e
theorem P5(h:Rep K H v d A)(e:X5 d=some k):v=kV k:=by
 cases h<;>first | cases e | skip
 ·rfl
 ·rfl
end
section
variable{X:Cx}{cl:List Cl}{e a b c:Expr}{f:Fl}{pos:Pos}{ua ub uc:TU}{ma mb mc:TM}{fa fb fc:Fl}{x:Str}{i:Nat}
theorem zw:PU X cl (.Dict [] [] pos) .fresh (uC (.dic [])):=.of<|by
 refine⟨_,wF DO,λG l j H o Q R _ E g k=>λp d=>⟨p,[],rfl,c8,λq=>?_⟩⟩;rw[aA];refine k _ _ _ [p] (e6.g7 d) (.dic c8 .nil) ⟨by simp,λa h=>?_⟩ g;have:=by simpa using h
 rwa[this]
def NH:D->D->(D->Prop)->Prop:=λd y Q=>match d with
 | .dic g=>∃k v,X5 y=some k/\u4 g k=some v/\Q v
 | _=>False
theorem Lp{d e:D}(r:Rep X.K H v d A)(o:Rep X.K H w e B)(q:NH d e Q):∃a u z C,v=.ref a/\av H a w (some u)/\Rep X.K H u z C/\C.Sublist A/\Q z:=by
 cases d<;>first | exact(q).elim | skip
 rename_i g
 obtain⟨k,z,I,E,q⟩:∃k v,X5 e=some k/\u4 g k=some v/\Q v:=q;obtain⟨p,y,M,rfl,G,j,rfl⟩:=bX r;cases P5 o I;obtain⟨u,C,J,l,h⟩:=(j.val k).1 z E;refine⟨p,u,z,C,rfl,?_,l,h.trans (Xb _ _),q⟩;rw[<-J];exact av.k G
def Dv:D->D->D->(D->Prop)->Prop:=λd y z Q=>match d with
 | .dic g=>match y with
  | .o6=>u3 z=true/\Q z
  | y=>∃k,X5 y=some k/\u3 ((u4 g k).getD z)=true/\Q ((u4 g k).getD z)
 | _=>False
noncomputable def SI:D->Bool
 | .dic _=>true
 | _=>false
def jF(ua ub uc:TU):TU:=λd Q=>ua d λx=>SI x=true/\ub d λy=>uc d λz=>Dv x y z Q
theorem Jp{d e z:D}(R:Rep X.K H v d A)(M:Rep X.K H w e B)(E:Rep X.K H u z C)(q:Dv d e z Q):∃a o y,v=.ref a/\Dx H a w o/\Rep X.K H (o.getD u) y []/\Q y:=by
 cases d<;>first | exact(q).elim | skip
 rename_i h
 obtain⟨p,l,Y,rfl,O,I,rfl⟩:=bX R
 have go:∀k,X5 e=some k->u3 ((u4 h k).getD z)=true->Q ((u4 h k).getD z)->∃a o y,V.ref p=.ref a/\Dx H a w o/\Rep X.K H (o.getD u) y []/\Q y:=λk j g q=>by
  cases P5 M j;refine⟨p,aR l k,_,rfl,.inl (av.k O),?_,q⟩
  cases G:u4 h k with
  | none=>
   rw[(I.val k).2 G];rw[G] at g;have r:=E.E9 g;subst r;exact E
  | some y=>
   obtain⟨T,U,S,J,_⟩:=(I.val k).1 y G;rw[S];rw[G] at g;have r:=J.E9 g;subst r;exact J
 cases e with
 | o6=>
  cases eG M;have r:=E.E9 q.1;subst r;exact⟨p,none,z,rfl,.inr ⟨rfl,⟨l,O⟩,rfl⟩,E,q.2⟩
 | int i=>obtain⟨k,j,g,q⟩:=q;exact go k j g q
 | str i=>obtain⟨k,j,g,q⟩:=q;exact go k j g q
 | _=>obtain⟨k,j,g,q⟩:=q;cases j
theorem eV  (hu:X.A.units+1<cLine) (Y:PU X cl a fa ua) (U:PU X cl b fb ub) (T:PU X cl c fc uc) (m:M2 X a "get" h b c pos):PU X cl (.Call (.Attribute a "get" h) [b,c] [] pos) .fresh (jF ua ub uc):=.of<|by
 obtain⟨ta,pa,Y⟩:=Y.run;obtain⟨tb,pb,U⟩:=U.run;obtain⟨tc,pc,T⟩:=T.run;refine⟨_,CY hu pa pb pc m,λG l j H fo Q R hG E S k=>Y G l j H fo _ _ hG E S λv H1 d A I r1 f1 M=>?_⟩;obtain⟨hd,M⟩:=M;cases d<;>first | cases hd | skip
 have J:=r1;obtain⟨p,O,B',rfl,hp,rs,rfl⟩:=bX r1;refine⟨p,rfl,.inl ⟨O,.of hp⟩,U G l j H1 fo _ _ hG (E.same I) M λw H2 e B r r2 f2 q2=>T G l j H2 fo _ _ hG (E.same (I.trans r)) q2 λu H3 z C q r3 f3 q3=>?_⟩;obtain⟨p',o,y,ep,g,r4,q4⟩:=Jp ((J.same r).same q) (r2.same q) r3 q3;cases ep;exact⟨o,g,k _ H3 y [] ((I.trans r).trans q) r4 (A4.nil _) q4⟩
def Rq(i:Nat)(y d:D)(h:Ev)(Q:Ev->Prop):D->Prop
 | .dic g=>∃k,X5 y=some k/\g.length<sizeLine/\Q (h.set i (some (.dic (putD g k d))))
 | _=>False
def ay(i:Nat)(l mk:TM):g4:=λT j=>l j λd h=>u3 d=true/\a6 i h λ_=>mk h λy g=>a6 i g (Rq i y d g T.nx)
theorem bo(hu:X.A.units+1<cLine)(i:Nat)(hv:PE X (.Name x M) (cw i))(hi:cl[i]?=some .own)(he:PN X cl e ma)(hk:PN X cl Y mk)(hs:swapsWith e (some (.Subscript (.Name x M) Y tp)) pos.line X.env=pure false:=by rfl) :
  K3 X cl (.Assign [.Subscript (.Name x M) Y tp] e pos) (ay i ma mk):=.of<|by
 obtain⟨t,p,h⟩:=he.run;obtain⟨t2,p2,h2⟩:=hk.run;refine⟨_,xy (LF hu hv p2 p hs),λG T ρ σ H fa R hG E a0 le=>?_⟩;have own:G.own i:=by unfold Ent.own;rwa[hG]
 refine h G ρ σ H fa _ _ hG E a0 λw H1 d B1 J a1 E1 c1 r1 n1 q=>?_;obtain⟨im,q⟩:=q;have eB:=r1.E9 im;subst eB;obtain⟨l0,e0,q⟩:=p5 q;obtain⟨v,r,r0⟩:=E1.rep i l0 e0;refine⟨_,r,h2 G J σ H1 a1 _ _ hG E1 q λwk H2 dk Bk o y E2 c2 rk nk q=>?_⟩;obtain⟨l1,e1,q⟩:=p5 q;obtain⟨v',j,r2⟩:=E2.rep i l1 e1;have ev:v'=v:=by rw[r] at j;cases j;rfl
 subst ev;cases l1<;>first | exact(q).elim | skip
 rename_i g
 obtain⟨k,hk,hn,q⟩:∃k,X5 dk=some k/\g.length<sizeLine/\T.nx (o.set i (some (.dic (putD g k d)))):=q;obtain⟨p,U,B,rfl,hp,rs,eA⟩:=bX r2;cases P5 rk hk;have Q:=c2.keep r1 λi _ a l=>(by cases l)
 have nd:=E2.nd i (.inl own);have pin:p∈y i:=by rw[eA];exact hQ
 rw[eA] at nd;obtain⟨np,S⟩:=List.nodup_cons.mp nd;obtain⟨C,rC,O⟩:=rs.put k Q;have u:=λz=>np (O.mem z);have rn:∀I,Rep X.K (upd H2 p (.dE (putK U k w) I)) (.ref p) (.dic (putD g k d)) (p::C):=λI=>.dic c8 (rC.mono (Y3.Ri hp.mut) λa l=>i3 λe=>u (e▸l))
 have n3:∀a∈p::C,a∈y i:=λa l=>by
  rcases List.mem_cons.mp l with z | z
  ·exact z▸pin
  ·rw[eA];exact hH _ (O.mem z)
 have li:=(List.getElem?_eq_some_iff.mp e1).1;refine⟨p,_,rfl,oY.k hp (by rwa[rs.length]),p,_,c8,λI=>?_⟩;rw[aA];exact le.nx _ _ ⟨_,_,E2.put own li j pin V9 (by rw[c8];exactλz=>nomatch z) (rn I) (List.nodup_cons.mpr ⟨u,S.sublist O⟩) λa l=>.inl (n3 a l),q⟩
theorem i8.rev:∀{vs:List V} {ds:List D} {A:ZS},i8 K H vs ds A->∃B,i8 K H vs.reverse ds.reverse B/\(∀a,a∈B ↔ a∈A)/\(A.Nodup->B.Nodup)
 | _,_,_,.nil=>⟨[],.nil,λ_=>Za,λh=>h⟩
 | _,_,_,.cons (A:=A)  h r=>by
  obtain⟨C,g,d,n1⟩:=r.rev;refine⟨C++(A++[]),by rw[Yb,Yb];exact g.append (.cons h .nil),λa=>?_,λn=>?_⟩
  ·rw[vy,YR,YR,d a];exact Or.comm
  ·rw[vy];obtain⟨l,j,dj⟩:=List.nodup_append.mp n;exact List.nodup_append.mpr ⟨n1 j,l,λa p b o e=>dj b o a ((d a).mp p) e.symm⟩
end
section
variable{X:Cx}{cl:List Cl}
theorem K4{b:AAA}(e:b=[c])(d:K3 X cl c a):qx X cl b a:=by
 rw[e];exact(gM d)
theorem lZ{b:AAA}(e:b=[g,d])(i:K3 X cl g c)(h:K3 X cl d a):qx X cl b (e5 c a):=by
 rw[e];exact(x9 i (gM h))
theorem qA{b:AAA}(e:b=[i,h,g])(o:K3 X cl i d)(l:K3 X cl h c)(j:K3 X cl g a):qx X cl b (e5 d (e5 c a)):=by
 rw[e];exact(x9 o (x9 l (gM j)))
theorem IV{b:AAA}(e:b=[l,j,i,h])(r:K3 X cl l g)(q:K3 X cl j d)(p:K3 X cl i c)(o:K3 X cl h a):qx X cl b (e5 g (e5 d (e5 c a))):=by
 rw[e];exact(x9 r (x9 q (x9 p (gM o))))
theorem MS{b:AAA}(e:b=[p,o,l,j,i])(x:K3 X cl p h)(v:K3 X cl o g)(u:K3 X cl l d)(r:K3 X cl j c)(q:K3 X cl i a):qx X cl b (e5 h (e5 g (e5 d (e5 c a)))):=by
 rw[e];exact(x9 x (x9 v (x9 u (x9 r (gM q)))))
theorem Wr{b:AAA}(e:b=[r,q,p,o,l,j])(B:K3 X cl r i)(z:K3 X cl q h)(y:K3 X cl p g)(x:K3 X cl o d)(v:K3 X cl l c)(u:K3 X cl j a):qx X cl b (e5 i (e5 h (e5 g (e5 d (e5 c a))))):=by
 rw[e];exact(x9 B (x9 z (x9 y (x9 x (x9 v (gM u))))))
theorem Wh{b:AAA}(e:b=[v,u,r,q,p,o,l])(G:K3 X cl v j)(E:K3 X cl u i)(C:K3 X cl r h)(B:K3 X cl q g)(z:K3 X cl p d)(y:K3 X cl o c)(x:K3 X cl l a):qx X cl b (e5 j (e5 i (e5 h (e5 g (e5 d (e5 c a)))))):=by
 rw[e];exact(x9 G (x9 E (x9 C (x9 B (x9 z (x9 y (gM x)))))))
theorem WG{b:AAA}(e:b=[y,x,v,u,r,q,p,o])(J:K3 X cl y l)(I:K3 X cl x j)(H:K3 X cl v i)(G:K3 X cl u h)(E:K3 X cl r g)(C:K3 X cl q d)(B:K3 X cl p c)(z:K3 X cl o a):qx X cl b (e5 l (e5 j (e5 i (e5 h (e5 g (e5 d (e5 c a))))))):=by
 rw[e];exact(x9 J (x9 I (x9 H (x9 G (x9 E (x9 C (x9 B (gM z))))))))
end
section
variable{X:Cx}{cl:List Cl}{a:Expr}{f:Fl}{pos:Pos}{ua:TU}
def Cv:D->(D->Prop)->Prop
 | .int i,Q=>Q (.int (-i))
 | _,_=>False
def RQ(g:D->(D->Prop)->Prop)(ua:TU):TU:=λb Q=>ua b λd=>g d Q
theorem kO(g:PU X cl a f ua):PU X cl (.UnaryOp .USub a pos) .fresh (RQ Cv ua):=.of<|by
 obtain⟨t,p,h⟩:=g.run;refine⟨_,Uk PD p,λG c b H j Q R i E e k=>h G c b H j _ _ i E e λv l d B s r _ q=>?_⟩;cases d<;>first | exact(q).elim | skip
 cases w6 r;exact⟨_,rfl,k _ l _ [] s .int (A4.nil _) q⟩
end
abbrev U0:=AR λi j=>D.int (i-j)
abbrev JO:=gI V8 λi j=>D.int (i/j)
abbrev iR:=gI (λ_ j=>0<j) λi j=>D.int (i%j)
abbrev JQ:=gI bM λi j=>D.int (i^j.toNat)
abbrev RU:=AR λi j=>D.bl (decide (i<j))
abbrev LQ:=AR λi j=>D.bl (decide (j<i))
abbrev Wf:=AR λi j=>D.bl (decide (j<=i))
theorem je(h:j4 (g1 i) (j4 (g1 j) J9) ds a Q):ds.length=2:=by
 match ds,h with
 | [_,_],_=>rfl
 | [_],h=>exact h.2.elim
 | _::_::_::_,h=>exact h.2.2.elim
theorem RY(h:j4 (g1 i) (j4 (g1 j) (j4 (g1 k) J9)) ds a Q):ds.length=3:=by
 match ds,h with
 | [_,_,_],_=>rfl
 | [_],h=>exact h.2.elim
 | [_,_],h=>exact h.2.2.elim
 | _::_::_::_::_,h=>exact h.2.2.2.elim
section
variable{X:Cx}{cl:List Cl}{e a b tg:Expr}{es:ZV}{f:Fl}{pos pos':Pos}{ua ub:TU}{ma mb:TM}{fa fb:Fl}{x:Str}{i:Nat}
def DK(g:aQ)(u:TU):g4:=λT c=>u c λd=>g d c T.nx
theorem Az(O:PU X cl e f ua)(M:kK f .stab=true)(J:Aa X cl tg g)(mk:∀{te g},PE X e te->PG X tg g->PS X (.Assign [tg] e pos) (tU te g)):K3 X cl (.Assign [tg] e pos) (DK g ua):=.of<|by
 obtain⟨t,p,h⟩:=O.run;obtain⟨t2,C,Q⟩:=J.run;exact⟨_,mk p C,λG T o l H fa R u E I le=>h G o l H fa _ _ u E I λv U d B s r S q=>Q G o l U fa v d B _ _ u (E.same s) r (S.weak E M) q λy c j Y _ _ z=>le.nx _ _ ⟨c,j,Y,z⟩⟩
def Nf(g:aQ)(u:TM):g4:=λT h=>u h λd c=>g d c T.nx
theorem Oo(S:PN X cl e ma)(Q:Aa X cl tg g)(mk:∀{te g},PE X e te->PG X tg g->PS X (.Assign [tg] e pos) (tU te g)):K3 X cl (.Assign [tg] e pos) (Nf g ma):=.of<|by
 obtain⟨t,p,h⟩:=S.run;obtain⟨t2,M,U⟩:=Q.run;exact⟨_,mk p M,λG T I y H fa R z E O le=>h G I y H fa _ _ z E O λv Y d B l u E' c r n q=>U G l y Y u v d B _ _ z E' r n q λC j o E2 _ _ J=>le.nx _ _ ⟨j,o,E2,J⟩⟩
def NX(i:Nat)(g:Int->Int->Int)(u:TU):g4:=λT c=>a6 i c λx=>u c λy=>match x,y with
 | .int a,.int b=>Nat.blt i c.length=true/\T.nx (c.set i (some (.int (g a b))))
 | _,_=>False
theorem Qo(I:PU X cl e f ua)(J:cl[i]?=some .bor)(mk:∀{te},PE X e te->PS X (.AugAssign (.Name x pos') o e pos) (TY i te (WE g))):K3 X cl (.AugAssign (.Name x pos') o e pos) (NX i g ua):=.of<|by
 obtain⟨t,p,h⟩:=I.run;refine⟨_,mk p,λG T c z H fa R u E l le=>?_⟩;obtain⟨d,Q,l⟩:=p5 l;obtain⟨v,C,rv⟩:=E.rep i d Q;refine⟨v,C,h G c z H fa _ _ u E l λw Y y B s r U q=>?_⟩;cases d<;>cases y<;>first | exact(q).elim | skip
 cases w6 rv;cases w6 r
 rename_i m n
 have M:G.cl[i]?=some .bor:=by rwa[u]
 refine⟨m,n,rfl,rfl,le.nx _ _ ⟨_,_,(E.same s).set  (x0 q.1) .int ⟨λj _ S a O=>(by cases O),by rw[M];trivial⟩,q.2⟩⟩
def Ut:D->D->(D->Prop)->Prop
 | .tup d,.tup c,Q=>x3 d=true/\x3 c=true/\d.length+c.length<=sizeLine/\Q (.tup (d++c))
 | _,_,_=>False
theorem Ov:cy X FT Ut:=by
 intro H v w d e A B Q R l j q k;cases d<;>cases e<;>first | exact q.elim | skip
 obtain⟨p,vs,rfl,I,g⟩:=N0 l;obtain⟨o,h,rfl,G,c⟩:=N0 j;obtain⟨y,u,C,q⟩:=q;have M:=g.E9 y;have J:=c.E9 u;subst M;subst J;exact⟨p,o,vs,h,rfl,rfl,I,G,by rwa[g.length,c.length],λr O s z=>k _ _ _ [] s (.tup z ((g.same s).append (c.same s))) uy (λa E=>(by cases E)) q⟩
end
end L3
namespace L2
open PySem PySem.Spec PyProof.Rows
theorem kU{e:ZV}(I:Nat->Shared->Prop)
  (g:∀n s,I n s->wpAny (model prog w) A (pyNext it) (λr p=>match r with
   | none=>R (.ok .next) p
   | some v=>wpAny (model prog w) A (letOwnedTupleGo a it v) (λ_ C=>wpAny (model prog w) A (assign a env v) (λ_ B=>
     wpAny (model prog w) A (forIn e true λc r=>if r=true then do let ok <-isTrue c env (eval c env);pure (ForInStep.yield ok) else pure (ForInStep.yield r)) (λok o=>
      if ok=true then wpAny (model prog w) A (eval q env) (λE z=>wpAny (model prog w) A (eval j env) (λu l=>
       wpAny (model prog w) A (dictSet D E u) (λ_ y=>∃m,m<n/\I m y) (λ_ _=>False) l) (λ_ _=>False) z) (λ_ _=>False) o
      else ∃m,m<n/\I m o) (λ_ _=>False) B) (λ_ _=>False) C) (λ_ _=>False) p) (λ_ _=>False) s)
  (n:Nat) (h:I n s) :
  codeAny (model prog w) A (.compLoop (.DictComp q j [⟨a,d,e,0⟩] scope i) 0 it (.ref D) env) R s:=by
 refine ZI rfl I (λn s J=>wpAny_noted (eH (Tl (eH (A1 (g n s J) (λr p H=>?_) λ_ _ b=>b.elim))))) n h
 cases r with
 | none=>exact hE H
 | some v=>
  refine eH (A1 H (λ_ C T=>eH (A1 T (λ_ B S=>eH (A1 S (λok o G=>?_) λ_ _ b=>b.elim)) λ_ _ b=>b.elim)) λ_ _ b=>b.elim)
  cases ok with
  | false=>exact hE ⟨rfl,G⟩
  | true=>
   exact eH (eH (A1 G (λE z Q=>eH (FS (A1 Q (λu y O=>eH (Tl (FS (A1 O (λ_ U M=>hE ⟨rfl,M⟩) λ_ _ b=>b.elim)))) λ_ _ b=>b.elim))) λ_ _ b=>b.elim))
theorem CH{σ:St}{E:AAB}(I:Inv X pins σ H s)(e:H a=some (.dK kvs))(l:kvs.length<sizeLine)(g:RelV (kV k) u)(rv:RelV v r)
  (h:∀d,Inv X pins σ (upd H a (.dK (putK kvs k v))) d->Q () d):wpAny (model X.prog X.w) A (dictSet a u r) Q E s:=by
 obtain⟨z,hd,vs,b,B⟩:=zm I.hok e;have i:vs.length<=sizeLine:=by rwa[<-b.length]
 have p:(putK kvs k v).length<=sizeLine:=by have:=G3 kvs k v;omega
 refine wpAny_dictSet_pairs  (aL g) B λy c j=>h _ ?_;have x:∃q,y.get? a=some q:=let ⟨q,_,_,o,_⟩:=c;⟨q,o⟩;exact bY I (by rw[e];exact True.intro) j x (kE p hd (b.put k rv) c)
def VW(J:It)(g:TG)(tc:TT)(tk te:TE)(h:St)(Q:VK)(o:Hp):Prop:=∀d,o d=none ->
 ∃W:Nat->Nat->Hp->Prop,(∃m,W 0 m (upd o d (.dK [])))/\∀i m H,W i m H ->
  (J.stop i H/\Q (.ref d) H) \/
  (J.go i H/\∀x p,J.yld i H x p->g x h p λa u=>tc a u λb l=>
   if b=true then tk a l λq r=>te a r λv j=>∃c k,q=kV k/\j d=some (.dK c)/\c.length<sizeLine/\∃e,e<m/\W (i+1) e (upd j d (.dK (putK c k v)))
   else ∃e,e<m/\W (i+1) e l)
theorem nK{σ:St}{g:ZQ->ZS->Shared->Hp->TG}{tc:ZQ->ZS->Shared->Hp->TT}{tk te:ZQ->ZS->Shared->Hp->TE}{tn:Nat->Heap->Prop}
  {E:AAB} {RR:Value->Addr->Result->Shared->Prop} {Q:VK} (U:X.calm=true) (cf:N2 X N scope cap) (hk:scope.kind=.function)
  (hg:∀cl j s H,PG (A8 X N scope cl j s H) z (g cl j s H)) (hc:∀cl j s H,xo (A8 X N scope cl j s H) ab (tc cl j s H)) (hx:∀cl j s H,PE (A8 X N scope cl j s H) kx (tk cl j s H)) (he:∀cl j s H,PE (A8 X N scope cl j s H) vx (te cl j s H))
  (I:Inv X pins σ H s) (T:Turn X.prog X.w X.K z J j it tn) (st:tn 0 s.heap) (hf:∀b∈j,N6 X pins H b) (q:∀cl j s B,VW J (g cl j s B) (tc cl j s B) (tk cl j s B) (te cl j s B) (M0 cap σ) Q H)
  (b9:∀d C B s' m,Inv X pins σ B s'->s'.heap.Ns C m->N6 X pins B C->Q (.ref d) B->RR (.ref d) C (.ok .next) s') :
  wpAny (model X.prog X.w) X.A newDict (λacc G=>wpAny (model X.prog X.w) X.A (newFunctionEnv scope X.env.globals (B0 X.env scope.names []) [] X.env.qual none .none (some X.env)) (λa3 s4=>
   codeAny (model X.prog X.w) X.A (.compStart (.DictComp kx vx [⟨z,a2,ab,0⟩] scope ap) 0 (.ref it) acc { a3 with scope:=relabel scope X.env }) (RR acc a3.locals) s4) E G) E s:=by
 refine wn (Zi cf.nocell (by intro y hy;simp at hy) (λh1 ad ac=>?_) hk);have I3:Inv X pins σ (upd H s.heap.objs.size (.dK [])) { s with heap:=s.heap.push { cls:=.type "dict",data:=.dict #[] } }:=I.laid (a:=s.heap.objs.size) (o:=.dK []) (t':=s.toks) (λ_ _ q=>hD _ q) (sK _) (bh s.heap I.big);have b8:H s.heap.objs.size=none:=I.fresh;obtain⟨W,⟨m0,w0⟩,a0⟩:=q (B0 X.env scope.names []) j { s with heap:=s.heap.push { cls:=.type "dict",data:=.dict #[] } } (upd H s.heap.objs.size (.dK [])) s.heap.objs.size b8
 have b0:∀b∈j,b<s.heap.objs.size:=λb l=>by
  obtain⟨o,e,_⟩:=T.obj 0 _ st b l;exact vu e
 have al:∀b∈j,N6 X pins (upd H s.heap.objs.size (.dK [])) b:=λb l=>⟨by rw[i3 (v6 (b0 b l))];exact(hf b l).1,(hf b l).2⟩
 have S:∀b∈j,b<(s.heap.push { cls:=.type "dict",data:=.dict #[] }).objs.size:=λb l=>by
  rw[Pv];exact SC (b0 b l)
 dsimp only at ad ac ⊢;generalize Y:({ s with heap:=s.heap.push { cls:=.type "dict",data:=.dict #[] } }:Shared)=G at I3 a0;have M:G.heap=s.heap.push { cls:=.type "dict",data:=.dict #[] }:=by rw[<-Y]
 have c0:G.toks=s.toks:=by rw[<-Y]
 rw[<-M] at ad ac S;have R:∀b o,G.heap.get? b=some o->h1.get? b=some o:=λb o e=>ac.extBut b o (v6 (vu e)) (hD _ e);have keep:∀b o,s.heap.get? b=some o->h1.get? b=some o:=λb o e=>R b o (by rw[M];exact hD _ e);have Ic:=kH (tk:=s.toks) I3 cf hk al S ad R;have ao:tn 0 h1:=T.keep 0 _ _ st λb _ o e=>keep b o e;have bg:∀b∈j,(upd H s.heap.objs.size (.dK [])) b=none:=λb l=>(al b l).1
 have O:∀{B:Hp},(∀b∈j,B b=none)->∀b∈j,N6 (A8 X N scope (B0 X.env scope.names []) j G (upd H s.heap.objs.size (.dK []))) [] B b:=λhn b l=>
  ⟨hn b l,v6 (S b l),Ic.ok.exfs b l,.inl l,λx c h=>(hf b l).2.2.2.2.1 x c (az h),λp hp=>absurd (show p∈([]:ZO) from hp) (by simp)⟩
 have c5:G.os=s.os:=by rw[<-Y]
 have ca:G.gens=s.gens:=by rw[<-Y]
 have a1:codeAny (model X.prog X.w) X.A (.compLoop (.DictComp kx vx [⟨z,a2,ab,0⟩] scope ap) 0 (.ref it) (.ref s.heap.objs.size) (compEnvC scope (B0 X.env scope.names []) G.heap.objs.size X.env))
   (RR (.ref s.heap.objs.size) G.heap.objs.size) { G with heap:=h1,toks:=s.toks }:=by
  refine kU (λn s'=>∃i B,Inv (A8 X N scope (B0 X.env scope.names []) j G (upd H s.heap.objs.size (.dK []))) [] (M0 cap σ) B s'/\tn i s'.heap/\(∀b∈j,B b=none)/\W i n B) ?_ m0 ⟨0,_,Ic,ao,bg,w0⟩;rintro n s4 ⟨i,H4,I4,an,b3,w4⟩;rcases a0 i n H4 w4 with⟨stop,qn⟩ | ⟨go,step⟩
  ·refine w5 (T.done (A8 X N scope (B0 X.env scope.names []) j G (upd H s.heap.objs.size (.dK []))) rfl rfl rfl U i [] s4 _ H4 (λ_ _=>False) I4 (O b3) an stop) λr s5 ⟨hr,I5⟩=>?_;subst hr;obtain⟨m,b7,_⟩:=I5.loc;refine b9 _ _ H4 s5 m ?_ b7 (I3.fL (sK _) I5.free) qn;exact I3.Hk I5.os I5.base I5.hok I5.bare λb l=>⟨(hf b l).2.2.2.1,(hf b l).2.1,(hf b l).2.2.2.2.1,(hf b l).2.2.2.2.2⟩
  ·refine w5 (T.item (A8 X N scope (B0 X.env scope.names []) j G (upd H s.heap.objs.size (.dK []))) rfl rfl rfl U i [] s4 _ H4 (λ_ _=>False) I4 (O b3) an go) λr s5 ⟨u,hr,h5⟩=>?_;subst hr;refine w5 h5 λ_ s6 ⟨x,H6,I6,r6,y6,a5,bb⟩=>?_;have bm:=I6.pinned (O bb) (T.obj _ _ a5);refine w5 (hg _ _ _ _ _ s6 _ H6 x u _ bm r6 (step x H6 y6)) λ_ s7 ⟨a4,H7,I7,q7⟩=>?_;refine w5 (hc _ _ _ _ _ s7 a4 H7 _ I7 q7) λok s8 ⟨H8,I8,q8⟩=>?_
   have again:∀{am:St} {H9:Hp} {s9:Shared},Inv (A8 X N scope (B0 X.env scope.names []) j G (upd H s.heap.objs.size (.dK []))) ([]++bu j s6.heap) am H9 s9->(∃m',m'<n/\W (i+1) m' H9) ->
     ∃m,m<n/\∃i B,Inv (A8 X N scope (B0 X.env scope.names []) j G (upd H s.heap.objs.size (.dK []))) [] (M0 cap σ) B s9/\tn i s9.heap/\(∀b∈j,B b=none)/\W i m B:=λ{am H9 s9} I9 ⟨m',hm,w9⟩=>by
    refine⟨m',hm,i+1,H9,fX I3 cf al I9.T8,T.keep _ _ _ a5 λb l o e=>(I9.pin (b,o) (tz _ (tz _ (C5 l e)))).1,λb l=>?_,w9⟩;obtain⟨o,e,d⟩:=T.obj _ _ a5 b l;exact(I9.pin (b,o) (tz _ (tz _ (C5 l e)))).2.1
   cases ok with
   | false=>exact again I8 q8
   | true=>
    show wpAny _ _ (eval kx _) _ _ s8;refine w5 (hx _ _ _ _ _ s8 a4 H8 _ I8 q8) λy0 b4 ⟨v0,bv,bi,b5,b6⟩=>?_;refine w5 (he _ _ _ _ _ b4 a4 bv _ bi b6) λy s9 ⟨v,H9,I9,r9,acc,k,ek,b2,b1,m',hm,w9⟩=>?_;subst ek;exact CH (X:=A8 X N scope (B0 X.env scope.names []) j G (upd H s.heap.objs.size (.dK []))) I9 b2 b1 b5 r9 λc3 bn=>again bn ⟨m',hm,w9⟩
 have e4:({ s with heap:=h1,toks:=s.toks+([]:ZR).length }:Shared)={ G with heap:=h1,toks:=s.toks }:=by rw[<-Y];rfl
 rw[<-M,e4];exact codeAny_compStart_dict a1 (T.self _ 0 _ _ _ ao a1)
def Sz(cap:ZP)(d:TI)(g:ZQ->ZS->Shared->Hp->TG)(tc:ZQ->ZS->Shared->Hp->TT)(tk te:ZQ->ZS->Shared->Hp->TE):TE:=λc H Q=>d c H λJ e=>∀cl a s b,VW J (g cl a s b) (tc cl a s b) (tk cl a s b) (te cl a s b) (M0 cap c) Q e
theorem QQ
  (l:Z5 XN N XS scope cap=true) (hN:X.N=XN) (hS:X.env.scope=XS) (G:scope.kind=.function) (i:X.calm=true) (hi:PI X a c z)
  (hg:∀cl b s H,PG (A8 X N scope cl b s H) a (g cl b s H)) (hc:∀cl b s H,xo (A8 X N scope cl b s H) j (tc cl b s H)) (S:∀cl b s H,PE (A8 X N scope cl b s H) E (tk cl b s H)) (he:∀cl b s H,PE (A8 X N scope cl b s H) B (te cl b s H))
  (U:∀x,foldedSetIterable c X.env x=pure x:=by intro _;rfl):PE X (.DictComp E B [⟨a,c,j,0⟩] scope p) (Sz cap z g tc tk te):=by
 refine .of ?_;intro e s y H Q I h;have r:=P9 hN hS l;refine Xq  rfl U (T6 (I.T5 r)) G r.loc (w5 (hi e s y H _ I h) λv s1 h1=>w5 h1 λR s2 h2=>?_);obtain⟨it,b,tn,J,H2,rfl,I2,T,o,f2,q⟩:=h2;exact nK  i r G hg hc S he I2 T o f2 q λd C H' s' m I' Y hC O=>⟨m,Y,λh' M=>⟨.ref d,H',I'.sU hC M,rfl,O⟩⟩
theorem AS{r p E:Pos}
  (a0:X.N.Nodup) (Y:X.N[i]?=some y) (hy:X.env.scope.names.lookup y=some .local)
  (G:Z5 XN N XS scope cap=true) (hN:X.N=XN) (hS:X.env.scope=XS) (hk:scope.kind=.function) (u:X.calm=true) (hi:PI X b c wi)
  (hg:∀cl j s H,PG (A8 X N scope cl j s H) b (g cl j s H)) (hc:∀cl j s H,xo (A8 X N scope cl j s H) o (tc cl j s H)) (hx:∀cl j s H,PE (A8 X N scope cl j s H) O (tk cl j s H)) (he:∀cl j s H,PE (A8 X N scope cl j s H) M (te cl j s H))
  (U:swapsWith (.DictComp O M [⟨b,c,o,0⟩] scope r) (some (.Name y E)) p.line X.env=pure true:=by rfl)
  (hs:∀x,foldedSetIterable c X.env x=pure x:=by intro _;rfl):PS X (.Assign [.Name y E] (.DictComp O M [⟨b,c,o,0⟩] scope r) p) (tU (Sz cap wi g tc tk te) (mH i)):=by
 refine .of ?_;intro l s σ H D I h;have cf:=P9 hN hS G;rw[Zg _ _ _ _ U];refine eH (Tl (eH ?_));refine eH (A1 (Xq   rfl hs (T6 (I.T5 cf)) hk cf.loc (w5 (hi l s σ H _ I h) λv s1 h1=>w5 h1 λa2 s2 h2=>?_))
  (λ_ B hq=>hE (hE hq)) λ_ _ e=>e)
 obtain⟨it,j,tn,J,H2,rfl,I2,T,R,f2,q⟩:=h2;refine nK  u cf hk hg hc hx he I2 T R f2 q λd C H' B m I' hn hC q'=>?_;refine YN (bR (v:=.ref d) I' a0 Y (.inl hy) rfl (λs2 I2 ⟨a,sb,ha⟩=>⟨m,hn.sameBut sb ?_,λh' S=>⟨_,H',I2.sU hC S,q'⟩⟩) (.inr hy));rcases ha with z | z
 ·rw[z];exact hC.2.1
 ·exactλe=>hC.2.2.2.2.1 y a z e.symm
end L2
namespace L3
open PySem PySem.Spec L2
theorem x6.same(s:e6 H b)(r:x6 K H v d A):x6 K b v d A:=
 r.mono (Y3.of s) λa c=>by
  obtain⟨o,e⟩:=fw.some (r.fu a c);rw[e];exact s a o e
def qc(g:aQ)(tc:aS)(tk te:TU)(e:Ev):List D->List (Key×D)->(List (Key×D)->Prop)->Prop
 | [],a,Q=>Q a
 | x::h,a,Q=>g x e λc=>tc c λb=>Br b (tk c λy=>te c λd=>∃k,X5 y=some k/\u3 d=true/\qc g tc tk te e h (putD a k d) Q) (qc g tc tk te e h a Q)
def Nd(cap:ZP)(c:mr)(g:aQ)(tc:aS)(tk te:TU):TU:=λa Q=>c a λb=>b.length<sizeLine/\qc g tc tk te (V4 cap a) b [] λd=>Q (.dic d)
theorem Wv
  (hg:∀(G:Ent) (c:Ev) (σ:St) (H:Hp) (r:AAC) (v:V) (d:D) (B:ZS) (Q:Ev->Prop) (R:St->Hp->Prop),G.cl=C3 cap->E3 K G c σ H r->Rep K H v d B->(∀i,G.own i->∀a∈B,a∉r i)->g3 d c Q ->
   (∀S U a3,E3 K G U S H a3->(∀i,G.own i->a3 i=r i/\S[i]?=σ[i]?)->(∀i,G.own i->U[i]?=c[i]?)->Q U->R S H)->g v σ H R)
  (hc:∀(G:Ent) (c:Ev) (σ:St) (H:Hp) (r:AAC) (Q:Bool->Prop) (R:Bool->Hp->Prop),G.cl=C3 cap->E3 K G c σ H r->a0 c Q->(∀b p,e6 H p->Q b->R b p)->tc σ H R)
  (hk:∀(G:Ent) (c:Ev) (σ:St) (H:Hp) (r:AAC) (Q:D->Prop) (R:VK),G.cl=C3 cap->E3 K G c σ H r->X c Q->(∀v p d B,e6 H p->Rep K p v d B->A4 G H r B fk->Q d->R v p)->tk σ H R)
  (he:∀(G:Ent) (c:Ev) (σ:St) (H:Hp) (r:AAC) (Q:D->Prop) (R:VK),G.cl=C3 cap->E3 K G c σ H r->Y c Q->(∀v p d B,e6 H p->Rep K p v d B->A4 G H r B fv->Q d->R v p)->te σ H R)
  (E:E3 K G c σ z r) (it:aV K J xs C z) (tr:∀a∈C,z a≠none) (hn:xs.length<sizeLine) (q:qc g3 a0 X Y (V4 cap c) xs [] Q)
  (k:∀d p acc ds,e6 z p->z d=none->p d=some (.dK acc)->x6 K p acc ds []->Q ds->R (.ref d) p):VW J g tc tk te (M0 cap σ) R z:=by
 intro d hd
 refine⟨λi m H=>m=xs.length-i/\i<=xs.length/\e6 z H/\∃acc ds,H d=some (.dK acc)/\acc.length<=i/\x6 K H acc ds []/\qc g3 a0 X Y (V4 cap c) (xs.drop i) ds Q,
  ⟨xs.length,by simp,xL _,e6.g7 hd,[],[],c8,sK _,.nil,q⟩,?_⟩
 rintro i m H ⟨rfl,ab,s1,acc,ds,M,ac,rs,q⟩;have tf:Tf z H:=⟨λb ys h=>s1 _ _ h,λb o u h=>s1 _ _ h⟩
 have kC:∀a∈C,H a=z a:=λa ha=>by
  obtain⟨o,eo⟩:=Option.ne_none_iff_exists'.mp (tr a ha);rw[eo];exact s1 a o eo
 by_cases I:i<xs.length
 ·right
  obtain⟨go,yl⟩:=(it H tf kC i).2 _ (nA I);rw[Fk I] at q;refine⟨go,λy H2 hy=>?_⟩;obtain⟨s2,By,rB,sB⟩:=yl y H2 hy;have E2:=(E.same (s1.trans s2)).comp cap;refine hg (X7 cap) _ _ H2 _ y _ By _ _ rfl E2 rB (λj hj=>(G2 hj).elim) q λO T a1 a2 _ _ q3=>hc (X7 cap) T O H2 a1 _ _ rfl a2 q3 λb H3 s3 q4=>?_;have x:H3 d=some (.dK acc):=s3 _ _ (s2 _ _ M)
  cases b with
  | false=>
   rw[uk ud];exact⟨xs.length-(i+1),by omega,rfl,I,(s1.trans s2).trans s3,acc,ds,x,by omega,(rs.same s2).same s3,q4.f rfl⟩
  | true=>
   rw[ux rfl];refine hk (X7 cap) T O H3 a1 _ _ rfl (a2.same s3) (q4.t rfl) λvk H4 dk Bk s4 rk ad q5=>?_;refine he (X7 cap) T O H4 a1 _ _ rfl ((a2.same s3).same s4) q5 λv H5 dv Bv s5 rv fo q6=>?_;obtain⟨kk,ek,im,q6⟩:=q6;have l:H5 d=some (.dK acc):=s5 _ _ (s4 _ _ x);have a4:e6 z H5:=(((s1.trans s2).trans s3).trans s4).trans s5
   have st:Y3 H5 (upd H5 d (.dK (putK acc kk v))):=⟨λb ys h=>by
     by_cases e:b=d
     ·subst e;rw[l] at h;cases h
     ·rw[i3 e];exact h,λb u w' h=>by
     by_cases e:b=d
     ·subst e;rw[l] at h;cases h
     ·rw[i3 e];exact h,λb h=>by
     by_cases e:b=d
     ·subst e;rw[c8] at h;cases h
     ·rw[i3 e] at h;exact h⟩
   have a5:=(((rs.same s2).same s3).same s4).same s5;have eB:=rv.E9 im;subst eB;obtain⟨C',rp,sC⟩:=a5.put kk rv;have eC:C'=[]:=List.sublist_nil.mp sC;subst eC;refine⟨acc,kk,P5 rk ek,l,by omega,xs.length-(i+1),by omega,rfl,I,λb o e=>?_,putK acc kk v,putD ds kk dv,c8,by have:=G3 acc kk v;omega,?_,q6⟩
   ·rw[i3 (t9 e hd)];exact a4 _ _ e
   ·exact rp.mono st λa ha=>by cases ha
 ·have ei:i=xs.length:=by omega
  subst ei
  left
  rw[XM] at q;refine⟨(it H tf kC _).1 rfl,k d H acc ds s1 hd M rs q⟩
section
variable{X:Cx}{cl:List Cl}{pos:Pos}{f fk fv:Fl}{XN N:ZT}{XS scope:Scope}{cap:ZP}{kx vx target iter:Expr}{ifs:ZV}{ui:mr}{g3:aQ}{tc3:aS}{tk3 te3:TU}
theorem Nl(i:Z5 XN N XS scope cap=true)(hN:X.N=XN)(hS:X.env.scope=XS)(hk:scope.kind=.function)(h:X.calm=true)(p:S0 X cl target iter f ui)
  (u:∀c b s H,Aa (A8 X N scope c b s H) (C3 cap) target g3) (y:∀c b s H,sI (A8 X N scope c b s H) (C3 cap) ifs tc3) (o:∀c b s H,PU (A8 X N scope c b s H) (C3 cap) kx fk tk3) (v:∀c b s H,PU (A8 X N scope c b s H) (C3 cap) vx fv te3)
  (hs:∀x,foldedSetIterable iter X.env x=pure x:=by intro _;rfl):PU X cl (.DictComp kx vx [⟨target,iter,ifs,0⟩] scope pos) .fresh (Nd cap ui g3 tc3 tk3 te3):=.of<|by
 obtain⟨wi,U,p⟩:=p.run
 refine⟨_,wF<|QQ     i hN hS hk h U
  (λc b s H=>(tt (u c b s H).run).1) (λc b s H=>(tt (y c b s H).run).1) (λc b s H=>(tt (o c b s H).run).1) (λc b s H=>(tt (v c b s H).run).1) hs,λG I B H fa Q R hG E hu k=>p G I B H fa _ _ hG E hu λJ H1 xs C s Y tr fo q=>λc b j l=>Wv  (tt (u c b j l).run).2 (tt (y c b j l).run).2 (tt (o c b j l).run).2 (tt (v c b j l).run).2 (E.same s) Y tr q.1 q.2 λd H2 z ds O hd e S T=>⟨d,z,rfl,e,λep=>?_⟩⟩
 obtain⟨M,r⟩:=Ay  O hd e S;exact k _ _ _ [d] (s.trans M) r ⟨by simp,λa ha=>by cases List.mem_singleton.mp ha;exact s.free hd⟩ T
theorem ij{e py:Pos}(S:X.N.Nodup)(z:X.N[i]?=some y)(hy:X.env.scope.names.lookup y=some .local)(O:Dm cl[i]? .fresh i=true)
  (l:Z5 XN N XS scope cap=true) (hN:X.N=XN) (hS:X.env.scope=XS) (hk:scope.kind=.function) (j:X.calm=true) (B:S0 X cl target iter f ui)
  (I:∀c b s H,Aa (A8 X N scope c b s H) (C3 cap) target g3) (Q:∀c b s H,sI (A8 X N scope c b s H) (C3 cap) ifs tc3) (u:∀c b s H,PU (A8 X N scope c b s H) (C3 cap) kx fk tk3) (M:∀c b s H,PU (A8 X N scope c b s H) (C3 cap) vx fv te3)
  (v:swapsWith (.DictComp kx vx [⟨target,iter,ifs,0⟩] scope pos) (some (.Name y py)) e.line X.env=pure true:=by rfl)
  (hs:∀x,foldedSetIterable iter X.env x=pure x:=by intro _;rfl):K3 X cl (.Assign [.Name y py] (.DictComp kx vx [⟨target,iter,ifs,0⟩] scope pos) e) (n9 i (Nd cap ui g3 tc3 tk3 te3)):=.of<|by
 obtain⟨wi,pi,B⟩:=B.run
 refine⟨_,xy<|AS     S z hy l hN hS hk j pi
  (λc b s H=>(tt (I c b s H).run).1) (λc b s H=>(tt (Q c b s H).run).1) (λc b s H=>(tt (u c b s H).run).1) (λc b s H=>(tt (M c b s H).run).1) v hs,λG T ρ σ H fa R hG E hu le=>B G ρ σ H fa _ _ hG E hu λJ H1 xs C s it tr fo q=>λc b o p=>Wv  (tt (I c b o p).run).2 (tt (Q c b o p).run).2 (tt (u c b o p).run).2 (tt (M c b o p).run).2 (E.same s) it tr q.1 q.2 λd H2 U ds s2 hd h rs Y=>⟨d,U,h,λep=>?_⟩⟩
 obtain⟨s3,r⟩:=Ay  s2 hd h rs;exact le.nx _ _ ⟨_,_,(E.same (s.trans s3)).set (x0 Y.1) r (hV.of (f:=.fresh) E ⟨by simp,λa ha=>by cases List.mem_singleton.mp ha;exact s.free hd⟩ (by rwa[hG])),Y.2⟩
end
mutual
noncomputable def pyd:D->PyData
 | .bl b=>.bool b
 | .int i=>.int i
 | .str x=>.str x
 | .tup xs=>.tuple (N7 xs)
 | .lst xs=>.list (N7 xs)
 | .fz xs=>.list (N7 xs)
 | _=>.none
noncomputable def N7:List D->List PyData
 | []=>[]
 | x::xs=>pyd x::N7 xs
end
mutual
noncomputable def Jx:D->Bool
 | .o6=>true
 | .bl _=>true
 | .int _=>true
 | .str _=>true
 | .tup xs=>lR xs
 | .lst xs=>lR xs
 | .fz xs=>lR xs
 | _=>false
noncomputable def lR:List D->Bool
 | []=>true
 | x::xs=>Jx x&&lR xs
end
section
variable{X:Cx}{pins:ZO}{σ:St}{H:Hp}{s:Shared}
theorem bf(I:Inv X pins σ H s){v:V}{d:D}{A:ZS}{u:Value}(h:Rep X.K H v d A):Jx d=true->RelV v u->∃as,Reads s.heap u (pyd d) as:=by
 revert u
 have sq:∀{p:Addr} {vs:List V} {c:List D},G4 X.K H p vs->(∀u,lR c=true->Vals vs u->∃as,ReadsAll s.heap u (N7 c) as)->∀u,lR c=true->RelV (.ref p) u->∃as,Reads s.heap u (.list (N7 c)) as:=λ{p vs c} h i u q r=>by
  cases r;obtain⟨e,rv,pl,_⟩:=I.list h;obtain⟨o,g,l,n,hd⟩:=pl.isList;obtain⟨as,q⟩:=i _ q rv;exact⟨_,.list g l hd (by simpa using q)⟩
 intro u
 refine Rep.rec   (motive_3:=λ_ _ _ _=>True)
  (λ_ _ r=>by cases r;exact⟨_,.none⟩) (λ_ _ r=>by cases r;exact⟨_,.bool _⟩) (λ_ _ r=>by obtain⟨t,rfl⟩:=r;exact⟨_,.int _ t⟩) (λ_ _ r=>by obtain⟨t,rfl⟩:=r;exact⟨_,.str _ t⟩) (λh _ i u q r=>?_)
  (λh _ i=>sq (G4.of h) i) (λh _ i=>sq h.sq i) ?_ ?_ ?_ ?_ ?_ ?_ (λ_ _ r=>by cases r;exact⟨_,.nil⟩) (λ_ _ i j u q r=>?_) trivial (λ_ _ _ _=>trivial) h u
 case refine_1=>
  cases r;obtain⟨e,rv,⟨o,g,l,n,hd⟩,_⟩:=I.tuple (S6.of h);obtain⟨as,q⟩:=i _ (by simpa[Jx] using q) rv;exact⟨_,.tuple g l hd (by simpa using q)⟩
 case refine_8=>
  cases r with
  | cons a b=>
   simp[lR] at q;obtain⟨as,y⟩:=i _ q.1 a;obtain⟨bs,x⟩:=j _ q.2 b;exact⟨_,.cons y x⟩
 all_goals intros;rename_i q _;simp[Jx] at q
end
mutual
noncomputable def R4:D->Bool
 | .o6=>true
 | .bl _=>true
 | .int i=>decide (i.natAbs<10^150)
 | .str x=>x.cps.toList.all λc=>decide (c<16^8)
 | .tup xs=>gS xs
 | .lst xs=>gS xs
 | .fz xs=>gS xs
 | _=>false
noncomputable def gS:List D->Bool
 | []=>true
 | x::xs=>R4 x&&gS xs
end
mutual
theorem zR:∀d:D,R4 d=true->Jx d=true
 | .o6,_=>rfl
 | .bl _,_=>rfl
 | .int _,_=>rfl
 | .str _,_=>rfl
 | .tup xs,h=>by rw[Jx];exact fq xs (by simpa[R4] using h)
 | .lst xs,h=>by rw[Jx];exact fq xs (by simpa[R4] using h)
 | .fz xs,h=>by rw[Jx];exact fq xs (by simpa[R4] using h)
 | .dic _,h=>by simp[R4] at h
 | .st _,h=>by simp[R4] at h
 | .dn _,h=>by simp[R4] at h
 | .xc _ _ _,h=>by simp[R4] at h
 | .ty _,h=>by simp[R4] at h
 | .adr _,h=>by simp[R4] at h
theorem fq:∀d:List D,gS d=true->lR d=true
 | [],_=>rfl
 | x::xs,h=>by
  simp only[gS,v8] at h;simp only[lR,v8];exact⟨zR x h.1,fq xs h.2⟩
end
theorem Gi{i:Int}(h:i.natAbs<10^150):i.natAbs.log2<1920:=by
 by_cases e:i.natAbs=0
 ·rw[e];decide
 ·exact(Zw e).mpr (ww h (by decide +kernel))
mutual
theorem iW:∀d:D,R4 d=true->(pyd d).showable=true/\(pyd d).leavesShort 151=true/\(pyd d).hasDict=false
 | .o6,_=>⟨by simp[pyd,PyData.showable],by simp[pyd,PyData.leavesShort],by simp[pyd,PyData.hasDict]⟩
 | .bl _,_=>⟨by simp[pyd,PyData.showable],by simp[pyd,PyData.leavesShort],by simp[pyd,PyData.hasDict]⟩
 | .int i,h=>by
  have h:i.natAbs<10^150:=by simpa[R4] using h
  refine⟨?_,?_,by simp[pyd,PyData.hasDict]⟩
  ·simp only[pyd,PyData.showable];exact v1 (Gi h)
  ·simp only[pyd,PyData.leavesShort,PyData.shown];refine v1 ?_;rw[ofString_length];exact int_text_length_le10 (by decide) h
 | .str x,h=>⟨by simp[pyd,PyData.showable],by simpa[pyd,PyData.leavesShort,R4] using h,by simp[pyd,PyData.hasDict]⟩
 | .tup xs,h=>by
  have:=bW xs (by simpa[R4] using h);exact⟨by simpa[pyd,PyData.showable] using this.1,by simpa[pyd,PyData.leavesShort] using this.2.1,by simpa[pyd,PyData.hasDict] using this.2.2⟩
 | .lst xs,h=>by
  have:=bW xs (by simpa[R4] using h);exact⟨by simpa[pyd,PyData.showable] using this.1,by simpa[pyd,PyData.leavesShort] using this.2.1,by simpa[pyd,PyData.hasDict] using this.2.2⟩
 | .fz xs,h=>by
  have:=bW xs (by simpa[R4] using h);exact⟨by simpa[pyd,PyData.showable] using this.1,by simpa[pyd,PyData.leavesShort] using this.2.1,by simpa[pyd,PyData.hasDict] using this.2.2⟩
 | .dic _,h=>by simp[R4] at h
 | .st _,h=>by simp[R4] at h
 | .dn _,h=>by simp[R4] at h
 | .xc _ _ _,h=>by simp[R4] at h
 | .ty _,h=>by simp[R4] at h
 | .adr _,h=>by simp[R4] at h
theorem bW:∀d:List D,gS d=true->PyData.showableAll (N7 d)=true/\PyData.leavesShortAll 151 (N7 d)=true/\PyData.hasDictAll (N7 d)=false
 | [],_=>⟨by simp[N7,PyData.showableAll],by simp[N7,PyData.leavesShortAll],by simp[N7,PyData.hasDictAll]⟩
 | x::xs,h=>by
  simp only[gS,v8] at h;have a:=iW x h.1;have b:=bW xs h.2;exact⟨by simp[N7,PyData.showableAll,a.1,b.1],by simp[N7,PyData.leavesShortAll,a.2.1,b.2.1],by simp[N7,PyData.hasDictAll,a.2.2,b.2.2]⟩
end
def wu(d:D):Prop:=R4 d=true/\(pyd d).weight<=100000/\(pyd d).depth<=50
theorem wu.fits(h:wu d):(pyd d).shown.length<=sizeLine:=by
 have:=PyData.shown_le 151 (by decide) (pyd d) (iW d h.1).2.1;rw[Uf];have:=h.2.1;omega
section
variable{X:Cx}{cl:List Cl}{e a b:Expr}{es:ZV}{f:Fl}{pos:Pos}{ua ub:TU}{ma mb:TM}{fa fb:Fl}
def NG(X:Cx):List V->Hp->VK->Prop:=λc H Q=>∃v d A,c=[v]/\Rep X.K H v d A/\wu d/\Q (.str (pyd d).shown) H
theorem fS(z:K8 k X.A):G0 X (.builtin "repr") (NG X):=by
 intro j s p H E G Q I r h;obtain⟨v,d,A,rfl,y,c,q⟩:=h;obtain⟨u,rfl,i⟩:=vals1 r
 have g:∀(l:Heap) (u:Tok) (tk:Nat),(∀b o,s.heap.get? b=some o->l.get? b=some o)->EP X j p Q (.str (pyd d).shown u) { s with heap:=l,toks:=tk }:=λl u tk C=>
  ⟨.str _,H,I.kept  C,⟨_,rfl⟩,q⟩
 obtain⟨M,B⟩:=bf I y (zR d c.1) i;have x:=iW d c.1;have J:=z.units;have hd:=c.2.2
 have big:∀{a:Addr},u=.ref a->wpAny (model X.prog X.w) X.A (call (.builtin "repr") [u]) (EP X j p Q) X.xe s:=λ{a} e=>by
  subst e;exact repr_of_reads' B x.1 (PyData.noDict_hsm x.2.2) z.gd (by omega) (λ_ _ e=>e) g c.fits
 cases y with
 | o6=>cases i;exact PySem.P.repr_of_none (g _ _ _ λ_ _ e=>e)
 | bl=>cases i;exact PySem.P.repr_of_bool (g _ _ _ λ_ _ e=>e)
 | int=>obtain⟨t,rfl⟩:=i;exact PySem.P.repr_of_int (Gi (by simpa[R4] using c.1)) (g _ _ _ λ_ _ e=>e)
 | str=>obtain⟨t,rfl⟩:=i;exact PySem.P.repr_of_str (g _ _ _ λ_ _ e=>e) c.fits
 | tup _ _=>cases i;exact big rfl
 | lst _ _=>cases i;exact big rfl
 | frz _ _=>cases i;exact big rfl
 | dic _ _=>have:=c.1;simp[R4] at this
 | st _ _=>have:=c.1;simp[R4] at this
 | dn _=>have:=c.1;simp[R4] at this
 | xc _=>have:=c.1;simp[R4] at this
 | ty=>have:=c.1;simp[R4] at this
 | adr=>have:=c.1;simp[R4] at this
def sx:List D->(D->Prop)->Prop
 | [d],Q=>wu d/\Q (.str (pyd d).shown)
 | _,_=>False
theorem wL:Call3 X (NG X) sx:=by
 intro H vs d A Q R r q k;unfold sx at q;split at q
 ·obtain⟨v,rfl,c⟩:=r.one;exact⟨v,_,_,rfl,c,q.1,k _ H _ _ (e6.refl H) .str uy (λ_ h=>(by cases h)) q.2⟩
 ·exact q.elim
def Kd(d:D):Prop:=Jx d=true/\(pyd d).canLay0=true/\(pyd d).depth<=64
def JN(X:Cx)(c:Bool):R2:=λx y H Q=>∃d e A B,Rep X.K H x d A/\Rep X.K H y e B/\Kd d/\Kd e/\Q (.bl (ng c (PyData.eqv (pyd d) (pyd e)))) H
theorem yT(E:K8 k X.A):P6 X (compareOp .Eq) (JN X false):=by
 intro i s G H x y v u Q I l j h;obtain⟨d,e,A,B,z,r,g,c,q⟩:=h;obtain⟨J,p⟩:=bf I z g.1 l;obtain⟨bs,o⟩:=bf I r c.1 j;have C:=E.units;exact PySem.SeqAt.compareEq_shaped p o (by unfold PySem.SeqAt.shaped;rw[g.2.1,v1 g.2.2];rfl) (by unfold PySem.SeqAt.shaped;rw[c.2.1,v1 c.2.2];rfl) C ⟨.bl _,H,I,rfl,q⟩
theorem QT(E:K8 k X.A):P6 X (compareOp .NotEq) (JN X true):=by
 intro i s G H x y v u Q I l j h;obtain⟨d,e,A,B,z,r,g,c,q⟩:=h;obtain⟨J,p⟩:=bf I z g.1 l;obtain⟨bs,o⟩:=bf I r c.1 j;have C:=E.units;exact PySem.SeqAt.compareNe_shaped p o (by unfold PySem.SeqAt.shaped;rw[g.2.1,v1 g.2.2];rfl) (by unfold PySem.SeqAt.shaped;rw[c.2.1,v1 c.2.2];rfl) C ⟨.bl _,H,I,rfl,q⟩
def Uz(c:Bool):D->D->(D->Prop)->Prop:=λd e Q=>Kd d/\Kd e/\Q (.bl (ng c (PyData.eqv (pyd d) (pyd e))))
theorem TQ:cy X (JN X c) (Uz c):=by
 intro H v w d e A B Q R i g q k;exact⟨d,e,A,B,i,g,q.1,q.2.1,k _ H _ _ (e6.refl H) .bl uy (λ_ h=>(by cases h)) q.2.2⟩
end
end L3
namespace L2
open PySem PySem.Spec PySem.Builtin PySem.Builtin.Str PyProof.Rows
section
variable{X:Cx}
variable{e:Expr}{es:ZV}{te:TE}{pos:Pos}
end
end L2
namespace L3
open PySem PySem.Spec L2
section
variable{X:Cx}{cl:List Cl}{e a b:Expr}{es:ZV}{f:Fl}{pos:Pos}{ua ub:TU}{ma mb:TM}{fa fb:Fl}
end
end L3
namespace L2
open PySem PySem.Spec PyProof.Rows
section
variable{X:Cx}
def Tj:R2:=λx y H Q=>∃a v,x=.ref a/\av H a y (some v)/\Q v H
theorem zq(l:X.A.units+1<cLine):Jw X Tj:=by
 intro b c e s r H x y v u Q I j i h o;obtain⟨a,z,rfl,g,q⟩:=h;cases j;exact tail_any (tD I g) PySem.F.slot_dict_getitem.lookup (oz l I g i λB C p d=>⟨z,H,p,d,q⟩) o
def Mu(b:Bool):R2:=λy x H Q=>∃a o,x=.ref a/\av H a y o/\Q (.bl (match b with | true=>!o.isSome | false=>o.isSome)) H
theorem Es(e:X.A.units+1<cLine):P6 X (compareOp .In) (Mu false):=by
 intro b s j H x y v u Q I d c h;obtain⟨a,o,rfl,g,q⟩:=h;cases c;exact Vo e I g d λl i=>⟨.bl o.isSome,H,i,rfl,q⟩
theorem CM(e:X.A.units+1<cLine):P6 X (compareOp .NotIn) (Mu true):=by
 intro b s j H x y v u Q I d c h;obtain⟨a,o,rfl,g,q⟩:=h;cases c;exact MP e I g d λl i=>⟨.bl (!o.isSome),H,i,rfl,q⟩
end
end L2
namespace L3
open PySem PySem.Spec L2
section
variable{X:Cx}{cl:List Cl}{e a b tg:Expr}{es:ZV}{f:Fl}{pos:Pos}{ua ub:TU}{ma mb:TM}{fa fb:Fl}
def p6:D->D->(D->Prop)->Prop:=λd e Q=>match d,e with
 | .int i,.int j=>Q (.int (i+j))
 | .str i,.str j=>i.length+j.length<=sizeLine/\Q (.str (i++j))
 | .lst g,.lst c=>x3 g=true/\x3 c=true/\g.length+c.length<=sizeLine/\Q (.lst (g++c))
 | .tup g,.tup c=>x3 g=true/\x3 c=true/\g.length+c.length<=sizeLine/\Q (.tup (g++c))
 | _,_=>False
abbrev TK:R2:=λx y H Q=>∃i j,x=.str i/\y=.str j/\i.length+j.length<=sizeLine/\Q (.str (i++j)) H
def Oj:R2:=λx y H Q=>(Dq λi j=>.int (i+j)) x y H Q\/TK x y H Q\/QY x y H Q\/FT x y H Q
theorem zY:P6 X (binaryOp .Add) Oj:=Rn.or (yn.or (QG.or Kl))
theorem FN:cy X Oj p6:=by
 intro H v w d e A B Q R g c q k;cases d<;>cases e<;>first | exact(q).elim | skip
 ·exact .inl (Gn H v w _ _ A B Q R g c q k)
 ·exact .inr (.inl (Tv H v w _ _ A B Q R g c q k))
 ·exact .inr (.inr (.inr (Ov H v w _ _ A B Q R g c q k)))
 ·exact .inr (.inr (.inl (TX H v w _ _ A B Q R g c q k)))
theorem o3(d:PU X cl a fa ua)(c:PU X cl b fb ub):PU X cl (.BinOp a .Add b pos) .fresh (o5 p6 ua ub):=jv zY FN d c
theorem K2(d:PN X cl a ma)(c:PN X cl b mb):PM X cl (.BinOp a .Add b pos) (bL p6 ma mb):=DR zY FN d c
def J3:D->D->(D->Prop)->Prop:=λd e Q=>match d,e with
 | .int i,.int j=>N9 i j/\Q (.int (i*j))
 | .str z,.int n=>MulOk z n/\Q (.str (Txt.mul z n))
 | .lst c,.int n=>x3 c=true/\-(2^63)<=n/\n<2^63/\c.length*n.toNat<=sizeLine/\Q (.lst (List.replicate n.toNat c).flatten)
 | _,_=>False
abbrev SA:R2:=λx y H Q=>∃z n,x=.str z/\y=.int n/\MulOk z n/\Q (.str (Txt.mul z n)) H
def Nx:R2:=λx y H Q=>(rI N9 λi j=>.int (i*j)) x y H Q\/SA x y H Q\/Ta x y H Q
theorem yX:P6 X (binaryOp .Mult) Nx:=Pq.or (MA.or Ry)
theorem mM(r:i8 K H vs xs []):∀n:Nat,i8 K H (List.replicate n vs).flatten (List.replicate n xs).flatten []
 | 0=>.nil
 | n+1=>by
  exact r.append (mM r n)
theorem DD:cy X Nx J3:=by
 intro H v w d e A B Q R h g q k;cases d<;>cases e<;>first | exact(q).elim | skip
 ·exact .inl (rl H v w _ _ A B Q R h g q k)
 ·exact .inr (.inl (PY H v w _ _ A B Q R h g q k))
 ·obtain⟨j,y,x,u,q⟩:=q;obtain⟨p,vs,C,rfl,o,c,_⟩:=D1 h;cases w6 g;have z:=c.E9 j;subst z;refine .inr (.inr ⟨p,_,vs,rfl,rfl,o,y,x,by rwa[c.length],λl i=>k _ _ (.lst _) [l] (e6.g7 i) (.lst c8 ((mM c _).same (e6.g7 i))) (by simp) (λa r=>?_) q⟩);have:=by simpa using r
  rwa[this]
theorem K1(d:PU X cl a fa ua)(c:PU X cl b fb ub):PU X cl (.BinOp a .Mult b pos) .fresh (o5 J3 ua ub):=jv yX DD d c
theorem aj(d:PN X cl a ma)(c:PN X cl b mb):PM X cl (.BinOp a .Mult b pos) (bL J3 ma mb):=DR yX DD d c
def Z4(c:Bool):D->D->(D->Prop)->Prop:=λd e Q=>match aJ d&&aJ e with
 | true=>RS c d e Q
 | false=>Uz c d e Q
theorem zN(o:cy X r (RS c)):cy X (λx y H Q=>r x y H Q\/JN X c x y H Q) (Z4 c):=by
 intro H v w d e A B Q R h g q k;unfold Z4 at q;split at q
 ·exact .inl (o H v w d e A B Q R h g q k)
 ·exact .inr (TQ H v w d e A B Q R h g q k)
section
variable{kr:Nat}(hr:K8 kr X.A)
include hr
theorem QD(g:PU X cl a fa ua)(d:PU X cl b fb ub)(c:behindInMarks .Eq b=false):PU X cl (.Compare a [.Eq] [b] pos) .fresh (o5 (Z4 false) ua ub):=kB (EV.or (yT hr)) (zN Rc) g d c
theorem X3(g:PU X cl a fa ua)(d:PU X cl b fb ub)(c:behindInMarks .Eq b=false):P0 X cl (.Compare a [.Eq] [b] pos) (uT (o5 (Z4 false) ua ub)):=X4 (EV.or (yT hr)) (zN Rc) g d c
theorem GQ(g:PU X cl a fa ua)(d:PU X cl b fb ub)(c:behindInMarks .NotEq b=false):P0 X cl (.Compare a [.NotEq] [b] pos) (uT (o5 (Z4 true) ua ub)):=X4 (TL.or (QT hr)) (zN Vd) g d c
theorem Rj(g:PN X cl a ma)(d:PN X cl b mb)(c:behindInMarks .Eq b=false):RL X cl (.Compare a [.Eq] [b] pos) (mT (bL (Z4 false) ma mb)):=GA (EV.or (yT hr)) (zN Rc) g d c
def Sv(c:Bool):D->D->(D->Prop)->Prop:=λd e Q=>match e with
 | .dic g=>∃k,X5 d=some k/\Q (.bl (ng c (u4 g k).isSome))
 | _=>Wl c d e Q
end
theorem UA:cy X (λx y H Q=>Ux X.K c x y H Q\/Mu c x y H Q) (Sv c):=by
 intro H v w d e A B Q R o l q k
 cases e with
 | dic g=>
  obtain⟨j,I,q⟩:∃k,X5 d=some k/\Q (.bl (ng c (u4 g k).isSome)):=q;obtain⟨p,vs,S,rfl,E,G,rfl⟩:=bX l;cases P5 o I;have r:=G.val j;refine .inr ?_
  cases i:u4 g j with
  | none=>
   rw[i] at q;exact⟨p,none,rfl,(by have:=av.k (k:=j) E;rwa [r.2 i] at this),k _ H _ _ (e6.refl H) .bl uy (λ_ h=>(by cases h)) (by cases c<;>exact q)⟩
  | some z=>
   rw[i] at q;obtain⟨u,C,J,O,M⟩:=r.1 z i;exact⟨p,some u,rfl,(by have:=av.k (k:=j) E;rwa [J] at this),k _ H _ _ (e6.refl H) .bl uy (λ_ h=>(by cases h)) (by cases c<;>exact q)⟩
 | _=>exact .inl (VM H v w _ _ A B Q R o l q k)
def OC:D->D->(D->Prop)->Prop:=λd y Q=>match d with
 | .dic c=>∃k v,X5 y=some k/\u4 c k=some v/\Q v
 | _=>Wy d y Q
theorem AI{d e:D}(i:Rep X.K H v d A)(h:Rep X.K H w e B)(q:OC d e Q)(k:∀x z C,Rep X.K H x z C->C.Sublist A->Q z->R x H):UM X.K v w H R\/Tj v w H R:=by
 cases d with
 | dic c=>
  obtain⟨a,u,z,C,p,g,l,j,o⟩:=Lp i h (q);exact .inr ⟨a,u,p,g,k u z C l j o⟩
 | _=>exact .inl (Om i h q k)
def c9(ua ub:TU):TU:=λc Q=>ua c λx=>ub c λy=>OC x y Q
theorem PF(y:X.A.units+1<cLine)(O:PU X cl a fa ua)(M:PU X cl b fb ub)(I:ie b):PU X cl (.Subscript a b pos) fa (c9 ua ub):=.of<|by
 obtain⟨ta,tb,u,p,h⟩:=u2 O M;exact⟨_,NC (En.or (zq y)) u p I,λG g c H T Q R S E J k=>h G g c H T _ _ S E J λv w Y d e A B s l j U f2 q=>AI l j q λx z C r i o=>k x Y z C s r (U.sub i) o⟩
def lJ(ma mb:TM):TM:=λh Q=>ma h λx g=>mb g λy c=>OC x y λd=>Q d c
theorem Z9(O:X.A.units+1<cLine)(j:PN X cl a ma)(Y:PN X cl b mb)(S:ie b):PN X cl (.Subscript a b pos) (lJ ma mb):=.of<|by
 obtain⟨ta,tb,M,J,h⟩:=m2 j Y;exact⟨_,NC (En.or (zq O)) M J S,λG p o H fo Q R hG E T k=>h G p o H fo _ _ hG E T λv w H' d e A B g l E' c y u n1 _ q=>AI y u q λx z C r s I=>k x H' z C g l E' c r (λi U a j=>n1 i U a (s.mem j)) I⟩
def BO(ua:TU)(lo i:Qt):TU:=λg Q=>ua g λd=>lo g λl=>i g λh=>match d with
 | .tup c=>x3 c=true/\Q (.tup (cutD c l h))
 | .lst c=>x3 c=true/\Q (.lst (cutD c l h))
 | .fz c=>x3 c=true/\Q (.lst (cutD c l h))
 | _=>False
theorem jQ(z:PU X cl a fa ua)(x:UE X cl lo ul)(hh:UE X cl hi uh):PU X cl (.Subscript a (.Slice lo hi none p2) pos) .fresh (BO ua ul uh):=.of<|by
 obtain⟨ta,pa,z⟩:=z.run;obtain⟨tl,pl,x⟩:=x.run;obtain⟨th,ph,hh⟩:=hh.run;refine⟨_,Ee (MO.or Rt) pa pl ph,λG J I H fo Q R hG E hu k=>z G J I H fo _ _ hG E hu λv H1 d A S r1 f1 q1=>x G J I H1 fo _ _ hG (E.same S) q1 λh H2 C q2=>hh G J I H2 fo _ _ hG (E.same (S.trans C)) q2 λu H3 O i=>?_⟩;have j:=(S.trans C).trans O
 have g:∀{c:List D},kindB false d=some c->x3 c=true->Q (.lst (cutD c h u))->Sx X.K v h u H3 R:=λ{c} e1 im q=>by
  obtain⟨p,vs,B,rfl,hq,o,_⟩:=aD ((r1.same C).same O) e1;have y:=o.E9 im;subst y;refine⟨p,vs,rfl,hq,λl x=>?_⟩;obtain⟨B,M,Y⟩:=o.cut (HT.F0 c.length 0 h) (HT.F0 c.length c.length u-HT.F0 c.length 0 h);have y:=List.sublist_nil.mp M;subst y;refine k _ _ _ [l] (j.trans (e6.g7 x)) (.lst c8 ?_) ⟨by simp,λa z=>?_⟩ q
  ·have T:i8 X.K H3 (jE vs h u) (cutD c h u) []:=by
    unfold jE cutD;rwa[o.length]
   exact T.same (e6.g7 x)
  ·have:=by simpa using z
   rw[this];exact j.free x
 cases d<;>first | exact(i).elim | skip
 ·rename_i c
  obtain⟨im,i⟩:=i;obtain⟨p,vs,rfl,hq,o⟩:=N0 ((r1.same C).same O);have y:=o.E9 im;subst y;refine .inr ⟨p,vs,rfl,hq,λr H4 s4 hr=>?_⟩;obtain⟨B,M,Y⟩:=o.cut (HT.F0 c.length 0 h) (HT.F0 c.length c.length u-HT.F0 c.length 0 h);have y:=List.sublist_nil.mp M;subst y;refine k _ _ (.tup (cutD c h u)) [] (j.trans s4) (.tup hr ?_) (A4.nil _) i;have U:=Y.same s4;unfold jE cutD;rwa[o.length]
 ·exact .inl (g rfl i.1 i.2)
 ·exact .inl (g rfl i.1 i.2)
end
theorem AJ(h:j4 (g1 i) (j4 (g1 j) (j4 (g1 k) (j4 (g1 l) J9))) ds g Q):ds.length=4:=by
 rcases ds with _ | ⟨a,_ | ⟨b,_ | ⟨c,_ | ⟨d,_ | ⟨e,r⟩⟩⟩⟩⟩<;>first | rfl | (simp[j4,J9,g1] at h)
end L3
namespace L2
open PySem PySem.Spec PySem.Builtin PySem.Builtin.Str PyProof.Rows
section
variable{X:Cx}
def Sm:R2:=λx y H Q=>∃i j,x=.str i/\y=.str j/\Q (.bl (!decide (j.cps.toList<i.cps.toList))) H
theorem AW:P6 X (compareOp .LtE) Sm:=by
 intro a s d H x y v u Q I c b h;obtain⟨i,j,rfl,rfl,q⟩:=h;obtain⟨t,rfl⟩:=c;obtain⟨e,rfl⟩:=b;exact PySem.P.le_str ⟨.bl _,H,I,rfl,q⟩
def Mo(a:Bool):R2:=λx y H Q=>∃b,y=.bl b/\Q (.bl (match a with | true=>!decide (x=.bl b) | false=>decide (x=.bl b))) H
noncomputable def Vz(x:Str):It:=⟨λi _=>i<x.cps.size,λi H v a=>a=H/\∃c,x.cps[i]?=some c/\v=.str ⟨#[c]⟩,λi _=>i=x.cps.size⟩
theorem rN{K:AAD}(it:Addr)
  (W:∀A:Around,A.handled=none->Walks P w A it [it] [it] x.cps.size (SignAt x) (λi h=>h.IsStrIter it ty x t i)) (B:["enumerate","zip","dict_itemiterator","dict_reverseitemiterator","odict_iterator","itertools.zip_longest","itertools.pairwise"].contains ty=false)
  (hs:∀(A:Around) (i:Nat) (s:Shared) (Q:AAB) (E:AAB),s.heap.IsStrIter it ty x t i->Q (.ref it) s->wpAny (model P w) A (pyIter (.ref it)) Q E s):Turn P w K Y (Vz x) [it] it (λi h=>h.IsStrIter it ty x t i) where
 mem:=by simp
 obj:=λi h st b g=>by
  have e:=by simpa using g
  subst e;obtain⟨o,e,c,d⟩:=st;exact⟨o,e,λv z=>by rw[d] at z;cases z⟩
 keep:=λi h q st k=>let ⟨o,ho,r⟩:=st;⟨o,k it (by simp) o ho,r⟩
 item:=by
  intro X G hw J C i a s U H E I p st l;obtain⟨T,S,f2,R,O,M⟩:=p it (by simp);refine(W X.A (I.ok.hd C)).item i s _ _ l st λv q tk hv j y=>?_;obtain⟨c,u,hx,rfl⟩:=hv;have I1:Inv X a U H { s with heap:=q,toks:=tk }:=I.turned (λb o g e=>y b o (by simpa using g) e) T S R O M;obtain⟨o,e,cc,d⟩:=id j;exact⟨_,rfl,mS  e cc d B ⟨.str ⟨#[c]⟩,H,I1,⟨u,rfl⟩,⟨rfl,c,hx,rfl⟩,j,λb g=>(p b g).1⟩⟩
 done:=by
  intro X G hw J C i a s U H E I p st l;obtain⟨T,S,f2,R,O,M⟩:=p it (by simp);subst l;exact(W X.A (I.ok.hd C)).done s _ _ st λq tk y=>⟨rfl,I.turned (λb o g e=>y b o (by simpa using g) e) T S R O M⟩
 self:=hs
def Vj(K:AAD)(e:TE):TI:=λd H R=>e d H λx b=>(∃z,x=.str z/\R (Vz z) b)\/∃a,x=.ref a/\((∃c,G4 K b a c/\R (UJ K a) b)\/∃c,S6 K b a c/\R (UZ K a) b)
theorem OD(hl:PE X l G):PI X U l (Vj X.K G):=.of λg s S H R I q=>by
 refine w5 (hl g s S H _ I q) λv c ⟨x,u,d,J,y⟩=>?_;rcases y with⟨z,rfl,q⟩ | ⟨a,rfl,y⟩
 ·obtain⟨t,rfl⟩:=J
  have O:∀b∈[c.heap.objs.size],N6 X g u b:=λb r=>by
   have e:=by simpa using r
   subst e;exact d.fL (sK _) (d.hok.fresh (sK _))
  cases M:z.cps.all (·<128)
  ·exact wpAny_pyIter_wide M ⟨c.heap.objs.size,[c.heap.objs.size],_,_,u,rfl,d.kept  λb o e=>hD _ e,rN  _ (λA C=>Walks.strWide C _ z t) (by decide) (λA i s Q E st h=>wpAny_pyIter_striter_wide st h),⟨_,u0 _ rfl,rfl,rfl⟩,O,q⟩
  ·exact wpAny_pyIter_ascii M ⟨c.heap.objs.size,[c.heap.objs.size],_,_,u,rfl,d.kept  λb o e=>hD _ e,rN  _ (λA C=>Walks.strAscii C _ z t) (by decide) (λA i s Q E st h=>wpAny_pyIter_striter_ascii st h),⟨_,u0 _ rfl,rfl,rfl⟩,O,q⟩
 ·cases J;rcases y with⟨T,B,q⟩ | ⟨T,B,q⟩
  ·obtain⟨j,rv,p,Y⟩:=d.list B;refine YM p.isList (⟨c.heap.objs.size,[c.heap.objs.size],_,_,u,rfl,d.kept  λb o e=>hD _ e,CN a _,⟨_,u0 _ rfl,rfl,rfl⟩,λb r=>?_,q⟩);have e:b=c.heap.objs.size:=by simpa using r
   subst e;exact d.fL (sK _) (d.hok.fresh (sK _))
  ·obtain⟨j,rv,p,Y⟩:=d.tuple B;refine Zz (show c.heap.IsTuple a j.toArray from p) ?_;refine⟨c.heap.objs.size,[c.heap.objs.size],_,_,u,rfl,d.kept (t':=c.toks) λb o e=>hD _ e,iZ a _,⟨_,u0 _ rfl,rfl,rfl⟩,λb r=>?_,q⟩;have e:b=c.heap.objs.size:=by simpa using r
   subst e;exact d.fL (sK _) (d.hok.fresh (sK _))
def Oc:List V->Hp->VK->Prop:=λa H Q=>((∃i,a=[.int i]/\Q (.int i) H)\/∃k,a=[.bl k]/\Q (.int (if k then 1 else 0)) H)\/∃x n,a=[.str x]/\PySem.intText? x=some n/\x.length<=640/\Q (.int n) H
theorem fP:G0 X (.type "int") Oc:=by
 intro a s b H c d Q I r h;rcases h with h | ⟨x,n,rfl,e,g,q⟩
 ·exact Bg a s b H c d Q I r h
 ·obtain⟨u,rfl,t,rfl⟩:=vals1 r;exact PySem.W.KIN.call_text e g ⟨.int n,H,I.tok _,⟨_,rfl⟩,q⟩
end
end L2
namespace L2
open PySem PySem.Spec PyProof.Rows
section
variable{X:Cx}
theorem rT(r:RelV x v)(b:Bool):(v == .bool b)=decide (x=.bl b):=by
 cases x<;>first
  | (cases r;first | rfl | (rename_i c;cases b<;>cases c<;>rfl))
  | (obtain⟨t,rfl⟩:=r)
theorem HN:P6 X (compareOp .Is) (Mo false):=by
 intro a s d H x y v u Q I c e h;obtain⟨b,rfl,q⟩:=h;cases e;have f:EP X a d Q (.bool (v == .bool b)) s:=⟨.bl _,H,I,by rw[rT c];rfl,q⟩
 cases x<;>first
  | (cases c;exact hE f)
  | (obtain⟨t,rfl⟩:=c;exact hE f)
theorem EE:P6 X (compareOp .IsNot) (Mo true):=by
 intro a s d H x y v u Q I c e h;obtain⟨b,rfl,q⟩:=h;cases e;have f:EP X a d Q (.bool (!(v == .bool b))) s:=⟨.bl _,H,I,by rw[rT c];rfl,q⟩
 cases x<;>first
  | (cases c;exact hE f)
  | (obtain⟨t,rfl⟩:=c;exact hE f)
end
end L2
namespace L3
open PySem PySem.Spec L2
section
variable{X:Cx}{cl:List Cl}{e a b tg:Expr}{es:ZV}{f:Fl}{pos:Pos}{ua ub uc:TU}{ma mb:TM}{fa fb fc:Fl}
def xW:D->D->(D->Prop)->Prop:=λd e Q=>match d,e with
 | .int i,.int j=>Q (.bl (decide (i<=j)))
 | .str x,.str y=>Q (.bl (!decide (y.cps.toList<x.cps.toList)))
 | _,_=>False
abbrev Ue:R2:=λx y H Q=>(Dq λi j=>.bl (decide (i<=j))) x y H Q\/Sm x y H Q
theorem Qx:P6 X (compareOp .LtE) Ue:=Ti.or AW
theorem RZ:cy X Ue xW:=by
 intro H v w d e A B Q R g c q k;cases d<;>cases e<;>first | exact(q).elim | skip
 ·exact .inl (jt H v w _ _ A B Q R g c q k)
 ·cases D3 g;cases D3 c;exact .inr ⟨_,_,rfl,rfl,k _ H _ _ (e6.refl H) .bl uy (λ_ h=>(by cases h)) q⟩
theorem iI(g:PU X cl a fa ua)(d:PU X cl b fb ub)(c:behindInMarks .LtE b=false):P0 X cl (.Compare a [.LtE] [b] pos) (uT (o5 xW ua ub)):=X4 Qx RZ g d c
noncomputable def OR(d:D)(b:Bool):Bool:=match d with
 | .bl c=>c == b
 | _=>false
def Q3(c:Bool):D->D->(D->Prop)->Prop:=λd e Q=>match e with
 | .o6=>Q (.bl (ng c (Af d)))
 | .bl b=>Q (.bl (ng c (OR d b)))
 | _=>False
theorem zQ(h:Rep K H v d A)(b:Bool):decide (v=.bl b)=OR d b:=by
 cases h<;>first | (simp[OR]) | skip
 rename_i c
 cases b<;>rfl
abbrev Vc:R2:=λx y H Q=>y=.o6/\Q (.bl (decide (x=.o6))) H
abbrev Pf:R2:=λx y H Q=>y=.o6/\Q (.bl (!decide (x=.o6))) H
theorem Nw:cy X (λx y H Q=>Vc x y H Q\/Mo false x y H Q) (Q3 false):=by
 intro H v w d e A B Q R g c q k;cases e<;>first | exact(q).elim | skip
 ·exact .inl (VR H v w d .o6 A B Q R g c q k)
 ·cases aa c;refine .inr ⟨_,rfl,?_⟩;rw[zQ g];exact k _ H _ _ (e6.refl H) .bl uy (λ_ h=>(by cases h)) q
theorem MF:cy X (λx y H Q=>Pf x y H Q\/Mo true x y H Q) (Q3 true):=by
 intro H v w d e A B Q R g c q k;cases e<;>first | exact(q).elim | skip
 ·exact .inl (RD H v w d .o6 A B Q R g c q k)
 ·cases aa c;refine .inr ⟨_,rfl,?_⟩;rw[zQ g];exact k _ H _ _ (e6.refl H) .bl uy (λ_ h=>(by cases h)) q
theorem Qk(g:PU X cl a fa ua)(d:PU X cl b fb ub)(c:behindInMarks .Is b=false):PU X cl (.Compare a [.Is] [b] pos) .fresh (o5 (Q3 false) ua ub):=kB (Ge.or HN) Nw g d c
theorem kj(g:PU X cl a fa ua)(d:PU X cl b fb ub)(c:behindInMarks .Is b=false):P0 X cl (.Compare a [.Is] [b] pos) (uT (o5 (Q3 false) ua ub)):=X4 (Ge.or HN) Nw g d c
theorem A9(g:PU X cl a fa ua)(d:PU X cl b fb ub)(c:behindInMarks .IsNot b=false):P0 X cl (.Compare a [.IsNot] [b] pos) (uT (o5 (Q3 true) ua ub)):=X4 (KI.or EE) MF g d c
noncomputable def Wu(x y:Str):Bool:=!(Builtin.Str.occurrences x y 0 x.length 1).isEmpty
def sP(c:Bool):D->D->(D->Prop)->Prop:=λd e Q=>match e with
 | .str z=>(match d with | .str y=>Q (.bl (ng c (Wu z y))) | _=>False)
 | _=>Sv c d e Q
abbrev RA(c:Bool):R2:=λx y H Q=>∃i j,x=.str i/\y=.str j/\Q (.bl (ng c (Wu j i))) H
theorem IY:P6 X (compareOp .In) (RA false):=CB
theorem BY:P6 X (compareOp .NotIn) (RA true):=oD
theorem Fs:cy X (λx y H Q=>(Ux X.K c x y H Q\/Mu c x y H Q)\/RA c x y H Q) (sP c):=by
 intro H v w d e A B Q R i g q k
 cases e with
 | str z=>
  cases d<;>first | exact(q).elim | skip
  cases D3 i;cases D3 g;exact .inr ⟨_,_,rfl,rfl,k _ H _ _ (e6.refl H) .bl uy (λ_ h=>(by cases h)) q⟩
 | _=>exact .inl (UA H v w _ _ A B Q R i g q k)
theorem DI(c:X.A.units+1<cLine)(h:PU X cl a fa ua)(g:PU X cl b fb ub)(d:behindInMarks .In b=false):PU X cl (.Compare a [.In] [b] pos) .fresh (o5 (sP false) ua ub):=kB ((mD.or (Es c)).or IY) Fs h g d
theorem Rz(c:X.A.units+1<cLine)(h:PU X cl a fa ua)(g:PU X cl b fb ub)(d:behindInMarks .In b=false):P0 X cl (.Compare a [.In] [b] pos) (uT (o5 (sP false) ua ub)):=X4 ((mD.or (Es c)).or IY) Fs h g d
theorem Cn(c:X.A.units+1<cLine)(h:PU X cl a fa ua)(g:PU X cl b fb ub)(d:behindInMarks .NotIn b=false):P0 X cl (.Compare a [.NotIn] [b] pos) (uT (o5 (sP true) ua ub)):=X4 ((qo.or (CM c)).or BY) Fs h g d
noncomputable def ME(z:Str):List D:=z.cps.toList.map λc=>.str ⟨#[c]⟩
def A5(u:TU):mr:=λg Q=>u g λd=>match d with
 | .lst c=>Q c
 | .fz c=>Q c
 | .tup c=>Q c
 | .str z=>Q (ME z)
 | _=>False
theorem WO(z:Str):aV K (Vz z) (ME z) [] H:=λu tf k i=>by
 refine⟨λo=>?_,λd e=>?_⟩
 ·show i=z.cps.size;rw[<-o];simp[ME]
 ·unfold ME at e;rw[ue] at e
  cases g:z.cps.toList[i]? with
  | none=>rw[g] at e;cases e
  | some c=>
   rw[g] at e;cases e
   have p:=by
    have:=(List.getElem?_eq_some_iff.mp g).1;simpa using this
   have h:=by simpa using g
   refine⟨p,λx r l=>?_⟩;obtain⟨rfl,q,j,rfl⟩:=l;rw[h] at j;cases j;exact⟨e6.refl _,[],.str,Zr _⟩
theorem j9(h:PU X cl e f ua):S0 X cl tg e f (A5 ua):=.of<|by
 obtain⟨t,p,h⟩:=h.run;refine⟨_,OD p,λG u o H fa Q R z E y k=>h G u o H fa _ _ z E y λv i d B s r l q=>?_⟩;cases d<;>first | exact(q).elim | skip
 ·cases D3 r;exact .inl ⟨_,rfl,k _ i _ [] s (WO _) (λa j=>by cases j) (A4.nil _) q⟩
 ·obtain⟨p,vs,rfl,c,g⟩:=N0 r;exact .inr ⟨p,rfl,.inr ⟨vs,S6.of c,k _ i _ _ s (VL c g) g.there l q⟩⟩
 ·have x:=r;obtain⟨p,vs,C,rfl,c,g,rfl⟩:=D1 r;exact .inr ⟨p,rfl,.inl ⟨vs,G4.of c,k _ i _ _ s (WW c g) (λa j=>x.there j) l q⟩⟩
 ·obtain⟨p,vs,rfl,c,g⟩:=fB r;exact .inr ⟨p,rfl,.inl ⟨vs,c.sq,k _ i _ _ s (WT c g) g.there l q⟩⟩
def uM:List D->(D->Prop)->Prop
 | [.int i],Q=>Q (.int i)
 | [.bl k],Q=>Q (.int (if k then 1 else 0))
 | [.str x],Q=>x.length<=640/\∃n,PySem.intText? x=some n/\Q (.int n)
 | _,_=>False
theorem ye:Call3 X Oc uM:=by
 intro H vs i A Q R r q k;unfold uM at q;split at q
 ·exact .inl (Nn H vs _ A Q R r q k)
 ·exact .inl (Nn H vs _ A Q R r q k)
 ·obtain⟨g,n,d,q⟩:=q;obtain⟨v,rfl,c⟩:=r.one;cases D3 c;exact .inr ⟨_,n,rfl,d,g,k _ H _ _ (e6.refl H) .int uy (λ_ h=>(by cases h)) q⟩
 ·exact q.elim
end
end L3
namespace L2
open PySem PySem.Spec PyProof.Rows
end L2
namespace L3
open PySem PySem.Spec L2
section
variable{X:Cx}{cl:List Cl}{e a b tg:Expr}{es:ZV}{f:Fl}{pos:Pos}{ua ub uc:TU}{ma mb:TM}{fa fb fc:Fl}
end
end L3
namespace L2
open PySem PySem.Spec PyProof.Rows
def UR(h:Heap)(e:Addr)(b g:Value)(T:Addr):Prop:=
 ∃a vs d c,h.get? e=some a/\a.cls=b/\vs[0]?=some g/\a.data=.fields vs/\vs[1]?=some (.ref T)/\T≠e/\h.get? T=some d/\d.data=.fields c/\c[3]?=some .none
section
variable{M:Model}{A:Around}{E:AAB}{s:Shared}{base:Heap}{env:Env}{outer:List Env}{L e:Addr}{Q:Unit->Shared->Prop}
end
section
variable{P:Program}{w:World}{K:AAD}{mg:ZZ}{base:Heap}{N:ZT}{qual:Str}{scope:Scope}{f:Addr}{cd:Value}{A:Around}{outer:List Env}{s:Shared}{H:Hp}{E:XK}
 {pins:ZO} {σ:St} {H1:Hp} {s1:Shared}
end
section
variable{M:Model}{A:Around}{E:AAB}{s:Shared}{base:Heap}{env:Env}{outer:List Env}{L e:Addr}{Q:Unit->Shared->Prop}
end
section
variable{M:Model}{A:Around}{E:AAB}{h:Heap}{g:Array GenState}{d:Drawn}{t:Nat}{os:OsState}{e C C':Addr}{oe:Obj}{Q:Bool->Shared->Prop}
 {nm q:Str} {N:Addr} {bs bm:ZU} {hdct:Bool} {sn:ZT} {sub:ZU} {ab:Bool} {col:Option Bool} {dd:Option Addr} {k0 k1 k2 k3 k5:AAE} {newId:String}
 {nm' q':Str} {N':Addr} {bs' bm':ZU} {hdct':Bool} {sn':ZT} {sub':ZU} {ab':Bool} {col':Option Bool} {dd':Option Addr} {k0' k1' k2' k3' k5':AAE} {newId':String}
end
noncomputable def Cx.aX(X:Cx)(e:Addr)(a:Obj)(F:AAB):Cx:={ X with A:=X.A.mark (some (.ref e)),calm:=false,pn:=X.pn++[(e,a)],xe:=F }
section
variable{X:Cx}{pins:ZO}{σ:St}{H:Hp}{s:Shared}{e:Addr}{oe:Obj}{F:AAB}
theorem Cx.Ok.aX(ok:X.Ok):(X.aX e oe F).Ok:=
 ⟨ok.mod,ok.kind,ok.glob,ok.blt,ok.above,ok.inj,ok.has,ok.cab,λz=>absurd (z) ud,ok.frames,ok.stk,ok.exf,ok.bs,ok.bsz,ok.noex,ok.exfs,ok.gQ,ok.frf⟩
theorem Inv.aX(I:Inv X pins σ H s)(h:s.heap.get? e=some oe)(g:H e=none)(d:e≠X.env.locals)(c:e∉X.fs)(b:∀v,oe.data≠.cell v):Inv (X.aX e oe F) pins σ H s:=by
 refine⟨I.ok.aX,I.os,I.bare,I.base,I.loc,I.cell,I.free,I.freeC,λp a=>?_,I.hok,I.len⟩;rcases List.mem_append.mp a with z | z
 ·rcases List.mem_append.mp z with z | z
  ·exact I.pin p (v5 _ z)
  ·rw[List.mem_singleton.mp z];exact⟨h,g,d,c,b⟩
 ·exact I.pin p (tz _ z)
end
structure Pg(X:Cx)(pins:ZO)(σ:St)(H:Hp)(s:Shared)(e T:Addr)(cls a0:Value):Prop where
 inv:Inv X pins σ H s
 Np:UR s.heap e cls a0 T
 te:H e=none
 tT:H T=none
 from_:∃H1 s1,Inv X pins σ H1 s1/\s.os=s1.os/\AllBare s.gens/\Un (yd X.stack) [] H1 H s1.heap s.heap/\s1.heap.get? e=none/\s1.heap.get? T=none
section
variable{X:Cx}{pins:ZO}{σ:St}{H:Hp}{s:Shared}{e T:Addr}{cls a0:Value}{E:XK}{x:Value}{Q:Unit->Shared->Prop}{M:Model}{A:Around}{E2:AAB}
theorem UR.apart(f:UR h e cls a0 T)(d:h.FunFrames base l):e∉yd l/\T∉yd l:=by
 obtain⟨q,vs,r,g,i,u,B,hd,y,j,p,c,v⟩:=f;refine⟨λz=>?_,λz=>?_⟩
 ·obtain⟨_,o,a,b⟩:=d.mem z;rw[i] at a;cases a;exact b vs hd
 ·obtain⟨_,o,a,b⟩:=d.mem z;rw[p] at a;cases a;exact b g c
theorem Pg.pin(a:Pg X pins σ H s e T cls a0):∃c,c.cls=cls/\Inv (X.aX e c F) pins σ H s:=by
 obtain⟨c,vs,l,j,g,h,p,hd,_⟩:=a.Np;refine⟨c,h,a.inv.aX g a.te (λz=>?_) (λz=>?_) λv z=>by rw[hd] at z;cases z⟩
 ·obtain⟨m,⟨o,r,u,d,b,_⟩,_⟩:=a.inv.loc;rw[<-z,g] at d;cases d;rw[hd] at b;cases b
 ·have i:s.heap.FunFrames X.base X.outer:=by
   rcases a.inv.ok.stk with q | ⟨q,_⟩
   ·rw[<-q];exact a.inv.stack
   ·have:=a.inv.stack;rw[q] at this;exact this.2.2
  exact(a.Np.apart i).1 z
end
section
variable{X:Cx}{pins:ZO}{σ:St}{H:Hp}{s:Shared}{i:Nat}{n:Str}{M:Model}{A:Around}{E:AAB}{Q:Unit->Shared->Prop}
end
end L2
namespace L3
open PySem PySem.Spec PySem.Calls PyProof.Rows L2
abbrev WU:=List D->(D->Prop)->(Str->Prop)->Prop
def calm(c:WU):Cp:=λa Q=>c a Q λ_=>False
section
variable{X:Cx}{cl:List Cl}{e:Expr}{es:ZV}{pos p:Pos}{us:dH}{k:Nat}{fn:Addr}{fd:FuncData}{ps:ZT}{x:Str}
end
section
variable{X:Cx}{cl:List Cl}{e:Expr}{es:ZV}{pos cpos hpos np p:Pos}{us:dH}{k:Nat}{fn:Addr}{fd:FuncData}{ps:ZT}{x y bn n:Str}{i:Nat}
end
end L3
namespace PySem.W
open PySem PySem.Calls PyProof.Rows Builtin Builtin.ObjectAttr Builtin.Getset_descriptor
section
variable{K:Frag}{prog:Program}{w:World}{A:Around}{E:AAB}{s:Shared}{e D:Addr}{oe:Obj}
end
end PySem.W
namespace PySem.W
open PySem PySem.Calls PyProof.Rows
structure Ny(K:Frag)(D:Addr):Prop where
 ga:findIn K (.ref D) "__getattribute__"=some (some (.builtin "BaseException.__getattribute__"))
 gn:findIn K (.ref D) "__getattr__"=some none
 cl:findIn K (.ref D) "__class__"=some (some (.builtin "object.__class__"))
 sp:specialIn K (.builtin "object.__class__") "__get__"=some (some (.builtin "getset_descriptor.__get__"))
 tk:takesIn K (.builtin "object.__class__")=some true
 ob:mroIn K D (.type "object")=some true
 be:mroIn K D (.type "BaseException")=some true
section
variable{K:Frag}{D e:Addr}
theorem Ny.at(B:Ny K D):∃c d b a,K.lookup D=some ⟨c,d,.cls b,a⟩:=by
 have h:=B.ob;unfold mroIn clsIn at h;split at h
 ·rename_i c d b a g
  exact⟨_,_,_,_,g⟩
 ·cases h
end
end PySem.W
namespace L3
open PySem PySem.Spec PySem.Calls PyProof.Rows PySem.W L2
section
variable{X:Cx}{cl:List Cl}{e C:Addr}{oe:Obj}{pos p p1 p2:Pos}{n y:Str}{i:Nat}{b:Bool}
end
end L3
namespace L2
open PySem PySem.Spec PyProof.Rows
noncomputable def Wc(K:AAD)(a:Addr)(n:Nat):It:=
 ⟨λi H=>i<n/\∃b,G4 K H a b/\b.length=n,λi H x c=>c=H/\∀b,G4 K H a b->b[n-1-i]?=some x,λi H=>i=n⟩
theorem CW{K:AAD}(a it:Addr)(n:Nat):Turn P w K tg (Wc K a n) [it] it (λi h=>i<=n/\h.IsRevIter it a ((n:Int)-1-(i:Int))) where
 mem:=List.mem_singleton.mpr rfl
 obj:=λi h st b q=>by
  cases List.mem_singleton.mp q;obtain⟨_,o,e,c,d⟩:=st;exact⟨o,e,λv z=>by rw[d] at z;cases z⟩
 keep:=λi h y st k=>⟨st.1,st.2.at λo e=>k it (List.mem_singleton.mpr rfl) o e⟩
 item:=by
  intro X C hw G hc i j s S H E I r st B;subst C hw G;obtain⟨hi,T,Y,hn⟩:=B;obtain⟨a0,rv,p,hz⟩:=I.list Y;have U:T[n-1-i]?=some (T[n-1-i]'(by omega)):=nA (by omega);obtain⟨u,hu,ru⟩:=rv.get U;obtain⟨R,Q,f2,O,M,J⟩:=r it (List.mem_singleton.mpr rfl);have g:=st.2;rw[show(n:Int)-1-i=((n-1-i:Nat)) by omega] at g;refine wpAny_pyNext_rev_item g p.isList  (by simpa using hu) λy l sb=>?_;rw[show((n-1-i:Nat))-1=n-1-((i+1):Int) by omega] at l;have I1:=I.turned (t':=s.toks) (λb o q e=>(sb.2 b q).trans e) R Q O M J;obtain⟨o,e,c,d⟩:=id l;exact⟨u,rfl,mS  e c d (by decide) ⟨_,H,I1,ru,⟨rfl,λys hy=>by rwa[I.jo hy Y]⟩,⟨hi,l⟩,λb q=>(r b q).1⟩⟩
 done:=by
  intro X C hw G hc i j s S H E I r st B;obtain rfl:i=n:=B;obtain⟨R,Q,f2,O,M,J⟩:=r it (List.mem_singleton.mpr rfl);have g:=st.2;rw[show(i:Int)-1-i=-1 by omega] at g;exact wpAny_pyNext_rev_end (I.ok.hd hc) g λy eb=>⟨rfl,I.turned (t':=s.toks) (λb o q e=>eb b o q e) R Q O M J⟩
 self:=λ_ _ _ _ _ st h=>wpAny_pyIter_revIter st.2 h
def NK(K:AAD)(e:TA):TI:=λd H R=>e d H λvs c=>∃a b,vs=[.ref a]/\G4 K c a b/\R (Wc K a b.length) c
theorem JV     (Q:Gl X "reversed") (O:X.mg "reversed"=none) (T:PA X [a] y) (J:starEach [a] X.env=[(false,eval a X.env)]:=by rfl):PI X B (.Call (.Name "reversed" p) [a] [] d) (NK X.K y):=by
 refine .of ?_;intro g s z H R I h;refine Yg (bG I Q O ZK (callWith_type1 (w5 (T d g s z H _ I h) λY v ⟨vs,U,r,E,G⟩=>?_) J rfl) (by decide) (by decide));obtain⟨l,c,rfl,M,q⟩:=G;obtain⟨u,rfl,C⟩:=vals1 E;cases(C);obtain⟨x,rv,pl,hz⟩:=r.list M;refine call_reversed_list pl.isList ?_;have j:x.toArray.size=c.length:=by exact rv.length.symm
 rw[j];refine wpAny_pyIter_revIter   ⟨_,u0 _ rfl,rfl,rfl⟩ (⟨v.heap.objs.size,[v.heap.objs.size],_,_,U,rfl,r.kept  λb o e=>hD _ e,CW l _ c.length,⟨xL _,?_⟩,λb S=>?_,q⟩)
 ·rw[show(c.length:Int)-1-((0:Nat))=c.length-1 by omega];exact⟨_,u0 _ rfl,rfl,rfl⟩
 ·cases List.mem_singleton.mp S;exact r.fL (sK _) (r.hok.fresh (sK _))
end L2
namespace L3
open PySem PySem.Spec PyProof.Rows L2
section
variable{X:Cx}{cl:List Cl}{tg e a kx:Expr}{f fb:Fl}{ua ub:TU}{pos p:Pos}
def Nh(u:TU):mr:=λc Q=>u c λd=>match d with
 | .lst b=>Q b.reverse
 | .fz b=>Q b.reverse
 | _=>False
theorem zW{K:AAD}(h:∀b,Tf H b->(∀a∈g,b a=H a)->G4 K b q vs)(l:C.Sublist g)(r:i8 K H vs xs C):aV K (Wc K q vs.length) xs.reverse g H:=λb tf k i=>by
 have j:=h b tf k;have z:=r.length;refine⟨λe=>?_,λd e=>?_⟩
 ·show i=vs.length;rw[On] at e;omega
 ·have E:=by
   have:=(List.getElem?_eq_some_iff.mp e).1
   rwa [On] at this
  rw[YV E] at e;obtain⟨v,B,J,x,u⟩:=aw r tf (λa G=>k a (l.mem G)) e;refine⟨⟨by omega,vs,j,rfl⟩,λy M c=>?_⟩;obtain⟨I,c⟩:=c;subst I;have o:=c vs j;rw[z,J] at o;cases o;exact⟨e6.refl _,B,x,u.trans l⟩
theorem Qg (h:PU X cl e f ua) (y:isStar e=false) (mk:∀{t},PA X [e] t->PI X tg (.Call (.Name "reversed" p) [e] [] pos) (NK X.K t)):S0 X cl tg (.Call (.Name "reversed" p) [e] [] pos) f (Nh ua):=.of<|by
 obtain⟨t,q,h⟩:=h.run;refine⟨_,mk (bp q M4 y),λG o l H J Q R I E x k=>h G o l H J _ _ I E x λv j d B s r i q=>?_⟩;cases d<;>first | exact(q).elim | skip
 ·have u:=r;obtain⟨p,vs,C,rfl,b,c,rfl⟩:=D1 r;exact⟨p,vs,rfl,G4.of b,k _ j _ _ s (zW (λM tf g=>G4.of ((g p hQ).trans b)) (Xb _ _) c) (λa z=>u.there z) i q⟩
 ·obtain⟨p,vs,rfl,b,c⟩:=fB r;exact⟨p,vs,rfl,b.sq,k _ j _ _ s (zW (λM tf g=>(tf.UH b).sq) (XE _) c) c.there i q⟩
def Fh(c uv:TU):TU:=λb Q=>c b λx=>match X5 x with
 | some k=>uv b λy=>u3 y=true/\Q (.dic [(k,y)])
 | none=>False
theorem Hm(C:PU X cl kx f ua)(r:PU X cl e fb ub):PU X cl (.Dict [some kx] [e] pos) .fresh (Fh ua ub):=.of<|by
 obtain⟨tk,pk,C⟩:=C.run;obtain⟨tv,pv,r⟩:=r.run;refine⟨_,wF<|MK (FV pk pv KS) rfl rfl (by simp) (show 1<=15 by decide),λG T S H fo Q R hG E hu k=>?_⟩;intro d hd;have l:e6 H (upd H d (.dK [])):=e6.g7 hd;refine C G T S _ fo _ _ hG (E.same l) hu λv H1 x A j r1 f1 i=>?_
 cases M:X5 x with
 | none=>rw[M] at i;exact i.elim
 | some g=>
  rw[M] at i;refine r G T S H1 fo _ _ hG ((E.same l).same j) i λw O y B U Y f2 q2=>?_;have h:=U _ _ (j _ _ c8);cases P5 r1 M;have hB:=Y.E9 q2.1;subst hB;refine⟨h,[(g,w)],rfl,by show 1<=15;decide,d,_,rfl,c8,λep=>?_⟩;rw[aA]
  have s3:e6 H (upd O d (.dE (B3 [] [(g,w)]) ep)):=λb o I=>by
   have c:b≠d:=λz=>by subst z;rw[hd] at I;cases I
   rw[i3 c];exact U _ _ (j _ _ (l _ _ I))
  have q:Rep X.K (upd O d (.dE (B3 [] [(g,w)]) ep)) w y []:=Y.Z6 ⟨λb xs e=>by
    have c:b≠d:=λz=>by subst z;rw[h] at e;cases e
    rwa[i3 c],λb o u e=>by
    have c:b≠d:=λz=>by subst z;rw[h] at e;cases e
    rwa[i3 c]⟩ (λa J=>by cases J)
  exact k _ _ _ [d] s3 (.dic c8 (.cons q .nil)) ⟨List.nodup_cons.mpr ⟨(λz=>nomatch z),uy⟩,λa J=>by cases List.mem_singleton.mp J;exact hd⟩ q2.2
end
end L3
namespace PySem.SeqAt
open PySem MeetsSeq MeetsSeq2 MeetsSeq3 SeqRoads2
section
variable{A:Around}{s:Shared}
end
end PySem.SeqAt
namespace L2
open PySem PySem.Spec PyProof.Rows
section
variable{X:Cx}
end
end L2
namespace L3
open PySem PySem.Spec PyProof.Rows L2
section
variable{X:Cx}{cl:List Cl}{a b:Expr}{fa fb:Fl}{ua ub:TU}{pos:Pos}
end
end L3
namespace L2
open PySem PySem.Spec PyProof.Rows
section
variable{X:Cx}
end
end L2
namespace L3
open PySem PySem.Spec L2
section
variable{X:Cx}{cl:List Cl}{a:Expr}{fa:Fl}{ua:TU}{pos:Pos}
end
end L3
namespace PySem
theorem qv:typeLookup (.type "list") "keys"=pure none:=by kernel_rfl
theorem La{prog:Program}{w:World}{A:Around}{E:AAB}{s:Shared}{a:Addr}{o:Obj}{xs:ZY}{k:Nat}{Q:AAE->Shared->Prop}
  (l:s.heap.get? a=some o) (p:o.cls=.type "list") (b:o.data=.seq xs k) (hd:o.dict=none) (v:A.handled=none)
  (h:∀h' tk e,Heap.NewExcOf s.heap h' e "AttributeError"->Q none { s with heap:=h',toks:=tk }):wpAny (model prog w) A (getAttr? (.ref a) "keys") Q E s:=by
 obtain⟨c,x,y,r⟩:=o;simp only at p b hd;subst p b hd;obtain⟨u,g,d,tk,os⟩:=s;have q:∀i,(⟨u,g,d,i,os⟩:Shared).TypeIs (.ref a) "list":=λ_=>⟨_,l,rfl⟩
 have J:=sub_AttributeError;have I:=F.slot_list_getattribute.lookup;have H:=F.slot_list_getattribute.bind (.ref a);have G:=am_list_getattr_none;unfold getAttr? getAttrBy? getAttrBy
 repeat (any_goals (first | assumption | exact q _ | ((with_reducible show wpAny _ _ (call (Value.builtin "list.__getattribute__") _ _) _ _ _);refine ZA F.slot_list_getattribute (q _) am_entry_list_getattribute (F.args_list_getattribute_2 _ _) (meets_getattribute_miss_list a xs k r "keys" _ qv (by decide +kernel) (by size_fits)) ⟨l,v,λh' i e j=>?_⟩) | wp_step))
 obtain⟨B,z,C⟩:=j.there;show wpAny _ _ (getattributeRaised _ _ _ _ _ _ _) _ _ _;unfold getattributeRaised
 repeat (any_goals (first | assumption | wp_step))
 exact h _ _ _ j.of
end PySem
namespace L2
open PySem PySem.Spec PyProof.Rows
theorem uY:entryFor table "dict.update.loop"=some Builtin.«dict.update.loop»:=entryFor_of_tree (by kernel_rfl)
theorem dZ:plainId "dict.update.loop"=true:=by decide +kernel
def AE(H:Hp)(t:V)(b:Key×V):Prop:=∃a,t=.ref a/\H a=some (.tup [kV b.1,b.2])
theorem nz:∀{l:List d} {m:List c},Paired F l m->∀(i:Nat) (a:d) (b:c),l[i]?=some a->m[i]?=some b->F a b
 | _,_,.nil,i,a,b,h,_=>by simp at h
 | _,_,.cons r t,0,a,b,h,g=>by simp at h g;subst h g;exact r
 | _,_,.cons r t,i+1,a,b,h,g=>nz t i a b (by simpa using h) (by simpa using g)
section
variable{X:Cx}{pins:ZO}{σ:St}
theorem yV{E:AAB}(I:Inv X pins σ H s)(e:H a=some (.dK kvs))(l:kvs.length<sizeLine)(i:RelV (kV k) u)(rv:RelV v r)
  (h:∀d,Inv X pins σ (upd H a (.dK (putK kvs k v))) d->Heap.SameBut a s.heap d.heap->Q () d):wpAny (model X.prog X.w) A (dictSet a u r) Q E s:=by
 obtain⟨z,hd,vs,b,x⟩:=zm I.hok e;have j:vs.length<=sizeLine:=by rwa[<-b.length]
 have p:(putK kvs k v).length<=sizeLine:=by have:=G3 kvs k v;omega
 exact wpAny_dictSet_pairs  (aL i) x λy c g=>h _ (bY I (by rw[e];exact True.intro) g (let ⟨q,_,_,o,_⟩:=c;⟨q,o⟩) (kE p hd (b.put k rv) c)) g
theorem LV{R:Result->Shared->Prop}{H:Hp}{d p it:Addr}{ts:List V}{kvs:List (Key×V)}(hh:A.handled=none)(hp:G4 X.K H p ts)(hd:H d=none)(C:Paired (AE H) ts kvs)(hl:kvs.length<sizeLine)(hit:it≠d)(h:∀o,N6 X pins (upd H d o) it)(z:∀j,Inv X pins σ (upd H d (.dK (B3 [] kvs))) j->R (.ok (.ret .none)) j) :
  ∀(n i:Nat) (s:Shared),kvs.length-i=n->i<=kvs.length->Inv X pins σ (upd H d (.dK (B3 [] (kvs.take i)))) s->s.heap.IsListIter it p i ->
   codeAny (model X.prog X.w) A (.builtin "dict.update.loop" ⟨[.ref d,.ref it,rawInt i,.none],[]⟩) R s:=by
 intro n
 induction n with
 | zero=>
  intro i s hn c I st;have e:i=kvs.length:=by omega
  subst e;rw[wh] at I;have hq:G4 X.K (upd H d (.dK (B3 [] kvs))) p ts:=e6.seq (e6.g7 hd) hp;obtain⟨B,rv,pl,hz⟩:=I.list hq;obtain⟨Q,O,f2,M,J,G⟩:=h (.dK (B3 [] kvs));have e1:=C.length;have e2:=rv.length;refine Rs uY ?_;refine eH (wpAny_pyNext_list_end hh st pl.isList (by simp;omega) λl eb=>?_);have q:=I.turned (t':=s.toks) (h':=l) (λb o E e=>eb b o E e) Q O M J G;exact eH (hE (hE (z _ q)))
 | succ n ih=>
  intro i s hn c I st;have c:i<kvs.length:=by omega
  have sm:e6 H (upd H d (.dK (B3 [] (kvs.take i)))):=e6.g7 hd;obtain⟨B,rv,pl,hz⟩:=I.list (e6.seq sm hp);obtain⟨Q,O,f2,M,J,G⟩:=h (.dK (B3 [] (kvs.take i)));have e1:=C.length;have hx:ts[i]?=some (ts[i]'(by omega)):=nA (by omega);have hk:kvs[i]?=some (kvs[i]'c):=nA c;obtain⟨a,ea,ha⟩:=nz C i _ _ hx hk;obtain⟨u,hu,T⟩:=rv.get hx;rw[ea] at T;cases(show u=Value.ref a from T);refine Rs uY ?_;rw[No dZ _];show wpAny _ A.in1 (pyNext (.ref it) >>= _) _ _ s;refine eH (wpAny_pyNext_list_item st pl.isList (x:=.ref a) (by simpa using hu) λl r sb=>?_);have q:=I.turned (t':=s.toks) (h':=l) (λb o E e=>(sb.2 b E).trans e) Q O M J G;obtain⟨_,Y,v,o2,g1,g2,n2,g3⟩:=(show u9 X.prog X.w _ l a (.tup _) from q.hok a _ (sm _ _ ha))
  obtain⟨U,S,rfl,rk,y⟩:=vals2 v
  have g:(B3 [] (kvs.take i)).length<sizeLine:=by
   have h1:=X1 (kvs.take i) [];rw[wE] at h1;simp at h1;omega
  have em:B3 [] (kvs.take (i+1))=putK (B3 [] (kvs.take i)) (kvs[i]'c).1 (kvs[i]'c).2:=by
   rw[v9,hk];unfold B3;rw[WF];rfl
  refine eH (FS (eH (wpAny_tryCatch ?_)));unfold Builtin.Dict.pairItems;refine eH (Yk ⟨o2,g1,g2⟩ ?_);rw[ux (by decide)];refine eH (wpAny_seqItems g1 g3 (hE ?_));show wpAny _ _ (holding [U,S] (dictSet d U S)) _ _ _;refine FS (yV q c8 g rk y λj I2 hs=>?_);rw[aA,<-em] at I2;exact hE ⟨Xr dZ _,ih (i+1) j (by omega) c I2 (r.at λo e=>(hs.2 it hit).trans e)⟩
theorem wZ(G:X.calm=true):G0 X (.type "dict") (λxs H Q=>∃p ts kvs,xs=[.ref p]/\G4 X.K H p ts/\Paired (AE H) ts kvs/\kvs.length<sizeLine/\∀d,H d=none->Q (.ref d) (upd H d (.dK (B3 [] kvs)))):=by
 intro pins s σ H xs Y Q I r h;obtain⟨p,ts,kvs,rfl,E,S,T,q⟩:=h;obtain⟨u,rfl,O⟩:=vals1 r;cases(O);refine callType_codes (Q₁:=λobj C=>obj=.ref s.heap.objs.size/\C={ s with heap:=s.heap.push { cls:=.type "dict",data:=.dict #[] } }) F.kt_called_dict (F.kt_typeCall_dict_1 _) F.entry_dict_init (kt_code_dict_new _ ⟨rfl,rfl⟩) ?_;rintro obj C ⟨rfl,rfl⟩;have v:=I.hok.fresh (sK s.heap.objs.size);have M:=I.laid    (t':=s.toks) (λ_ _ q=>hD _ q) (sK _) (bh s.heap I.big);obtain⟨x,rv,pl,hz⟩:=M.list (e6.seq (e6.g7 v) E);have J:Shared.TypeIs { s with heap:=s.heap.push { cls:=.type "dict",data:=.dict #[] } } (.ref s.heap.objs.size) "dict":=⟨_,u0 _ rfl,rfl⟩
 refine⟨J,F.args_dict_init_2 _ _,?_⟩;refine eH ?_;refine eH (wpAny_notOrdered_dict J ?_);refine hE ?_;show wpAny _ _ (Builtin.Dict.updateFrom "dict.__init__" s.heap.objs.size (.ref p) [] .none) _ _ _;refine eH (Yk pl.isList.typeIs ?_);obtain⟨ob,R,l,j,y,i⟩:=pl;refine eH (La l j i y (I.ok.hd G) λz c e2 nx=>?_);have B:=M.kept (t':=c)  nx.keeps;refine eH (Yf (eH (YM  ⟨ob,nx.keeps _ _ l,j,R,i⟩ (hE ⟨Xr dZ _,?_⟩))))
 have g:=by
  have:=vu (nx.keeps _ _ (u0 s.heap  rfl));exact this
 refine LV    (A:=X.A.in1)   (p:=p) (it:=z.objs.size) (ts:=ts) (kvs:=kvs) (I.ok.hd G) E v S T (Ya g) (λo=>B.fL (sK _) (by rw[i3 (Ya g)];exact(e6.g7 v).free (B.hok.fresh (sK _)))) (λs' U=>⟨rfl,.ref s.heap.objs.size,_,U,rfl,q _ v⟩) kvs.length 0 _ rfl (xL _) (B.kept (t':=c) λb o e=>hD _ e) ?_
 ·exact⟨_,u0 _ rfl,rfl,rfl⟩
end
end L2
namespace L3
open PySem PySem.Spec PyProof.Rows L2
noncomputable def pairD:D->Option (Key×D)
 | .tup [k,v]=>(X5 k).map λj=>(j,v)
 | _=>none
noncomputable def dt:List D->Option (List (Key×D))
 | []=>some []
 | x::a=>match pairD x,dt a with
  | some p,some b=>some (p::b)
  | _,_=>none
noncomputable def ke(more:List (Key×D)):List (Key×D):=more.foldl (λa b=>putD a b.1 b.2) []
section
variable{X:Cx}
theorem rJ{K:AAD}{H:Hp}:∀{ts:List V} {xs:List D} {A:ZS} {ps:List (Key×D)},i8 K H ts xs A->dt xs=some ps->x3 xs=true ->
  ∃kvs:List (Key×V),Paired (AE H) ts kvs/\x6 K H kvs ps []/\kvs.length=ps.length
 | _,_,_,_,.nil,e,_=>by cases e;exact⟨[],.nil,.nil,rfl⟩
 | _,_,_,ps,.cons (d:=d) (ds:=r) h t,e,I=>by
  have g:(u3 d&&x3 r)=true:=I;rw[v8] at g;unfold dt at e
  cases i:pairD d with
  | none=>rw[i] at e;cases e
  | some p=>
   cases l:dt r with
   | none=>rw[i,l] at e;cases e
   | some Q=>
    rw[i,l] at e;cases e;obtain⟨kvs,a,b,c⟩:=rJ t l g.2;unfold pairD at i;split at i
    ·rename_i k v
     obtain⟨j,M,rfl⟩:=Option.map_eq_some_iff.mp i;obtain⟨q,vs,rfl,J,u⟩:=N0 h;obtain⟨x,y,B,C,rfl,E,o,_⟩:=u.two;cases P5 E M
     have G:=by
      have z:(u3 k&&(u3 v&&true))=true:=g.1;simp only[v8] at z;exact z.2.1
     have O:=o.E9 G;subst O;exact⟨(j,y)::kvs,.cons ⟨q,rfl,J⟩ a,x6.cons   o b,by rw[wP,wP,c]⟩
    ·cases i
theorem ow{K:AAD}{H:Hp}:∀{kvs:List (Key×V)} {ps:List (Key×D)} {A:ZS} {acc:List (Key×V)} {ad:List (Key×D)},x6 K H kvs ps A->A=[]->x6 K H acc ad []->x6 K H (B3 acc kvs) (ps.foldl (λa c=>putD a c.1 c.2) ad) []
 | _,_,_,_,_,.nil,_,q=>q
 | _,_,_,acc,ad,.cons (k:=k) h t,e,q=>by
  obtain⟨i,g⟩:=List.append_eq_nil_iff.mp e;subst i;obtain⟨C,b,d⟩:=q.put k h;rw[List.sublist_nil.mp d] at b;show x6 K H (B3 (putK acc k _) _) (List.foldl _ (putD ad k _) _) [];exact ow t g b
def pf:List D->(D->Prop)->Prop:=λe Q=>(∃(d:D) (b:List D) (c:List (Key×D)),e=[d]/\kindB false d=some b/\x3 b=true/\dt b=some c/\c.length<sizeLine/\Q (.dic (ke c))) \/
 ∃a:List (Key×D),e=[.dic a]/\(a.all λg=>u3 g.2)=true/\Q (.dic a)
def yx(K:AAD)(xs:List V)(H:Hp)(Q:VK):Prop:=(∃p b a,xs=[.ref p]/\G4 K H p b/\Paired (AE H) b a/\a.length<sizeLine/\∀d,H d=none->Q (.ref d) (upd H d (.dK (B3 [] a)))) \/
  ∃p a,xs=[.ref p]/\Dd H p a/\∀d,H d=none->Q (.ref d) (upd H d (.dK a))
theorem uX(C:X.calm=true):G0 X (.type "dict") (yx X.K):=by
 intro c s g H i j Q I r h;rcases h with h | ⟨p,v,rfl,y,q⟩
 ·exact wZ C c s g H i j Q I r h
 ·obtain⟨u,rfl,l⟩:=vals1 r;cases(l);obtain⟨z,hd,vs,a,J⟩:=cB I.hok (.of y);refine kt_call_dict hd J (by rwa[<-a.length]) λG d x=>?_;have B:=I.hok.fresh (sK s.heap.objs.size)
  have kp:∀b o,s.heap.get? b=some o->G.get? b=some o:=λb o e=>by
   have E:=v6 (vu e);exact(x.2 b E).trans (hD _ e)
  have M:=(bh (P:=X.prog) (w:=X.w) (H:=H) s.heap I.big).2.1;exact⟨.ref s.heap.objs.size,_,I.laid  kp (sK _) (kE z M a d),rfl,q _ B⟩
theorem cX(a:X.calm=true):G0 X (.type "dict") (λxs H Q=>yx X.K xs H (RO Q)):=GU (uX a)
theorem oC:Call3 X (λxs H Q=>yx X.K xs H (RO Q)) pf:=by
 intro H vs T A Q R r q k;rcases q with⟨d,xs,x,rfl,S,j,O,I,q⟩ | ⟨C,rfl,j,q⟩
 ·obtain⟨v,rfl,i⟩:=r.one;obtain⟨p,l,B,rfl,E,u,_⟩:=aD i S;obtain⟨c,y,h,el⟩:=rJ u O j;refine .inl ⟨p,l,c,rfl,E,y,by rwa[el],λa g=>?_⟩;have o:=ow h rfl .nil;refine⟨a,_,rfl,c8,λM=>?_⟩;rw[aA];refine k _ _ _ [a] (e6.g7 g) (.dic c8 (o.mono (Y3.of (e6.g7 g)) λb e=>by cases e)) (List.nodup_cons.mpr ⟨(λz=>nomatch z),uy⟩) (λb e=>by cases List.mem_singleton.mp e;exact g) q
 ·obtain⟨v,rfl,i⟩:=r.one;obtain⟨p,c,B,rfl,G,h,_⟩:=bX i;have J:=h.E9 j;subst J;refine .inr ⟨p,c,rfl,G,λa g=>⟨a,_,rfl,c8,λM=>?_⟩⟩;rw[aA];exact k _ _ _ [a] (e6.g7 g) (.dic c8 (h.mono (Y3.of (e6.g7 g)) λb e=>by cases e)) (List.nodup_cons.mpr ⟨(λz=>nomatch z),uy⟩) (λb e=>by cases List.mem_singleton.mp e;exact g) q
end
end L3
namespace L2
open PySem PySem.Spec PyProof.Rows
section
variable{X:Cx}{e c:Expr}{te:TE}{pos p2:Pos}
def So(K:AAD)(te:TE)(tc:TO):TE:=λd H Q=>te d H λx h=>tc d h λl b=>l=some (-1)/\∃a g,x=.ref a/\G4 K b a g/\∀p,b p=none->Q (.ref p) (upd b p (.lst g.reverse))
theorem KP(R:PE X e te)(S:PO X (some c) tc):PE X (.Subscript e (.Slice none none (some c) p2) pos) (So X.K te tc):=by
 refine .of ?_;intro d s i H Q I h;refine Subscript_ (w5 (R d s i H _ I h) λv B ⟨x,H1,Y,C,G⟩=>wpAny_Slice ?_);refine hE (hE (w5 (S d B i H1 _ Y G) λp g ⟨l,H2,U,pc,T,a,z,ex,O,E⟩=>?_));subst T ex;cases C;have j:Inv X d i H2 { g with heap:=g.heap.push { cls:=.type "slice",data:=.fields #[.none,.none,p] } }:=U.kept  λb ob q=>hD _ q;obtain⟨J,r,u,M⟩:=j.list O;have y:=r.length;refine tail_any  u.isList.typeIs slot_list_getitem.lookup (wpAny_getItem_list_slice u.isList (ZD ..) .none .none pc (by decide) ?_ (by rw[u8];omega)) (by with_unfolding_all rfl);rw[PySem.W.krv_pick];exact⟨.ref _,_,j.laid  (o:=.lst z.reverse) (λb ob q=>hD _ q) (sK _) ⟨by rwa[On],_,0,r.reverse,u0 _ rfl⟩,rfl,E _ (j.hok.fresh (sK _))⟩
end
end L2
namespace L3
open PySem PySem.Spec L2
section
variable{X:Cx}{cl:List Cl}{a c:Expr}{fa:Fl}{ua uc:TU}{pos p2:Pos}
def Ng(ua:TU)(uc:Qt):TU:=λb Q=>ua b λd=>uc b λl=>l=some (-1)/\match d with
 | .lst e=>x3 e=true/\Q (.lst e.reverse)
 | _=>False
theorem rf(r:i8 K H vs ds []):i8 K H vs.reverse ds.reverse []:=by
 obtain⟨C,b,d,_⟩:=r.rev
 have e:C=[]:=by
  cases C with
  | nil=>rfl
  | cons a C=>exact absurd ((d a).mp hQ) (by simp)
 rwa[e] at b
theorem JU(j:PU X cl a fa ua)(O:PU X cl c f uc):PU X cl (.Subscript a (.Slice none none (some c) p2) pos) .fresh (Ng ua (cE uc)):=.of<|by
 obtain⟨ta,I,j⟩:=j.run;obtain⟨tl,pl,g⟩:=(ah O).run;refine⟨_,KP I pl,λG q o H x Q R u E J k=>j G q o H x _ _ u E J λv Y d A i y f1 C=>g G q o Y x _ _ u (E.same i) C λo1 H2 h e=>?_⟩;obtain⟨U,e⟩:=e;cases d<;>first | exact(e).elim | skip
 obtain⟨p,vs,B,rfl,M,r,_⟩:=D1 (y.same h);have T:=r.E9 e.1;subst T;exact⟨U,p,vs,rfl,G4.of M,λl g=>k _ _ _ [l] ((i.trans h).trans (e6.g7 g)) (.lst c8 ((rf r).same (e6.g7 g))) ⟨List.nodup_cons.mpr ⟨(λz=>nomatch z),uy⟩,λb S=>by cases List.mem_singleton.mp S;exact(i.trans h).free g⟩ e.2⟩
end
end L3
namespace L2
open PySem PySem.Spec PySem.Calls PyProof.Rows
section
variable{X:Cx}{pins:ZO}{σ:St}{H:Hp}{s:Shared}
end
end L2
namespace L3
open PySem PySem.Spec PySem.Calls PyProof.Rows L2
section
variable{X:Cx}{cl:List Cl}{e:Expr}{es:ZV}{pos cpos hpos np p:Pos}{us:dH}{k m:Nat}{x y bn n:Str}{i j:Nat}{AP:Addr->Prop}
end
section
variable{X:Cx}{cl:List Cl}{e:Expr}{es:ZV}{pos p:Pos}{us:dH}{k:Nat}{fn:Addr}{fd:FuncData}{ps:ZT}{x:Str}{ua:TU}{f:Fl}{ma:TM}
structure UD(X:Cx)(cl:List Cl)(es:ZV)(u:dH):Prop where
 of ::
 run:∃t,PA X es t/\∀(G:Ent) (ρ:Ev) (σ:L2.St) (H:Hp) (fa:AAC) (Q:List D->Prop) (R:List V->Hp->Prop),G.cl=cl->E3 X.K G ρ σ H fa->u ρ Q ->
  (∀vs H' ds A,e6 H H'->i8 X.K H' vs ds A->ds.length=es.length->(∀i,G.own i->∀a∈A,a∉fa i)->Q ds->R vs H')->t σ H R
theorem PC:UD X cl [] e9:=.of ⟨_,M4,λG c b H d Q R _ E a k=>k [] H [] [] (e6.refl H) .nil rfl (λ_ _ _ h=>(by cases h)) a⟩
theorem Aq(b:PU X cl e f ua)(U:UD X cl es us)(T:isStar e=false)(Y:kK f .stab=true):UD X cl (e::es) (a9 ua us):=.of<|by
 obtain⟨t1,J,h1⟩:=b.run;obtain⟨t2,I,h2⟩:=U.run;refine⟨_,bp J I T,λG g c H q Q R o E S k=>h1 G g c H q _ _ o E S λv H1 d A j u f1 C=>h2 G g c H1 q _ _ o (E.same j) C λvs H2 ds B h r O M y=>k (v::vs) H2 (d::ds) (A++B) (j.trans h) (.cons (u.same h) r) (by simp[O]) (λi l a b=>?_) y⟩;rcases List.mem_append.mp b with z | z
 ·exact f1.weak E Y i l a z
 ·exact M i l a z
theorem Lm(h:UD X cl es us)(l:Nat.ble es.length 1000=true):PU X cl (.Tuple es d pos) .stab (X0 us):=.of<|by
 obtain⟨t,p,h⟩:=h.run;exact⟨_,qj p,λG c b H u Q R o E j k=>h G c b H u _ _ o E j λvs y v A s r i g q=>⟨by rw[r.length,i];exact bN (x0 l),λx a=>k _ _ (.tup v) A (s.trans (e6.g7 a)) (.tup c8 (r.same (e6.g7 a))) g q⟩⟩
end
end L3
namespace L2
open PySem PySem.Spec PyProof.Rows
theorem tH{E:AAB}{s:Shared}{T d b:String}{v:Builtin}{a:ZU}{Q Q1:AAB}(g:TypeCalled T d b)(ct:checkTypeCall T ⟨a,[]⟩=pure ())(B:entryFor table b=some v)
  (l:codeAny (model prog w) A.in1 (.call (.builtin d) ⟨.type T::a,[]⟩) (wants Q1 E) s)
  (next:∀x j,Q1 x j->j.TypeIs x T/\(∀{H:Around} {u:Unit->Shared->Prop} {G:AAB},u () j->wpAny (model prog w) H (checkBuiltinCall b ⟨x::a,[]⟩) u G j) /\
   wpAny (model prog w) A.in1.in1 (v ⟨x::a,[]⟩)
    (λf o=>match f with | .done r=>wants (λr i=>r=.none/\Q x i) E (.ok r) o | .again c=>c.quiet=true/\codeAny (model prog w) A.in1 c (wants (λr i=>r=.none/\Q x i) E) o)
    (λe o=>wants (λr i=>r=.none/\Q x i) E (.error e) o) j) :
  wpAny (model prog w) A (call (.type T) a) Q E s:=by
 have⟨c,I,f1⟩:=g.mro;have Y:=g.made;have X:=g.sub;have U:=g.notType;have S:=g.canCreate;refine wpAny_call (Zf (show wpAny _ _ (callAny (.type T) _) _ _ _ from hE ⟨Code.quiet_builtin _ (by decide +kernel),Rs F.entry_type_call ?_⟩));rw[Around.under_plain (weight_type_call_type T a []) rfl];repeat (any_goals (first | assumption | wp_step))
 refine Yz l λr j p=>?_
 cases r with
 | error e=>exact p
 | ok z=>
  cases z with
  | ret x=>
   have⟨R,C,run⟩:=next _ _ p;have O:=g.init.lookup;have M:=g.init.bind x;repeat (any_goals (first | assumption | wp_step))
   refine Yz (codeAny_call_builtin g.init.plain B (C run)) λy i h=>?_
   cases y with
   | error e=>exact h
   | ok q=>
    cases q with
    | ret r=>obtain⟨rfl,J⟩:=h;repeat (any_goals (first | assumption | wp_step))
    | _=>exact h.elim
  | _=>exact p.elim
theorem se{R:Result->Shared->Prop}{I:Addr}{Q q:ZS}{n:Nat}{P:Nat->Value->Prop}{St:Nat->Heap->Prop}(W:Walks prog w A.in1 I Q q n P St)(S:Addr)(O:S∉Q)(c:Nat->Key)(hv:∀i v,P i v->bK (c i) v=true)(d:n+1<scanBound) :
  ∀(k i:Nat) (s:Shared),n-i=k->i<=n->St i s.heap->(∃m,m<=i/\s.heap.SetOf (j6 prog w) S (λx=>((List.range i).map c).any λz=>decide (z=x)) m) ->
   (∀h' tk m,(∀b o,b∉S::q->s.heap.get? b=some o->h'.get? b=some o)->h'.SetOf (j6 prog w) S (λx=>((List.range n).map c).any λz=>decide (z=x)) m->R (.ok (.ret .none)) { s with heap:=h',toks:=tk }) ->
   codeAny (model prog w) A (.builtin "set.update.loop" ⟨[.ref S,.ref I],[]⟩) R s:=by
 have X:=λh=>O (W.sub _ h);have fH:∀{h h':Heap} {T:Key->Bool} {m:Nat},(∀b o,b∉q->h.get? b=some o->h'.get? b=some o)->h.SetOf (j6 prog w) S T m->h'.SetOf (j6 prog w) S T m:=λk ⟨o,es,ep,t,ho,r⟩=>⟨o,es,ep,t,k S _ X ho,r⟩
 have same:∀{h:Heap} {T U:Key->Bool} {m:Nat},h.SetOf (j6 prog w) S T m->T=U->h.SetOf (j6 prog w) S U m:=λa e=>e▸a;intro k
 induction k with
 | zero=>
  intro i s hk hi st ⟨m,_,J⟩ g;have e:i=n:=by omega
  subst e;refine Rs W1 ?_;exact eH (W.done s _ _ st λh' tk kp=>hE (g h' tk m (λb o d e=>kp b o (λz=>d (hH _ z)) e) (fH kp J)))
 | succ k ih=>
  intro i s hk hi st ⟨m,a0,J⟩ g;have p:i<n:=by omega
  refine Rs W1 ?_;show wpAny _ A.in1 (pyNext (.ref I) >>= _) _ _ s;refine eH (W.item i s _ _ p st λv h' tk hP y kp=>?_);have l:=hv i v hP;have C:v.scannable=true:=by rcases o8 l with⟨j,t,_,rfl⟩ | ⟨x,t,_,rfl⟩<;>rfl
  have H:=fH kp J;show wpAny _ A.in1 (holding [v] (setAdd S v) >>= _) _ _ _;refine eH (FS ?_);unfold setAdd;refine FS (eH ((j6 prog w).pyHash (k:=c i) l (wpAny_setAddHashed_of (knd:=j6 prog w) (n:=m) (s:={ s with heap:=h',toks:=tk+1 }) l C H (by omega) λh2 M G=>hE ⟨Xr Go _,ih (i+1) _ (by omega) p (W.frame (i+1) h' h2 y λb d o e=>(M.2 b λz=>O (z▸d)).trans e) ⟨_,?_,same G (funext λx=>?_)⟩ λh3 u Y B E=>?_⟩)))
  ·split<;>omega
  ·rw[YQ,v7];rw[List.any_append];show((_:Bool)||decide (x=c i))=(_||(decide (c i=x)||false));rw[Bool.or_false,show decide (x=c i)=decide (c i=x) from decide_eq_decide.mpr eq_comm]
  ·refine g h3 u Y (λb o d e=>B b o d ?_) E;exact(M.2 b λz=>d (by rw[z];exact hQ)).trans (kp b o (λz=>d (hH _ z)) e)
theorem mB(P:Program)(w:World){a:List Key}(r:Vals ts its)(e:ts=a.map kV)(i:Nat)(v:Value)(h:its.toArray[i]?=some v):bK (a.getD i (.inl 0)) v=true:=by
 subst e;have d:=by simpa using h
 have j:=r.length;rw[dL] at j;have l:=(List.getElem?_eq_some_iff.mp d).1;have c:a[i]?=some (a[i]'(by omega)):=nA (by omega);obtain⟨u,b,g⟩:=r.get (show(a.map kV)[i]?=some (kV (a[i]'(by omega))) by rw[ue,c];rfl);rw[d] at b;cases b;rw[v4,c];exact aL (P:=P) (w:=w) g
theorem range_getD(a:List Key):(List.range a.length).map (λi=>a.getD i (.inl 0))=a:=by
 refine Zn λi=>?_;rw[ue]
 by_cases h:i<a.length
 ·rw[Zd h];show some (a.getD i (.inl 0))=_;rw[v4,nA h];rfl
 ·rw[Xx (by simpa using h),Xx (by simpa using h)];rfl
section
variable{X:Cx}
theorem sub_tuple_set:isSubtype (.type "tuple") (.type "set")=pure false:=by kernel_rfl
theorem jV:isSubtype (.type "tuple") (.type "frozenset")=pure false:=by kernel_rfl
theorem AX(hc:X.calm=true):G0 X (.type "set") (λxs H Q=>∃(p:Addr) (ts:List V) (l:List Key),xs=[.ref p]/\(G4 X.K H p ts\/S6 X.K H p ts)/\ts=l.map kV/\l.length+1<scanBound/\∀d n,H d=none->Q (.ref d) (upd H d (.set (λk=>l.any λz=>decide (z=k)) n))):=by
 intro U s σ H xs us Q I r h;obtain⟨p,ts,l,rfl,G,ht,hl,q⟩:=h;obtain⟨u,rfl,ru⟩:=vals1 r;cases(show u=Value.ref p from ru);refine tH (Q1:=λx s1=>∃led:Bool,x=.ref s.heap.objs.size/\s1={ s with heap:=s.heap.push { cls:=.type "set",dict:=none,data:=.set #[] 0 (.fresh 0 0 led) } }) F.called_set (F.typeCall_set_1 _) F.entry_set_init (code_set_new_1 _ λled=>⟨led,rfl,rfl⟩) ?_;rintro x s1 ⟨led,rfl,rfl⟩;have hn:=I.hok.fresh (sK s.heap.objs.size);have hS:(s.heap.push { cls:=.type "set",dict:=none,data:=.set #[] 0 (.fresh 0 0 led) }).get? s.heap.objs.size=some { cls:=.type "set",dict:=none,data:=.set #[] 0 (.fresh 0 0 led) }:=u0 _ rfl;have hT:Shared.TypeIs { s with heap:=s.heap.push { cls:=.type "set",dict:=none,data:=.set #[] 0 (.fresh 0 0 led) } } (.ref s.heap.objs.size) "set":=⟨_,hS,rfl⟩
 refine⟨hT,λhq=>check_set_init_1 hT hq,?_⟩
 have a1:∀(y:Heap) (tk m:Nat),(∀b o,b<s.heap.objs.size->s.heap.get? b=some o->y.get? b=some o)->y.SetOf (j6 X.prog X.w) s.heap.objs.size (λx=>l.any λz=>decide (z=x)) m ->
   EP X U σ Q (.ref s.heap.objs.size) { s with heap:=y,toks:=tk }:=λy tk m kp O=>
  ⟨.ref s.heap.objs.size,_,I.laid (a:=s.heap.objs.size) (o:=.set (λk=>l.any λz=>decide (z=k)) m) (h':=y) (t':=tk) (λb o e=>kp b o (vu e) e) (sK _) O,rfl,q _ m hn⟩
 have hh:=I.ok.hd hc;have e0:((List.range 0).map λi=>l.getD i (.inl 0))=[]:=rfl
 have start:∀{h2:Heap},h2.get? s.heap.objs.size=some { cls:=.type "set",dict:=none,data:=.set #[] 0 (.fresh 0 0 led) }->h2.SetOf (j6 X.prog X.w) s.heap.objs.size (λx=>((List.range 0).map λi=>l.getD i (.inl 0)).any λz=>decide (z=x)) 0:=λg=>
  ⟨_,#[],0,_,g,⟨rfl,rfl,rfl⟩,rfl,λe he=>by simp at he,λk=>by simp,by decide,by rfl,rfl⟩
 have T:p<s.heap.objs.size:=by
  rcases G with G | G
  ·obtain⟨_,_,pl,_⟩:=I.list G;obtain⟨o,_,e,_⟩:=pl;exact vu e
  ·obtain⟨_,_,pl,_⟩:=I.tuple G;exact pl.lt
 have np:s.heap.objs.size∉[(s.heap.push { cls:=.type "set",dict:=none,data:=.set #[] 0 (.fresh 0 0 led) }).objs.size,p]:=by
  rw[Pv];intro z;rcases List.mem_cons.mp z with z | z
  ·exact absurd z (v6 (XH _))
  ·exact absurd (List.mem_singleton.mp z) (Ya T)
 have nI:p≠(s.heap.push { cls:=.type "set",dict:=none,data:=.set #[] 0 (.fresh 0 0 led) }).objs.size:=by
  rw[Pv];exact v6 (SC T)
 have Y:∀{h2 y:Heap},(∀b o,s.heap.get? b=some o->h2.get? b=some o)->(∀b o,b∉[s.heap.objs.size,(s.heap.push { cls:=.type "set",dict:=none,data:=.set #[] 0 (.fresh 0 0 led) }).objs.size]->h2.get? b=some o->y.get? b=some o)->∀b o,b<s.heap.objs.size->s.heap.get? b=some o->y.get? b=some o:=λk1 k2 b o hb e=>k2 b o (λz=>by
  rw[Pv] at z;rcases List.mem_cons.mp z with z | z
  ·exact absurd z (v6 hb)
  ·exact absurd (List.mem_singleton.mp z) (v6 (SC hb))) (k1 b o e)
 rcases G with G | G
 ·obtain⟨c,rv,pl,hz⟩:=I.list G;have j:c.length=l.length:=by rw[<-rv.length,ht,dL]
  obtain⟨ob,M,R,E,a0,C⟩:=pl;obtain⟨oc,od,a2,J⟩:=ob;simp only at E a0 C;subst E a0 C;have B:(s.heap.push { cls:=.type "set",dict:=none,data:=.set #[] 0 (.fresh 0 0 led) }).get? p=some { cls:=.type "list",dict:=none,data:=.seq c.toArray M,slots:=J }:=hD _ R;have f1:=F.sub_list_set;have f2:=F.sub_list_frozenset;have f3:(Value.type "list" == Value.type "dict")=false:=by decide
  unfold Builtin.«set.__init__» noKeywords Builtin.Frozenset.updateFrom;generalize S:pyIter=PI
  wp_walk
  subst S;refine YM (items:=c.toArray) ⟨_,B,rfl,M,rfl⟩ (eH (Zh ?_));refine se (Walks.list (by simp[hh]) _ p nI c.toArray) s.heap.objs.size np (λi=>l.getD i (.inl 0)) (λi v hv=>mB X.prog X.w rv ht i v hv) (by rw[u8,j];exact hl) c.toArray.size 0 _ (by omega) (xL _) ⟨⟨_,u0 _ rfl,rfl,rfl⟩,⟨_,hD _ B,rfl,M,rfl⟩⟩ ⟨0,sK _,start (hD _ hS)⟩ λy tk m kp O=>?_;rw[show c.toArray.size=l.length by rw[u8];exact j,range_getD] at O;exact hE (hE ⟨rfl,a1 y tk m (Y (λb o e=>hD _ (hD _ e)) kp) O⟩)
 ·obtain⟨c,rv,pl,hz⟩:=I.tuple G;have j:c.length=l.length:=by rw[<-rv.length,ht,dL]
  obtain⟨ob,R,E,M,C⟩:=pl;obtain⟨oc,od,a2,J⟩:=ob;simp only at E C;subst E C;have B:(s.heap.push { cls:=.type "set",dict:=none,data:=.set #[] 0 (.fresh 0 0 led) }).get? p=some { cls:=.type "tuple",dict:=od,data:=.seq c.toArray M,slots:=J }:=hD _ R;have f1:=sub_tuple_set;have f2:=jV;have f3:(Value.type "tuple" == Value.type "dict")=false:=by decide
  unfold Builtin.«set.__init__» noKeywords Builtin.Frozenset.updateFrom;generalize S:pyIter=PI
  wp_walk
  subst S;refine Zz (items:=c.toArray) ⟨_,B,rfl,M,rfl⟩ (eH (Zh ?_));refine se (Walks.tuple (by simp[hh]) _ p nI c.toArray) s.heap.objs.size np (λi=>l.getD i (.inl 0)) (λi v hv=>mB X.prog X.w rv ht i v hv) (by rw[u8,j];exact hl) c.toArray.size 0 _ (by omega) (xL _) ⟨⟨_,u0 _ rfl,rfl,rfl⟩,⟨_,hD _ B,rfl,M,rfl⟩⟩ ⟨0,sK _,start (hD _ hS)⟩ λy tk m kp O=>?_;rw[show c.toArray.size=l.length by rw[u8];exact j,range_getD] at O;exact hE (hE ⟨rfl,a1 y tk m (Y (λb o e=>hD _ (hD _ e)) kp) O⟩)
theorem Gj(r:RelV (kV k) u):u.scannable=true:=by
 cases k with
 | inl i=>obtain⟨t,rfl⟩:=r;rfl
 | inr x=>obtain⟨t,rfl⟩:=r;rfl
def Tc(a:Bool):R2:=λx y H Q=>∃k p S n,x=kV k/\y=.ref p/\H p=some (.set S n)/\Q (.bl (match a with | true=>!S k | false=>S k)) H
theorem Cu:P6 X (compareOp .NotIn) (Tc true):=by
 intro b s d H x y v u Q I a c h;obtain⟨k,p,S,n,rfl,rfl,g,q⟩:=h;cases c;exact wpAny_notInSet_of (aL a) (Gj a) (I.hok p _ g) ⟨.bl (!S k),H,I.tok _,rfl,q⟩
end
end L2
namespace L3
open PySem PySem.Spec L2
noncomputable def Ey(a:List Key)(k:Key):Bool:=a.any λz=>decide (z=k)
noncomputable def kD:Key->D
 | .inl i=>.int i
 | .inr x=>.str x
section
variable{X:Cx}{cl:List Cl}{e a b tg:Expr}{es:ZV}{f:Fl}{pos:Pos}{ua ub:TU}{fa fb:Fl}{us:dH}{x y:Str}
theorem QN(r:Rep K H v (kD k) A):v=kV k:=by
 cases k with
 | inl i=>cases r;rfl
 | inr x=>cases r;rfl
theorem zB:∀{vs:List V} {c:List Key} {A:ZS},i8 K H vs (c.map kD) A->vs=c.map kV
 | _,[],_,.nil=>rfl
 | _,k::c,_,.cons h r=>by rw[vc,QN h,zB r]
def Rh(c:Bool):D->D->(D->Prop)->Prop:=λd e Q=>match e with
 | .st g=>∃k,X5 d=some k/\Q (.bl (ng c (Ey g k)))
 | _=>False
theorem Ui:cy X (Tc c) (Rh c):=by
 intro H v w d e A B Q R l i q k;cases e<;>first | exact(q).elim | skip
 rename_i o
 obtain⟨j,r,q⟩:=q
 cases i with
 | st g u=>
  rename_i p S n
  refine⟨j,_,_,_,P5 l r,rfl,g,?_⟩;have z:=u j;rw[z];cases c<;>exact k _ H _ _ (e6.refl H) .bl uy (λ_ h=>(by cases h)) q
theorem Ck(g:PU X cl a fa ua)(d:PU X cl b fb ub)(c:behindInMarks .NotIn b=false):PU X cl (.Compare a [.NotIn] [b] pos) .fresh (o5 (Rh true) ua ub):=kB Cu Ui g d c
def Ss:List D->(D->Prop)->Prop:=λg Q=>∃d c,g=[d]/\rQ d=some (c.map kD)/\c.length<4000/\Q (.st c)
theorem Qy:Call3 X (λxs H Q=>∃(p:Addr) (ts:List V) (c:List Key),xs=[.ref p]/\(G4 X.K H p ts\/S6 X.K H p ts)/\ts=c.map kV/\c.length+1<scanBound/\∀d n,H d=none->Q (.ref d) (upd H d (.set (λk=>c.any λz=>decide (z=k)) n))) Ss:=by
 intro H vs C A Q R r q k;obtain⟨d,c,rfl,e,g,q⟩:=q;obtain⟨v,rfl,i⟩:=r.one;obtain⟨p,h,B,rfl,o,j,_⟩:=eZ i e;refine⟨p,h,c,rfl,o,zB j,by unfold scanBound;omega,λl n g=>k _ _ (.st c) [l] (e6.g7 g) (.st c8 λ_=>rfl) (by simp) (λa u=>?_) q⟩;rwa[List.mem_singleton.mp u]
def QI(i j:Nat)(us:dH):g4:=λT c=>us c λg=>∃d e,g=[d,e]/\u3 d=true/\u3 e=true/\Nat.blt i c.length=true/\Nat.blt j c.length=true/\T.nx ((c.set i (some d)).set j (some e))
theorem Nk(hc:X.calm=true)(hN:X.N.Nodup)(hi:X.N[i]?=some x)(hj:X.N[j]?=some y)(u:i≠j)(U:X.env.scope.names.lookup x=some .local)(S:X.env.scope.names.lookup y=some .local)(ha:HH X cl [a,b] us)(ci:cl[i]?=some .bor)(cj:cl[j]?=some .bor)
  (hw:swappedStores [.Tuple [.Name x l,.Name y g] o pt] (.Tuple [a,b] p c) X.env=pure (some [x,y])) (hs:swapsWithSole [.Tuple [.Name x l,.Name y g] o pt] (.Tuple [a,b] p c) pos.line X.env=pure false:=by rfl) :
  K3 X cl (.Assign [.Tuple [.Name x l,.Name y g] o pt] (.Tuple [a,b] p c) pos) (QI i j us):=.of<|by
 obtain⟨t,pt,h⟩:=ha.run;refine⟨_,ON hc hN hi hj u U S pt hw hs,λG T I C H fa R B E Y le=>h G I C H fa _ _ B E Y λvs H1 ds A s r n3 q=>?_⟩;obtain⟨d,e,rfl,Q,O,M,J,q⟩:=q
 cases r with
 | cons z r=>
  cases r with
  | cons v r=>
   cases r;have e1:=z.E9 Q;have e2:=v.E9 O;subst e1 e2;have ok:∀(fa:AAC) (n:Nat),cl[n]?=some .bor->hV G fa [] n:=λfa n hn=>⟨λ_ _ _ _ h=>(by cases h),by rw[B,hn];trivial⟩
   have E1:=(E.same s).set (x0 M) z (ok _ i ci);have E2:=E1.set (by rw[WP];exact x0 J) v (ok _ j cj);exact⟨_,_,rfl,le.nx _ _ ⟨_,_,E2,q⟩⟩
def xJ(i:Nat)(g h:TU):g4:=λT d=>a6 i d λl=>g d λy=>match l with
 | .dic c=>∃k a,X5 y=some k/\u4 c k=some (.int a)/\c.length<sizeLine/\h d λz=>∃b,z=.int b/\T.nx (d.set i (some (.dic (putD c k (.int (a+b))))))
 | _=>False
theorem EA(hu:X.A.units+1<cLine)(i:Nat)(hv:PE X (.Name x vp) (cw i))(hi:cl[i]?=some .own)(hk:PU X cl ik fb ub)(he:PU X cl e fa ua)
  (j:∀M O new,augStore ik M O new=(do holding [new,M,O] (setItem M O new);release [new,M,O] [];pure .next):=by intros;rfl) :
  K3 X cl (.AugAssign (.Subscript (.Name x vp) ik tp) .Add e pos) (xJ i ub ua):=.of<|by
 obtain⟨t,p,h⟩:=he.run;obtain⟨t2,p2,h2⟩:=hk.run;refine⟨_,xy<|Mg hu hv p2 p (EO ) j,λG T ρ σ H Q R hG E a4 le=>?_⟩;have own:G.own i:=by unfold Ent.own;rwa[hG]
 obtain⟨l0,e0,q⟩:=p5 a4;obtain⟨v,o,r0⟩:=E.rep i l0 e0;refine⟨v,o,h2 G ρ σ H Q _ _ hG E q λwk H1 dk Bk s1 rk fk q=>?_⟩;obtain⟨c,rfl⟩:∃c,l0=.dic c:=by cases l0<;>first | exact⟨_,rfl⟩ | exact(q).elim
 obtain⟨k,Y,hk,r,hn,q⟩:=q;obtain⟨p,l,a5,B,rfl,hp,rs,eA⟩:=vm r0;cases P5 rk hk;obtain⟨u,C0,e1,r1,_⟩:=(rs.val k).1 _ r;cases r1;refine⟨p,_,rfl,e1▸av.k (.inr ⟨_,s1 _ _ hp⟩),h G ρ σ H1 Q _ _ hG (E.same s1) q λw H2 z Bz s2 rz fz q=>?_⟩;obtain⟨U,rfl,q⟩:=q;cases rz;refine⟨Y,U,rfl,rfl,?_⟩;have d:=s1.trans s2;have E2:=E.same d;have g:=d _ _ hp
 have a1:=by
  have:=(Rep.dic hp rs).same d
  cases this with
  | dic J a2=>
   rw[g] at J;cases J;exact a2
 have nd:=E2.nd i (.inl own);have pin:p∈Q i:=by rw[eA];exact hQ
 rw[eA] at nd;obtain⟨np,a3⟩:=List.nodup_cons.mp nd;obtain⟨C,rC,sC⟩:=a1.put k (.int );have I:=λz=>np (sC.mem z);have rn:∀S,Rep X.K (upd H2 p (.dE (putK l k (.int (Y+U))) S)) (.ref p) (.dic (putD c k (.int (Y+U)))) (p::C):=λS=>.dic c8 (rC.mono (Y3.Ri (by rw[g];exact True.intro)) λa j=>i3 λe=>I (e▸j))
 have n3:∀a∈p::C,a∈Q i:=λa j=>by
  rcases List.mem_cons.mp j with z | z
  ·exact z▸pin
  ·rw[eA];exact hH _ (sC.mem z)
 have li:i<ρ.length:=(List.getElem?_eq_some_iff.mp e0).1;refine⟨_,oY.k (.inr ⟨_,g⟩) (by rw[rs.length];exact hn),p,_,c8,λS=>?_⟩;rw[aA];exact le.nx _ _ ⟨_,_,E2.put own li o pin V9 (by rw[c8];exactλz=>nomatch z) (rn S) (List.nodup_cons.mpr ⟨I,a3.sublist sC⟩) λa j=>.inl (n3 a j),q⟩
end
end L3
namespace L2
open PySem PySem.Spec PyProof.Rows
namespace RT
theorem rO:Manifest.owners.lookup (String.ofList ['d','e','s','r','e','v','e','r'].reverse)=some Manifest.sig_reversed:=by kernel_rfl
theorem E8:Slot "reversed" "__next__" "reversed.__next__":=.of (owner:="reversed") (n:="__next__") (by kernel_rfl) (by decide +kernel) (by decide +kernel) (by decide +kernel) (by first | exact .inl (by decide +kernel) | exact .inr (by decide +kernel)) (by kernel_rfl)
theorem cI:entryFor table "reversed.__next__"=some Builtin.«reversed.__next__»:=entryFor_of_tree (by kernel_rfl)
theorem dh(a:Value):argsOk "reversed.__next__" ⟨[a],[]⟩:=by unfold argsOk;kernel_rfl
theorem kN:Slot "reversed" "__iter__" "reversed.__iter__":=.of (owner:="reversed") (n:="__iter__") (by kernel_rfl) (by decide +kernel) (by decide +kernel) (by decide +kernel) (by first | exact .inl (by decide +kernel) | exact .inr (by decide +kernel)) (by kernel_rfl)
theorem wI(a:Value):argsOk "reversed.__iter__" ⟨[a],[]⟩:=by unfold argsOk;kernel_rfl
theorem Pz:Slot "reversed" "__init__" "object.__init__":=.of (owner:="object") (n:="__init__") (by kernel_rfl) (by decide +kernel) (by decide +kernel) (by decide +kernel) (by first | exact .inl (by decide +kernel) | exact .inr (by decide +kernel)) (by kernel_rfl)
theorem called:TypeCalled "reversed" "reversed.__new__" "object.__init__":=⟨by decide +kernel,by decide +kernel,⟨_,_,F.mro_reversed⟩,F.made_reversed,by decide +kernel,F.sub_reversed_self,Pz⟩
theorem PL:typeLookup (.type "tuple") "__reversed__"=pure none:=by kernel_rfl
theorem JR:isSubtype (.type "tuple") (.type "dict")=pure false:=by kernel_rfl
theorem ym:entryFor table "reversed.__iter__"=some Builtin.«dict_keyiterator.__iter__»:=entryFor_alias (id':="dict_keyiterator.__iter__") (by kernel_rfl) (by first | rfl | decide +kernel | (unfold String.splitOn;simp +decide [Zl])) (by decide +kernel) (by kernel_rfl)
end RT
noncomputable def Mx(t:Addr)(i:Int):Obj:={ cls:=.type "reversed",data:=.fields #[.ref t,rawInt i] }
def lQ(h:Heap)(a t:Addr)(i:Int):Prop:=∃o,h.get? a=some o/\o.cls=.type "reversed" /\ o.data=.fields #[.ref t,rawInt i]
section
variable{prog:Program}{w:World}{A:Around}{E:AAB}{s:Shared}
theorem lQ.ty(x:lQ s.heap a t i):s.TypeIs (.ref a) "reversed":=let ⟨o,b,c,_⟩:=x;⟨o,b,c⟩
theorem lQ.at(x:lQ h a t i)(e:∀o,h.get? a=some o->h'.get? a=some o):lQ h' a t i:=let ⟨o,b,r⟩:=x;⟨o,e _ b,r⟩
theorem OS{items:ZY}{Q1:AAB}(b:IsTup s.heap t items)(c:(items.size:Int)<2^63)(h:Q1 (.ref s.heap.objs.size) { s with heap:=s.heap.push (Mx t ((items.size:Int)-1)),toks:=s.toks+1+1 }) :
  codeAny (model prog w) A (.call (.builtin "reversed.__new__") ⟨[.type "reversed",.ref t],[]⟩) (wants Q1 E) s:=by
 refine Zf (show wpAny _ A.in1 (do checkBuiltinCall "reversed.__new__" ⟨[.type "reversed",.ref t],[]⟩;again (.builtin "reversed.__new__" ⟨[.type "reversed",.ref t],[]⟩)) _ _ s from eH (Xn (F.newCall_reversed_1 _) (hE ⟨Xr F.plain_reversed_new _,Rs F.entry_reversed_new (eH (Xn (newClass_reversed _) (eH (Xn (a:=()) (by first | rfl | kernel_rfl) (eH (Xn (a:=()) (by first | rfl | kernel_rfl) (eH (Ye b.typeIs RT.PL (eH ?_)))))))))⟩)));show wpAny _ _ (isInstance (.ref t) (.type "dict") >>= _) _ _ _;refine eH (Yo b.typeIs RT.JR ?_);show wpAny _ _ (specialOf (.ref t) "__getitem__" >>= _) _ _ _;refine eH (Ye b.typeIs slot_tuple_getitem.lookup (hE ?_));show wpAny _ _ (call (.builtin "len") [.ref t] >>= _) _ _ _;refine eH (len_tuple b c (eH (Xn (a:=some (items.size:Int)) rfl ?_)));show wpAny _ _ (Builtin.SmallTypes.newRecord (.type "reversed") [.ref t,rawInt ((items.size:Int)-1)] >>= _) _ _ _;unfold Builtin.SmallTypes.newRecord;refine eH (wn (hE h) (by size_fits))
theorem Fu{items:ZY}{Q:AAB}(c:IsTup s.heap t items)(d:(items.size:Int)<2^63)(h:Q (.ref s.heap.objs.size) { s with heap:=s.heap.push (Mx t ((items.size:Int)-1)),toks:=s.toks+1+1 }) :
  wpAny (model prog w) A (call (.type "reversed") [.ref t]) Q E s:=by
 refine callType_codes (Q₁:=λx a=>x=.ref s.heap.objs.size/\a={ s with heap:=s.heap.push (Mx t (items.size-1)),toks:=s.toks+1+1 }) RT.called (F.typeCall_reversed_1 _) F.entry_object_init (OS c d ⟨rfl,rfl⟩) ?_;rintro x a ⟨rfl,rfl⟩;have b:Shared.TypeIs { s with heap:=s.heap.push (Mx t (items.size-1)),toks:=s.toks+1+1 } (.ref s.heap.objs.size) "reversed":=⟨_,u0 _ rfl,rfl⟩
 exact⟨b,F.args_object_init_2 _ _,object_init_meets RT.called.init.lookup RT.called.made (by decide) prog w A.in1 _ _ ⟨b,rfl,h⟩⟩
theorem Kv{i:Nat}{items:ZY}{Q:AAE->Shared->Prop}(hit:lQ s.heap it t (i:Int))(d:IsTup s.heap t items)(l:t≠it)(c:items[i]?=some x)(q:(items.size:Int)<2^63)
  (h:∀h',lQ h' it t ((i:Int)-1)->Heap.SameBut it s.heap h'->Q (some x) { s with heap:=h',toks:=s.toks+1 }):wpAny (model prog w) A (pyNext (.ref it)) Q E s:=by
 obtain⟨o,b,g,hd⟩:=id hit;refine eH (XY (IR  hit.ty RT.E8 (Gc RT.E8 hit.ty RT.cI (eH (Xn  rfl (eH (Xo b hd  rfl (eH (Xo b hd  rfl ?_)))))) (RT.dh _))));refine eH (Ye d.typeIs slot_tuple_getitem.lookup (eH (wpAny_mkInt ?_)));have p:=(Array.getElem?_eq_some_iff.mp c).1
 have e:seqIndex? i items.size=some i:=by
  unfold seqIndex?
  simp;omega
 refine eH (XY (getItem_tuple (j:=i) (x:=x) (s:={ s with toks:=s.toks+1 }) d (by omega) (by omega) e c ?_));refine eH (Xo b hd (x:=rawInt (i:Int)) rfl ?_);exact eH (Xg b hd (by simp) (hE ⟨x,rfl,hE (h _ ⟨_,FB _ b (UV (C2 hd _)),(YO ..).trans g,by rw[C2 hd];simp⟩ (IN ..))⟩))
theorem PB{Q:AAE->Shared->Prop}(d:A.handled=none)(hit:lQ s.heap it t (-1))
  (h:∀h',Heap.ExtBut it s.heap h'->Q none { s with heap:=h' }):wpAny (model prog w) A (pyNext (.ref it)) Q E s:=by
 obtain⟨o,c,i,hd⟩:=id hit;refine eH (XY (IR (name:=Str.ofString "__next__") hit.ty RT.E8 (Gc RT.E8 hit.ty RT.cI ?_ (RT.dh _))));refine eH (Xn (a:=(Value.ref it,[])) rfl ?_);refine eH (Xo c hd (x:=.ref t) rfl (eH (Xo c hd (x:=rawInt (-1)) rfl ?_)));refine eH (Yf (eH ?_));refine eH (Xg c hd (by simp) ?_);have g:=FB (λo=>o.mapFields λe=>e.setIfInBounds 1 (rawInt (-1))) c (UV (C2 hd _));refine Xg g (C2 hd _) (by simp) ?_;have ex:Heap.ExtBut it s.heap ((s.heap.update it (Obj.mapFields λx=>x.setIfInBounds 1 (rawInt (-1)))).update it (Obj.mapFields λx=>x.setIfInBounds 0 Value.none)):=(IN ..).extBut.trans (IN ..).extBut;show wpAny _ _ _ _ _ { s with heap:=(s.heap.update it (Obj.mapFields λx=>x.setIfInBounds 1 (rawInt (-1)))).update it (Obj.mapFields λx=>x.setIfInBounds 0 Value.none) };generalize (s.heap.update it (Obj.mapFields λx=>x.setIfInBounds 1 (rawInt (-1)))).update it (Obj.mapFields λx=>x.setIfInBounds 0 Value.none)=j at ex;refine eH (show wpAny _ _ (newExc (.type "StopIteration") [] >>= _) _ _ _ from eH ?_);simp only[newExc,newTuple];refine eH (wn (eH (m:=firstArgMember _ _) (Xn (a:=Value.none) (by first | rfl | (simp only[firstArgMember];rfl)) (wn ?_ (by size_fits)))) (by size_fits));simp only[raiseNew];refine eH (wpAny_handled ?_)
 first | rw[show A.in1.handled=none from d] | rw[d]
 refine eH (hE (wpAny_throw ?_));refine eH (Yo (T:="StopIteration") (b:=true) ⟨_,u0 _ rfl,rfl⟩ isSubtype_stop (hE (h _ ((ex.push _).push _))))
theorem zt{Q:AAB}(hit:lQ s.heap it t i)(h:Q (.ref it) s):wpAny (model prog w) A (pyIter (.ref it)) Q E s:=by
 refine ZG hit.ty RT.kN (Gc RT.kN hit.ty RT.ym (hE ⟨_,rfl,"reversed",_,hit.ty,RT.E8.lookup,h⟩) (RT.wI _))
end
noncomputable def Vr(K:AAD)(a:Addr)(n:Nat):It:=
 ⟨λi H=>i<n/\n<=sizeLine/\∃b,S6 K H a b/\b.length=n,λi H x c=>c=H/\∀b,S6 K H a b->b[n-1-i]?=some x,λi H=>i=n⟩
theorem HV{K:AAD}(a it:Addr)(n:Nat)(ne:a≠it):Turn P w K tg (Vr K a n) [it] it (λi h=>i<=n/\lQ h it a ((n:Int)-1-(i:Int))) where
 mem:=List.mem_singleton.mpr rfl
 obj:=λi h st b q=>by
  cases List.mem_singleton.mp q;obtain⟨_,o,e,c,d⟩:=st;exact⟨o,e,λv z=>by rw[d] at z;cases z⟩
 keep:=λi h y st k=>⟨st.1,st.2.at λo e=>k it (List.mem_singleton.mpr rfl) o e⟩
 item:=by
  intro X G hw J hc i j s T H E I r st C;subst G hw J;obtain⟨hi,hz,U,hq,hn⟩:=C;obtain⟨B,rv,p,_⟩:=I.tuple hq;have Y:U[n-1-i]?=some (U[n-1-i]'(by omega)):=nA (by omega);obtain⟨u,hu,ru⟩:=rv.get Y;obtain⟨S,R,f2,Q,O,M⟩:=r it (List.mem_singleton.mpr rfl);have g:=st.2;have hl:B.length=n:=by rwa[<-rv.length]
  rw[show(n:Int)-1-i=((n-1-i:Nat)) by omega] at g;refine Kv g p ne  (by simpa using hu) (by rw[u8];rw[Uf] at hz;omega) λy l sb=>?_;rw[show((n-1-i:Nat))-1=n-1-((i+1:Nat):Int) by omega] at l;have I1:Inv X j T H { s with heap:=y,toks:=s.toks+1 }:=I.turned (t':=s.toks+1) (λb o q e=>(sb.2 b q).trans e) S R Q O M;obtain⟨o,e,c,d⟩:=id l;exact⟨u,rfl,mS (s:={ s with heap:=y,toks:=s.toks+1 }) e c d (by decide) ⟨_,H,I1,ru,⟨rfl,λys hy=>by rw[I.mI hy hq];exact Y⟩,⟨hi,l⟩,λb q=>(r b q).1⟩⟩
 done:=by
  intro X G hw J hc i j s T H E I r st C;subst G hw J;obtain rfl:i=n:=C;obtain⟨S,R,f2,Q,O,M⟩:=r it (List.mem_singleton.mpr rfl);have g:=st.2;rw[show(i:Int)-1-(i:Int)=-1 by omega] at g;exact PB (I.ok.hd hc) g λy eb=>⟨rfl,I.turned (t':=s.toks) (λb o q e=>eb b o q e) S R Q O M⟩
 self:=λ_ _ _ _ _ st h=>zt st.2 h
def Jb(K:AAD)(e:TA):TI:=λd H R=>e d H λvs c=>∃a b,vs=[.ref a]/\S6 K c a b/\R (Vr K a b.length) c
theorem Hc     (S:Gl X "reversed") (Q:X.mg "reversed"=none) (U:PA X [a] y) (M:starEach [a] X.env=[(false,eval a X.env)]:=by rfl):PI X B (.Call (.Name "reversed" p) [a] [] g) (Jb X.K y):=by
 refine .of ?_;intro j s z H R I h;refine Yg (bG I S Q ZK (callWith_type1 (w5 (U g j s z H _ I h) λus v ⟨vs,Y,r,E,G⟩=>?_) M rfl) (by decide) (by decide));obtain⟨l,d,rfl,O,q⟩:=G;obtain⟨u,rfl,C⟩:=vals1 E;cases(C);obtain⟨x,rv,pl,J⟩:=r.tuple O;have c:x.toArray.size=d.length:=by exact rv.length.symm
 refine Fu pl (by rw[Uf] at J;omega) ?_;rw[c];refine zt   ⟨_,u0 _ rfl,rfl,rfl⟩ (⟨v.heap.objs.size,[v.heap.objs.size],_,_,Y,rfl,r.kept  λb o e=>hD _ e,HV l _ d.length (v6 pl.lt),⟨xL _,?_⟩,λb T=>?_,q⟩)
 ·rw[show(d.length:Int)-1-((0:Nat))=d.length-1 by omega];exact⟨_,u0 _ rfl,rfl,rfl⟩
 ·cases List.mem_singleton.mp T;exact r.fL (sK _) (r.hok.fresh (sK _))
end L2
namespace L3
open PySem PySem.Spec PyProof.Rows L2
section
variable{X:Cx}{cl:List Cl}{tg e:Expr}{f:Fl}{ua:TU}{pos p:Pos}
def NA(u:TU):mr:=λb Q=>u b λd=>match d with
 | .tup a=>a.length<sizeLine/\Q a.reverse
 | _=>False
theorem HJ{K:AAD}(hz:vs.length<=sizeLine)(h:∀a,Tf H a->S6 K a q vs)(r:i8 K H vs xs C):aV K (Vr K q vs.length) xs.reverse C H:=λa tf k i=>by
 have c:=h a tf;have o:=r.length;refine⟨λe=>?_,λd e=>?_⟩
 ·show i=vs.length;rw[On] at e;omega
 ·have u:=by
   have:=(List.getElem?_eq_some_iff.mp e).1
   rwa [On] at this
  rw[YV u] at e;obtain⟨v,B,z,l,j⟩:=aw r tf k e;refine⟨⟨by omega,hz,vs,c,rfl⟩,λy E b=>?_⟩;obtain⟨x,b⟩:=b;subst x;have g:=b vs c;rw[o,z] at g;cases g;exact⟨e6.refl _,B,l,j⟩
theorem LR (h:PU X cl e f ua) (j:isStar e=false) (mk:∀{t},PA X [e] t->PI X tg (.Call (.Name "reversed" p) [e] [] pos) (Jb X.K t)):S0 X cl tg (.Call (.Name "reversed" p) [e] [] pos) f (NA ua):=.of<|by
 obtain⟨t,q,h⟩:=h.run;refine⟨_,mk (bp q M4 j),λG g c H u Q R l E i k=>h G g c H u _ _ l E i λv x d B s r o q=>?_⟩;cases d<;>first | exact(q).elim | skip
 obtain⟨p,vs,rfl,b,a⟩:=N0 r;exact⟨p,vs,rfl,.inl (.inl b),k _ x _ _ s (HJ (by rw[a.length];exact SL q.1) (λy tf=>.inl (.inl (tf.T7 _ _ b))) a) a.there o q.2⟩
end
end L3
namespace L2
open PySem PySem.Spec PyProof.Rows
section
variable{X:Cx}
end
end L2
namespace L3
open PySem PySem.Spec PySem.Calls PyProof.Rows L2
section
variable{X:Cx}{cl:List Cl}{e a b:Expr}{es:ZV}{pos cpos hpos np p:Pos}{us:dH}{ua ub:TU}{fa fb:Fl}{ma:TM}{k:Nat}{fn:Addr}{fd:FuncData}{ps:ZT}{x y bn:Str}{i:Nat}
end
end L3
namespace L2
open PySem PySem.Spec PyProof.Rows
end L2
namespace L3
open PySem PySem.Spec PySem.Calls PyProof.Rows L2
section
variable{X:Cx}{cl:List Cl}{tg e a b:Expr}{es:ZV}{pos p2 vp:Pos}{ua ub:TU}{f fa fb:Fl}{ma mb:TM}{x:Str}{i:Nat}
theorem IM{K:AAD}(k:Key):Rep K H (kV k) (kD k) []:=by
 cases k with
 | inl i=>exact .int
 | inr x=>exact .str
theorem L5{K:AAD}:∀{vs:List V} {ns:ZW} {A:ZS},i8 K H vs (ns.map D.int) A->vs=ns.map V.int
 | _,[],_,.nil=>rfl
 | _,n::ns,_,.cons h r=>by cases h;rw[L5 r];rfl
end
section
variable{X:Cx}{cl:List Cl}{tg e a b:Expr}{es:ZV}{pos p2 vp:Pos}{ua ub:TU}{f fa fb:Fl}{ma mb:TM}{x y:Str}{i j:Nat}
end
end L3
namespace L2
open PySem PySem.Spec PyProof.Rows PySem.SeqAt
end L2
namespace L3
open PySem PySem.Spec PySem.Calls PyProof.Rows L2
section
variable{X:Cx}{cl:List Cl}{e a b:Expr}{pos:Pos}{ua ub:TU}{fa fb:Fl}
end
end L3
namespace L2
open PySem PySem.Spec PyProof.Rows
def QL(h:Heap)(e:Addr)(b i:Value)(T:Addr)(g:Option Addr):Prop:=
 ∃a vs d c,h.get? e=some a/\a.cls=b/\a.dict=g/\vs[0]?=some i/\a.data=.fields vs/\vs[1]?=some (.ref T)/\T≠e/\h.get? T=some d/\d.data=.fields c/\c[3]?=some .none
theorem QL.Np(f:QL h e a d T j):UR h e a d T:=
 let ⟨i,vs,l,g,o,p,_,v,hd,u,c,q,b,r⟩:=f;⟨i,vs,l,g,o,p,v,hd,u,c,q,b,r⟩
section
variable{M:Model}{A:Around}{E:AAB}{s:Shared}{base:Heap}{env:Env}{outer:List Env}{L e:Addr}{Q:Unit->Shared->Prop}
end
section
variable{prog:Program}{w:World}{A:Around}{E:AAB}{h:Heap}{g:Array GenState}{d:Drawn}{t:Nat}{os:OsState}
variable{nm q:Str}{C N fI:Addr}{oI:Obj}{bs bm bmB bmN:ZU}{hdct:Bool}{sn:ZT}{sub:ZU}{ab:Bool}{col:Option Bool}{dd:Option Addr}{k0 k1 k2 k3 k5:AAE}{B Bn newId nid initId inN:String}{mN:ZZ}{rest:ZU}
end
section
variable{M:Model}{A:Around}{E:AAB}{env:Env}
variable{nm q:Str}{C N:Addr}{bs bm:ZU}{hdct:Bool}{sn:ZT}{sub:ZU}{ab:Bool}{col:Option Bool}{dd:Option Addr}{k0 k1 k2 k3 k5:AAE}{newId:String}
end
section
variable{prog:Program}{w:World}{A:Around}{E:AAB}{s:Shared}{K:AAD}{x C:Addr}{ox:Obj}{name:Str}{v:Value}
end
end L2
namespace PySem.W
open PySem PySem.Calls PyProof.Rows Builtin Builtin.ObjectAttr Builtin.Getset_descriptor
section
variable{K:Frag}{prog:Program}{w:World}{A:Around}{E:AAB}{s:Shared}{e D dx:Addr}{oe:Obj}{name:Str}{m:ZZ}{v:Value}{cd:ClassData}
end
end PySem.W
namespace L2
open PySem PySem.Spec PyProof.Rows
section
variable{P:Program}{w:World}{K:AAD}{mg:ZZ}{base:Heap}{N:ZT}{qual:Str}{scope:Scope}{f:Addr}{cd:Value}{A:Around}{outer:List Env}{s:Shared}{H:Hp}{E:XK}
 {pins:ZO} {σ:St} {H1:Hp} {s1:Shared}
end
section
variable{X:Cx}{pins:ZO}{σ:St}{H:Hp}{s:Shared}
end
structure Od(X:Cx)(pins:ZO)(σ:St)(H:Hp)(s:Shared)(e T:Addr)(cls a0:Value)(od:Option Addr):Prop where
 held:Pg X pins σ H s e T cls a0
 Np:QL s.heap e cls a0 T od
section
variable{X:Cx}{pins:ZO}{σ:St}{H:Hp}{s:Shared}{e T:Addr}{cls a0:Value}{od:Option Addr}{E:XK}{x:Value}{Q:Unit->Shared->Prop}{M:Model}{A:Around}{E2:AAB}
theorem Od.pin(c:Od X pins σ H s e T cls a0 od):∃a,a.cls=cls/\a.dict=od/\(∃vs,a.data=.fields vs)/\Inv (X.aX e a F) pins σ H s:=by
 obtain⟨a,j,I⟩:=c.held.pin ;obtain⟨b,vs,_,_,g,_,h,_,d,_⟩:=c.Np;obtain⟨i,_⟩:=I.pin (e,a) (v5 _ (tz _ (List.mem_singleton.mpr rfl)));have:=x2 (g.symm.trans i);subst this;exact⟨b,j,h,⟨vs,d⟩,I⟩
end
section
variable{X:Cx}{o:Expr}{f:Str}{pos:Pos}{ta:TE}{e dx C:Addr}{oe:Obj}{vs:ZY}
end
section
variable{X:Cx}{o e value:Expr}{f:Str}{pos pos':Pos}{ta tv:TE}
end
section
variable{K:AAD}{C:Addr}{f1 f2 f3:Str}{vs:List V}{H:Hp}{Q:VK}{E:XK}{N:ZT}
end
end L2
namespace L3
open PySem PySem.Spec PySem.Calls PyProof.Rows L2
noncomputable def RW:D->Bool
 | .int _=>true
 | .str _=>true
 | _=>false
noncomputable def leafOf:D->V
 | .int i=>.int i
 | .str x=>.str x
 | _=>.o6
theorem nR{K:AAD}{H:Hp}:∀{vs:List V} {ds:List D} {A:ZS},i8 K H vs ds A->ds.all RW=true->vs=ds.map leafOf
 | _,_,_,.nil,_=>rfl
 | _,_,_,.cons  h r,e=>by
  rw[Xt,v8] at e;rw[vc,<-nR r e.2];cases h<;>first | rfl | (have:=e.1;cases this)
section
variable{X:Cx}{cl:List Cl}{e:Expr}{es:ZV}{pos cpos hpos np p p1:Pos}{us:dH}{k kI:Nat}{fn:Addr}{fd:FuncData}{ps:ZT}{x y bn n f:Str}{i:Nat}{Fo:Str->ZT}
end
end L3
namespace PySem.W
open PySem PySem.Calls PyProof.Rows
section
variable{K:Frag}
end
end PySem.W
namespace L3
open PySem PySem.Spec PySem.Calls PyProof.Rows PySem.W L2
section
variable{X:Cx}{cl:List Cl}{e:Expr}{es:ZV}{pos p:Pos}{us:dH}{k:Nat}{fn:Addr}{fd:FuncData}{ps:ZT}{x:Str}{Fo:Str->ZT}
end
section
variable{X:Cx}{cl:List Cl}{e dx C:Addr}{oe:Obj}{pos p p1 p2:Pos}{n y:Str}{i:Nat}{b:Bool}
end
end L3
namespace PySem
open Sem (wp)
open AutoSeq1 (wpAny_loadPart')
end PySem
namespace L2
open PySem PySem.Spec PyProof.Rows
end L2
namespace L3
open PySem PySem.Spec PySem.Calls PyProof.Rows PySem.W L2
section
variable{X:Cx}{cl:List Cl}{tg e:Expr}{pos p:Pos}{f:Fl}{ua:TU}
end
section
variable{X:Cx}{cl:List Cl}{tg a b:Expr}{pos p:Pos}{us:dH}
def yY(us:dH):mr:=λc Q=>us c λd=>∃i j:Int,d=[.int i,.int j]/\(-(2^62)<=i/\i<2^62/\-(2^62)<=j/\j<2^62)/\Q (cV i (j-i).toNat)
theorem jR (h:HH X cl [a,b] us) (mk:∀{t},PA X [a,b] t->PI X tg (.Call (.Name "range" p) [a,b] [] pos) (Oa t)):S0 X cl tg (.Call (.Name "range" p) [a,b] [] pos) .fresh (yY us):=.of<|by
 obtain⟨t,pt,h⟩:=h.run;refine⟨_,mk pt,λG d c H u Q R o E e k=>h G d c H u _ _ o E e λvs x z A s r y q=>?_⟩;obtain⟨i,j,rfl,g,q⟩:=q;have v:=nR r rfl;subst v;exact⟨i,j,rfl,g,k _ x _ [] s (itR i _) (λa l=>(by cases l)) (A4.nil _) q⟩
end
section
variable{X:Cx}{cl:List Cl}{a b:Expr}{pos:Pos}{fa fb:Fl}{ua ub:TU}
end
end L3
namespace PySem
open Sem (wp)
open Builtin
open AutoSeq1 (wpAny_loadPart')
end PySem
namespace L2
open PySem PySem.Spec PyProof.Rows
section
variable{X:Cx}
end
end L2
namespace L3
open PySem PySem.Spec PySem.Calls PyProof.Rows PySem.W L2
section
variable{X:Cx}{cl:List Cl}{a b:Expr}{pos:Pos}{fa fb:Fl}{ua ub:TU}
end
end L3
namespace PySem
open AutoSeq1 (wpAny_loadPart')
open AutoSeq1
theorem CZ(l:Addr)(items:ZY)(n:Nat)(e:Array (AAE))(b:Addr)(a:ZY)(n2:Nat)(c:Array (AAE))(j:items.size+a.size<=sizeLine) :
  Meets (Builtin.«list.__add__» ⟨[.ref l,.ref b],[]⟩) (λ_ R s=>s.heap.get? l=some { cls:=.type "list",dict:=none,data:=.seq items n,slots:=e }/\s.heap.get? b=some { cls:=.type "list",dict:=none,data:=.seq a n2,slots:=c }/\R (.ok (.ret (Value.ref s.heap.objs.size))) { s with heap:=s.heap.push { cls:=Value.type "list",data:=Data.seq (items++a) },toks:=s.toks }):=
 .of_wp λprog w A R s h=>by obtain⟨p,g,d,tk,os⟩:=s;obtain⟨i,o,h⟩:=h;have u:=sub_list_list;have r:=sub_tuple_list;have q:=sub_list_tuple;wp_walk using wpAny_loadPart' i,wpAny_loadPart' o;exact⟨_,rfl,h⟩
end PySem
namespace L2
open PySem PySem.Spec PyProof.Rows
section
variable{X:Cx}
def NI(K:AAD):R2:=λx y H Q=>∃l b c a,x=.ref l/\y=.ref b/\G4 K H l c/\G4 K H b a/\c.length+a.length<=sizeLine/\∀p,H p=none->Q (.ref p) (upd H p (.lst (c++a)))
theorem LY:P6 X (binaryOp .Add) (NI X.K):=by
 intro B s Y H x y v u Q I O M h;obtain⟨l,b,xs,zs,rfl,rfl,S,T,hz,q⟩:=h;cases O;cases M;obtain⟨c,r,⟨⟨c1,d1,G,J⟩,n,e,p,hd,o⟩,hl⟩:=I.list S;obtain⟨a,z,⟨⟨c2,d2,E,j⟩,n2,C,i,g,d⟩,R⟩:=I.list T
 subst p hd o i g d;have l1:=r.length;have l2:=z.length;refine ZH ⟨_,e,rfl⟩ ⟨_,C,rfl⟩ noFill_list_add seq_list_add F.slot_list_add F.entry_list_add (F.args_list_add_2 _ _) (CZ l c.toArray n J b a.toArray n2 j (by rw[u8,u8];omega)) ⟨e,C,?_⟩;have U:c.toArray++a.toArray=(c++a).toArray:=by simp
 rw[U];exact⟨.ref _,_,I.Ed  (r.append z) (by rw[vv];omega),rfl,q _ I.fresh⟩
end
section
variable{X:Cx}{pins:ZO}{σ:St}{H:Hp}{s:Shared}{a:Addr}
theorem Inv.freeze(I:Inv X pins σ H s)(e:H a=some (.lst xs)):∃ob,Inv X pins σ (upd H a (.frz ob (.lst xs))) s:=by
 obtain⟨z,c,n,r,d⟩:=(I.hok a _ e)
 exact⟨_,I.write      (by rw[e];exact True.intro) (.inl rfl) (λb q g z=>z) ⟨_,d⟩ ⟨d,z,c,n,r,d⟩⟩
def Vi(Q:VK):VK:=λv c=>∃p b,v=.ref p/\c p=some (.lst b)/\∀ob,Q v (upd c p (.frz ob (.lst b)))
theorem QO(h:PE X e t):PE X e (λσ H Q=>t σ H (Vi Q)):=by
 refine .of ?_;intro pins s σ H Q I q;exact w5 (h pins s σ H _ I q) λv l ⟨x,r,i,b,p,j,o,d,c⟩=>let ⟨ob,g⟩:=i.freeze d;⟨x,_,g,b,c ob⟩
theorem tI:∀{ns:ZW} {its:ZU},Vals (ns.map V.int) its->IntsAre its ns
 | [],_,.nil=>.nil
 | n::ns,_,.cons ⟨t,h⟩ r=>by subst h;exact .cons n t (tI r)
theorem iQ:∀{ns:ZW} {its:ZU},IntsAre its ns->Vals (ns.map V.int) its
 | _,_,.nil=>.nil
 | _,_,.cons n t r=>.cons ⟨t,rfl⟩ (iQ r)
def NL(K:AAD)(xs:List V)(H:Hp)(Q:VK):Prop:=∃(p:Addr) (ns:ZW),xs=[.ref p]/\G4 K H p (ns.map V.int)/\ns.length<64/\∀(b:ZW) l,b.Perm ns->b.Pairwise (·<=·)->H l=none->Q (.ref l) (upd H l (.lst (b.map V.int)))
theorem xu:G0 X (.builtin "sorted") (NL X.K):=by
 intro pins s σ H J M Q I r h;obtain⟨p,ns,rfl,x,E,q⟩:=h;obtain⟨u,rfl,l⟩:=vals1 r;cases(l);obtain⟨g,rv,pl,i⟩:=I.list x;have y:=rv.length;rw[dL] at y;refine sorted_ints pl.isList (tI rv) (by omega) λc d z j v=>?_;obtain⟨e,B⟩:=sortedAll_at s.heap g c
 have G:=I.laid (t':=s.toks)  (o:=.lst (d.map V.int))  (λb o C=>sortedAll_old C) (Yy _)
  ⟨by rw[dL,j.length_eq];rwa[dL] at i,c.toList,e,iQ z,by rwa[]⟩
 exact⟨.ref (s.heap.objs.size+1),_,G,rfl,q d _ j v (I.hok.fresh (Yy _))⟩
def IL(xs:List V)(H:Hp)(Q:VK):Prop:=∃(p:Addr) (b:List (Key×V)) (d:Nat),xs=[.ref p]/\H p=some (.dE b d)/\∀l,H l=none->Q (.ref l) (upd H l (.lst (b.map λc=>kV c.1)))
theorem nX:∀{kvs:List (Key×V)} {vs:List (Key×Value)} {its:ZU},kvs.map (·.1)=vs.map (·.1)->its.length=vs.length->(∀(i:Nat) (v:Value),its[i]?=some v->∃k x,vs[i]?=some (k,x)/\(j6 P w).is k v=true)->Vals (kvs.map λb=>kV b.1) its
 | [],[],[],_,_,_=>.nil
 | [],[],_::_,_,e,_=>by simp at e
 | [],_::_,_,e,_,_=>by simp at e
 | _::_,[],_,e,_,_=>by simp at e
 | _::_,_::_,[],_,e,_=>by simp at e
 | b::kvs,v::vs,c::its,e,l,h=>by
  obtain⟨k,x,p,o⟩:=h 0 c rfl;cases p
  injection e with j g
  exact .cons (SK   (by rwa[show b.1=k from j])) (nX   g (by simpa using l) λi v d=>h (i+1) v d)
theorem yF(G:X.calm=true):G0 X (.type "list") IL:=by
 intro pins s σ H U Y Q I r h;obtain⟨p,e,j,rfl,B,q⟩:=h;obtain⟨u,rfl,l⟩:=vals1 r;cases(l);obtain⟨z,hd,vs,d,R⟩:=(I.hok p _ B)
 have C:=d.length;refine PySem.W.kdl_call (PySem.W.kdl_dict    hd) (I.ok.hd G) R (by rwa[<-C]) λO tk g S E M c=>?_
 have T:=I.laid (t':=tk)  (o:=.lst (e.map λx=>kV x.1))  (λb o J=>E b o J) (sK _)
  ⟨by rwa[dL],g.toList,S,nX   d.keys (by exact c.1) (λi v y=>c.2 i v (by rwa[<-TW])),by rwa[]⟩
 exact⟨.ref s.heap.objs.size,_,T,rfl,q _ I.fresh⟩
end
end L2
namespace L3
open PySem PySem.Spec PySem.Calls PyProof.Rows PySem.W L2
section
variable{X:Cx}{cl:List Cl}{e a b:Expr}{ua ub:TU}{fa fb:Fl}{pos:Pos}
def Ew:D->D->(D->Prop)->Prop:=λd e Q=>∃g c,kindB false d=some g/\kindB false e=some c/\x3 g=true/\x3 c=true/\g.length+c.length<=sizeLine/\Q (.lst (g++c))
theorem Ox:cy X (NI X.K) Ew:=by
 intro H v w d e A B Q R r p q k;obtain⟨M,J,j,i,z,y,C,q⟩:=q;obtain⟨x,vs,S,rfl,I,g,_⟩:=aD r j;obtain⟨u,o,O,rfl,G,c,_⟩:=aD p i;have j:=g.E9 z;have i:=c.E9 y;subst j;subst i;refine⟨x,u,vs,o,rfl,rfl,I,G,by rwa[g.length,c.length],λl h=>k _ _ _ [l] (e6.g7 h) (.lst c8 ((g.same (e6.g7 h)).append (c.same (e6.g7 h)))) (by simp) (λa E=>?_) q⟩;have:=by simpa using E
 rwa[this]
theorem Mc(d:PU X cl a fa ua)(c:PU X cl b fb ub):PU X cl (.BinOp a .Add b pos) .fresh (o5 Ew ua ub):=jv LY Ox d c
def QK(u:TU):TU:=λg Q=>u g λd=>∃c,d=.lst c/\x3 c=true/\Q (.fz c)
theorem FO(h:PU X cl e .fresh ua):PU X cl e .fresh (QK ua):=.of<|by
 obtain⟨t,J,h⟩:=h.run;refine⟨_,QO J,λG l j H T Q R S E I k=>h G l j H T _ _ S E I λv H1 d A s r U q=>?_⟩;obtain⟨x,rfl,C,q⟩:=q;obtain⟨p,vs,B,rfl,g,i,eA⟩:=D1 r;have Y:=i.E9 C;subst Y;refine⟨p,vs,rfl,g,λob=>?_⟩;have M:=U.2 p (by rw[eA];exact hQ)
 have y:e6 H (upd H1 p (.frz ob (.lst vs))):=λb o c=>by
  rw[i3 (λz=>by rw[z,M] at c;cases c)];exact s b o c
 exact k _ _ (.fz x) [] y (.frz (.inl ⟨ob,c8⟩) (i.Z6 ⟨λb ys c=>by rwa[i3 (qJ c g (λz=>nomatch z))],λb o u c=>by rwa[i3 (qJ c g (λz=>nomatch z))]⟩ λa O=>by cases O)) (A4.nil _) q
def NM:List D->(D->Prop)->Prop:=λg Q=>∃(d:D) (ns:ZW),g=[d]/\kindB false d=some (ns.map D.int)/\ns.length<64/\∀c:ZW,c.Perm ns->c.Pairwise (·<=·)->Q (.lst (c.map D.int))
theorem dA{K:AAD}:∀ns:ZW,i8 K H (ns.map V.int) (ns.map D.int) []
 | []=>.nil
 | n::ns=>i8.cons   .int (dA ns)
theorem QS:Call3 X (NL X.K) NM:=by
 intro H vs C A Q R r q k;obtain⟨d,ns,rfl,e,g,q⟩:=q;obtain⟨v,rfl,i⟩:=r.one;obtain⟨p,z,B,rfl,u,j,_⟩:=aD i e;cases L5 j;refine⟨p,ns,rfl,u,g,λc l x o h=>k _ _ (.lst (c.map D.int)) [l] (e6.g7 h) (.lst c8 (dA c)) (by simp) (λa y=>?_) (q c x o)⟩;rwa[List.mem_singleton.mp y]
def HR:List D->(D->Prop)->Prop:=λg Q=>∃c,g=[.dic c]/\Q (.lst (c.map λd=>kD d.1))
theorem nj{K:AAD}:∀{vs:List (Key×V)} {ds:List (Key×D)} {A:ZS},x6 K H vs ds A->i8 K d (vs.map λc=>kV c.1) (ds.map λc=>kD c.1) []
 | _,_,_,.nil=>.nil
 | _,_,_,.cons _ r=>i8.cons   (IM _) (nj r)
theorem KN:Call3 X IL HR:=by
 intro H vs z A Q R r q k;obtain⟨d,rfl,q⟩:=q;obtain⟨v,rfl,i⟩:=r.one;obtain⟨p,c,x,B,rfl,o,h,y⟩:=vm i;refine⟨p,c,x,rfl,o,λl g=>k _ _ (.lst (d.map λj=>kD j.1)) [l] (e6.g7 g) (.lst c8 (nj h)) (by simp) (λa u=>?_) q⟩;rwa[List.mem_singleton.mp u]
end
end L3
namespace L2
open PySem PySem.Spec PyProof.Rows
noncomputable def UX:M3->V
 | none=>.o6
 | some k=>kV k
theorem IW(r:RelV (UX k) u):(aU P w).is k u=true:=by
 cases k with
 | none=>rw[r];rfl
 | some k=>exact aL (P:=P) (w:=w) r
theorem Eg(h:Heap)(a:sysModules<h.objs.size):u9 P w H (h.push { cls:=.type "dict",data:=.dict #[] }) h.objs.size (.dN []):=
 ⟨xL _,beq_eq_false_iff_ne.mpr (Ps (v6 a)),[],.nil,Heap.DictOf.new h⟩
section
variable{X:Cx}{o e f i value:Expr}{pos pos' apos cpos:Pos}{td ty tx tv:TE}
theorem GO:PE X (.Dict [] [] pos) (λ_ H Q=>∀p,H p=none->Q (.ref p) (upd H p (.dN []))):=.of<|λb s c H Q I h=>
 wpAny_Dict_empty ⟨.ref s.heap.objs.size,_,I.laid    (λ_ _ q=>hD _ q) (sK _) (Eg s.heap I.big),rfl,h _ (I.hok.fresh (sK _))⟩
def OF(td ty tx:TE):TE:=λc H Q=>td c H λx h=>∃a d,x=.ref a/\h a=some (.dN d)/\ty c h λy j=>tx c j λz g=>∃b k,g a=some (.dN b)/\y=UX k/\Q ((aR b k).getD z) g
theorem Ea (ho:PE X o td) (he:PE X e ty) (hf:PE X f tx) (m:M2 X o "get" apos e f cpos):PE X (.Call (.Attribute o "get" apos) [e,f] [] cpos) (OF td ty tx):=by
 refine .of ?_;intro c s p H Q I h;refine wpAny_Call_method m.base m.few m.line PySem.F.plainAttrs_dict Xe PySem.F.type_dict_get (w5 (ho c s p H _ I h) λu B ⟨x,J,E,T,a,v,ex,d,q1⟩=>?_);subst ex;obtain rfl:u=Value.ref a:=T;obtain⟨_,hd,vs,_,l⟩:=(E.hok a _ d)
 refine⟨l.typeIs,λb q=>by cases q;obtain⟨ob,_,_,h1,h2,_⟩:=l;exact⟨ob,h1,h2.2.1⟩,?_⟩;rw[m.trees]
 refine Yl rfl (Zo (Yi (w5 (he c B p J _ E q1) λiv O ⟨y,H2,I2,S,Y⟩=>
  Yi (w5 (hf c O p H2 _ I2 Y) λfv M ⟨z,G,C,R,j,k,g,ey,U⟩=>ZM ?_))))
 subst ey;obtain⟨_,hd,vs,r,l⟩:=(C.hok a _ g)
 exact ZJ Xe l.typeIs XZ (XW _ _ _) (Zb (aU X.prog X.w) a (IW S) hd fv) ⟨_,l.mapOf,⟨_,G,C.tok _,(r.val k).getD R,U⟩⟩
def Qh(td ty tv:TE):TS:=λD c H=>tv c H λv h=>td c h λx g=>ty c g λy d=>∃a b k,x=.ref a/\d a=some (.dN b)/\y=UX k/\b.length<sizeLine/\D.nx c (upd d a (.dN (putK b k v)))
theorem FA(ho:PE X o td)(hi:PE X i ty)(Y:PE X value tv)(hs:swapsWith value (some (.Subscript o i pos')) pos.line X.env=pure false) :
  PS X (.Assign [.Subscript o i pos'] value pos) (Qh td ty tv):=by
 refine .of ?_;intro b s p H D I h;refine wpAny_Assign_Subscript (w5 (Y b s p H _ I h) λr M ⟨v,H1,I1,rv,T⟩=>w5 (ho b M p H1 _ I1 T) λu J ⟨x,H2,I2,Q,S⟩=>w5 (hi b J p H2 _ I2 S) λiv C ⟨y,H3,G,O,a,c,k,ex,g,ey,l,R⟩=>?_) hs;subst ex ey;obtain rfl:u=Value.ref a:=Q;obtain⟨z,hd,vs,d,dd⟩:=(G.hok a _ g)
 have U:vs.length<=sizeLine:=by rwa[<-d.length]
 have hl:(putK c k v).length<=sizeLine:=by have:=G3 c k v;omega
 refine wpAny_setItem_pairs  (IW O) dd λE j B=>?_;have he:∃q,E.get? a=some q:=let ⟨q,_,_,hq,_⟩:=j;⟨q,hq⟩;exact⟨p,_,bY  G (by rw[g];exact True.intro) B he (show u9 X.prog X.w _ E a (.dN (putK c k v)) from⟨hl,hd,_,d.put k rv,j⟩),R⟩
end
end L2
namespace L3
open PySem PySem.Spec PySem.Calls PyProof.Rows PySem.W L2
noncomputable def mK:D->Option M3
 | .o6=>some none
 | d=>(X5 d).map some
noncomputable def J4(kvs:List (M3×Int))(k:M3):Option Int:=(kvs.find? λa=>decide (a.1=k)).map (·.2)
noncomputable def cF(kvs:List (M3×Int))(k:M3)(n:Int):List (M3×Int):=
 if (kvs.any λa=>decide (a.1=k))=true then kvs.map (λa=>if a.1=k then(a.1,n) else a) else kvs++[(k,n)]
noncomputable def vN(kvs:List (M3×Int)):List (M3×V):=kvs.map λq=>(q.1,V.int q.2)
theorem Hu{K:AAD}(h:Rep K H v (.dn kvs) A):∃p,v=.ref p/\H p=some (.dN (vN kvs))/\A=[p]:=by
 cases h with
 | dn h=>exact⟨_,rfl,h,rfl⟩
theorem vD{K:AAD}(r:Rep K H v d A)(e:mK d=some k):v=UX k:=by
 unfold mK at e;split at e
 ·cases e;exact eG r
 ·obtain⟨b,a,rfl⟩:=Option.map_eq_some_iff.mp e;exact P5 r a
theorem Qm(kvs:List (M3×Int))(k:M3):aR (vN kvs) k=(J4 kvs k).map V.int:=by
 unfold aR J4 vN
 induction kvs with
 | nil=>rfl
 | cons q kvs a=>
  rw[vc,z0,z0]
  by_cases h:q.1=k
  ·rw[v1 h];rfl
  ·rwa[wl h]
theorem PZ(kvs:List (M3×Int))(k:M3)(n:Int):putK (vN kvs) k (.int n)=vN (cF kvs k n):=by
 have e:((vN kvs).any λa=>decide (a.1=k))=kvs.any λa=>decide (a.1=k):=by unfold vN;rw[List.any_map];rfl
 unfold putK cF;rw[e];split
 ·unfold vN;rw[Bi,Bi];refine Xa λq _=>?_;show(if q.1=k then(q.1,V.int n) else(q.1,V.int q.2))=_
  by_cases h:q.1=k
  ·rw[ux h];show _=((if q.1=k then(q.1,n) else q).1,V.int (if q.1=k then(q.1,n) else q).2);rw[ux h]
  ·rw[uk h];show _=((if q.1=k then(q.1,n) else q).1,V.int (if q.1=k then(q.1,n) else q).2);rw[uk h]
 ·unfold vN;rw[v7];rfl
section
variable{X:Cx}{cl:List Cl}{e a b c:Expr}{ua ub uc:TU}{fa fb fc:Fl}{pos:Pos}{ma:TM}{x:Str}
theorem Ie:PU X cl (.Dict [] [] pos) .fresh (uC (.dn [])):=.of<|by
 refine⟨_,GO,λG j i H l Q R _ E g k p d=>k _ _ _ [p] (e6.g7 d) (.dn c8) ⟨by simp,λa h=>?_⟩ g⟩;rwa[List.mem_singleton.mp h]
def vX(ua ub uc:TU):TU:=λg Q=>ua g λx=>∃d,x=.dn d/\ub g λy=>∃k,mK y=some k/\uc g λz=>∃n,z=.int n/\Q (.int ((J4 d k).getD n))
theorem sG  (S:PU X cl a fa ua) (O:PU X cl b fb ub) (M:PU X cl c fc uc) (m:M2 X a "get" g b c pos):PU X cl (.Call (.Attribute a "get" g) [b,c] [] pos) .fresh (vX ua ub uc):=.of<|by
 obtain⟨ta,pa,S⟩:=S.run;obtain⟨tb,pb,O⟩:=O.run;obtain⟨tc,pc,M⟩:=M.run;refine⟨_,Ea pa pb pc m,λG l j H U Q R T E J k=>S G l j H U _ _ T E J λv H1 d A q r1 f1 I=>?_⟩;obtain⟨h,rfl,I⟩:=I;obtain⟨p,rfl,hp,rfl⟩:=Hu r1;refine⟨p,_,rfl,hp,O G l j H1 U _ _ T (E.same q) I λw H2 e B o r2 f2 y=>?_⟩;obtain⟨i,hk,y⟩:=y;refine M G l j H2 U _ _ T (E.same (q.trans o)) y λu H3 z C Y r3 f3 r=>?_;obtain⟨n,rfl,r⟩:=r;cases w6 r3;refine⟨_,i,Y _ _ (o _ _ hp),vD r2 hk,?_⟩;rw[Qm];have e:(((J4 h i).map V.int).getD (.int n))=.int ((J4 h i).getD n):=by cases J4 h i<;>rfl
 rw[e];exact k _ H3 _ [] ((q.trans o).trans Y) .int (A4.nil _) r
def MV(i:Nat)(y:D)(n:Int)(g:Ev)(Q:Ev->Prop):D->Prop
 | .dn d=>∃k,mK y=some k/\d.length<sizeLine/\Q (g.set i (some (.dn (cF d k n))))
 | _=>False
def Fm(i:Nat)(l mk:TM):g4:=λT j=>l j λd h=>∃n,d=.int n/\a6 i h λ_=>mk h λy g=>a6 i g (MV i y n g T.nx)
theorem KO(i:Nat)(hv:PE X (.Name x u) (cw i))(hi:cl[i]?=some .own)(he:PN X cl e ma)(C:PN X cl y mk)(hs:swapsWith e (some (.Subscript (.Name x u) y tp)) pos.line X.env=pure false:=by rfl) :
  K3 X cl (.Assign [.Subscript (.Name x u) y tp] e pos) (Fm i ma mk):=.of<|by
 obtain⟨t,p,h⟩:=he.run;obtain⟨t2,p2,h2⟩:=C.run;refine⟨_,FA hv p2 p hs,λG T ρ O H fa R I E B le=>?_⟩;have own:G.own i:=by unfold Ent.own;rwa[I]
 refine h G ρ O H fa _ _ I E B λw H1 d B1 r M Y c1 r1 n1 q=>?_;obtain⟨n,rfl,q⟩:=q;cases w6 r1;obtain⟨l0,e0,q⟩:=p5 q;obtain⟨v,o,r0⟩:=Y.rep i l0 e0;refine⟨_,o,h2 G r O H1 M _ _ I Y q λwk H2 dk Bk l J U c2 rk nk q=>?_⟩;obtain⟨Q,S,q⟩:=p5 q;obtain⟨v',j,r2⟩:=U.rep i Q S;have ev:v'=v:=by rw[o] at j;cases j;rfl
 subst ev;cases Q<;>first | exact(q).elim | skip
 rename_i g
 obtain⟨k,C,hn,q⟩:∃k,mK dk=some k/\g.length<sizeLine/\T.nx (l.set i (some (.dn (cF g k n)))):=q;obtain⟨p,rfl,hp,eA⟩:=Hu r2;cases vD rk C;have pin:p∈J i:=by rw[eA];exact hQ
 have li:=(List.getElem?_eq_some_iff.mp S).1;refine⟨p,_,k,rfl,hp,rfl,by unfold vN;rwa[dL],?_⟩;rw[PZ];exact le.nx _ _ ⟨_,_,U.put own li j pin V9 (by rw[c8];exactλz=>nomatch z) (Rep.dn c8) (by simp) λa ha=>.inl (by rwa[List.mem_singleton.mp ha]),q⟩
def NV(i:Nat)(j m2:TM):g4:=λT h=>j h λd1 g=>u3 d1=true/\m2 g λd2 d=>u3 d2=true/\a6 i d λl=>T.rt (.tup [d1,d2,l]) d
theorem Qu(d:PM X cl a ma)(sa:isStar a=false)(I:PM X cl b Y)(sb:isStar b=false)(h:PE X (.Name x Q) (cw i))(hi:i≠0)(hc:cl[i]?=some .own):K3 X cl (.Return (some (.Tuple [a,b,.Name x Q] kt B)) pos) (NV i ma Y):=.of<|by
 obtain⟨t1,p1,d⟩:=d.run;obtain⟨t2,B,I⟩:=I.run;refine⟨_,oF (qj (bp p1 (bp B (bp h M4 rfl) sb) sa)),λG T ρ p H fo R J E hu le=>?_⟩;have o:G.own i:=by unfold Ent.own;rwa[J]
 refine d G ρ p H fo _ _ J E hu λO H1 d1 B1 u M E1 c1 U _ _ q=>?_;obtain⟨i1,q⟩:=q;have e1:=U.E9 i1;subst e1;refine I G u p H1 M _ _ J E1 q λw2 H2 d2 B2 r l g c2 S _ _ q=>?_;obtain⟨i2,q⟩:=q;have e2:=S.E9 i2;subst e2;obtain⟨d0,e0,q⟩:=p5 q;obtain⟨v,hv,r0⟩:=g.rep i d0 e0;refine⟨v,hv,by show 3<=sizeLine;decide,λpp C=>?_⟩;have s:=e6.g7 (o:=.tup [O,w2,v]) C;have z:=c2.keep U λi _ a d=>(by cases d)
 refine le.rt _ _ ⟨.tup [d1,d2,d0],r,p,l,[]++([]++(l i++[])),g.same s,.tup c8 (.cons (z.same s) (.cons (S.same s) (.cons (r0.same s) .nil))),?_,?_,?_,q⟩
 ·rw[vy];exact g.nd i (.inl o)
 ·intro a d;rw[vy] at d;exact g.new i (.inr ⟨o,λy=>hi (g.po.one i y o)⟩) a d
 ·intro j hj ho a d;rw[vy] at d;exactλy=>g.dj i j (λe=>hi (e▸g.po.one j hj ho)) o a d y
end
end L3
namespace HT
open PySem PySem.Spec PyProof.Rows
section
variable{prog:Program}{w:World}{A:Around}{E:AAB}{s:Shared}
theorem sW(n:Nat):Builtin.Slice.slicePlaces ((n:Int)-1) (-1) (-1)=n:=by
 unfold Builtin.Slice.slicePlaces;have a:¬((-1)>0):=by decide
 by_cases h:(n:Int)-1>-1
 ·rw[ux h,show((n:Int)-1 - -1-1)/(- -1)+1=n from by rw[show(- -1)=1 from by decide];omega];exact EQ n
 ·rw[];omega
theorem BN(xs:ZY):((List.range xs.size).filterMap λ(k:Nat)=>xs[((xs.size:Int)-1+(k:Int)*-1).toNat]?).toArray=xs.toList.reverse.toArray:=by
 have e:(List.range xs.size).filterMap (λ(k:Nat)=>xs[(xs.size-1+(k:Int)*-1).toNat]?)=((List.range xs.size).map λk=>xs.size-1-k).filterMap (xs[·]?):=by
  rw[List.filterMap_map]
  have go:∀l:ZX,(∀k∈l,k<xs.size)->l.filterMap (λ(k:Nat)=>xs[(xs.size-1+(k:Int)*-1).toNat]?)=l.filterMap ((xs[·]?)∘λk=>xs.size-1-k):=λl=>by
   induction l with
   | nil=>intro _;rfl
   | cons k l c=>
    intro a;have e:(xs.size-1+(k:Int)*-1).toNat=xs.size-1-k:=by omega
    rw[XQ,c λz d=>a z (hH _ d),e];rfl
  exact go _ λk b=>List.mem_range.mp b
 rw[e,PySem.W.krv_range,List.filterMap_reverse,PySem.W.krv_all]
theorem dJ{n:Nat}(d:s.heap.IsSliceOf c .none .none vs)(ps:IsPart vs (some (-1)))
  (h:Q ((n:Int)-1,-1,n) s):wpAny (model prog w) A (Builtin.Slice.sliceApplied (.ref c) (pure (n:Int))) Q E s:=by
 obtain⟨os,a,e,b⟩:=id d;refine eH (eH (Xo a b  rfl (eH (Xo a b  rfl (eH (Xo a b  rfl (hE (eH (T9 ps ?_)))))))));refine eH (T9 .none (eH (T9 .none (eH (hE ?_)))));show wpAny _ _ (pure ((n:Int)-1,(-1),Builtin.Slice.slicePlaces (n-1) (-1) (-1))) _ _ s;rw[sW];exact hE h
theorem cT{items:ZY}{Q:AAB}(b:IsTup s.heap t items)(j:s.heap.IsSliceOf c .none .none vs)(ps:IsPart vs (some (-1)))
  (h:Q (.ref s.heap.objs.size) { s with heap:=s.heap.push { cls:=.type "tuple",data:=.seq items.toList.reverse.toArray } })
  (hsz:items.size<=sizeLine):wpAny (model prog w) A (getItem (.ref t) (.ref c)) Q E s:=by
 have a:=by
  show items.toList.reverse.toArray.size<=sizeLine;rwa[u8,On]
 obtain⟨os,d,g,l⟩:=id j;have i:s.TypeIs (.ref c) "slice":=⟨os,d,g⟩
 unfold getItem
 try with_reducible refine FS ?_
 refine eH (ZF b.typeIs (by decide) (eH (IR  b.typeIs OV
  (Gc OV b.typeIs entry_tuple_getitem ?_ (args_tuple_getitem _ _)))))
 show wpAny _ _ (Builtin.Tuple.tupleItemsOf (.ref t) >>= _) _ _ s;refine eH (tupleItemsOf_ b (eH (Yk i ?_)));refine eH (dJ j ps ?_)
 have e:¬((((items.size:Int)-1) == 0&&(-1) == 1&&items.size == items.size)=true):=by
  rw[show((-1) == 1)=false from rfl,ZN];exact ud
 show wpAny _ _ (if (((items.size:Int)-1) == 0&&(-1) == 1&&items.size == items.size)=true then _ else _) _ _ s;rw[uk e,BN]
 first
  | exact eH  (wn (hE ⟨_,rfl,hE h⟩) a)
  | exact eH  (wn (eH (hE (hE ⟨_,rfl,hE h⟩))) a)
  | exact eH (eH  (wn (hE (hE ⟨_,rfl,hE h⟩)) a))
  | exact eH (eH  (wn (hE ⟨_,rfl,hE h⟩) a))
end
end HT
namespace L2
open PySem PySem.Spec PyProof.Rows
section
variable{X:Cx}{e c:Expr}{te:TE}{pos p2:Pos}
def OQ(K:AAD)(te:TE)(tc:TO):TE:=λd H Q=>te d H λx h=>tc d h λl b=>l=some (-1)/\∃a g,x=.ref a/\S6 K b a g/\∀p,b p=none->Q (.ref p) (upd b p (.tup g.reverse))
theorem HE(R:PE X e te)(S:PO X (some c) tc):PE X (.Subscript e (.Slice none none (some c) p2) pos) (OQ X.K te tc):=by
 refine .of ?_;intro d s i H Q I h;refine Subscript_ (w5 (R d s i H _ I h) λv B ⟨x,H1,Y,C,G⟩=>wpAny_Slice (hE (hE (w5 (S d B i H1 _ Y G) λp g ⟨l,H2,U,pc,T,a,z,ex,O,E⟩=>?_))));subst T ex;cases C;have j:Inv X d i H2 { g with heap:=g.heap.push { cls:=.type "slice",data:=.fields #[.none,.none,p] } }:=U.kept  λb ob q=>hD _ q;obtain⟨J,r,u,M⟩:=j.tuple O;have y:=r.length;exact tail_any  u.typeIs PyProof.Rows.slot_tuple_getitem.lookup (HT.cT u (ZD ..) pc ⟨.ref _,_,j.laid  (o:=.tup z.reverse) (λb ob q=>hD _ q) (sK _) ⟨by rwa[On],_,r.reverse,IsTup.new _ _⟩,rfl,E _ (j.hok.fresh (sK _))⟩ (by rw[u8];omega)) (by with_unfolding_all rfl)
end
end L2
namespace L3
open PySem PySem.Spec L2
section
variable{X:Cx}{cl:List Cl}{a c:Expr}{fa:Fl}{ua uc:TU}{pos p2:Pos}
def FG(ua:TU)(uc:Qt):TU:=λb Q=>ua b λd=>uc b λl=>l=some (-1)/\match d with
 | .tup e=>x3 e=true/\Q (.tup e.reverse)
 | _=>False
theorem EU(g:PU X cl a fa ua)(I:PU X cl c f uc):PU X cl (.Subscript a (.Slice none none (some c) p2) pos) .fresh (FG ua (cE uc)):=.of<|by
 obtain⟨T,z,g⟩:=g.run;obtain⟨S,pl,e⟩:=(ah I).run;refine⟨_,HE z pl,λG i h H u Q R r E B k=>g G i h H u _ _ r E B λv O d A o x Y y=>e G i h O u _ _ r (E.same o) y λU H2 j b=>?_⟩;obtain⟨M,b⟩:=b;cases d<;>first | exact(b).elim | skip
 obtain⟨p,vs,rfl,C,q⟩:=N0 (x.same j);have J:=q.E9 b.1;subst J;exact⟨M,p,vs,rfl,S6.of C,λl e=>k _ _ _ [] ((o.trans j).trans (e6.g7 e)) (.tup c8 ((rf q).same (e6.g7 e))) (A4.nil _) b.2⟩
end
end L3
namespace PySem
open SetTable
theorem DN(z:xs.toList.Pairwise (·<·))(j:Nat):∀(d lo g:Nat),g-lo<=d->lo<=g->g<=xs.size->(∀i,i<lo->xs.getD i 0<j)->(∀i,g<=i->i<xs.size->j<=xs.getD i 0) ->
  below.go xs j d lo g<=xs.size/\(∀i,i<below.go xs j d lo g->xs.getD i 0<j)/\∀i,below.go xs j d lo g<=i->i<xs.size->j<=xs.getD i 0:=by
 intro d
 induction d with
 | zero=>
  intro lo g B v o r q;have e:lo=g:=by omega
  subst e;exact⟨o,r,q⟩
 | succ d x=>
  intro lo g B v o r q;unfold below.go
  by_cases h:lo<g
  ·rw[ux h]
   have up:∀a b,a<=b->b<xs.size->xs.getD a 0<=xs.getD b 0:=λa b E C=>by
    have y:∀k,k<xs.size->xs.getD k 0=xs.toList.getD k 0:=λk G=>by
     rw[Do,v4,TW]
    by_cases e:a=b
    ·rw[e];exact sK _
    ·rw[y a (by omega),y b C,v4,v4,nA (by rw[v3];omega),nA (by rw[v3];omega)];exact SL (List.pairwise_iff_getElem.mp z a b (by rw[v3];omega) (by rw[v3];omega) (by omega))
   by_cases c:xs.getD ((lo+g)/2) 0<j
   ·rw[show(let l:=(lo+g)/2;if xs.getD l j<j then below.go xs j d (l+1) g else below.go xs j d lo l)=below.go xs j d ((lo+g)/2+1) g from by
     have e:xs.getD ((lo+g)/2) j=xs.getD ((lo+g)/2) 0:=by
      rw[Do,Do,At (by omega)];rfl
     show(if xs.getD ((lo+g)/2) j<j then _ else _)=_;rw[e,ux c]]
    exact x _ _ (by omega) (by omega) o (λi p=>Yt (up i _ (by omega) (by omega)) c) q
   ·rw[show(let l:=(lo+g)/2;if xs.getD l j<j then below.go xs j d (l+1) g else below.go xs j d lo l)=below.go xs j d lo ((lo+g)/2) from by
     have e:xs.getD ((lo+g)/2) j=xs.getD ((lo+g)/2) 0:=by
      rw[Do,Do,At (by omega)];rfl
     show(if xs.getD ((lo+g)/2) j<j then _ else _)=_;rw[e,uk c]]
    exact x _ _ (by omega) (by omega) (by omega) r λi p u=>GM (by omega) (up _ i p u)
  ·rw[uk h];have e:lo=g:=by omega
   subst e;exact⟨o,r,q⟩
theorem dD(a:xs.toList.Pairwise (·<·))(j:Nat):below xs j<=xs.size/\(∀i,i<below xs j->xs.getD i 0<j)/\∀i,below xs j<=i->i<xs.size->j<=xs.getD i 0:=
 DN a j _ _ _ (sK _) (xL _) (sK _) (λi h=>absurd h (XT _)) λi c b=>by omega
theorem pH(b:xs.toList.Pairwise (·<·))(u:xs[below xs j]?≠some j):(insertAt xs (below xs j) j).toList.Pairwise (·<·):=by
 obtain⟨G,B,o⟩:=dD b j;rw[toList_insertAt];have C:xs.toList.length=xs.size:=v3
 have ge:∀k (a:k<xs.toList.length),xs.toList[k]=xs.getD k 0:=λk a=>by
  rw[Do,<-TW,nA a];rfl
 refine List.pairwise_append.mpr ⟨b.sublist (Xz _ _),List.pairwise_cons.mpr ⟨λy c=>?_,b.sublist (List.drop_sublist _ _)⟩,λx q y c=>?_⟩
 ·obtain⟨k,a,rfl⟩:=Yn c;have h:=a;rw[Xd] at h;rw[List.getElem_drop,ge _ (by omega)];have v:=o (below xs j+k) (by omega) (by omega);have E:=o (below xs j) (sK _) (by omega);have g:below xs j<xs.size:=by omega
  have l:xs[below xs j]?=some (xs.getD (below xs j) 0):=by rw[Do,At g];rfl
  have r:xs.getD (below xs j) 0≠j:=λe=>u (by rw[l,e])
  by_cases z:k=0
  ·subst z;rw[Nat.add_zero] at v ⊢;omega
  ·have:=List.pairwise_iff_getElem.mp b (below xs j) (below xs j+k) (by omega) (by omega) (by omega);rw[ge _ (by omega),ge _ (by omega)] at this;omega
 ·obtain⟨k,a,rfl⟩:=Yn q;rw[wE] at a;have d:=B k (by omega);rw[List.getElem_take,ge _ (by omega)];rcases List.mem_cons.mp c with e | e
  ·rw[e];exact d
  ·obtain⟨p,i,rfl⟩:=Yn e;rw[Xd] at i;rw[List.getElem_drop,ge _ (by omega)];have:=o (below xs j+p) (by omega) (by omega);omega
def TG(t:SetTable):Prop:=t.plain=true->t.place.toList.Pairwise (·<·)/\t.dummies=#[]
theorem yc{t:SetTable}(h:t.slot j=.empty):t.place[below t.place j]?≠some j:=λe=>by
 have:t.slot j=.live (below t.place j):=by unfold SetTable.slot;simp[e]
 rw[this] at h;cases h
theorem yG{t:SetTable}(hd:t.dummies=#[])(j:Nat):t.slot j≠.dummy:=λh=>by
 unfold SetTable.slot at h;have e:has t.dummies j=false:=by rw[hd];unfold has;simp
 rw[e] at h
 by_cases c:(t.place[below t.place j]? == some j)=true
 ·rw[ux c] at h;cases h
 ·rw[uk c] at h;cases h
theorem lG(t:SetTable)(p:Probe):(t.advance p).dummy=p.dummy:=by
 unfold SetTable.advance;split<;>rfl
theorem gF(hd:t.dummies=#[]){g:Nat->Int}{h:Int}:∀(a:Nat) (p:Probe),p.dummy=none->∀{j:Nat} {d:AAF},probe.go t g h a p=some (.empty j d)->t.slot j=.empty/\d=none
 | 0,_,_,_,_,e=>by cases e
 | a+1,p,c,j,d,e=>by
  unfold probe.go at e;split at e
  ·rename_i b
   cases e;exact⟨b,c⟩
  ·rename_i b
   exact absurd b (yG hd _)
  ·split at e
   ·cases e
   ·exact gF hd a _ (by rwa[lG]) e
theorem Dh{t:SetTable}(hd:t.dummies=#[])(e:t.freeSlot h=some (j,b)):t.slot j=.empty:=by
 unfold SetTable.freeSlot at e;split at e
 ·rename_i i d a
  obtain⟨g,c⟩:=gF hd _ _ rfl a;subst c;cases e;exact g
 ·cases e
theorem TG.zH(t:SetTable)(n:Nat):TG (t.standIn n):=λh=>by cases h
theorem TG.Mr(h:TG t)(n:Nat):TG (t.orStandIn n):=by
 unfold SetTable.orStandIn;split
 ·exact h
 ·exact TG.zH t n
theorem sN(t:SetTable)(n:Nat):(t.orStandIn n).led=t.led:=by
 unfold SetTable.orStandIn;split<;>rfl
theorem TG.layNew(g:TG t)(d:Array (Int×Value))(h:Int)(x:Value):TG (PySem.layNew t d h x).2.1/\(PySem.layNew t d h x).2.1.led=t.led:=by
 unfold PySem.layNew;split
 ·rename_i j b e
  refine⟨TG.Mr (λa=>?_) _,sN _ _⟩;obtain⟨g1,c⟩:=g a;refine⟨pH g1 (yc (Dh c e)),?_⟩;show(if has t.dummies j=true then _ else t.dummies)=#[];have e:has t.dummies j=false:=by rw[c];unfold has;simp
  rwa[e]
 ·exact⟨TG.zH _ _,rfl⟩
theorem wy(o:Nat->AAF):∀l:ZX,l.Pairwise (·<·)->((l.filterMap λj=>(o j).map (j,·)).map (·.1)).Pairwise (·<·):=λl h=>by
 rw[XA];refine List.Pairwise.filterMap _ (λa i d b e g c=>?_) h;obtain⟨_,_,rfl⟩:=Option.map_eq_some_iff.mp e;obtain⟨_,_,rfl⟩:=Option.map_eq_some_iff.mp c;exact d
theorem TG.relayAll(g:TG t)(c:Array (Int×Value))(n:Nat):TG (PySem.relayAll t c n).2.1/\(PySem.relayAll t c n).2.1.led=t.led:=by
 unfold PySem.relayAll;split
 ·rename_i h b e
  obtain⟨a,_,d⟩:=Option.bind_eq_some_iff.mp e;cases d;dsimp only;split
  ·exact⟨λ_=>⟨by exact wy _ _ (List.pairwise_lt_range ..),rfl⟩,rfl⟩
  ·exact⟨TG.zH _ _,rfl⟩
 ·exact⟨TG.zH _ _,rfl⟩
theorem TG.fresh(a b:Nat)(led:Bool):TG (SetTable.fresh a b led):=λ_=>⟨List.Pairwise.nil,rfl⟩
end PySem
namespace PySem
section
variable{prog:Program}{w:World}{A:Around}{E:AAB}{s:Shared}{a:Addr}
structure I0(prog:Program)(w:World)(led:Bool)(h:Heap)(a:Addr)(es:Array (Int×Value)):Prop where
 at_:∃o ep t,h.get? a=some o/\o.ExactSet/\o.data=.set es ep t/\t.fits es.size=true/\TG t/\t.led=led
 el:ElemsOf (intKind prog w) es.toList
 small:es.size<scanBound
theorem nh{h:Heap}(i:h.get? a=some o)(c:o.ExactSet)(hd:o.data=.set q ep t)(d:ElemsOf (intKind prog w) b.toList)(p:b.size<scanBound)(l:t'.fits b.size=true)(g:TG t')(j:t'.led=led) :
  (h.update a (Obj.putSet b t')).get? a=some { o with data:=.set b (ep+1) t' }/\I0 prog w led (h.update a (Obj.putSet b t')) a b:=by
 have e:=by
  have:=FB (Obj.putSet b t') i (by rw[putSet_of b t' hd];rfl);rwa[putSet_of b t' hd] at this
 exact⟨e,⟨_,ep+1,t',e,c,rfl,l,g,j⟩,d,p⟩
theorem oo{g:Bool->Sem Unit}(T:∀(b:Bool) (l:Shared) (S:Unit->Shared->Prop),S () l->wpAny (model prog w) A (g b) S E l)
       (O:s.heap.get? a=some o) (y:o.ExactSet) (hd:o.data=.set X ep t)
    (q:ElemsOf (intKind prog w) c.toList)
  (u:c.size<scanBound) (G:i.fits c.size=true) (M:TG i) (Q:i.led=led)  
  (h:∀h' e,Heap.SameBut a s.heap h'->I0 prog w led h' a e->e.toList.Perm c.toList->R (some true) { s with heap:=h' }) :
  wpAny (model prog w) A (do
    storeSet a c i
    if (!d&&i.tooFull)=true then do
      g (relayAll i c (SetTable.grown c.size)).2.2
      storeSet a (relayAll i c (SetTable.grown c.size)).1 (relayAll i c (SetTable.grown c.size)).2.1
      pure (some true)
     else pure (some true)) R E s:=by
 refine eH (wpAny_storeSet_of O hd ?_ (fits_of_scanBound u));obtain⟨x,I⟩:=nh   O y hd q u G M Q;have p:=IN s.heap a (Obj.putSet c i);split
 ·have v:=relayAll_perm i c (SetTable.grown c.size);have r:=relayAll_fits i c (SetTable.grown c.size);have j:=M.relayAll c (SetTable.grown c.size);generalize U:relayAll i c (SetTable.grown c.size)=Y at v r j ⊢;obtain⟨e,t3,J⟩:=Y;have z:=q.perm v;have C:e.size=c.size:=by rw[<-v3,v.length_eq,v3]
  have B:e.size<scanBound:=by rwa[C]
  refine eH (T _ _ _ (eH (wpAny_storeSet_of x rfl ?_ (fits_of_scanBound B))));obtain⟨_,H⟩:=nh    x y rfl z B r j.1 (j.2.trans Q);exact hE (h _ _ (p.trans (IN _ a _)) H v)
 ·exact hE (h _ _ p I (List.Perm.refl _))
theorem Hd(y:(intKind prog w).is k x=true)(G:x.scannable=true)(hS:I0 prog w led s.heap a p)(H:p.size+1<scanBound)
  (h:∀h' O r,Heap.SameBut a s.heap h'->I0 prog w led h' a O->((∃e∈p.toList,(intKind prog w).is k e.2=true)/\O=p\/(¬∃e∈p.toList,(intKind prog w).is k e.2=true)/\O.toList.Perm (p.toList++[((intKind prog w).hash k,x)]))->Q r { s with heap:=h' }) :
  wpAny (model prog w) A (setAddHashed a x ((intKind prog w).hash k)) Q E s:=by
 obtain⟨⟨o,ep,t,U,S,hd,hf,tg,Y⟩,J,hb⟩:=id hS;refine FS (eH (Xm U hd hf ?_));dsimp only;rw[byScan_of G hb J];refine eH (eH (Yf (eH (wpAny_setScan_of y U hd hf J ?_))))
 cases hr:List.findIdx? (λe=>(intKind prog w).is k e.2) p.toList with
 | some j=>
  obtain⟨hj,X,_⟩:=List.findIdx?_eq_some_iff_getElem.mp hr;exact hE (hE (h s.heap p _ (Heap.SameBut.refl a s.heap) hS (.inl ⟨⟨p.toList[j],Xp hj,X⟩,rfl⟩)))
 | none=>
  have no:¬∃e∈p.toList,(intKind prog w).is k e.2=true:=λ⟨e,he,I⟩=>by
   have:=List.findIdx?_eq_none_iff.mp hr e he;rw[I] at this;exact Bool.noConfusion this
  have a0:∀(b:Bool) {g:Shared} {T:Unit->Shared->Prop},T () g->wpAny (model prog w) A (match b with | true=>rule "set.scan.the-table-gave-way" | false=>pure ()) T E g:=
   λb g T v=>by cases b<;>first | exact hE v | exact Yf v
  have c:=layNew_perm t p ((intKind prog w).hash k) x;have d:=layNew_fits t p ((intKind prog w).hash k) x;have l:=tg.layNew p ((intKind prog w).hash k) x;generalize hL:layNew t p ((intKind prog w).hash k) x=L at c d l ⊢;obtain⟨M,t1,R,a1⟩:=L;rw[Array.toList_push] at c;have B:=(J.push y G).perm c;have C:M.size<scanBound:=by rw[<-v3,c.length_eq,v3];simpa using H
  refine eH (a0 _ ?_);have z:∀h' i,Heap.SameBut a s.heap h'->I0 prog w led h' a i->i.toList.Perm M.toList->∀r,Q r { s with heap:=h' }:=λh' i q u I r=>h h' i r q u (.inr ⟨no,I.trans c⟩);split
  ·refine eH ?_;rw[hashByValue_scannable 8 G];refine hE ?_;refine oo (led:=led) ?_ U S hd B C ?_ ?_ ?_ ?_
   ·intro b g T v;cases b<;>first | exact hE v | exact Yf v
   ·split
    ·exact d
    ·exact SetTable.fits_plain_off d
   ·split
    ·exact l.1
    ·exactλh=>by cases h
   ·split
    ·exact l.2.trans Y
    ·exact l.2.trans Y
   ·intro h' i q u I;dsimp only;exact hE (z h' i q u I _)
  ·refine eH (hE ?_);simp only[↓reduceIte];refine oo (led:=led) ?_ U S hd B C d l.1 (l.2.trans Y) ?_
   ·intro b g T v;cases b<;>first | exact hE v | exact Yf v
   ·intro h' i q u I;dsimp only;exact hE (z h' i q u I _)
end
end PySem
namespace L2
open PySem PySem.Spec PyProof.Rows
noncomputable def V5(a:ZW)(k:Int):ZW:=if k∈a then a else a++[k]
def EI(c:Array (Int×Value))(b:ZW):Prop:=∃a,IntsAre (c.toList.map (·.2)) a/\a.Perm b
theorem nq:Value.isInt k (.int n t)=true ↔ n=k:=by
 constructor
 ·intro h;obtain⟨a,e⟩:=Value.isInt_shape h;cases e;rfl
 ·rintro rfl;exact oa n t
theorem sF:∀{b:List (Int×Value)} {c:ZW},IntsAre (b.map (·.2)) c->∀k,(∃e∈b,(intKind P w).is k e.2=true) ↔ k∈c
 | [],_,h,k=>by
  cases h;constructor
  ·rintro⟨_,h,_⟩;cases h
  ·intro h;cases h
 | e::b,c,h,k=>by
  obtain⟨n,t,ns,j,rfl,o⟩:∃n t ns,e.2=Value.int n t/\c=n::ns/\IntsAre (b.map (·.2)) ns:=by
   have g:IntsAre (e.2::b.map (·.2)) c:=h;generalize e.2=v at g;cases g with
   | cons n t l=>exact⟨n,t,_,rfl,rfl,l⟩
  have i:=sF (P:=P) (w:=w) o k;constructor
  ·rintro⟨z,d,a⟩;rcases List.mem_cons.mp d with q | q
   ·rw[q,j] at a;have a:Value.isInt k (.int n t)=true:=a;rw[nq.mp a];exact hQ
   ·exact hH _ (i.mp ⟨z,q,a⟩)
  ·intro a;rcases List.mem_cons.mp a with q | q
   ·exact⟨e,hQ,by rw[j,q];exact(nq (t:=t)).mpr rfl⟩
   ·obtain⟨z,d,a⟩:=i.mpr q;exact⟨z,hH _ d,a⟩
theorem EI.mem(h:EI b a)(k:Int):(∃e∈b.toList,(intKind P w).is k e.2=true) ↔ k∈a:=by
 obtain⟨c,g,d⟩:=h;rw[sF g,d.mem_iff]
theorem mE:∀{vs e:ZU},e.Perm vs->∀{d:ZW},IntsAre vs d->∃c,IntsAre e c/\c.Perm d:=λp=>by
 induction p with
 | nil=>intro d h;exact⟨d,h,.refl _⟩
 | cons v p i=>
  intro d h
  cases h with
  | cons n t h=>obtain⟨c,a,b⟩:=i h;exact⟨n::c,.cons n t a,b.cons _⟩
 | swap v u l=>
  intro d h
  cases h with
  | cons n t h=>cases h with
   | cons m q h=>exact⟨m::n::_,.cons m q (.cons n t h),.swap ..⟩
 | trans p q o j=>
  intro d h;obtain⟨B,z,x⟩:=j h;obtain⟨g,y,r⟩:=o z;exact⟨g,y,r.trans x⟩
theorem ints_app:∀{vs a:ZU} {b c:ZW},IntsAre vs b->IntsAre a c->IntsAre (vs++a) (b++c)
 | _,_,_,_,.nil,q=>q
 | _,_,_,_,.cons n t h,q=>.cons n t (ints_app h q)
theorem iN:∀{vs:ZU} {a:ZW},IntsAre vs a->vs.length=a.length
 | _,_,.nil=>rfl
 | _,_,.cons n t h=>by rw[wP,wP,iN h]
theorem EI.size(h:EI b a):b.size=a.length:=by
 obtain⟨c,e,d⟩:=h;have:=iN e;rw[dL,v3] at this;rw[this,d.length_eq]
theorem EI.add(h:EI g j)(q:((∃e∈g.toList,(intKind P w).is k e.2=true)/\c=g\/(¬∃e∈g.toList,(intKind P w).is k e.2=true)/\c.toList.Perm (g.toList++[(v,Value.int k t)]))):EI c (V5 j k):=by
 unfold V5;rcases q with⟨i,rfl⟩ | ⟨i,p⟩
 ·rwa[ux ((h.mem k).mp i)]
 ·rw[uk λz=>i ((h.mem k).mpr z)];obtain⟨l,u,r⟩:=h;have d:=p.map (·.2);rw[v7] at d;obtain⟨o,a,b⟩:=mE d (ints_app u (.cons k t .nil));exact⟨o,a,b.trans (r.append_right _)⟩
theorem IQ(a:ZW)(k:Int):(V5 a k).length<=a.length+1:=by
 unfold V5;split
 ·omega
 ·rw[vv];exact sK _
theorem tK(ns:ZW):∀a:ZW,(ns.foldl V5 a).length<=a.length+ns.length:=by
 induction ns with
 | nil=>intro a;exact sK _
 | cons n ns b=>
  intro a;have:=b (V5 a n);have:=IQ a n;rw[WY,wP];omega
theorem Ls(ns:ZW):∀c:ZW,c.Nodup->(ns.foldl V5 c).Nodup/\∀x,x∈ns.foldl V5 c ↔ x∈c\/x∈ns:=by
 induction ns with
 | nil=>intro c h;exact⟨h,λx=>by simp⟩
 | cons n ns g=>
  intro c h
  have o:(V5 c n).Nodup:=by
   unfold V5;split
   ·exact h
   ·rename_i d
    refine List.nodup_append.mpr ⟨h,Os _ _,λa j b i e=>?_⟩;rw[List.mem_singleton.mp i] at e;exact d (e▸j)
  have l:∀x,x∈V5 c n ↔ x∈c\/x=n:=λx=>by
   unfold V5;split
   ·rename_i d;exact⟨.inl,λz=>z.elim id λe=>by rwa[e]⟩
   ·rw[YR,List.mem_singleton]
  obtain⟨a,b⟩:=g _ o;refine⟨a,λx=>?_⟩;rw[WY,b,l,Xh,or_assoc]
theorem Dj{R:Result->Shared->Prop}{I:Addr}{X q:ZS}{led:Bool}{ns:ZW}{P:Nat->Value->Prop}{St:Nat->Heap->Prop}(W:Walks prog w A.in1 I X q ns.length P St)(S:Addr)(U:S∉X)(hv:∀i v,P i v->∃t,v=.int (ns.getD i 0) t)(g:ns.length+1<scanBound) :
  ∀(k i:Nat) (s:Shared),ns.length-i=k->i<=ns.length->St i s.heap->(∃c,I0 prog w led s.heap S c/\EI c ((ns.take i).foldl V5 [])) ->
   (∀h' tk c,(∀b o,b∉S::q->s.heap.get? b=some o->h'.get? b=some o)->I0 prog w led h' S c->EI c (ns.foldl V5 [])->R (.ok (.ret .none)) { s with heap:=h',toks:=tk }) ->
   codeAny (model prog w) A (.builtin "set.update.loop" ⟨[.ref S,.ref I],[]⟩) R s:=by
 have Y:=λh=>U (W.sub _ h);have fH:∀{h h':Heap} {c:Array (Int×Value)},(∀b o,b∉q->h.get? b=some o->h'.get? b=some o)->I0 prog w led h S c->I0 prog w led h' S c:=λk ⟨⟨o,ep,t,ho,r⟩,a,b⟩=>⟨⟨o,ep,t,k S _ Y ho,r⟩,a,b⟩
 intro k
 induction k with
 | zero=>
  intro i s hk hi st ⟨c,H,p⟩ j;have e:i=ns.length:=by omega
  subst e;rw[wh] at p;refine Rs W1 ?_;rw[No Go _];show wpAny _ A.in1 (pyNext (.ref I) >>= _) _ _ s;exact eH (W.done s _ _ st λh' tk kp=>hE (j h' tk c (λb o g e=>kp b o (λz=>g (hH _ z)) e) (fH kp H) p))
 | succ k ih=>
  intro i s hk hi st ⟨c,H,p⟩ j;have d:i<ns.length:=by omega
  refine Rs W1 ?_;rw[No Go _];show wpAny _ A.in1 (pyNext (.ref I) >>= _) _ _ s;refine eH (W.item i s _ _ d st λv h' tk hP x kp=>?_);obtain⟨t,rfl⟩:=hv i v hP;have G:=fH kp H
  have B:c.size+1<scanBound:=by
   have h1:=p.size;have M:=tK (ns.take i) [];rw[wE] at M;have:([]:ZW).length=0:=rfl;omega
  show wpAny _ A.in1 (holding [_] (setAdd S _) >>= _) _ _ _;refine eH (FS ?_);unfold setAdd;refine FS (eH ((intKind prog w).pyHash (k:=ns.getD i 0) (intKind_is _ _ _ _) ?_));refine Hd (s:={ s with heap:=h',toks:=tk+1 }) (intKind_is _ _ _ _) rfl G B λM Q r T E hq=>?_;have l:=p.add hq
  have et:V5 ((ns.take i).foldl V5 []) (ns.getD i 0)=(ns.take (i+1)).foldl V5 []:=by
   rw[v9,nA d,WF,v4,nA d];rfl
  rw[et] at l;refine hE ⟨Xr Go _,ih (i+1) _ (by omega) d (W.frame (i+1) h' M x λb g o e=>(T.2 b λz=>U (z▸g)).trans e) ⟨Q,E,l⟩ λh3 u O y C J=>?_⟩;refine j h3 u O (λb o g e=>y b o g ?_) C J;exact(T.2 b λz=>g (by rw[z];exact hQ)).trans (kp b o (λz=>g (hH _ z)) e)
end L2
namespace PySem
namespace L4
theorem E8:Slot "set_iterator" "__next__" "set_iterator.__next__":=.of (owner:="set_iterator") (n:="__next__") (by kernel_rfl) (by decide +kernel) (by decide +kernel) (by decide +kernel) (by first | exact .inl (by decide +kernel) | exact .inr (by decide +kernel)) (by kernel_rfl)
theorem kN:Slot "set_iterator" "__iter__" "set_iterator.__iter__":=.of (owner:="set_iterator") (n:="__iter__") (by kernel_rfl) (by decide +kernel) (by decide +kernel) (by decide +kernel) (by first | exact .inl (by decide +kernel) | exact .inr (by decide +kernel)) (by kernel_rfl)
theorem cI:entryFor table "set_iterator.__next__"=some Builtin.«set_iterator.__next__»:=entryFor_of_tree (by kernel_rfl)
theorem ym:entryFor table "set_iterator.__iter__"=some Builtin.«dict_keyiterator.__iter__»:=entryFor_alias (id':="dict_keyiterator.__iter__") (by kernel_rfl) (by first | rfl | decide +kernel | (unfold String.splitOn;simp +decide [Zl])) (by decide +kernel) (by kernel_rfl)
theorem Uw:entryFor table "set.__iter__"=some Builtin.«frozenset.__iter__»:=entryFor_alias (id':="frozenset.__iter__") (by kernel_rfl) (by first | rfl | decide +kernel | (unfold String.splitOn;simp +decide [Zl])) (by decide +kernel) (by kernel_rfl)
theorem tV:Manifest.owners.lookup (String.ofList ['r','o','t','a','r','e','t','i','_','t','e','s'].reverse)=some Manifest.sig_set_iterator:=by kernel_rfl
theorem dh(a:Value):argsOk "set_iterator.__next__" ⟨[a],[]⟩:=by unfold argsOk;kernel_rfl
theorem wI(a:Value):argsOk "set_iterator.__iter__" ⟨[a],[]⟩:=by unfold argsOk;kernel_rfl
theorem Ur:typeLookup (.type "set") "__len__"=pure (some (.builtin "set.__len__")):=by kernel_rfl
end L4
theorem du{a:Type}:∀(l:List a) (i:Nat) (h:i<l.length),(l[i]::l.eraseIdx i).Perm l
 | [],_,h=>absurd h (XT _)
 | x::l,0,h=>.refl _
 | x::l,i+1,h=>(List.Perm.swap x _ _).trans ((du l i (Nat.lt_of_succ_lt_succ h)).cons x)
theorem Ag(next:Nat->Nat):∀(n k:Nat) (a:List c) (out:Array c),a.length=n->(pickOrder.go next n k a out).toList.Perm (out.toList++a)
 | 0,k,a,out,h=>by
  rw[List.length_eq_zero_iff.mp h,vy];exact .refl _
 | n+1,k,a,out,h=>by
  have b:next k%a.length<a.length:=Nat.mod_lt _ (by omega)
  unfold pickOrder.go;rw[nA b];refine(Ag next n (k+1) _ _ (by rw[ZL b];omega)).trans ?_;rw[Array.toList_push,wT];exact(du _ _ b).append_left _
theorem fR(next:Nat->Nat)(xs:Array a):(pickOrder next xs).toList.Perm xs.toList:=by
 have:=Ag next xs.size 0 xs.toList #[] v3
 rwa [] at this
section
variable{M:Model}{A:Around}{E:AAB}
theorem pJ(b:n≠0)(h:∀i d,i<n->Q i { s with drawn:=d }):wpAny M A (choose a n) Q E s:=λc p _=>by
 unfold choose;exact⟨b,h _ _ (Nat.mod_lt _ (Nat.pos_of_ne_zero b))⟩
theorem xD:∀(n:Nat) (xs:List b) {s:Shared} {Q:List b->Shared->Prop},xs.length=n->(∀ys d,ys.Perm xs->Q ys { s with drawn:=d })->wpAny M A (drawOrder n xs) Q E s:=by
 intro n
 induction n with
 | zero=>
  intro xs s Q h q;rw[List.length_eq_zero_iff.mp h] at q;exact hE (q [] s.drawn (.refl _))
 | succ n c=>
  intro xs s Q h q
  cases xs with
  | nil=>cases h
  | cons x xs=>
   refine eH (pJ (by simp) λi d a=>?_);rw[nA a];exact eH (c _ (by rw[ZL a];omega) λys g e=>hE (q _ g ((e.cons _).trans (du _ _ a))))
end
section
variable{prog:Program}{w:World}{A:Around}{E:AAB}{s:Shared}{it a:Addr}
def yz(h:Heap)(it a:Addr)(b:Value)(i n ep:Nat):Prop:=∃o,h.get? it=some o/\o.cls=.type "set_iterator" /\ o.data=.fields #[b,.int (i:Int) 0,.ref a,.int (n:Int) 0,.int (ep:Int) 0]
def SW(h:Heap)(a:Addr)(b:Array (Int×Value))(ep:Nat)(t:SetTable):Prop:=(∃o,h.get? a=some o/\o.data=.set b ep t)/\t.fits b.size=true
theorem yz.typeIs(x:yz s.heap it a b i n ep):s.TypeIs (.ref it) "set_iterator":=let ⟨o,c,d,_⟩:=x;⟨o,c,d⟩
theorem yz.at'(x:yz h it a b i n ep)(e:∀o,h.get? it=some o->h'.get? it=some o):yz h' it a b i n ep:=let ⟨o,c,r⟩:=x;⟨o,e _ c,r⟩
theorem SW.at'(x:SW h a b ep t)(e:∀o,h.get? a=some o->h'.get? a=some o):SW h' a b ep t:=let ⟨⟨o,c,r⟩,f⟩:=x;⟨⟨o,e _ c,r⟩,f⟩
theorem bI{Q:AAB}(hit:yz s.heap it a b i n ep)(h:Q (.ref it) s):wpAny (model prog w) A (pyIter (.ref it)) Q E s:=ZG hit.typeIs L4.kN (Gc L4.kN hit.typeIs L4.ym (hE ⟨_,rfl,"set_iterator",_,hit.typeIs,L4.E8.lookup,h⟩) (L4.wI _))
theorem mq:isSubtype (.type "StopIteration") (.type "StopIteration")=pure true:=by kernel_rfl
theorem nF{slot slot' i n ep:Nat}{Q:AAE->Shared->Prop}(hit:yz s.heap it a (.int (slot:Int) 0) i n ep)(j:SW s.heap a e ep t)(l:e.size=n)
  (h:∀(E:AAB) (g:Option (Value×Nat)->Shared->Prop),g (some (x,slot')) s->wpAny (model prog w) A.in1 (setNext a slot i ep) g E s)
  (r:∀h',yz h' it a (.int (slot':Int) 0) (i+1) n ep->Heap.SameBut it s.heap h'->Q (some x) { s with heap:=h' }) :
  wpAny (model prog w) A (pyNext (.ref it)) Q E s:=by
 obtain⟨o,b,q,hd⟩:=id hit;obtain⟨⟨os,c,d⟩,p⟩:=id j;refine eH (XY (IR  hit.typeIs L4.E8 (Gc L4.E8 hit.typeIs L4.cI (eH (hE (eH (Zj b hd (eH (XX c d p ?_)))))) (L4.dh _))));rw[uk (by rw[l];simp)];refine eH (h _ _ ?_);refine eH (Xg b hd (by simp) (eH (Xg (FB _ b (UV (C2 hd _))) (C2 hd _) (by simp) (hE ⟨_,rfl,hE (r _ ?_ ((IN ..).trans (IN ..)))⟩))));have u:=FB (Obj.mapFields (·.setIfInBounds 0 (rawInt slot'))) b (UV (C2 hd _));refine⟨_,FB _ u (UV (C2 (C2 hd _) _)),(YO ..).trans ((YO ..).trans q),?_⟩
 ·rw[C2 (C2 hd _)];simp[rawInt]
theorem yN{tp i n ep j:Nat}{ps:ZY}{Q:AAE->Shared->Prop}(hit:yz s.heap it a (.ref tp) i n ep)(r:SW s.heap a l ep t)(v:l.size=n)
  (u:∃o e,s.heap.get? tp=some o/\o.data=.seq ps e) (y:ps[i]?=some (.int (j:Int) 0)) (q:l[j]?=some x)
  (B:∀h',yz h' it a (.ref tp) (i+1) n ep->Heap.SameBut it s.heap h'->Q (some x.2) { s with heap:=h' }) :
  wpAny (model prog w) A (pyNext (.ref it)) Q E s:=by
 obtain⟨o,g,z,hd⟩:=id hit;obtain⟨⟨os,b,c⟩,p⟩:=id r;obtain⟨C,e,d,h⟩:=u;refine eH (XY (IR  hit.typeIs L4.E8 (Gc L4.E8 hit.typeIs L4.cI (eH (hE (eH (Zj g hd (eH (XX b c p ?_)))))) (L4.dh _))));rw[uk (by rw[v];simp)];refine eH ?_;refine eH (wpAny_load d ?_);rw[h];refine hE ?_;dsimp only;rw[EQ,y];dsimp only;rw[EQ];refine eH ?_;refine eH (Xm b c p ?_);dsimp only;rw[uk (by simp),q];refine hE (eH (Xg g hd (by simp) (hE ⟨_,rfl,hE (B _ ⟨_,FB _ g (UV (C2 hd _)),(YO ..).trans z,?_⟩ (IN ..))⟩)));rw[C2 hd];simp[rawInt]
theorem N3  (h:Q (w.params.followText "set-order") s):wpAny (model prog w) A setsByText Q E s:=eH (YW (hE h))
theorem xF(g:xs.toList.Pairwise (·<·))(h:xs[i]?=some j):SetTable.below xs (j+1)=i+1:=by
 obtain⟨v,o,l⟩:=dD g (j+1);obtain⟨d,e⟩:=Array.getElem?_eq_some_iff.mp h;have r:xs.getD i 0=j:=by rw[Do,h];rfl
 have c1:i<SetTable.below xs (j+1):=by
  rcases Nat.lt_or_ge i (SetTable.below xs (j+1)) with c | c
  ·exact c
  ·have:=l i c d;omega
 rcases Nat.lt_or_ge (i+1) (SetTable.below xs (j+1)) with c | c
 ·have q:=o (i+1) c;have b:i+1<xs.size:=by omega
  have g1:xs.getD (i+1) 0=xs.toList[i+1]'(by rwa[]):=by
   rw[Do,At b];rfl
  have p:=List.pairwise_iff_getElem.mp g i (i+1) (by rwa[]) (by rwa[]) (by omega);have u:xs.toList[i]'(by rwa[])=j:=e;omega
 ·omega
theorem wc(b:xs.toList.Pairwise (·<·)):SetTable.below xs 0=0:=by
 obtain⟨h,d,g⟩:=dD b 0;rcases Nat.eq_zero_or_pos (SetTable.below xs 0) with e | c
 ·exact e
 ·exact absurd (d 0 c) (XT _)
theorem sV      (g:SW s.heap a c ep t) (u:w.params.followText "set-order"=false) (p:t.led=true)
  (hd:(!t.plain&&decide (c.size>1))=false) (y:t.place.toList.Pairwise (·<·)) (r:SetTable.below t.place slot=i) (e:c[i]?=some x)  (q:t.place[i]?=some j)
  (h:Q (some (x.2,j+1)) s):wpAny (model prog w) A (setNext a slot i ep) Q E s:=by
 obtain⟨⟨o,l,b⟩,d⟩:=id g;refine eH (Xm l b d ?_);dsimp only;refine eH (N3 ?_);rw[u];show wpAny _ _ (if (!t.plain&&decide (c.size>1))=true then _ else _) _ _ s;rw[hd];refine eH ?_
 wp_delta
 rw[p];refine hE ?_;rw[r,e]
 rw[q];exact hE h
theorem gW     (d:SW s.heap a c ep t) (p:w.params.followText "set-order"=false) (i:t.led=true)
  (hd:(!t.plain&&decide (c.size>1))=false) (j:SetTable.below t.place slot=c.size)
  (h:Q none s):wpAny (model prog w) A (setNext a slot g ep) Q E s:=by
 obtain⟨⟨o,e,b⟩,l⟩:=id d;refine eH (Xm e b l ?_);dsimp only;refine eH (N3 ?_);rw[p];show wpAny _ _ (if (!t.plain&&decide (c.size>1))=true then _ else _) _ _ s;rw[hd];refine eH ?_
 wp_delta
 rw[i];refine hE ?_;rw[j,Yd (sK _)];exact hE h
theorem mR     (l:SW s.heap a j ep t) (g:w.params.followText "set-order"=true)
  (h:Q ((pickOrder (w.params.setOrder a ep) j)[i]?.map λe=>(e.2,slot)) s):wpAny (model prog w) A (setNext a slot i ep) Q E s:=by
 obtain⟨⟨o,c,b⟩,d⟩:=id l;refine eH (Xm c b d ?_);refine eH (N3 ?_);rw[g,ux rfl,uk (by simp)];refine eH ?_;refine eH (Xm c b d ?_);refine eH (N3 ?_);rw[g];exact eH (YW (hE (hE h)))
theorem rG{slot i n ep:Nat}{Q:AAE->Shared->Prop}(q:A.handled=none)(hit:yz s.heap it a (.int (slot:Int) 0) i n ep)(l:SW s.heap a g ep t)(p:g.size=n)
  (j:∀(E:AAB) (h:Option (Value×Nat)->Shared->Prop),h none s->wpAny (model prog w) A.in1 (setNext a slot i ep) h E s)
  (u:∀h',Heap.ExtBut it s.heap h'->Q none { s with heap:=h' }) :
  wpAny (model prog w) A (pyNext (.ref it)) Q E s:=by
 obtain⟨o,e,v,hd⟩:=id hit;obtain⟨⟨os,c,d⟩,r⟩:=id l;refine eH (XY (IR (name:=Str.ofString "__next__") hit.typeIs L4.E8 (Gc L4.E8 hit.typeIs L4.cI ?_ (L4.dh _))));refine eH (hE (eH (Zj e hd (eH (XX c d r ?_)))));rw[uk (by rw[p];simp)];dsimp only;rw[EQ,EQ,EQ];refine eH (j _ _ ?_);dsimp only;refine eH (Xg e hd (by simp) (eH ?_));simp only[newExc,newTuple];refine eH (wn (eH (m:=firstArgMember _ _) (Xn (a:=Value.none) (by first | rfl | (simp only[firstArgMember];rfl)) (wn ?_ (by size_fits)))) (by size_fits));simp only[raiseNew];refine eH (wpAny_handled ?_);rw[show A.in1.handled=none from q];refine eH (hE (wpAny_throw ?_));exact eH (Yo (T:="StopIteration") (b:=true) ⟨_,u0 _ rfl,rfl⟩ mq (hE (u _ (((IN ..).extBut.push _).push _))))
theorem kF{tp i n ep:Nat}{ps:ZY}{Q:AAE->Shared->Prop}(v:A.handled=none)(hit:yz s.heap it a (.ref tp) i n ep)(p:SW s.heap a l ep t)(r:l.size=n)
  (q:∃o e,s.heap.get? tp=some o/\o.data=.seq ps e) (u:ps[i]?=none)
  (y:∀h',Heap.ExtBut it s.heap h'->Q none { s with heap:=h' }) :
  wpAny (model prog w) A (pyNext (.ref it)) Q E s:=by
 obtain⟨o,g,B,hd⟩:=id hit;obtain⟨⟨os,c,h⟩,x⟩:=id p;obtain⟨z,e,d,j⟩:=q;unfold pyNext;refine eH (XY (IR (name:=Str.ofString "__next__") hit.typeIs L4.E8 (Gc L4.E8 hit.typeIs L4.cI ?_ (L4.dh _))));unfold Builtin.«set_iterator.__next__»;refine eH (hE (eH (Zj g hd (eH (XX c h x ?_)))));rw[uk (by rw[r];simp)];dsimp only;refine eH ?_;unfold seqItems?
 refine eH (wpAny_load d ?_);rw[j];refine hE ?_;dsimp only;rw[EQ,u];dsimp only;refine eH (Xg g hd (by simp) (eH (Xg (FB _ g (UV (C2 hd _))) (C2 hd _) (by simp) (eH ?_))));simp only[newExc,newTuple];refine eH (wn (eH (m:=firstArgMember _ _) (Xn (a:=Value.none) (by first | rfl | (simp only[firstArgMember];rfl)) ?_)) (by size_fits));refine wn ?_ (by size_fits);simp only[raiseNew];refine eH (wpAny_handled ?_);rw[show A.in1.handled=none from v];refine eH (hE (wpAny_throw ?_));refine eH (Yo (T:="StopIteration") (b:=true) ⟨_,u0 _ rfl,rfl⟩ mq ?_);exact hE (y _ ((((IN ..).trans (IN ..)).extBut.push _).push _))
end
section
variable{prog:Program}{w:World}{A:Around}{E:AAB}{s:Shared}{I a:Addr}
theorem mJ{t:SetTable}(b:t.fits n=true):t.place.size=n:=by
 simp[SetTable.fits] at b;exact b.1
theorem oM (O:A.handled=none) (r:a≠I)    (d:w.params.followText "set-order"=false) (G:t.led=true)
  (hd:(!t.plain&&decide (g.size>1))=false) (C:t.place.toList.Pairwise (·<·)) :
  Walks prog w A I [I,a] [I] g.size (λi v=>(g.toList.map (·.2))[i]?=some v) (λi h=>(∃slot,yz h I a (.int ((slot:Nat):Int) 0) i g.size ep/\SetTable.below t.place slot=i)/\SW h a g ep t) where
 sub:=λb d=>by simp at d;simp[d]
 frame:=λ_ _ _ ⟨⟨slot,st,e⟩,c⟩ H=>⟨⟨slot,st.at' λo e=>H I (by simp) o e,e⟩,c.at' λo e=>H a (by simp) o e⟩
 item:=λi s Q E M ⟨⟨slot,st,e⟩,c⟩ p=>by
  have S:=mJ c.2;have u:i<t.place.size:=by omega
  have J:=At u;have B:=At M;exact nF st c rfl   (λE R q=>sV c d G hd C e B J q) λz l j=>p _ z s.toks (by rw[ue,TW,B];rfl) ⟨⟨_,l,xF C J⟩,c.at' λo e=>j.extBut a o r e⟩ λb o d e=>j.extBut b o (λh=>d (by simp[h])) e
 done:=λs Q E ⟨⟨slot,st,e⟩,c⟩ p=>rG O st c rfl (λE R q=>gW c d G hd e q) λz y=>p z s.toks λb o d e=>y b o (λh=>d (by simp[h])) e
 self:=λ_ _ _ _ ⟨⟨_,st,_⟩,_⟩ p=>bI st p
theorem xQ (G:A.handled=none) (r:a≠I)    (d:w.params.followText "set-order"=true) :
  Walks prog w A I [I,a] [I] c.size (λi v=>((pickOrder (w.params.setOrder a ep) c).toList.map (·.2))[i]?=some v) (λi h=>yz h I a (.int ((0:Nat):Int) 0) i c.size ep/\SW h a c ep t) where
 sub:=λb d=>by simp at d;simp[d]
 frame:=λ_ _ _ ⟨st,g⟩ C=>⟨st.at' λo e=>C I (by simp) o e,g.at' λo e=>C a (by simp) o e⟩
 item:=λi s Q E J ⟨st,g⟩ p=>by
  have z:=by
   have:=(fR (w.params.setOrder a ep) c).length_eq
   rwa [v3,v3] at this
  have B:(pickOrder (w.params.setOrder a ep) c)[i]?=some (pickOrder (w.params.setOrder a ep) c)[i]:=At (by omega);exact nF st g rfl   (λE H q=>mR g d (by rwa[B])) λy l j=>p _ y s.toks (by rw[ue,TW,B];rfl) ⟨l,g.at' λo e=>j.extBut a o r e⟩ λb o d e=>j.extBut b o (λh=>d (by simp[h])) e
 done:=λs Q E ⟨st,g⟩ p=>by
  have z:=by
   have:=(fR (w.params.setOrder a ep) c).length_eq
   rwa [v3,v3] at this
  exact rG G st g rfl (λE H q=>mR g d (by rwa[Yd (XI z)])) λy u=>p y s.toks λb o d e=>u b o (λh=>d (by simp[h])) e
 self:=λ_ _ _ _ ⟨st,_⟩ p=>bI st p
noncomputable def fh(c:Array (Int×Value))(b:ZX):ZU:=b.map λj=>((c[j]?).map (·.2)).getD .none
theorem lT(d:Array (Int×Value))(h:b.Perm (List.range d.size)):(fh d b).Perm (d.toList.map (·.2)):=by
 refine(h.map _).trans ?_
 have:(List.range d.size).map (λj=>((d[j]?).map (·.2)).getD Value.none)=d.toList.map (·.2):=by
  refine Zn λi=>?_;rw[ue,ue,TW (xs:=d)]
  by_cases c:i<d.size
  ·rw[Zd c];show some (((d[i]?).map (·.2)).getD Value.none)=_;rw[At c];rfl
  ·rw[Xx (by simpa using c),Yd (by omega)];rfl
 rw[this]
theorem vF(S:A.handled=none)(C:a≠I)(B:tp≠I)(z:c.Perm (List.range d.size)) :
  Walks prog w A I [I,a,tp] [I] d.size (λi v=>(fh d c)[i]?=some v) (λi h=>yz h I a (.ref tp) i d.size ep/\SW h a d ep t/\∃o e,h.get? tp=some o/\o.data=.seq (c.map λj=>rawInt ((j:Nat):Int)).toArray e) where
 sub:=λb q=>by simp at q;simp[q]
 frame:=λ_ _ _ ⟨st,p,o,e,u,r⟩ H=>⟨st.at' λo e=>H I (by simp) o e,p.at' λo e=>H a (by simp) o e,o,e,H tp (by simp) o u,r⟩
 item:=λi s Q E T ⟨st,p,o,e,u,r⟩ y=>by
  have O:c.length=d.size:=by rw[z.length_eq,vr]
  have l:i<c.length:=by omega
  have G:=List.mem_range.mp (z.mem_iff.mp (Xp l));have R:=At G;exact yN st p rfl ⟨o,e,u,r⟩  (by simp[l,rawInt]) R λM x g=>y _ M s.toks (by unfold fh;rw[ue,nA l];show some (((d[c[i]]?).map (·.2)).getD Value.none)=_;rw[R];rfl) ⟨x,p.at' λo e=>g.extBut a o C e,o,e,g.extBut tp o B u,r⟩ λb o q e=>g.extBut b o (λh=>q (by simp[h])) e
 done:=λs Q E ⟨st,p,o,e,u,r⟩ y=>by
  have O:c.length=d.size:=by rw[z.length_eq,vr]
  exact kF S st p rfl ⟨o,e,u,r⟩ (by simp[O]) λM J=>y M s.toks λb o q e=>J b o (λh=>q (by simp[h])) e
 self:=λ_ _ _ _ ⟨st,_⟩ y=>bI st y
theorem vq(g:TG t)(e:t.fits n=true)(hd:(!t.plain&&decide (n>1))=false):t.place.toList.Pairwise (·<·):=by
 cases b:t.plain with
 | true=>exact(g b).1
 | false=>
  rw[b] at hd;have h:=mJ e;have i:¬n>1:=λc=>by rw[v1 c] at hd;cases hd
  have d:t.place.toList.length<=1:=by rw[v3];omega
  match t.place.toList,d with
  | [],_=>exact List.Pairwise.nil
  | [x],_=>exact Os _ _
theorem xt (x:A.handled=none)  (R:I0 prog w (!w.params.followText "set-order") s.heap a l) {Q:AAB}
  (h:∀(I:Addr) (h':Heap) (d:Drawn) (vs:ZU) (H:ZS) (St:Nat->Heap->Prop),(∀b o,s.heap.get? b=some o->h'.get? b=some o)->s.heap.objs.size<=I->(∀b∈H,b=a\/s.heap.objs.size<=b)->vs.Perm (l.toList.map (·.2)) ->
   Walks prog w A I H [I] l.size (λi v=>vs[i]?=some v) St->St 0 h'->Q (.ref I) { s with heap:=h',drawn:=d }) :
  wpAny (model prog w) A (pyIter (.ref a)) Q E s:=by
 obtain⟨⟨o,q,t,c,y,hd,g,C,J⟩,M,j⟩:=id R;have G:s.TypeIs (.ref a) "set":=⟨o,c,y.1⟩
 have p:=vu c;refine ZG G F.slot_set_iter (Gc F.slot_set_iter G L4.Uw ?_ (F.args_set_iter_1 _));refine eH (hE (eH (eH (XX c hd g (hE (eH (eH (Xm c hd g (eH (N3 (hE ?_)))))))))));show wpAny _ _ (if (!w.params.followText "set-order" && (!t.plain&&decide (l.size>1)))=true then _ else _) _ _ s
 cases B:w.params.followText "set-order" with
 | true=>
  refine eH (hE (eH (ZE c hd g ?_)));refine eH (wn (hE ⟨_,rfl,"set_iterator",_,⟨_,u0 _ rfl,rfl⟩,L4.E8.lookup,h _ _ s.drawn _ _ _ (λb o e=>hD _ e) (sK _) (λb j=>?_) ((fR (w.params.setOrder a q) l).map _) (xQ (t:=t) (ep:=q) x (v6 p) B) ⟨⟨_,u0 _ rfl,rfl,rfl⟩,⟨_,hD _ c,hd⟩,g⟩⟩));simp only[Xh,Zq,or_false] at j;rcases j with rfl | rfl
  ·exact .inr (sK _)
  ·exact .inl rfl
 | false=>
  cases z:(!t.plain&&decide (l.size>1)) with
  | false=>
   rw[uk (by simp)];refine eH (hE ?_);refine eH (ZE c hd g ?_);unfold newFields;refine eH (wn (hE ⟨_,rfl,"set_iterator",_,⟨_,u0 _ rfl,rfl⟩,L4.E8.lookup,?_⟩));refine h _ _ s.drawn _ _ _ (λb o e=>hD _ e) (sK _) (λb j=>?_) (.refl _) (oM (ep:=q) x (v6 p) B (by rw[J,B];rfl) z (vq C g z)) ⟨⟨0,⟨_,u0 _ rfl,rfl,rfl⟩,wc (vq C g z)⟩,⟨_,hD _ c,hd⟩,g⟩;simp only[Xh,Zq,or_false] at j;rcases j with rfl | rfl
   ·exact .inr (sK _)
   ·exact .inl rfl
  | true=>
   rw[ux (by simp)];refine eH (xD l.size _ vr λr d u=>?_);refine eH (wpAny_newTuple ?_ (by have O:l.size<4096:=j;rw[dL,u.length_eq,vr,Uf];omega));refine eH (ZE (hD _ c) hd g ?_);unfold newFields;refine eH (wn (hE ⟨_,rfl,"set_iterator",_,⟨_,u0 _ rfl,rfl⟩,L4.E8.lookup,?_⟩))
   refine h _ _ d _ _ _ (λb o e=>hD _ (hD _ e)) (by rw[Pv];exact Yy _) (λb j=>?_) (lT l u) (vF (tp:=s.heap.objs.size) (t:=t) (ep:=q) x (by rw[Pv];exact v6 (SC p)) (by rw[Pv];exact v6 (XH _)) u)
    ⟨⟨_,u0 _ rfl,rfl,rfl⟩,⟨⟨_,hD _ (hD _ c),hd⟩,g⟩,⟨_,0,hD _ (u0 _ rfl),rfl⟩⟩
   simp only[Xh,Zq,or_false] at j;rcases j with rfl | rfl | rfl
   ·exact .inr (by rw[Pv];exact Yy _)
   ·exact .inl rfl
   ·exact .inr (sK _)
end
end PySem
namespace PySem
open PyProof.Rows
section
variable{prog:Program}{w:World}{A:Around}{E:AAB}{s:Shared}{a:Addr}
theorem Ji  (g:s.TypeIs (.ref a) "set") (h:Q false s):wpAny (model prog w) A (Builtin.List.listLengthHint (.ref a)) Q E s:=by
 refine eH (Ye g L4.Ur ?_);generalize d:("set.__len__")=e
 wp_delta
 subst d;exact eH (Yo  (b:=true) g (by kernel_rfl) (wpAny_ite_split (λc=>absurd c (by decide)) (λ_=>wpAny_ite_split (λ_=>eH (Yk g (hE h))) (λc=>absurd (by decide +kernel) c))))
theorem wm  (hh:A.handled=none)  (hS:I0 prog w (!w.params.followText "set-order") s.heap a B) (S:Addr) (O:S≠a) (q:Value) (h0:s.heap.get? S=some { cls:=.type "list",data:=.seq #[] })
  (hR:∀h' tk d g C (vs:ZU),vs.Perm (B.toList.map (·.2))->(∀b o,b≠S->s.heap.get? b=some o->h'.get? b=some o)->h'.get? S=some { cls:=.type "list",dict:=none,data:=.seq g C,slots:=#[] }->ItemsOf (λi v=>vs[i]?=some v) g B.size->R (.ok (.ret q)) { s with heap:=h',toks:=tk,drawn:=d }) :
  wpAny (model prog w) A.in1 (Builtin.List.listExtendWith (.ref S) (.ref a) q)
   (λa0 u=>match a0 with | .done f=>R (.ok f) u | .again C=>C.quiet=true/\codeAny (model prog w) A C R u) (λe u=>R (.error e) u) s:=by
 obtain⟨⟨o,ep,t,ho,H,hd,hf,tg,hl⟩,a1,r⟩:=id hS;have hn:B.size<=sizeLine:=by have a2:B.size<4096:=r;rw[Uf];omega
 have hT:s.TypeIs (.ref a) "set":=⟨o,ho,H.1⟩
 unfold Builtin.List.listExtendWith;refine eH (Yk (T:="set") hT ?_);have h1:Builtin.List.listSameRef (.ref S) (.ref a)=false:=by simp[Builtin.List.listSameRef,O]
 have y:(Value.type "set" == Value.type "list")=false:=by decide
 have h3:(Value.type "set" == Value.type "tuple")=false:=by decide
 simp only[h1,y,h3,Bool.or_false,XV,Ys];refine eH (xt (A:=A.in1) hh hS λI h' d vs fp St keep hI X hp W st=>?_)
 have Q:S∉fp:=λz=>by
  rcases X _ z with e | e
  ·exact O e
  ·exact absurd (vu h0) (Nat.not_lt.mpr e)
 have G:∀(y:Heap) (p:Nat),St 0 y->(∀b o,b≠S->h'.get? b=some o->y.get? b=some o) ->
   y.get? S=some { cls:=.type "list",data:=.seq #[] p }->codeAny (model prog w) A (.builtin "list.extend.loop" ⟨[.ref S,.ref I,q],[]⟩) R { s with heap:=y,drawn:=d }:=by
  intro y p U hk c;refine codeAny_extend_loopS W.toS hn S Q q B.size 0 _ #[] p rfl (xL _) U c (ItemsOf.nil _) λu g C hm Y M=>?_;rw[Moved.eq_with hm];refine hR u.heap u.toks d g C vs hp (λb o r e=>hm.heap b o (λj=>?_) (hk b o r (keep b o e))) Y M;rcases List.mem_cons.mp j with e' | j
  ·exact r e'
  ·rcases List.mem_singleton.mp j with rfl
   exact absurd (vu e) (Nat.not_lt.mpr hI)
 have c:=keep _ _ h0;refine eH (FS (Ji ⟨o,keep _ _ ho,H.1⟩ (wpAny_ite_split (λ_=>?_) (λ_=>hE ⟨Xr PySem.F.plain_extend_loop _,G _ _ st (λb o _ e=>e) c⟩))));refine eH (Yf ?_);refine eH ?_;show wpAny _ _ (updateSeq S (·.push .none) >>= λ_=>updateSeq S (·.pop)) _ _ _;refine eH (wpAny_updateSeq c rfl ?_);have l:=FB (Obj.mapSeq (·.push Value.none)) c rfl;refine wpAny_updateSeq (hz:=by seq_fits) l rfl ?_;have x:=FB (Obj.mapSeq (·.pop)) l rfl;refine hE ⟨Xr PySem.F.plain_extend_loop _,G _ _ ?_ (λb o r e=>(Xf _ _ (Ps r)).trans ((Xf _ _ (Ps r)).trans e)) x⟩
 ·refine W.frame 0 _ _ st λb r o e=>?_;have J:b≠S:=λh=>Q (h▸r);exact(Xf _ _ (Ps J)).trans ((Xf _ _ (Ps J)).trans e)
theorem I0.keep(x:I0 prog w led h a d)(k:∀o,h.get? a=some o->h'.get? a=some o):I0 prog w led h' a d:=
 let ⟨⟨o,g,t,e,r⟩,b,c⟩:=x;⟨⟨o,g,t,k o e,r⟩,b,c⟩
theorem I0.lt(x:I0 prog w led h a c):a<h.objs.size:=let ⟨⟨o,_,_,b,_⟩,_,_⟩:=x;vu b
theorem HX  (h:A.handled=none)  (j:I0 prog w (!w.params.followText "set-order") s.heap a g) (S:Addr) (e:S≠a) (p:s.heap.get? S=some { cls:=.type "list",data:=.seq #[] })
  (l:∀h' tk d c q (vs:ZU),vs.Perm (g.toList.map (·.2))->(∀b o,b≠S->s.heap.get? b=some o->h'.get? b=some o)->h'.get? S=some { cls:=.type "list",dict:=none,data:=.seq c q,slots:=#[] }->ItemsOf (λi v=>vs[i]?=some v) c g.size->R (.ok (.ret (.ref S))) { s with heap:=h',toks:=tk,drawn:=d }) :
  codeAny (model prog w) A (.builtin "list.__iadd__" ⟨[.ref S,.ref a],[]⟩) R s:=by
 refine Rs F.entry_list_iadd ?_;exact wm h j S e (.ref S) p l
theorem tG (y:A.handled=none)  (v:I0 prog w (!w.params.followText "set-order") s.heap a j) {Q:ZU->Shared->Prop}
  (h:∀(vs:ZU) (h':Heap) (tk:Nat) (d:Drawn),vs.Perm (j.toList.map (·.2))->s.heap.objs.size<h'.objs.size->(∀b o,s.heap.get? b=some o->h'.get? b=some o)->Q vs { s with heap:=h',toks:=tk,drawn:=d }) :
  wpAny (model prog w) A (collect (.ref a)) Q E s:=by
 refine eH (Zh (Rs F.entry_proto_collect ?_));refine eH (wn (hE ⟨Xr F.plain_list_iadd _,HX  y (v.keep λo e=>hD _ e) s.heap.objs.size (Ya v.lt) (u0 _ rfl) λh' tk d g c vs p keep r u=>?_⟩));refine eH (wpAny_load r ?_);have x:vs.length=j.size:=by rw[p.length_eq,dL,v3]
 have z:g.toList=vs:=by
  refine Zn λi=>?_;rw[TW]
  by_cases q:i<g.size
  ·exact(At q).trans (u.2 i _ (At q)).symm
  ·rw[Yd (Zp q),Xx (by rw[x,<-u.1];exact Zp q)]
 refine hE ?_;rw[z];exact h vs h' tk d p (vu r) λb o e=>keep b o (v6 (vu e)) (hD _ e)
theorem xX (G:A.handled=none)   (J:I0 prog w (!w.params.followText "set-order") s.heap a y) (O:L2.EI y p) (r:p.length<64) {Q:AAB}
  (M:∀(l:Addr) (h':Heap) (tk:Nat) (d:Drawn) (out:ZY) (c:ZW) (e:Nat),s.heap.objs.size<=l->(∀b o,s.heap.get? b=some o->h'.get? b=some o)->h'.get? l=some (seqObj "list" out e)->IntsAre out.toList c->c.Perm p->c.Pairwise (·<=·) ->
   Q (.ref l) { s with heap:=h',toks:=tk,drawn:=d }) :
  wpAny (model prog w) A (call (.builtin "sorted") [.ref a]) Q E s:=by
 refine Calls.call_function_entry kind_sorted plain_sorted entry_sorted (args_sorted1 _) (eH  (hE (eH (tG (A:=A.in1) G J λvs h' tk d C q keep=>?_))));obtain⟨z,B,v⟩:=O;obtain⟨ns,x,u⟩:=L2.mE C B;have i:vs.length<64:=by rwa[L2.iN x,u.length_eq,v.length_eq]
 refine eH (wpAny_newList ?_ (by rw[Uf];omega));have g:(h'.push (seqObj "list" vs.toArray 0)).get? h'.objs.size=some (seqObj "list" vs.toArray 0):=u0 _ rfl;refine eH (FS (Gc slot_list_sort ⟨_,g,rfl⟩ entry_list_sort (list_sort_tree g x i λout c T S R=>⟨_,rfl,?_⟩) (args_list_sort _)));obtain⟨e,H⟩:=sortedHeap_at  g;refine hE ⟨_,rfl,M _ _ tk d out c e (SL q) (λb o I=>?_) H T (S.trans (u.trans v)) R⟩
 ·have j:=keep b o I;have h:=vu j;rw[sortedHeap_old (v6 h) (by rw[size_push'];exact SC h)];exact hD _ j
end
end PySem
namespace L2
open PySem PySem.Spec PyProof.Rows
abbrev Z7(w:World):Bool:=!w.params.followText "set-order"
section
variable{prog:Program}{w:World}{A:Around}{E:AAB}{s:Shared}
theorem AQ{b a:ZS}{St:Nat->Heap->Prop}(e:n=m)(W:Walks prog w A I b a n P St):Walks prog w A I b a m P St:=by rwa[<-e]
theorem Im(a:Value){Q1:AAB}
  (h:Q1 (.ref s.heap.objs.size) { s with heap:=s.heap.push { cls:=.type "set",dict:=none,data:=.set #[] 0 (.fresh 0 0 (Z7 w)) } }) :
  codeAny (model prog w) A (.call (.builtin "set.__new__") ⟨[.type "set",a],[]⟩) (wants Q1 E) s:=by
 refine Zf (eH (Xn (F.newCall_set_1 a) (hE ⟨Xr F.plain_set_new _,Rs F.entry_set_new ?_⟩)));unfold Builtin.«set.__new__» Builtin.Frozenset.newClass;have b:=sub_set_self;obtain⟨c,g,d,tk,os⟩:=s;dsimp only
 wp_walk
 refine YW (hE ?_);dsimp only;simp only[newObj];exact eH (wpAny_alloc (hE (hE h)))
end
section
variable{X:Cx}
def IK(X:Cx)(d:Addr)(b:ZW)(h:Heap):Prop:=∃a,I0 X.prog X.w (Z7 X.w) h d a/\EI a b
def TC(K:AAD)(X:Cx):List V->Hp->VK->Prop:=λa H Q=>∃(p:Addr) (ns:ZW),a=[.ref p]/\G4 K H p (ns.map V.int)/\ns.length+1<scanBound/\∀d,H d=none->Q (.ref d) (upd H d (.ext (IK X d (ns.foldl V5 []))))
theorem AN(hc:X.calm=true):G0 X (.type "set") (TC X.K X):=by
 intro E s σ H xs us Q I r h;obtain⟨p,ns,rfl,hp,hl,q⟩:=h;obtain⟨u,rfl,ru⟩:=vals1 r;cases(show u=Value.ref p from ru);refine tH (Q1:=λx s1=>x=.ref s.heap.objs.size/\s1={ s with heap:=s.heap.push { cls:=.type "set",dict:=none,data:=.set #[] 0 (.fresh 0 0 (Z7 X.w)) } }) F.called_set (F.typeCall_set_1 _) F.entry_set_init (Im _ ⟨rfl,rfl⟩) ?_;rintro x s1 ⟨rfl,rfl⟩;have hn:=I.hok.fresh (sK s.heap.objs.size);have hS:(s.heap.push { cls:=.type "set",dict:=none,data:=.set #[] 0 (.fresh 0 0 (Z7 X.w)) }).get? s.heap.objs.size=some { cls:=.type "set",dict:=none,data:=.set #[] 0 (.fresh 0 0 (Z7 X.w)) }:=u0 _ rfl;have hT:Shared.TypeIs { s with heap:=s.heap.push { cls:=.type "set",dict:=none,data:=.set #[] 0 (.fresh 0 0 (Z7 X.w)) } } (.ref s.heap.objs.size) "set":=⟨_,hS,rfl⟩
 refine⟨hT,λhq=>check_set_init_1 hT hq,?_⟩
 have a1:∀(d:Heap) (tk:Nat) (j:Array (Int×Value)),(∀b o,b<s.heap.objs.size->s.heap.get? b=some o->d.get? b=some o)->I0 X.prog X.w (Z7 X.w) d s.heap.objs.size j->EI j (ns.foldl V5 []) ->
   EP X E σ Q (.ref s.heap.objs.size) { s with heap:=d,toks:=tk }:=λd tk j kp y l=>
  ⟨.ref s.heap.objs.size,_,I.laid (a:=s.heap.objs.size) (o:=.ext (IK X s.heap.objs.size (ns.foldl V5 []))) (h':=d) (t':=tk) (λb o e=>kp b o (vu e) e) (sK _)
   ⟨⟨j,y,l⟩,let ⟨⟨o,_,_,ho,_⟩,_,_⟩:=y;⟨o,ho⟩,λh1 B ⟨j,y,l⟩ k=>⟨j,y.keep k,l⟩⟩,rfl,q _ hn⟩
 have hh:=I.ok.hd hc
 have start:∀{B:Heap},B.get? s.heap.objs.size=some { cls:=.type "set",dict:=none,data:=.set #[] 0 (.fresh 0 0 (Z7 X.w)) }->I0 X.prog X.w (Z7 X.w) B s.heap.objs.size #[]:=λg=>
  ⟨⟨_,0,_,g,⟨rfl,rfl,rfl⟩,rfl,by rfl,TG.fresh _ _ _,rfl⟩,λe l=>by simp at l,by decide⟩
 obtain⟨c,rv,pl,hz⟩:=I.list hp;have J:c.length=ns.length:=by rw[<-rv.length,dL]
 obtain⟨ob,U,S,R,O,M⟩:=pl;obtain⟨oc,od,a2,T⟩:=ob;simp only at R O M;subst R O M;have C:p<s.heap.objs.size:=vu S
 have np:s.heap.objs.size∉[(s.heap.push { cls:=.type "set",dict:=none,data:=.set #[] 0 (.fresh 0 0 (Z7 X.w)) }).objs.size,p]:=by
  rw[Pv];intro z;rcases List.mem_cons.mp z with z | z
  ·exact absurd z (v6 (XH _))
  ·exact absurd (List.mem_singleton.mp z) (Ya C)
 have nI:p≠(s.heap.push { cls:=.type "set",dict:=none,data:=.set #[] 0 (.fresh 0 0 (Z7 X.w)) }).objs.size:=by
  rw[Pv];exact v6 (SC C)
 have Y:∀{B d:Heap},(∀b o,s.heap.get? b=some o->B.get? b=some o)->(∀b o,b∉[s.heap.objs.size,(s.heap.push { cls:=.type "set",dict:=none,data:=.set #[] 0 (.fresh 0 0 (Z7 X.w)) }).objs.size]->B.get? b=some o->d.get? b=some o)->∀b o,b<s.heap.objs.size->s.heap.get? b=some o->d.get? b=some o:=λk1 k2 b o hb e=>k2 b o (λz=>by
  rw[Pv] at z;rcases List.mem_cons.mp z with z | z
  ·exact absurd z (v6 hb)
  ·exact absurd (List.mem_singleton.mp z) (v6 (SC hb))) (k1 b o e)
 have G:(s.heap.push { cls:=.type "set",dict:=none,data:=.set #[] 0 (.fresh 0 0 (Z7 X.w)) }).get? p=some { cls:=.type "list",dict:=none,data:=.seq c.toArray U,slots:=T }:=hD _ S;have f1:=F.sub_list_set;have f2:=F.sub_list_frozenset;have f3:(Value.type "list" == Value.type "dict")=false:=by decide
 unfold Builtin.«set.__init__» noKeywords Builtin.Frozenset.updateFrom;generalize a0:pyIter=PI
 wp_walk
 subst a0;refine YM (items:=c.toArray) ⟨_,G,rfl,U,rfl⟩ (eH (Zh ?_));have ez:c.toArray.size=ns.length:=by rw[u8];exact J
 refine Dj (AQ ez (Walks.list (by simp[hh]) _ p nI c.toArray)) s.heap.objs.size np (λi v hv=>?_) hl ns.length 0 _ (by omega) (xL _) ⟨⟨_,u0 _ rfl,rfl,rfl⟩,⟨_,hD _ G,rfl,U,rfl⟩⟩ ⟨#[],start (hD _ hS),⟨[],.nil,.refl _⟩⟩ λd tk j kp y l=>?_
 ·have h1:c[i]?=some v:=by simpa using hv
  have hi:=(List.getElem?_eq_some_iff.mp h1).1;obtain⟨u,hu,t,ht⟩:=rv.get (i:=i) (x:=.int (ns.getD i 0)) (by rw[ue,v4,nA (by omega)];rfl);rw[h1] at hu;cases hu;exact⟨t,ht⟩
 ·exact hE (hE ⟨rfl,a1 d tk j (Y (λb o e=>hD _ (hD _ e)) kp) y l⟩)
theorem Inv.Rk{σ:St}(I:Inv X pins σ H s)(d:Drawn):Inv X pins σ H { s with drawn:=d }:=
 ⟨I.ok,I.os,I.bare,I.base,I.loc,I.cell,I.free,I.freeC,I.pin,I.hok,I.len⟩
def Pb(X:Cx):List V->Hp->VK->Prop:=λc H Q=>∃(d:Addr) (b:ZW),c=[.ref d]/\H d=some (.ext (IK X d b))/\b.length<64/\∀(a:ZW) l,a.Perm b->a.Pairwise (·<=·)->H l=none->Q (.ref l) (upd H l (.lst (a.map V.int)))
theorem vL(C:X.calm=true):G0 X (.builtin "sorted") (Pb X):=by
 intro j s R H S T Q I r h;obtain⟨d,y,rfl,hd,i,q⟩:=h;obtain⟨u,rfl,x⟩:=vals1 r;cases(x);obtain⟨⟨U,E,G⟩,_⟩:=(I.hok d _ hd)
 refine xX (I.ok.hd C) E G i λl J tk M c b e v keep g B p z=>?_
 have O:=(I.laid (t':=tk)  (o:=.lst (b.map V.int))  keep v
  ⟨by rw[dL,p.length_eq,Uf];omega,c.toList,e,iQ B,by rwa[]⟩).Rk M
 exact⟨.ref l,_,O,rfl,q b l p z (I.hok.fresh v)⟩
end
end L2
namespace L3
open PySem PySem.Spec PySem.Calls PyProof.Rows PySem.W L2
section
variable{X:Cx}{cl:List Cl}{e:Expr}{us:dH}{x y:Str}{p1 p2 pos pos2:Pos}
def rb:List D->(D->Prop)->Prop:=λb Q=>∃(d:D) (ns:ZW),b=[d]/\kindB false d=some (ns.map D.int)/\ns.length<64/\∀a:ZW,a.Pairwise (·<·)->(∀n,n∈a ↔ n∈ns)->Q (.lst (a.map D.int))
theorem tw{l:ZW}(h:l.Pairwise (·<=·))(n:l.Nodup):l.Pairwise (·<·):=by
 refine(h.and n).imp λ⟨a,b⟩=>?_;omega
theorem yg (hc:X.calm=true) (T:Gl X x) (J:X.mg x=none) (u:bootBuiltins x=some (.builtin "sorted")) (S:Gl X y) (I:X.mg y=none) (o:bootBuiltins y=some (.type "set")) (ha:HH X cl [e] us)
  (hn:x ≠ "__name__":=by decide) (hd:(x == ("__debug__" : Str))=false:=by decide) (C:y ≠ "__name__":=by decide) (Y:(y == ("__debug__" : Str))=false:=by decide)
  (U:starEach [e] X.env=(false,eval e X.env)::starEach [] X.env:=by rfl) (g:(backTo pos2 (starEach [] X.env)).any (·.1)=false:=by rfl) (z:(backTo pos (starEach [] X.env)).any (·.1)=false:=by rfl) :
  PU X cl (.Call (.Name x p1) [.Call (.Name y p2) [e] [] pos2] [] pos) .fresh (W3 rb us):=.of<|by
 obtain⟨t,p,h⟩:=ha.run;refine⟨_,kf (vL hc) T J u (zC (fW (AN hc) S I o p C Y U g) M4 rfl) hn hd rfl z,λG ρ σ H fa Q R hG E hu k=>h G ρ σ H fa _ _ hG E hu λvs H1 ds A s r n3 q=>?_⟩;obtain⟨d,ns,rfl,ek,a0,q⟩:=q;obtain⟨v,rfl,rr⟩:=r.one;obtain⟨pp,ts,B,rfl,hq,r2,_⟩:=aD rr ek;cases L5 r2;refine⟨pp,ns,rfl,hq,by have:scanBound=4096:=rfl;omega,λj i=>?_⟩;have fl:=tK ns [];have fn:=Ls ns [] uy;refine⟨j,ns.foldl V5 [],rfl,c8,by have:([]:ZW).length=0:=rfl;omega,λb l hp hs O=>?_⟩;have s2:e6 H1 (upd (upd H1 j (.ext (IK X j (ns.foldl V5 [])))) l (.lst (b.map V.int))):=(e6.g7 i).trans (e6.g7 O)
 have M:H1 l=none:=by
  by_cases c:l=j
  ·rwa[c]
  ·rwa[i3 c] at O
 refine k _ _ (.lst (b.map D.int)) [l] (s.trans s2) (.lst c8 (dA b)) ⟨by simp,λa ha=>?_⟩ (q b (tw hs (hp.nodup_iff.mpr fn.1)) λn=>by rw[hp.mem_iff,fn.2];simp);rw[List.mem_singleton.mp ha];exact s.free M
end
end L3
namespace L2
open PySem PySem.Spec PyProof.Rows
section
variable(elt t1 i1 t2 i2:Expr)(ifs1 ifs2:ZV)(scope:Scope)(pos:Pos)
abbrev two:Expr:=.ListComp elt [⟨t1,i1,ifs1,0⟩,⟨t2,i2,ifs2,0⟩] scope pos
theorem Gq(it acc:Value)(env:Env):compTurn (two elt t1 i1 t2 i2 ifs1 ifs2 scope pos) 0 it acc env=(do
  standAt i1.pos
  match <-pyNext it with
  | none=>pure (.done .next)
  | some v=>
   letOwnedTupleGo t1 it v
   assign t1 env v
   let mut ok:=true
   for c in ifs1 do
    if ok then ok <-isTrue c env (eval c env)
   if ok then
    let x <-eval i2 env
    standAt i2.pos
    let x <-foldedSetIterable i2 env x
    let _ <-runOwn (.compStart (two elt t1 i1 t2 i2 ifs1 ifs2 scope pos) 1 (<-holding [x] (pyIter x)) acc env) env
   again (.compLoop (two elt t1 i1 t2 i2 ifs1 ifs2 scope pos) 0 it acc env)):=by rfl
theorem LB(it acc:Value)(env:Env):compTurn (two elt t1 i1 t2 i2 ifs1 ifs2 scope pos) 1 it acc env=(do
  standAt i2.pos
  match <-pyNext it with
  | none=>pure (.done .next)
  | some v=>
   letOwnedTupleGo t2 it v
   assign t2 env v
   let mut ok:=true
   for c in ifs2 do
    if ok then ok <-isTrue c env (eval c env)
   if ok then
    (do let _ <-call (.builtin "list.append") [acc,<-eval elt env])
   again (.compLoop (two elt t1 i1 t2 i2 ifs1 ifs2 scope pos) 1 it acc env)):=by rfl
end
section
variable{prog:Program}{w:World}{A:Around}{R:Result->Shared->Prop}{s:Shared}{elt t1 i1 t2 i2:Expr}{ifs1 ifs2:ZV}{scope:Scope}{pos:Pos}{it acc:Value}{env:Env}
abbrev Wz(a:ZV)(env:Env):Sem Bool:=forIn a true λc r=>if r=true then do let ok <-isTrue c env (eval c env);pure (ForInStep.yield ok) else pure (ForInStep.yield r)
theorem HF(I:Nat->Shared->Prop)(y:∀x,foldedSetIterable i2 env x=pure x)
  (b:∀n s,I n s->wpAny (model prog w) A (pyNext it) (λr d=>match r with
   | none=>R (.ok .next) d
   | some v=>wpAny (model prog w) A (letOwnedTupleGo t1 it v) (λ_ p=>wpAny (model prog w) A (assign t1 env v) (λ_ o=>
     wpAny (model prog w) A (Wz ifs1 env) (λok c=>
      if ok=true then wpAny (model prog w) A (eval i2 env) (λx l=>wpAny (model prog w) A (pyIter x) (λj i=>
       codeAny (model prog w) A (.compStart (two elt t1 i1 t2 i2 ifs1 ifs2 scope pos) 1 j acc env) (λr g=>r=.ok .next/\∃m,m<n/\I m g) i) (λ_ _=>False) l) (λ_ _=>False) c
      else ∃m,m<n/\I m c) (λ_ _=>False) o) (λ_ _=>False) p) (λ_ _=>False) d) (λ_ _=>False) s)
  (n:Nat) (h:I n s) :
  codeAny (model prog w) A (.compLoop (two elt t1 i1 t2 i2 ifs1 ifs2 scope pos) 0 it acc env) R s:=by
 refine ZI rfl I (λn s z=>wpAny_noted (eH (Tl (eH (A1 (b n s z) (λr d u=>?_) λ_ _ a=>a.elim))))) n h
 cases r with
 | none=>exact hE u
 | some v=>
  refine eH (A1 u (λ_ p G=>eH (A1 G (λ_ o E=>eH (A1 E (λok c q=>?_) λ_ _ a=>a.elim)) λ_ _ a=>a.elim)) λ_ _ a=>a.elim)
  cases ok with
  | false=>exact hE ⟨rfl,q⟩
  | true=>
   refine eH (A1 q (λx l C=>eH (Tl ?_)) λ_ _ a=>a.elim);rw[y];refine eH (hE (eH (FS (A1 C (λj i B=>eH (wpAny_runOwn (Yz B λr g e=>?_))) λ_ _ a=>a.elim))));obtain⟨rfl,e⟩:=e;exact hE ⟨rfl,e⟩
theorem MI(I:Nat->Shared->Prop)
  (b:∀n s,I n s->wpAny (model prog w) A (pyNext it) (λr d=>match r with
   | none=>R (.ok .next) d
   | some v=>wpAny (model prog w) A (letOwnedTupleGo t2 it v) (λ_ j=>wpAny (model prog w) A (assign t2 env v) (λ_ i=>
     wpAny (model prog w) A (Wz ifs2 env) (λok c=>
      if ok=true then wpAny (model prog w) A (eval elt env) (λx g=>
       wpAny (model prog w) A (call (.builtin "list.append") [acc,x]) (λ_ e=>∃m,m<n/\I m e) (λ_ _=>False) g) (λ_ _=>False) c
      else ∃m,m<n/\I m c) (λ_ _=>False) i) (λ_ _=>False) j) (λ_ _=>False) d) (λ_ _=>False) s)
  (n:Nat) (h:I n s) :
  codeAny (model prog w) A (.compLoop (two elt t1 i1 t2 i2 ifs1 ifs2 scope pos) 1 it acc env) R s:=by
 refine ZI rfl I (λn s p=>wpAny_noted (eH (Tl (eH (A1 (b n s p) (λr d o=>?_) λ_ _ a=>a.elim))))) n h
 cases r with
 | none=>exact hE o
 | some v=>
  refine eH (A1 o (λ_ j z=>eH (A1 z (λ_ i y=>eH (A1 y (λok c l=>?_) λ_ _ a=>a.elim)) λ_ _ a=>a.elim)) λ_ _ a=>a.elim)
  cases ok with
  | false=>exact hE ⟨rfl,l⟩
  | true=>
   exact eH (eH (A1 l (λx g u=>eH (A1 u (λ_ e q=>hE (hE ⟨rfl,q⟩)) λ_ _ a=>a.elim)) λ_ _ a=>a.elim))
theorem GC(b:codeAny (model prog w) A (.compLoop (two elt t1 i1 t2 i2 ifs1 ifs2 scope pos) 1 j acc env) R s)
  (h:wpAny (model prog w) A (pyIter j) (λc a=>codeAny (model prog w) A (.compLoop (two elt t1 i1 t2 i2 ifs1 ifs2 scope pos) 1 c acc env) R a) (notedBy (model prog w) A env λx a=>R (.error x) a) s) :
  codeAny (model prog w) A (.compStart (two elt t1 i1 t2 i2 ifs1 ifs2 scope pos) 1 j acc env) R s:=by
 refine Zf (wpAny_notedAt (eH (YW (wpAny_ite ?_))));split
 ·first
   | exact eH (hE (hE (And.intro rfl b)))
   | exact hE (And.intro rfl b)
 ·exact eH (Yf (eH (Tl (eH (A1 h (λd a e=>hE (And.intro rfl e)) λ_ _ x=>x)))))
end
def Wk(J:It)(g:TG)(tc:TT)(te:TE)(d:Addr)(h:St)(r:Hp)(Fin:Hp->Prop):Prop:=
 ∃W:Nat->Nat->St->Hp->Prop,(∃m,W 0 m h r)/\∀i m j H,W i m j H ->
  (J.stop i H/\Fin H) \/
  (J.go i H/\∀x p,J.yld i H x p->g x j p λa q=>tc a q λb o=>
   if b=true then te a o λv l=>∃c,l d=some (.lst c)/\c.length<sizeLine/\∃e,e<m/\W (i+1) e a (upd l d (.lst (c++[v])))
   else ∃e,e<m/\W (i+1) e a o)
section
variable{X:Cx}{N:ZT}{scope:Scope}{cl:ZQ}{fp0:ZS}{s0:Shared}{H0:Hp}{elt t1 i1 t2 i2:Expr}{ifs1 ifs2:ZV}{pos:Pos}
theorem BF{σ:St}{Fin:Hp->Prop}(l:X.calm=true)
  (hg:PG (A8 X N scope cl fp0 s0 H0) t2 g) (hc:xo (A8 X N scope cl fp0 s0 H0) ifs2 tc) (he:PE (A8 X N scope cl fp0 s0 H0) elt te)
  (I:Inv (A8 X N scope cl fp0 s0 H0) pins σ H s) (T:Turn X.prog X.w X.K t2 J B it tn) (st:tn 0 s.heap) (hf:∀b∈B,N6 (A8 X N scope cl fp0 s0 H0) pins H b) (q:Wk J g tc te d σ H Fin)
  (hR:∀a c S,Inv (A8 X N scope cl fp0 s0 H0) pins a c S->Fin c->R (.ok .next) S) :
  codeAny (model X.prog X.w) X.A (.compStart (two elt t1 i1 t2 i2 ifs1 ifs2 scope pos) 1 (.ref it) (.ref d) (A8 X N scope cl fp0 s0 H0).env) R s:=by
 obtain⟨W,⟨m0,w0⟩,O⟩:=q;have a4:=λb p=>(hf b p).1;have j:∀{c:Hp},(∀b∈B,c b=none)->∀b∈B,N6 (A8 X N scope cl fp0 s0 H0) pins c b:=λhn b p=>⟨hn b p,(hf b p).2⟩
 have z:codeAny (model X.prog X.w) X.A (.compLoop (two elt t1 i1 t2 i2 ifs1 ifs2 scope pos) 1 (.ref it) (.ref d) (A8 X N scope cl fp0 s0 H0).env) R s:=by
  refine MI (λn S=>∃i a c,Inv (A8 X N scope cl fp0 s0 H0) pins a c S/\tn i S.heap/\(∀b∈B,c b=none)/\W i n a c) ?_ m0 ⟨0,σ,H,I,st,a4,w0⟩;rintro n s4 ⟨i,a2,H4,I4,Q,a0,w4⟩;rcases O i n a2 H4 w4 with⟨stop,qn⟩ | ⟨go,step⟩
  ·refine w5 (T.done (A8 X N scope cl fp0 s0 H0) rfl rfl rfl l i pins s4 _ H4 (λ_ _=>False) I4 (j a0) Q stop) λr s5 ⟨hr,I5⟩=>?_;subst hr;exact hR _ _ _ I5 qn
  ·refine w5 (T.item (A8 X N scope cl fp0 s0 H0) rfl rfl rfl l i pins s4 _ H4 (λ_ _=>False) I4 (j a0) Q go) λr s5 ⟨u,hr,h5⟩=>?_;subst hr;refine w5 h5 λ_ s6 ⟨x,H6,I6,r6,y6,C,a3⟩=>?_;have ab:=I6.pinned (j a3) (T.obj _ _ C);refine w5 (hg _ s6 _ H6 x u _ ab r6 (step x H6 y6)) λ_ s7 ⟨h,H7,I7,q7⟩=>w5 (hc _ s7 h H7 _ I7 q7) λok s8 ⟨H8,I8,q8⟩=>?_
   have again:∀{E:Hp} {G:Shared},Inv (A8 X N scope cl fp0 s0 H0) (pins++bu B s6.heap) h E G->(∃M,M<n/\W (i+1) M h E) ->
     ∃m,m<n/\∃i a c,Inv (A8 X N scope cl fp0 s0 H0) pins a c G/\tn i G.heap/\(∀b∈B,c b=none)/\W i m a c:=λ{E G} I9 ⟨M,hm,w9⟩=>by
    refine⟨M,hm,i+1,h,E,I9.T8,T.keep _ _ _ C λb p o e=>(I9.pin (b,o) (tz _ (tz _ (C5 p e)))).1,λb p=>?_,w9⟩;obtain⟨o,e,_⟩:=T.obj _ _ C b p;exact(I9.pin (b,o) (tz _ (tz _ (C5 p e)))).2.1
   cases ok with
   | false=>exact again I8 q8
   | true=>
    refine w5 (he _ s8 h H8 _ I8 q8) λy G ⟨v,E,I9,r9,a1,Y,U,M,hm,w9⟩=>w5 (y1 _ G h E (.ref d) [v] (.ref d) [y] (λ_ c=>c=upd E d (.lst (a1++[v]))) I9 rfl (.cons r9 .nil) ⟨_,a1,v,rfl,rfl,Y,U,rfl⟩) λ_ ad ⟨_,al,ac,_,a5⟩=>?_;subst a5;exact again ac ⟨M,hm,w9⟩
 exact GC z (T.self _ 0 _ _ _ st z)
end
def QX(J:It)(g:TG)(tc:TT)(o:TI)(g2:TG)(tc2:TT)(te:TE)(e:St)(Q:VK)(j:Hp):Prop:=∀d,j d=none ->
 ∃W:Nat->Nat->Hp->Prop,(∃m,W 0 m (upd j d (.lst [])))/\∀i m H,W i m H ->
  (J.stop i H/\Q (.ref d) H) \/
  (J.go i H/\∀x l,J.yld i H x l->g x e l λa u=>tc a u λb h=>
   if b=true then o a h λp r=>Wk p g2 tc2 te d a r λq=>∃c,c<m/\W (i+1) c q
   else ∃c,c<m/\W (i+1) c h)
theorem BV{σ:St}{g:ZQ->ZS->Shared->Hp->TG}{tc:ZQ->ZS->Shared->Hp->TT}{wi2:ZQ->ZS->Shared->Hp->TI}{g2:ZQ->ZS->Shared->Hp->TG}{tc2:ZQ->ZS->Shared->Hp->TT}{te:ZQ->ZS->Shared->Hp->TE}{tn:Nat->Heap->Prop}
  {E:AAB} {RR:Value->Addr->Result->Shared->Prop} {Q:VK} (M:X.calm=true) (cf:N2 X N scope cap) (hk:scope.kind=.function)
  (hg:∀cl a s H,PG (A8 X N scope cl a s H) l (g cl a s H)) (hc:∀cl a s H,xo (A8 X N scope cl a s H) a5 (tc cl a s H)) (b7:∀cl a s H,PI (A8 X N scope cl a s H) t2 i2 (wi2 cl a s H)) (b8:∀cl a s H,PG (A8 X N scope cl a s H) t2 (g2 cl a s H)) (bb:∀cl a s H,xo (A8 X N scope cl a s H) S (tc2 cl a s H)) (he:∀cl a s H,PE (A8 X N scope cl a s H) al (te cl a s H))
  (b5:∀cl a s H x,foldedSetIterable i2 (A8 X N scope cl a s H).env x=pure x)
  (I:Inv X pins σ H s) (T:Turn X.prog X.w X.K l J a it tn) (st:tn 0 s.heap) (hf:∀b∈a,N6 X pins H b) (q:∀cl a s z,QX J (g cl a s z) (tc cl a s z) (wi2 cl a s z) (g2 cl a s z) (tc2 cl a s z) (te cl a s z) (M0 cap σ) Q H)
  (bg:∀d C z s' m,Inv X pins σ z s'->s'.heap.Ns C m->N6 X pins z C->Q (.ref d) z->RR (.ref d) C (.ok .next) s') :
  wpAny (model X.prog X.w) X.A (newList []) (λacc B=>wpAny (model X.prog X.w) X.A (newFunctionEnv scope X.env.globals (B0 X.env scope.names []) [] X.env.qual none .none (some X.env)) (λa3 s4=>
   codeAny (model X.prog X.w) X.A (.compStart (two al l a2 t2 i2 a5 S scope b0) 0 (.ref it) acc { a3 with scope:=relabel scope X.env }) (RR acc a3.locals) s4) E B) E s:=by
 refine wn (Zi cf.nocell (by intro y hy;simp at hy) (λh1 ac ab=>?_) hk);have I3:Inv X pins σ (upd H s.heap.objs.size (.lst [])) { s with heap:=s.heap.push { cls:=.type "list",data:=.seq ([]:ZU).toArray } }:=I.Ed (its:=[]) (t':=s.toks) .nil (xL _);have b9:H s.heap.objs.size=none:=I.fresh;obtain⟨W,⟨m0,w0⟩,a0⟩:=q (B0 X.env scope.names []) a { s with heap:=s.heap.push { cls:=.type "list",data:=.seq ([]:ZU).toArray } } (upd H s.heap.objs.size (.lst [])) s.heap.objs.size b9
 have b1:∀b∈a,b<s.heap.objs.size:=λb j=>by
  obtain⟨o,e,_⟩:=T.obj 0 _ st b j;exact vu e
 have ad:∀b∈a,N6 X pins (upd H s.heap.objs.size (.lst [])) b:=λb j=>⟨by rw[i3 (v6 (b1 b j))];exact(hf b j).1,(hf b j).2⟩
 have U:∀b∈a,b<(s.heap.push { cls:=.type "list",data:=.seq ([]:ZU).toArray }).objs.size:=λb j=>by
  rw[Pv];exact SC (b1 b j)
 dsimp only at ac ab ⊢;generalize Y:({ s with heap:=s.heap.push { cls:=.type "list",data:=.seq ([]:ZU).toArray } }:Shared)=B at I3 a0;have G:B.heap=s.heap.push { cls:=.type "list",data:=.seq ([]:ZU).toArray }:=by rw[<-Y]
 have c5:B.toks=s.toks:=by rw[<-Y]
 rw[<-G] at ac ab U;have R:∀b o,B.heap.get? b=some o->h1.get? b=some o:=λb o e=>ab.extBut b o (v6 (vu e)) (hD _ e);have keep:∀b o,s.heap.get? b=some o->h1.get? b=some o:=λb o e=>R b o (by rw[G];exact hD _ e);have Ic:=kH (tk:=s.toks) I3 cf hk ad U ac R;have ap:tn 0 h1:=T.keep 0 _ _ st λb _ o e=>keep b o e;have bn:∀b∈a,(upd H s.heap.objs.size (.lst [])) b=none:=λb j=>(ad b j).1
 have O:∀{z:Hp},(∀b∈a,z b=none)->∀b∈a,N6 (A8 X N scope (B0 X.env scope.names []) a B (upd H s.heap.objs.size (.lst []))) [] z b:=λhn b j=>
  ⟨hn b j,v6 (U b j),Ic.ok.exfs b j,.inl j,λx c h=>(hf b j).2.2.2.2.1 x c (az h),λp hp=>absurd (show p∈([]:ZO) from hp) (by simp)⟩
 have ci:B.os=s.os:=by rw[<-Y]
 have cj:B.gens=s.gens:=by rw[<-Y]
 have a1:codeAny (model X.prog X.w) X.A (.compLoop (two al l a2 t2 i2 a5 S scope b0) 0 (.ref it) (.ref s.heap.objs.size) (compEnvC scope (B0 X.env scope.names []) B.heap.objs.size X.env))
   (RR (.ref s.heap.objs.size) B.heap.objs.size) { B with heap:=h1,toks:=s.toks }:=by
  refine HF (λn s'=>∃i z,Inv (A8 X N scope (B0 X.env scope.names []) a B (upd H s.heap.objs.size (.lst []))) [] (M0 cap σ) z s'/\tn i s'.heap/\(∀b∈a,z b=none)/\W i n z) (λx=>b5 (B0 X.env scope.names []) a B (upd H s.heap.objs.size (.lst [])) x) ?_ m0 ⟨0,_,Ic,ap,bn,w0⟩;rintro n s4 ⟨i,H4,I4,ao,b2,w4⟩;rcases a0 i n H4 w4 with⟨stop,qn⟩ | ⟨go,step⟩
  ·refine w5 (T.done (A8 X N scope (B0 X.env scope.names []) a B (upd H s.heap.objs.size (.lst []))) rfl rfl rfl M i [] s4 _ H4 (λ_ _=>False) I4 (O b2) ao stop) λr s5 ⟨hr,I5⟩=>?_;subst hr;obtain⟨m,b6,_⟩:=I5.loc;refine bg _ _ H4 s5 m ?_ b6 (I3.fL (sK _) I5.free) qn;exact I3.Hk I5.os I5.base I5.hok I5.bare λb j=>⟨(hf b j).2.2.2.1,(hf b j).2.1,(hf b j).2.2.2.2.1,(hf b j).2.2.2.2.2⟩
  ·refine w5 (T.item (A8 X N scope (B0 X.env scope.names []) a B (upd H s.heap.objs.size (.lst []))) rfl rfl rfl M i [] s4 _ H4 (λ_ _=>False) I4 (O b2) ao go) λr s5 ⟨u,hr,h5⟩=>?_;subst hr;refine w5 h5 λ_ s6 ⟨x,H6,I6,r6,y6,a4,bm⟩=>?_;have c0:=I6.pinned (O bm) (T.obj _ _ a4);refine w5 (hg _ _ _ _ _ s6 _ H6 x u _ c0 r6 (step x H6 y6)) λ_ s7 ⟨an,H7,I7,q7⟩=>?_;refine w5 (hc _ _ _ _ _ s7 an H7 _ I7 q7) λok s8 ⟨H8,I8,q8⟩=>?_
   have again:∀{am:St} {H9:Hp} {s9:Shared},Inv (A8 X N scope (B0 X.env scope.names []) a B (upd H s.heap.objs.size (.lst []))) ([]++bu a s6.heap) am H9 s9->(∃m',m'<n/\W (i+1) m' H9) ->
     ∃m,m<n/\∃i z,Inv (A8 X N scope (B0 X.env scope.names []) a B (upd H s.heap.objs.size (.lst []))) [] (M0 cap σ) z s9/\tn i s9.heap/\(∀b∈a,z b=none)/\W i m z:=λ{am H9 s9} I9 ⟨m',hm,w9⟩=>by
    refine⟨m',hm,i+1,H9,fX I3 cf ad I9.T8,T.keep _ _ _ a4 λb j o e=>(I9.pin (b,o) (tz _ (tz _ (C5 j e)))).1,λb j=>?_,w9⟩;obtain⟨o,e,d⟩:=T.obj _ _ a4 b j;exact(I9.pin (b,o) (tz _ (tz _ (C5 j e)))).2.1
   cases ok with
   | false=>exact again I8 q8
   | true=>
    show wpAny _ _ (eval i2 _) _ _ s8;refine w5 (b7 _ _ _ _ _ s8 an H8 _ I8 q8) λv s9 h9=>w5 h9 λce cd bi=>?_;obtain⟨ch,ck,cc,J2,cn,rfl,c3,T2,b3,f2,b4⟩:=bi;exact BF M (b8 _ _ _ _) (bb _ _ _ _) (he _ _ _ _) c3 T2 b3 f2 b4 λca z s' I' bv=>⟨rfl,again I' bv⟩
 have e4:({ s with heap:=h1,toks:=s.toks+([]:ZR).length }:Shared)={ B with heap:=h1,toks:=s.toks }:=by rw[<-Y];rfl
 rw[<-G,e4];exact codeAny_compStart_list a1 (T.self _ 0 _ _ _ ap a1)
def VP(cap:ZP)(d:TI)(g:ZQ->ZS->Shared->Hp->TG)(tc:ZQ->ZS->Shared->Hp->TT)(wi2:ZQ->ZS->Shared->Hp->TI)(g2:ZQ->ZS->Shared->Hp->TG)(tc2:ZQ->ZS->Shared->Hp->TT)(te:ZQ->ZS->Shared->Hp->TE):TE:=λc H Q=>d c H λJ e=>∀cl a s b,QX J (g cl a s b) (tc cl a s b) (wi2 cl a s b) (g2 cl a s b) (tc2 cl a s b) (te cl a s b) (M0 cap c) Q e
theorem Cg{B u M:Pos}
  (ab:X.N.Nodup) (a2:X.N[i]?=some y) (hy:X.env.scope.names.lookup y=some .local)
  (S:Z5 XN N XS scope cap=true) (hN:X.N=XN) (hS:X.env.scope=XS) (hk:scope.kind=.function) (E:X.calm=true) (hi:PI X b c wi)
  (hg:∀cl j s H,PG (A8 X N scope cl j s H) b (g cl j s H)) (hc:∀cl j s H,xo (A8 X N scope cl j s H) p (tc cl j s H)) (a3:∀cl j s H,PI (A8 X N scope cl j s H) O R (wi2 cl j s H)) (a4:∀cl j s H,PG (A8 X N scope cl j s H) O (g2 cl j s H)) (a5:∀cl j s H,xo (A8 X N scope cl j s H) l (tc2 cl j s H)) (he:∀cl j s H,PE (A8 X N scope cl j s H) r (te cl j s H))
  (a1:∀cl j s H x,foldedSetIterable R (A8 X N scope cl j s H).env x=pure x)
  (a0:swapsWith (two r b c O R p l scope B) (some (.Name y M)) u.line X.env=pure true:=by rfl)
  (hs:∀x,foldedSetIterable c X.env x=pure x:=by intro _;rfl):PS X (.Assign [.Name y M] (two r b c O R p l scope B) u) (tU (VP cap wi g tc wi2 g2 tc2 te) (mH i)):=by
 refine .of ?_;intro o s σ H D I h;have cf:=P9 hN hS S;rw[Zg _ _ _ _ a0];refine eH (Tl (eH ?_));refine eH (A1 (Xq   rfl hs (T6 (I.T5 cf)) hk cf.loc (w5 (hi o s σ H _ I h) λv s1 h1=>w5 h1 λad s2 h2=>?_))
  (λ_ G hq=>hE (hE hq)) λ_ _ e=>e)
 obtain⟨it,j,tn,J,H2,rfl,I2,T,U,f2,q⟩:=h2;refine BV  E cf hk hg hc a3 a4 a5 he a1 I2 T U f2 q λd C H' G m I' hn hC q'=>?_;refine YN (bR (v:=.ref d) I' ab a2 (.inl hy) rfl (λs2 I2 ⟨a,sb,ha⟩=>⟨m,hn.sameBut sb ?_,λh' Y=>⟨_,H',I2.sU hC Y,q'⟩⟩) (.inr hy));rcases ha with z | z
 ·rw[z];exact hC.2.1
 ·exactλe=>hC.2.2.2.2.1 y a z e.symm
end L2
namespace L3
open PySem PySem.Spec PySem.Calls PySem.W L2
open PyProof.Rows hiding St
noncomputable def Hi(a:Ev):Bool:=a.all λo=>match o with
 | some d=>u3 d
 | none=>true
theorem FL(h:Hi a=true){i:Nat}(e:a[i]?=some (some d)):u3 d=true:=List.all_eq_true.mp h _ (oT e)
theorem Tf.tr(a:Tf H d)(b:Tf d c):Tf H c:=⟨λ_ _ h=>b.T7 _ _ (a.T7 _ _ h),λ_ _ _ h=>b.frzs _ _ _ (a.frzs _ _ _ h)⟩
theorem ar(s:e6 H a):Tf H a:=⟨λ_ _ h=>s _ _ h,λ_ _ _ h=>s _ _ h⟩
theorem Qp(h:H d=some (.lst xs)):Tf H (upd H d o):=⟨λb a e=>by rwa[i3 (qJ e h (λz=>nomatch z))],λb _ _ e=>by rwa[i3 (qJ e h (λz=>nomatch z))]⟩
theorem E3.Sb{K:AAD}(E:E3 K (X7 cap) c σ H j)(h:Hi c=true)(tf:Tf H l):E3 K (X7 cap) c σ l j:=by
 refine⟨λi d e=>?_,E.emp,E.len,E.nd,E.dj,E.par,E.old,E.new,λa o h=>(nomatch h),⟨λb q h=>(nomatch h),λb o u h=>(nomatch h),λ_ _=>rfl⟩,λa z=>z.elim,λa z=>z.elim,E.zo,E.po⟩;obtain⟨v,p,r⟩:=E.rep i d e;refine⟨v,p,r.Z6 tf λa g=>?_⟩;rw[r.E9 (FL h e)] at g;cases g
def HS(g2:aQ)(tc2:aS)(te:TU):List D->Ev->List D->(List D->Prop)->Prop
 | [],_,c,Q=>Q c
 | y::e,g,c,Q=>g2 y g λa=>Hi a=true/\tc2 a λb=>Br b (c.length<sizeLine/\te a λd=>u3 d=true/\HS g2 tc2 te e a (c++[d]) Q) (HS g2 tc2 te e a c Q)
def jT(g:aQ)(tc:aS)(e:mr)(g2:aQ)(tc2:aS)(te:TU)(d:Ev):List D->List D->(List D->Prop)->Prop
 | [],c,Q=>Q c
 | x::i,c,Q=>g x d λa=>tc a λb=>Br b (Hi a=true/\e a λj=>HS g2 tc2 te j a c λh=>jT g tc e g2 tc2 te d i h Q) (jT g tc e g2 tc2 te d i c Q)
theorem VU{K:AAD}
  (hg:∀(G:Ent) (l:Ev) (σ:St) (H:Hp) (z:AAC) (v:V) (d:D) (B:ZS) (Q:Ev->Prop) (R:St->Hp->Prop),G.cl=C3 cap->E3 K G l σ H z->Rep K H v d B->(∀i,G.own i->∀a∈B,a∉z i)->g3 d l Q ->
   (∀p h u,E3 K G h p H u->(∀i,G.own i->u i=z i/\p[i]?=σ[i]?)->(∀i,G.own i->h[i]?=l[i]?)->Q h->R p H)->g v σ H R)
  (hc:∀(G:Ent) (l:Ev) (σ:St) (H:Hp) (z:AAC) (Q:Bool->Prop) (R:Bool->Hp->Prop),G.cl=C3 cap->E3 K G l σ H z->a2 l Q->(∀b r,e6 H r->Q b->R b r)->tc σ H R)
  (bg:∀(G:Ent) (l:Ev) (σ:St) (H:Hp) (z:AAC) (Q:List D->Prop) (R:It->Hp->Prop),G.cl=C3 cap->E3 K G l σ H z->a0 l Q->(∀J O xs,e6 H O->aV K J xs [] O->Q xs->R J O)->wi σ H R)
  (bi:∀(G:Ent) (l:Ev) (σ:St) (H:Hp) (z:AAC) (v:V) (d:D) (B:ZS) (Q:Ev->Prop) (R:St->Hp->Prop),G.cl=C3 cap->E3 K G l σ H z->Rep K H v d B->(∀i,G.own i->∀a∈B,a∉z i)->U d l Q ->
   (∀p h u,E3 K G h p H u->(∀i,G.own i->u i=z i/\p[i]?=σ[i]?)->(∀i,G.own i->h[i]?=l[i]?)->Q h->R p H)->g2 v σ H R)
  (bm:∀(G:Ent) (l:Ev) (σ:St) (H:Hp) (z:AAC) (Q:Bool->Prop) (R:Bool->Hp->Prop),G.cl=C3 cap->E3 K G l σ H z->I l Q->(∀b r,e6 H r->Q b->R b r)->tc2 σ H R)
  (he:∀(G:Ent) (l:Ev) (σ:St) (H:Hp) (z:AAC) (Q:D->Prop) (R:VK),G.cl=C3 cap->E3 K G l σ H z->S l Q->(∀v r d B,e6 H r->Rep K r v d B->A4 G H z B .fresh->Q d->R v r)->te σ H R)
  (E:E3 K G l σ O z) (it:aV K J xs C O) (tr:∀a∈C,O a≠none) (q:jT g3 a2 a0 U I S (V4 cap l) xs [] Q)
  (k:∀d r ds,e6 O r->Rep K r (.ref d) (.lst ds) [d]->O d=none->Q ds->R (.ref d) r):QX J g tc wi g2 tc2 te (M0 cap σ) R O:=by
 intro d hd
 refine⟨λi m H=>m=xs.length-i/\i<=xs.length/\e6 O H/\∃x ds,H d=some (.lst x)/\i8 K H x ds []/\jT g3 a2 a0 U I S (V4 cap l) (xs.drop i) ds Q,
  ⟨xs.length,by simp,xL _,e6.g7 hd,[],[],c8,.nil,q⟩,?_⟩
 rintro i m H ⟨rfl,c5,s1,x,ds,ab,rs,q⟩;have tf:Tf O H:=ar s1
 have kC:∀a∈C,H a=O a:=λa ha=>by
  obtain⟨o,eo⟩:=Option.ne_none_iff_exists'.mp (tr a ha);rw[eo];exact s1 a o eo
 by_cases a4:i<xs.length
 ·right
  obtain⟨go,yl⟩:=(it H tf kC i).2 _ (nA a4);rw[Fk a4] at q;refine⟨go,λy H2 hy=>?_⟩;obtain⟨s2,By,rB,sB⟩:=yl y H2 hy;have E2:=(E.same (s1.trans s2)).comp cap;refine hg (X7 cap) _ _ H2 _ y _ By _ _ rfl E2 rB (λj hj=>(G2 hj).elim) q λb0 ac am ao _ _ q3=>?_;refine hc (X7 cap) ac b0 H2 am _ _ rfl ao q3 λb H3 s3 q4=>?_;have T:H3 d=some (.lst x):=s3 _ _ (s2 _ _ ab)
  cases b with
  | false=>
   rw[uk ud];exact⟨xs.length-(i+1),by omega,rfl,a4,(s1.trans s2).trans s3,x,ds,T,(rs.same s2).same s3,q4.f rfl⟩
  | true=>
   rw[ux rfl];obtain⟨bb,q5⟩:=q4.t rfl;refine bg (X7 cap) ac b0 H3 am _ _ rfl (ao.same s3) q5 λJ2 H4 ys s4 b1 q6=>?_
   refine⟨λj m2 p r=>m2=ys.length-j/\j<=ys.length/\∃h u x ds,E3 K (X7 cap) h p r u/\Hi h=true/\e6 O r/\Tf H4 r/\r d=some (.lst x)/\i8 K r x ds []/\HS U I S (ys.drop j) h ds λc=>jT g3 a2 a0 U I S (V4 cap l) (xs.drop (i+1)) c Q,
    ⟨ys.length,by simp,xL _,ac,am,x,ds,(ao.same s3).same s4,bb,((s1.trans s2).trans s3).trans s4,ar (e6.refl _),s4 _ _ T,((rs.same s2).same s3).same s4,q6⟩,?_⟩
   rintro j m2 p r ⟨rfl,hj,h,u,c,an,E',c3,ad,a1,b4,a3,q'⟩
   by_cases M:j<ys.length
   ·right
    obtain⟨bn,b5⟩:=(b1 r a1 (λa ha=>nomatch ha) j).2 _ (nA M);rw[Fk M] at q';refine⟨bn,λy2 H5 b9=>?_⟩;obtain⟨s5,bv,b7,c0⟩:=b5 y2 H5 b9;refine bi (X7 cap) h p H5 u y2 _ bv _ _ rfl (E'.same s5) b7 (λj hj=>(G2 hj).elim) q' λap Y a5 E6 _ _ q6=>?_;obtain⟨al,q6⟩:=q6;refine bm (X7 cap) Y ap H5 a5 _ _ rfl E6 q6 λb H6 X q7=>?_;have b3:H6 d=some (.lst c):=X _ _ (s5 _ _ b4)
    cases b with
    | false=>
     rw[uk ud];exact⟨ys.length-(j+1),by omega,rfl,M,Y,a5,c,an,E6.same X,al,(ad.trans s5).trans X,(a1.tr (ar s5)).tr (ar X),b3,(a3.same s5).same X,q7.f rfl⟩
    | true=>
     obtain⟨hl,q8⟩:=q7.t rfl;rw[ux rfl];refine he (X7 cap) Y ap H6 a5 _ _ rfl (E6.same X) q8 λv H7 dv Bv s7 rv fo q9=>?_;obtain⟨b8,q9⟩:=q9;have eB:=rv.E9 b8;subst eB;have b2:H7 d=some (.lst c):=s7 _ _ b3;have td:Tf H7 (upd H7 d (.lst (c++[v]))):=Qp b2;have b6:=(((a3.same s5).same X).same s7).Z6 td (λa ha=>nomatch ha);refine⟨c,b2,by rw[a3.length];exact hl,ys.length-(j+1),by omega,rfl,M,Y,a5,c++[v],an++[dv],((E6.same X).same s7).Sb al td,al,λb o e=>?_,((((a1.tr (ar s5)).tr (ar X)).tr (ar s7)).tr td),c8,b6.append (B:=[]) (i8.cons (A:=[]) (B:=[]) (rv.Z6 td λa ha=>nomatch ha) .nil),q9⟩;rw[i3 (t9 e hd)];exact(((ad.trans s5).trans X).trans s7) _ _ e
   ·left
    have ej:j=ys.length:=by omega
    subst ej;rw[XM] at q';exact⟨(b1 r a1 (λa ha=>nomatch ha) _).1 rfl,xs.length-(i+1),by omega,rfl,a4,ad,c,an,b4,a3,q'⟩
 ·have ei:i=xs.length:=by omega
  subst ei
  left
  rw[XM] at q;exact⟨(it H tf kC _).1 rfl,k d H ds s1 (.lst ab rs) hd q⟩
structure WB(X:Cx)(cl:List Cl)(tg iter:Expr)(u:mr):Prop where
 of ::
 run:∃wi,PI X tg iter wi/\∀(G:Ent) (ρ:Ev) (σ:St) (H:Hp) (fa:AAC) (Q:List D->Prop) (R:It->Hp->Prop),G.cl=cl->E3 X.K G ρ σ H fa->u ρ Q ->
  (∀J H1 xs,e6 H H1->aV X.K J xs [] H1->Q xs->R J H1)->wi σ H R
def tupI(u:TU):mr:=λb Q=>u b λd=>match d with
 | .tup a=>x3 a=true/\Q a
 | _=>False
section
variable{X:Cx}{cl:List Cl}{tg e:Expr}{f:Fl}{pos:Pos}{ua:TU}
theorem Pm(h:PU X cl e f ua):WB X cl tg e (tupI ua):=.of<|by
 obtain⟨t,p,h⟩:=h.run;refine⟨_,OA p,λG g c H o Q R l E j k=>h G g c H o _ _ l E j λv x d B s r y q=>?_⟩;cases d<;>first | exact(q).elim | skip
 obtain⟨i,q⟩:=q;obtain⟨p,vs,rfl,b,a⟩:=N0 r;have u:=a.E9 i;subst u;exact⟨p,rfl,⟨vs,S6.of b⟩,k _ x _ s (VL b a) q⟩
def Ug(cap:ZP)(d:mr)(g:aQ)(tc:aS)(a:mr)(g2:aQ)(tc2:aS)(te:TU):TU:=λb Q=>d b λc=>jT g tc a g2 tc2 te (V4 cap b) c [] λh=>Q (.lst h)
variable{XN N:ZT}{XS scope:Scope}{cap:ZP}{elt target iter t2 i2:Expr}{ifs ifs2:ZV}{ui ui2:mr}{g3 g23:aQ}{tc3 tc23:aS}{te3:TU}
theorem Hy{h py:Pos}(a0:X.N.Nodup)(M:X.N[i]?=some y)(hy:X.env.scope.names.lookup y=some .local)(U:Dm cl[i]? .fresh i=true)
  (z:Z5 XN N XS scope cap=true) (hN:X.N=XN) (hS:X.env.scope=XS) (hk:scope.kind=.function) (o:X.calm=true) (O:S0 X cl target iter f ui)
  (Q:∀c b s H,Aa (A8 X N scope c b s H) (C3 cap) target g3) (Y:∀c b s H,sI (A8 X N scope c b s H) (C3 cap) ifs tc3)
  (j:∀c b s H,WB (A8 X N scope c b s H) (C3 cap) t2 i2 ui2) (l:∀c b s H,Aa (A8 X N scope c b s H) (C3 cap) t2 g23) (p:∀c b s H,sI (A8 X N scope c b s H) (C3 cap) ifs2 tc23) (S:∀c b s H,PU (A8 X N scope c b s H) (C3 cap) elt .fresh te3)
  (B:swapsWith (.ListComp elt [⟨target,iter,ifs,0⟩,⟨t2,i2,ifs2,0⟩] scope pos) (some (.Name y py)) h.line X.env=pure true:=by rfl)
  (hs:∀x,foldedSetIterable iter X.env x=pure x:=by intro _;rfl) (I:∀c b s H x,foldedSetIterable i2 (A8 X N scope c b s H).env x=pure x:=by intro _ _ _ _ _;rfl) :
  K3 X cl (.Assign [.Name y py] (.ListComp elt [⟨target,iter,ifs,0⟩,⟨t2,i2,ifs2,0⟩] scope pos) h) (n9 i (Ug cap ui g3 tc3 ui2 g23 tc23 te3)):=.of<|by
 obtain⟨wi,pi,O⟩:=O.run
 exact⟨_,Cg       a0 M hy z hN hS hk o pi
  (λc b s H=>(tt (Q c b s H).run).1) (λc b s H=>(tt (Y c b s H).run).1) (λc b s H=>(tt (j c b s H).run).1) (λc b s H=>(tt (l c b s H).run).1) (λc b s H=>(tt (p c b s H).run).1) (λc b s H=>(tt (S c b s H).run).1) I B hs,λG T ρ σ H fa R hG E hu le=>O G ρ σ H fa _ _ hG E hu λJ H1 xs C s it tr fo q=>λc b u v=>VU  (tt (Q c b u v).run).2 (tt (Y c b u v).run).2 (tt (j c b u v).run).2 (tt (l c b u v).run).2 (tt (p c b u v).run).2 (tt (S c b u v).run).2 (E.same s) it tr q λd H2 ds s2 r n q2=>le.nx _ _ ⟨_,_,(E.same (s.trans s2)).set (x0 q2.1) r (hV.of (f:=.fresh) E ⟨by simp,λa ha=>by rw[List.mem_singleton.mp ha];exact s.free n⟩ (by rwa[hG])),q2.2⟩⟩
end
end L3
namespace PySem
open PyProof.Rows PySem.SeqAt
section
variable{prog:Program}{w:World}{A:Around}{E:AAB}
end
end PySem
namespace L2
open PySem PySem.Spec PyProof.Rows
section
variable{X:Cx}
end
end L2
namespace L3
open PySem PySem.Spec PySem.Calls PyProof.Rows PySem.W L2
section
variable{X:Cx}
theorem Pj(h:j4 (g1 i) (j4 (gT (j4 (g1 j) (j4 (g1 k) J9))) J9) ds d Q):ds.length=2:=by
 match ds,h with
 | [_,_],_=>rfl
 | [_],h=>exact h.2.elim
 | a::b::c::ds,h=>
  obtain⟨_,h⟩:=h
  cases b with
  | tup e=>
   match e,h with
   | [_,_],h=>exact h.2.2.elim
   | [_],h=>exact h.2.elim
   | [],h=>exact(h).elim
   | _::_::_::_,h=>exact h.2.2.elim
  | _=>exact(h).elim
 | [],h=>exact(h).elim
end
end L3
namespace L3
open PySem PySem.Spec PySem.Calls PyProof.Rows L2
section
variable{X:Cx}{cl:List Cl}{e a b:Expr}{es:ZV}{f fa fb:Fl}{pos pos' p vp:Pos}{ua ub:TU}{us:dH}{ms:oN}{k k':Nat}{fn:Addr}{fd:FuncData}{ps:ZT}{x y:Str}
theorem uv (i:Nat) (g:Rx cl[i]?=f) (h:X.N[i]?=some x:=by rfl) (d:RN X.env.scope x:=by first | exact Or.inl rfl | exact Or.inr (Or.inl rfl) | exact Or.inr (Or.inr rfl)) (hd:(x == ("__debug__" : Str))=false:=by decide) (c:(x == ("__classdict__" : Str))=false:=by decide):PU X cl (.Name x pos) f (a6 i):=Pt i (pv i h d hd c) g
theorem l7(d:K8 k X.A)(h:PU X cl a fa ua)(g:PU X cl b fb ub)(c:ie b:=by exactλ_ _=>rfl):PU X cl (.Subscript a b pos) fa (c9 ua ub):=PF (C6 d) h g c
theorem gn(i:Nat)(j:X.N.Nodup)(d:X.N[i]?=some x:=by rfl)(c:Loc X.env.scope x:=by exact Or.inl rfl)(g:X.fn x=true\/X.env.scope.names.lookup x=some .local:=by first | exact .inl rfl | exact .inr rfl | assumption)(h:cl[i]?=some .bor:=by rfl):Aa X cl (.Name x pos) (g1 i):=wt (pX j d c g) h
theorem ss(i:Nat)(o:X.N.Nodup)(j:PU X cl e f ua)(l:Dm cl[i]? f i=true)(g:X.N[i]?=some x:=by rfl)(c:Loc X.env.scope x:=by exact Or.inl rfl)(d:swapsWith e (some (.Name x pos')) pos.line X.env=pure false:=by rfl)(h:X.fn x=true\/X.env.scope.names.lookup x=some .local:=by first | exact .inl rfl | exact .inr rfl | assumption) :
  K3 X cl (.Assign [.Name x pos'] e pos) (n9 i ua):=gL o g c j l d h
theorem pc  (C:NN X.prog X.w X.K X.mg X.base x k ps (N5 X.K c) fn fd) (i:K8 k' X.A) (o:HH X cl (e::es) us) (d:isStar e=false) (j:k<=k':=by decide) (l:Gl X x:=by rfl) (h:(x == ("__debug__" : Str))=false:=by decide)
  (g:(backTo pos (starEach es X.env)).any (·.1)=false:=by rfl):PU X cl (.Call (.Name x p) (e::es) [] pos) .fresh (i5 c us):=Lq C (i.mono j) l o d h g
theorem pl  (j:Nat) (C:NN X.prog X.w X.K X.mg X.base x k ps (Jv X.K c) fn fd) (i:K8 k' X.A) (r:Kb X cl es ms) (h:PE X (.Name y vp) (cw j):=by exact pv _) (o:cl[j]?=some .own:=by rfl) (l:k<=k':=by decide) (q:Gl X x:=by rfl) (g:(x == ("__debug__" : Str))=false:=by decide)
  (d:(backTo pos (starEach es X.env)).any (·.1)=false:=by rfl):PM X cl (.Call (.Name x p) (.Name y vp::es) [] pos) (w8 j c ms):=KY j h o C (i.mono l) q r g d
end
end L3
namespace L3
open PySem PySem.Spec L2
section
variable{X:Cx}{cl:List Cl}{pos:Pos}{x:Str}
def Qn(i:Nat)(a:Ev)(Q:Ev->Prop):D->Prop
 | .lst _=>Q (a.set i (some (.lst [])))
 | _=>False
def Sa(i:Nat):TM:=λa Q=>a6 i a (Qn i a (Q .o6))
theorem QM(i:Nat)(U:PE X (.Name x e) (cw i))(J:cl[i]?=some .own)
  (mk:PE X (.Call (.Attribute (.Name x e) "clear" b) [] [] pos) (SN X.K "list" Hs (cw i))):PM X cl (.Call (.Attribute (.Name x e) "clear" b) [] [] pos) (Sa i):=.of<|by
 refine⟨_,mk,λG r S H l Q R M E I k=>?_⟩;obtain⟨h,o,q⟩:=p5 I;have own:G.own i:=by unfold Ent.own;rwa[M]
 obtain⟨v,d,y⟩:=E.rep i h o;cases h<;>first | exact(q).elim | skip
 obtain⟨p,vs,B,rfl,j,T,O⟩:=D1 y;have pin:p∈l i:=by rw[O];exact hQ
 have u:Rep X.K (upd H p (.lst [])) (.ref p) (.lst []) [p]:=.lst c8 .nil;have g:∀a∈[p],a∈l i:=λa c=>by rwa[List.mem_singleton.mp c]
 have C:=(List.getElem?_eq_some_iff.mp o).1;exact⟨_,d,.inl ⟨rfl,vs,G4.of j⟩,p,vs,rfl,rfl,j,k .o6 _ .o6 [] _ _ (E.put own C d pin V9 (by rw[c8];exactλz=>nomatch z) u (by simp) λa c=>.inl (g a c)) (R3.refl.put E own pin V9 (by rw[c8];exactλz=>nomatch z) λa c=>.inl (g a c)) .o6 uy (λa c=>(by cases c)) q⟩
end
end L3
namespace My
open PySem L2 L3
theorem J5(x:a)(xs:List a):O7 (x::xs) 0=some x:=by
 have:0<((xs.length+1:Nat):Int):=by omega
 unfold O7 mO;rw[wP,ux this];rfl
theorem M9{e:Type}{g:aQ}{tc:aS}{te:TU}{d:Ev}{F f:e->D}{Q:List D->Prop}:∀(as:List e) (acc:List D),(∀a∈as,∀(K:D->Prop) (R:Prop),K (f a)->g (F a) d λc=>tc c λb=>Br b (te c K) R)->Q (acc++as.map f)->vd g tc te d (as.map F) acc Q
 | [],acc,_,q=>by
  rwa[Yq,vy] at q
 | a::as,acc,h,q=>by
  refine h a hQ _ _ (M9 as (acc++[f a]) (λb i=>h b (hH _ i)) ?_);rwa[wT]
theorem L7{i:Type}{g:aQ}{tc:aS}{te:TU}{d:Ev}{F f:i->D}{Q:List D->Prop}(p:i->Bool):∀(as:List i) (acc:List D),(∀a∈as,∀(K:D->Prop) (R:Prop),(p a=true->K (f a))->(p a=false->R)->g (F a) d λc=>tc c λb=>Br b (te c K) R)->Q (acc++(as.filter p).map f)->vd g tc te d (as.map F) acc Q
 | [],acc,_,q=>by
  rwa[List.filter_nil,Yq,vy] at q
 | a::as,acc,h,q=>by
  refine h a hQ _ _ (λe=>L7 p as (acc++[f a]) (λb j=>h b (hH _ j)) ?_) (λe=>L7 p as acc (λb j=>h b (hH _ j)) ?_)
  ·rw[Re,ux e] at q;rwa[wT]
  ·rwa[Re,uk (by rw[e];exact ud)] at q
theorem get_map{b:Type}{F:b->D}{as:List b}{i:Nat}(h:(as.map F)[i]?=some d):∃a,as[i]?=some a/\d=F a:=by
 rw[ue] at h
 cases e:as[i]? with
 | none=>rw[e] at h;cases h
 | some a=>rw[e] at h;cases h;exact⟨a,rfl,rfl⟩
theorem g6(h:n<=100000):n<sizeLine:=by rw[Uf];omega
theorem DL(ns:ZW):x3 (ns.map D.int)=true:=by
 induction ns with
 | nil=>rfl
 | cons n ns a=>rwa[]
theorem bB(ns:ZT):x3 (ns.map D.str)=true:=by
 induction ns with
 | nil=>rfl
 | cons n ns a=>rwa[]
theorem tB(h:∀x∈xs,u3 x=true):x3 xs=true:=by
 induction xs with
 | nil=>rfl
 | cons n ns a=>
  show(u3 n&&x3 ns)=true;rw[h n hQ,a λx b=>h x (hH _ b)];rfl
theorem G9{b:Type}{f:b->D}{xs:List b}{i:Int}(d:0<=i)(c:i<xs.length):∃x,x∈xs/\xs[i.toNat]?=some x/\O7 (xs.map f) i=some (f x):=by
 have a:i.toNat<xs.length:=by omega
 refine⟨xs[i.toNat],Xp a,nA a,?_⟩;unfold O7 mO;rw[ux d,dL,ux c];simp[a]
theorem Sl{n:Int}(h:n<=10^70)(b:0<n):n.natAbs.log2<9000:=by
 have a:n.natAbs<2^9000:=Yt (m:=10^70) (by omega) (by decide +kernel);exact(Zw (by omega)).mpr a
abbrev EM(Q:D->D->Prop):R6:={ nx:=λa=>a6 0 a λl=>Q .o6 l,rt:=λd a=>a6 0 a λl=>Q d l }
abbrev EP(Q:D->Prop):R6:={ nx:=λ_=>Q .o6,rt:=λd _=>Q d }
noncomputable def nums(xs:ZW):D:=.lst (xs.map D.int)
theorem A2(n:Nat):cV 0 n=(List.range n).map λ(k:Nat)=>D.int (0+(k:Int)):=rfl
theorem fZ(p:Key×D)(r:List (Key×D))(j:Key):u4 (p::r) j=if p.1=j then some p.2 else u4 r j:=by
 unfold u4;rw[z0]
 by_cases e:p.1=j
 ·rw[ux e,v1 e];rfl
 ·rw[uk e,wl e]
theorem mF(k j:Key)(y:D):∀kvs:List (Key×D),u4 (kvs.map λc=>if c.1=k then(c.1,y) else c) j=if j=k then(u4 kvs j).map (λ_=>y) else u4 kvs j
 | []=>by simp[u4]
 | p::r=>by
  rw[vc,fZ,fZ,mF k j y r]
  by_cases b:p.1=k
  ·rw[ux b]
   by_cases a:p.1=j
   ·have d:=a.symm.trans b;simp[a,d]
   ·simp[a]
  ·rw[uk b]
   by_cases a:p.1=j
   ·have d:¬j=k:=λz=>b (a.trans z);simp[d]
   ·simp[a]
theorem jX(k:Key):∀kvs:List (Key×D),(kvs.any λa=>decide (a.1=k))=(u4 kvs k).isSome
 | []=>rfl
 | p::r=>by
  rw[Xi,jX k r,fZ]
  by_cases e:p.1=k
  ·simp[e]
  ·simp[e]
theorem rA(k j:Key)(y:D):∀kvs:List (Key×D),u4 (kvs++[(k,y)]) j=(u4 kvs j).or (if k=j then some y else none)
 | []=>by simp[u4]
 | p::r=>by
  rw[List.cons_append,fZ,fZ,rA k j y r]
  by_cases e:p.1=j
  ·simp[e]
  ·simp[e]
theorem sH(kvs:List (Key×D))(k j:Key)(y:D):u4 (putD kvs k y) j=if j=k then some y else u4 kvs j:=by
 unfold putD
 by_cases a:(kvs.any λb=>decide (b.1=k))=true
 ·rw[ux a,mF];rw[jX] at a;obtain⟨v,c⟩:=Option.isSome_iff_exists.mp a
  by_cases e:j=k
  ·subst e;simp[c]
  ·simp[e]
 ·rw[uk a,rA];rw[jX] at a
  have d:u4 kvs k=none:=by
   cases q:u4 kvs k with
   | none=>rfl
   | some v=>rw[q] at a;exact(a rfl).elim
  by_cases e:j=k
  ·subst e;simp[d]
  ·have g:¬k=j:=λz=>e z.symm;simp[e,g]
theorem aP(a b:D)(l:List D):O7 (a::b::l) 1=some b:=by
 unfold O7 mO;rw[ux (by decide),ux (by simp[];omega)];rfl
theorem iV{i:Type}{g:aQ}{tc:aS}{tk te:TU}{e:Ev}{F v:i->D}{k:i->Key}{Q:List (Key×D)->Prop}:∀(as:List i) (acc:List (Key×D)),(∀a∈as,∀(K:Key->D->Prop) (R:Prop),K (k a) (v a)->g (F a) e λc=>tc c λb=>Br b (tk c λy=>te c λd=>∃k,X5 y=some k/\u3 d=true/\K k d) R) ->
  Q (as.foldl (λacc a=>putD acc (k a) (v a)) acc)->qc g tc tk te e (as.map F) acc Q
 | [],acc,_,q=>q
 | a::as,acc,h,q=>by
  exact h a hQ (λk d=>qc g tc tk te e (as.map F) (putD acc k d) Q) _ (iV as _ (λb j=>h b (hH _ j)) q)
theorem fV{c:Type}{v:c->D}{k:c->Key}(j:Key):∀(as:List c) (acc:List (Key×D)),(∀a∈as,k a≠j)->u4 (as.foldl (λacc a=>putD acc (k a) (v a)) acc) j=u4 acc j
 | [],acc,_=>rfl
 | a::as,acc,h=>by
  rw[WY,fV j as _ λb d=>h b (hH _ d),sH,uk λz=>h a hQ z.symm]
theorem kg{d:Type}{v:d->D}{k:d->Key}:∀(as:List d) (acc:List (Key×D)),(as.map k).Nodup->∀a∈as,u4 (as.foldl (λacc a=>putD acc (k a) (v a)) acc) (k a)=some (v a)
 | [],_,_,a,g=>by cases g
 | b::as,acc,h,a,g=>by
  obtain⟨l,j⟩:=List.nodup_cons.mp h;rw[WY];rcases List.mem_cons.mp g with e | e
  ·subst e;rw[fV (k a) as _ λc i z=>l (List.mem_map.mpr ⟨c,i,z⟩),sH,ux rfl]
  ·exact kg as _ j a e
def MZ(d:D)(ns:ZW):Prop:=d=.fz (ns.map D.int)\/d=.lst (ns.map D.int)
noncomputable def feed(c d k:Int):D:=.lst [.int c,.int d,.int k]
abbrev Rw:=Str×List D
noncomputable def row(r:Rw):D:=.tup (.str r.1::r.2)
noncomputable def kS(xs:ZT):D:=.lst (xs.map D.str)
noncomputable def uD:Option Str->D
 | none=>.o6
 | some x=>.str x
abbrev Pr:=Int×Int
noncomputable def pr(p:Pr):D:=.tup [.int p.1,.int p.2]
noncomputable def mh(ps:List Pr):D:=.tup (ps.map pr)
def VN(p:Pr):Prop:=1<=p.1/\p.1<10^59/\0<=p.2/\p.2<10^60
theorem Z3:∀ps:List Pr,x3 (ps.map pr)=true
 | []=>rfl
 | p::ps=>by
  show((true&&(true&&true))&&x3 (ps.map pr))=true;rw[Z3 ps];rfl
def M1(ps:List Pr):Prop:=1<=ps.length/\ps.length<=5/\(∀p∈ps,1<=p.1/\p.1<10^60/\1<=p.2/\p.2<10^60)/\ps.Pairwise λp q=>p.1<q.1/\q.2<p.2
def nm(n:Nat)(x:Str):Prop:=1<=x.cps.toList.length/\x.cps.toList.length<=n/\∀c∈x.cps.toList,97<=c/\c<=122
instance (n:Nat) (x:Str):Decidable (nm n x):=by unfold nm;infer_instance
theorem bS(ps:List Pr):u3 (mh ps)=true:=Z3 ps
def aq:Cp:=λa Q=>∃(d:D) (ns:ZW) (k:Int),a=[d,.int k]/\MZ d ns/\0<=k/\∀c,Q (.int c)
def aM:Cp:=λa Q=>∃(d:D) (ns:ZW) (k:Int),a=[d,.int k]/\MZ d ns/\0<=k/\k<=1000/\∀c,Q (feed c c (100*k))
def u5:Cm:=λa Q=>∃(c d k n:Int),a=[feed c d k,.int n]/\0<=k/\k<=10^9/\0<n/\n<=10^70/\∀(r b:Int),0<=r->r<n->Q (.int r) (feed c b (k+1))
def oJ:g4:=(r8 (p9 (c9 (a6 0) (a6 1))))
def Co:g4:=(r8 (uC (.int 0)))
def zL:g4:=(e5 (aY (tP (uT (o5 RU (a6 1) (W3 cx (a9 (a6 0) e9))))) oJ y9) Co)
def Kx:g4:=(r8 (U9 (a9 (p9 (a6 2)) (a9 (p9 (a6 2)) (a9 (o5 J3 (uC (.int 100)) (a6 1)) e9)))))
def Nr:g4:=(e5 (n9 2 (i5 aq (a9 (a6 0) (a9 (a6 1) e9)))) Kx)
def wA:g4:=(r8 (p9 (a6 2)))
def xp:g4:=(e5 (Dc 0 (mP (o5 JO (c9 (a6 0) (uC (.int 1))) (a6 1))) (mP (uC (.int 1)))) wA)
def yk:g4:=(e5 (n9 2 (o5 iR (c9 (a6 0) (uC (.int 1))) (a6 1))) xp)
def Ll:g4:=(r8 (o5 iR (o5 JO (o5 iR (o5 J3 (a6 3) (o5 p6 (o5 iR (a6 3) (uC (.int 65521))) (uC (.int 3)))) (uC (.int 2147483629))) (uC (.int 5))) (a6 1)))
def Lu:g4:=(e5 (n9 3 (o5 iR (o5 p6 (o5 p6 (a6 3) (o5 J3 (o5 J3 (c9 (a6 0) (uC (.int 2))) (c9 (a6 0) (uC (.int 2)))) (uC (.int 69621)))) (uC (.int 11))) (uC (.int 2147483647)))) Ll)
def JB:g4:=(e5 (n9 3 (o5 p6 (o5 J3 (o5 iR (c9 (a6 0) (uC (.int 0))) (uC (.int 2147483629))) (uC (.int 48271))) (o5 J3 (uC (.int 7919)) (c9 (a6 0) (uC (.int 2)))))) Lu)
def MN:g4:=(e5 (aY (tP (fT (uT (o5 Wf (c9 (a6 0) (uC (.int 0))) (o5 JQ (uC (.int 10)) (uC (.int 18))))) (uT (o5 LQ (c9 (a6 0) (uC (.int 1))) (uC (.int 0)))))) yk y9) JB)
def Nv:g4:=(e5 (Dc 0 (mP (o5 p6 (c9 (a6 0) (uC (.int 2))) (uC (.int 1)))) (mP (uC (.int 2)))) MN)
abbrev HP(n:Str)(k:Nat)(ps:ZT)(c:Cp)(P:Program)(w:World)(K:AAD)(mg:ZZ)(base:Heap)(f:Addr)(a:FuncData):=NN P w K mg base n k ps (N5 K c) f a
abbrev HM(n:Str)(k:Nat)(ps:ZT)(c:Cm)(P:Program)(w:World)(K:AAD)(mg:ZZ)(base:Heap)(f:Addr)(a:FuncData):=NN P w K mg base n k ps (Jv K c) f a
abbrev A3(c:Cp)(n:Nat):Prop:=∀a Q,c a Q->a.length=n
abbrev NQ(c:Cm)(n:Nat):Prop:=∀a Q,c a Q->a.length=n
abbrev R8(c:Cp)(t:g4)(n:Nat):Prop:=∀a Q,c a Q->t (EP Q) (i4 n a)
abbrev UY(c:Cm)(t:g4)(n:Nat):Prop:=∀a Q,c a Q->t (EM Q) (i4 n a)
def O1(K:AAD)(f:Addr)(x:Str)(st:Stmt):Prop:=PySem.W.nsIn K mainGlobals x=some (some (.ref f))/\∃(e:Value) (d h:Option Addr) (b:Array (AAE)) (kV g c a ct:Value),K.lookup f=some ⟨e,d,.func (PySem.W.fnOf x x (ag st) (P7 st) (c6 st) .none kV g c h a ct),b⟩/\PySem.W.codeIn K a x=true/\PySem.W.keepIn K (.ref f)=true
theorem O1.mk{mg:ZZ}(X:K.In h)(G:h.Ns mainGlobals mg)(d:O1 K f x st):∃b,L6 K x x st f b/\mg x=some (.ref f)/\PySem.W.keepIn K (.ref f)=true:=
 let ⟨a,_,_,_,_,_,_,_,_,_,l,c,k⟩:=d;⟨_,Fy l c k,PySem.W.mg_of X G a,k⟩
noncomputable def qu:Str:="abcdefghijklmnopqrstuvwxyz"
noncomputable def kR(i:Int):Nat:=(O7 qu.cps.toList i).getD 0
theorem MH:∀n:Nat,n<26->kR (n:Int)=97+n:=by decide +kernel
theorem pw(a:0<=i)(b:i<26):kR i=97+i.toNat:=by
 have e:=Int.toNat_of_nonneg a;have q:=MH i.toNat (by omega);rwa[e] at q
theorem Au(d:0<=i)(c:i<26)(b:0<=j)(a:j<26)(h:kR i=kR j):i=j:=by
 rw[pw d c,pw b a] at h;omega
theorem xZ(b:0<=i)(a:i<26):97<=kR i/\kR i<=122:=by rw[pw b a];omega
theorem Ad(b:0<=n)(a:n<=4):(Txt.mul ⟨#[c]⟩ n).cps.toList=List.replicate n.toNat c:=by
 have h:n=0\/n=1\/n=2\/n=3\/n=4:=by omega
 rcases h with rfl | rfl | rfl | rfl | rfl
 all_goals rfl
theorem CD(xs:ZW):∀acc:Array Nat,((xs.map λb=>(⟨#[kR b]⟩:Str)).foldl (λacc p=>acc++(Str.cps "")++p.cps) acc).toList=acc.toList++xs.map kR:=by
 induction xs with
 | nil=>intro acc;simp
 | cons b B a=>
  intro acc;rw[vc,WY,a];show(acc++#[]++#[kR b]).toList++_=_;simp
theorem Er(xs:ZW):(Txt.join "" (xs.map λb=>(⟨#[kR b]⟩:Str))).cps.toList=xs.map kR:=by
 cases xs with
 | nil=>rfl
 | cons b B=>
  exact(CD B #[kR b]).trans rfl
theorem KH(x y:Str):(x++y).cps.toList=x.cps.toList++y.cps.toList:=by
 show(x.cps++y.cps).toList=_;simp
theorem aK{d:Type}(f:Nat->d)(n:Nat)(h:∀i j,i<n->j<n->f i=f j->i=j):((List.range n).map f).Nodup:=by
 rw[List.Nodup,XA];refine List.Pairwise.imp_of_mem ?_ (List.nodup_range );intro a b l g c e;exact c (h a b (List.mem_range.mp l) (List.mem_range.mp g) e)
theorem nT{b:Type}{x:b}:∀{xs:List b} (i:Nat),xs.Nodup->x∉xs->(xs.set i x).Nodup
 | [],_,_,_=>uy
 | y::c,0,h,a=>List.nodup_cons.mpr ⟨λz=>a (hH _ z),(List.nodup_cons.mp h).2⟩
 | y::c,i+1,h,a=>by
  refine List.nodup_cons.mpr ⟨λz=>?_,nT i (List.nodup_cons.mp h).2 λz=>a (hH _ z)⟩;rcases TD z with w | w
  ·exact(List.nodup_cons.mp h).1 w
  ·exact a (w▸hQ)
noncomputable def nameA(f:Int)(i:Nat):Str:=Txt.mul ⟨#[kR ((f+(0+(i:Int)))%26)]⟩ (1+(0+(i:Int))/26)
theorem fQ(a:i<100):(nameA f i).cps.toList=List.replicate (1+i/26) (kR ((f+(0+(i:Int)))%26)):=by
 unfold nameA;rw[Ad (by omega) (by omega)];congr 1;omega
theorem Ca(b:i<100)(a:j<100)(h:nameA f i=nameA f j):i=j:=by
 have e:=Sc (λx=>x.cps.toList) h;rw[fQ b,fQ a] at e;have el:=Sc List.length e;rw[Xw,Xw] at el;have d:=by
  have c:=Sc (λl=>l.head?) e;simpa[Nat.add_comm 1,Tk] using c
 have g:=Au (KM _ (by decide)) (Fa _ (by decide)) (KM _ (by decide)) (Fa _ (by decide)) d;omega
theorem Ik(a:i<100)(h:1+i/26<=n):nm n (nameA f i):=by
 unfold nm;rw[fQ a,Xw];refine⟨by omega,h,λc b=>?_⟩;rw[(List.mem_replicate.mp b).2];exact xZ (KM _ (by decide)) (Fa _ (by decide))
noncomputable def gX(bs:ZW)(a o c b:Int)(i:Nat):ZW:=(bs.set a.toNat ((c+(0+(i:Int)))%26)).set o.toNat ((b+(0+(i:Int))/26)%26)
noncomputable def gB(bs:ZW)(a o d c f l:Int)(i:Nat):Str:=Txt.join "" ((gX bs a o d c i).map λb=>(⟨#[kR b]⟩:Str))++Txt.mul ⟨#[kR f]⟩ (l*((0+(i:Int))%2))
theorem bw:(gX bs a o c b i).length=bs.length:=by unfold gX;rw[WP,WP]
theorem qf(d:∀b∈bs,0<=b/\b<26):∀b∈gX bs a o g e i,0<=b/\b<26:=λb c=>by
 rcases TD c with w | w
 ·rcases TD w with w | w
  ·exact d b w
  ·rw[w];exact⟨KM _ (by decide),Fa _ (by decide)⟩
 ·rw[w];exact⟨KM _ (by decide),Fa _ (by decide)⟩
theorem Tt(a:0<=l)(l1:l<=1)(i:Nat):0<=l*((0+(i:Int))%2)/\l*((0+(i:Int))%2)<=1:=by
 have h:l=0\/l=1:=by omega
 rcases h with rfl | rfl<;>omega
theorem fK(d:0<=l)(l1:l<=1):(gB bs a o c b f l i).cps.toList=(gX bs a o c b i).map kR++List.replicate (l*((0+(i:Int))%2)).toNat (kR f):=by
 unfold gB;have:=Tt d l1 i;rw[KH,Er,Ad this.1 (by omega)]
theorem Di(I:i<100)(H:j<100)(g:0<=l)(l1:l<=1)(O:0<=a)(M:a<bs.length)(G:0<=o)(E:o<bs.length)(J:a≠o)(r:∀b∈bs,0<=b/\b<26)
  (h:gB bs a o d c f l i=gB bs a o d c f l j):i=j:=by
 have e:=Sc (λx=>x.cps.toList) h;rw[fK g l1,fK g l1] at e;have v:=(List.append_inj e (by rw[dL,dL,bw,bw])).1
 have at_:∀(n:Nat) (x y:Int),(gX bs a o d c i)[n]?=some x->(gX bs a o d c j)[n]?=some y->x=y:=λn x y q p=>by
  have u:=Sc (λz=>z[n]?) v;rw[ue,ue,q,p] at u;have:=qf r x (oT q);have:=qf r y (oT p);exact Au (by omega) (by omega) (by omega) (by omega) (x2 u)
 have ga:∀k,(gX bs a o d c k)[a.toNat]?=some ((d+(0+k))%26):=λk=>by
  unfold gX;rw[AC (by omega),xi (by omega)]
 have go:∀k,(gX bs a o d c k)[o.toNat]?=some ((c+(0+k)/26)%26):=λk=>by
  unfold gX;rw[xi (by rw[WP];omega)]
 have C:=at_ _ _ _ (ga i) (ga j);have B:=at_ _ _ _ (go i) (go j);omega
theorem Hh{a o u r f l:Int}{i n:Nat}(e:0<=l)(l1:l<=1)(q:0<=f)(p:f<26)(j:∀b∈bs,0<=b/\b<26)(x:1<=bs.length)(v:bs.length+l<=n):nm n (gB bs a o u r f l i):=by
 have h:l=0\/l=1:=by omega
 unfold nm;rw[fK e l1,vv,dL,bw,Xw];refine⟨by omega,?_,λc g=>?_⟩
 ·rcases h with rfl | rfl
  ·rw[];omega
  ·omega
 ·rcases List.mem_append.mp g with w | w
  ·obtain⟨b,d,rfl⟩:=List.mem_map.mp w;have:=qf j b d;exact xZ this.1 this.2
  ·rw[(List.mem_replicate.mp w).2];exact xZ q p
theorem Hf{a r n:Int}(i:0<=a)(g:a<n)(d:0<=r)(c:r<n-1):a≠(a+1+r)%n:=by
 by_cases h:a+1+r<n
 ·rw[Int.emod_eq_of_lt (by omega) h];omega
 ·have e:(a+1+r)%n=a+1+r-n:=by
   have b:a+1+r=(a+1+r-n)+n:=by omega
   rw[b,Int.add_emod_right,Int.emod_eq_of_lt (by omega) (by omega)];omega
  omega
def cP:Cm:=λe Q=>∃(c d k m:Int),e=[feed c d k,.int m]/\0<=k/\k<=10^6/\1<=m/\m<=100/\∀(a:ZT) (g b:Int),a.length=m->a.Nodup->(∀x∈a,nm 8 x)->Q (kS a) (feed c g b)
local macro_rules | `(tactic| walk_at "w")=>`(tactic| conv=>whnf)
local macro_rules | `(tactic| walk_at "a")=>`(tactic| first | refine⟨rfl,?_⟩ | refine⟨_,rfl,?_⟩ | refine Br.yes rfl ?_ | refine Br.no rfl ?_ | refine⟨(show(0:Int)<_ from by decide),?_⟩ | refine⟨(show V8 _ _ from⟨by decide,by decide⟩),?_⟩ | refine⟨(show bM _ _ from⟨by decide,by decide,by decide⟩),?_⟩ | refine⟨(show N9 _ _ from .inr ⟨by decide,by decide⟩),?_⟩ | refine⟨(show N9 _ _ from .inl ⟨by decide,by decide⟩),?_⟩ | refine⟨_,_,_,rfl,rfl,rfl,?_⟩ | refine⟨_,J5 _ _,?_⟩ | refine⟨_,aP _ _ _,?_⟩ | refine⟨_,_,rfl,rfl,?_⟩)
local macro_rules | `(tactic| walk_at "r")=>`(tactic| ((repeat ((conv=>whnf);(walk_at "a")));(try (conv=>whnf))))
structure SQ(xs:ZT)(gs:List Rw)(ds:ZX)(i:Nat)(g:Rw)(u:Option Str)(e:Nat)(cv:List Pr)(n1 n2:Int):Prop where
 name:xs[i]?=some g.1
 row:g.2=[uD u,mh cv,.int n1,.int n2]
 cv:M1 cv
 n1:0<=n1/\n1<10^60
 n2:0<=n2/\n2<10^60
 dep:ds[i]?=some e
 top:u=none->e=1
 under:∀y,u=some y->∃j f gj,j<i/\gs[j]?=some gj/\gj.1=y/\ds[j]?=some f/\e=f+1
 ge:1<=e
 le:e<=8
def Uj(xs:ZT)(gs:List Rw)(ds:ZX):Prop:=ds.length=gs.length/\∀i g,gs[i]?=some g->∃u e cv n1 n2,SQ xs gs ds i g u e cv n1 n2
theorem Uj.x3(h:Uj xs gs ds):∀g∈gs,x3 g.2=true:=λg c=>by
 obtain⟨i,b⟩:=Da c;obtain⟨u,e,cv,n1,n2,a⟩:=h.2 i g b;rw[a.row];show(u3 (uD u)&&(u3 (mh cv)&&(true&&(true&&true))))=true;rw[bS];cases u<;>rfl
theorem SQ.more{cv:List Pr}{n1 n2:Int}(a:SQ xs gs ds i g u e cv n1 n2)(b:List Rw)(c:ZX):SQ xs (gs++b) (ds++c) i g u e cv n1 n2:=by
 refine⟨a.name,a.row,a.cv,a.n1,a.n2,?_,a.top,λy l=>?_,a.ge,a.le⟩
 ·rw[wr (List.getElem?_eq_some_iff.mp a.dep).1];exact a.dep
 ·obtain⟨j,f,r,q,h,p,d,o⟩:=a.under y l;exact⟨j,f,r,q,by rwa[wr (List.getElem?_eq_some_iff.mp h).1],p,by rwa[wr (List.getElem?_eq_some_iff.mp d).1],o⟩
theorem Uj.snoc(h:Uj xs gs ds)(a:SQ xs (gs++[g]) (ds++[e]) gs.length g u e cv n1 n2):Uj xs (gs++[g]) (ds++[e]):=by
 refine⟨by simp[h.1],λi x b=>?_⟩
 by_cases p:i<gs.length
 ·rw[wr p] at b;obtain⟨o,r,l,d,c,v⟩:=h.2 i x b;exact⟨o,r,l,d,c,v.more _ _⟩
 ·have j:=(List.getElem?_eq_some_iff.mp b).1;rw[vv,BB] at j;have q:i=gs.length:=by omega
  subst q;rw[Ix (sK _),Yp] at b;cases b;exact⟨_,_,_,_,_,a⟩
structure Vb(xs:ZT)(gs:List Rw)(i:Nat)(l:Rw)(y:Str)(ps:List Pr)(n:Int)(b:Bool):Prop where
 name:xs[i]?=some l.1
 row:l.2=[.str y,mh ps,.int n,.bl b]
 at_:∃g∈gs,g.1=y
 len:ps.length<=4
 mm:∀p∈ps,VN p
 n:0<=n/\n<10^60
def WD(xs:ZT)(gs ls:List Rw):Prop:=ls.length=xs.length/\∀i l,ls[i]?=some l->∃y a n b,Vb xs gs i l y a n b
theorem Vb.x3{n:Int}(a:Vb xs gs i l y ps n b):x3 l.2=true:=by
 rw[a.row];show(true&&(L3.x3 (ps.map pr)&&(true&&(true&&true))))=true;rw[Z3];rfl
theorem WD.x3(h:WD xs gs ls):∀l∈ls,x3 l.2=true:=λl c=>by
 obtain⟨i,d⟩:=Da c;obtain⟨y,e,n,b,a⟩:=h.2 i l d;exact a.x3
structure Gd where
 nm:Str
 un:Option Str
 cv:List Pr
 de:Int
 wa:Int
structure Ld where
 nm:Str
 at_:Str
 cs:List Pr
 la:Int
 on:Bool
structure Bd where
 gs:List Gd
 ls:List Ld
noncomputable def gD(g:Gd):D:=.tup [.str g.nm,uD g.un,mh g.cv,.int g.de,.int g.wa]
noncomputable def lD(l:Ld):D:=.tup [.str l.nm,.str l.at_,mh l.cs,.int l.la,.bl l.on]
noncomputable def bD(b:Bd):D:=.tup [.tup (b.gs.map gD),.tup (b.ls.map lD)]
def MM(gs:List Gd):Prop:=∃dp:Nat->Nat,∀i g,gs[i]?=some g->1<=dp i/\dp i<=8/\(g.un=none->dp i=1)/\∀y,g.un=some y->∃j a,j<i/\gs[j]?=some a/\a.nm=y/\dp i=dp j+1
abbrev UN:Int:=10^60
structure j5(b:Bd):Prop where
 g1:1<=b.gs.length
 g16:b.gs.length<=16
 l24:b.ls.length<=24
 nd:(b.gs.map (·.nm)++b.ls.map (·.nm)).Nodup
 nmg:∀g∈b.gs,nm 8 g.nm
 nml:∀l∈b.ls,nm 8 l.nm
 cv:∀g∈b.gs,M1 g.cv
 de:∀g∈b.gs,0<=g.de/\g.de<UN
 wa:∀g∈b.gs,0<=g.wa/\g.wa<10^60
 un:MM b.gs
 cs4:∀l∈b.ls,l.cs.length<=4
 cs:∀l∈b.ls,∀p∈l.cs,1<=p.1/\p.1<10^60/\0<=p.2/\p.2<10^60
 la:∀l∈b.ls,0<=l.la/\l.la<10^60
 at_:∀l∈b.ls,∃g∈b.gs,g.nm=l.at_
theorem jq(u:Option Str):u3 (uD u)=true:=by cases u<;>rfl
theorem W9(g:Gd):u3 (gD g)=true:=by
 show(true&&(u3 (uD g.un)&&(u3 (mh g.cv)&&(true&&(true&&true)))))=true;rw[jq,bS];rfl
theorem QF(g:Ld):u3 (lD g)=true:=by
 show(true&&(true&&(u3 (mh g.cs)&&(true&&(true&&true)))))=true;rw[bS];rfl
theorem M5{b:Type}{f:b->D}(h:∀a,u3 (f a)=true)(as:List b):x3 (as.map f)=true:=tB λx c=>by
 obtain⟨a,_,rfl⟩:=List.mem_map.mp c;exact h a
theorem eP(gs:List Gd):x3 (gs.map gD)=true:=M5 W9 gs
theorem pe(gs:List Ld):x3 (gs.map lD)=true:=M5 QF gs
theorem Hl(b:Bd):u3 (bD b)=true:=by
 show(x3 (b.gs.map gD)&&(x3 (b.ls.map lD)&&true))=true;rw[eP,pe];rfl
abbrev cs(x:Str):ZX:=x.cps.toList
noncomputable def nt(n:Int):Str:=Str.ofString (toString n)
theorem Qq(h:0<=n)(a:n<10^60):(nt n).length<=61:=by
 unfold nt;rw[ofString_length];exact int_text_length_le10 (by decide) (by omega)
def num(n:Int):Prop:=0<=n/\n<10^60
def FJ(ps:List Pr):Prop:=ps.length<=5/\∀p∈ps,num p.1/\num p.2
structure GT(g:Gd):Prop where
 nm:nm 8 g.nm
 un:∀y,g.un=some y->My.nm 8 y
 cv:FJ g.cv
 de:num g.de
 wa:num g.wa
structure LT(l:Ld):Prop where
 nm:nm 8 l.nm
 at_:My.nm 8 l.at_
 cs:FJ l.cs
 la:num l.la
theorem num.len(h:num n):(nt n).length<=61:=Qq h.1 h.2
theorem Pp(h:nm n x):x.length<=n:=by
 have:=h.2.1;simpa[Str.length] using this
def Sw(x:Str):Prop:=10∉cs x
instance (x:Str):Decidable (Sw x):=by unfold Sw;infer_instance
theorem j5.lt(h:j5 b):∀l∈b.ls,LT l:=λl a=>by
 refine⟨h.nml l a,?_,⟨GM (h.cs4 l a) (by decide),λp c=>?_⟩,h.la l a⟩
 ·obtain⟨g,d,e⟩:=h.at_ l a;rw[<-e];exact h.nmg g d
 ·have:=h.cs l a p c;unfold num;omega
mutual
noncomputable def kn:D->Bool
 | .o6=>true
 | .bl _=>true
 | .int _=>true
 | .str x=>decide (x.length<=100000)
 | .tup xs=>Vh xs
 | .lst xs=>Vh xs
 | .dic _=>true
 | _=>false
noncomputable def Vh:List D->Bool
 | []=>true
 | x::xs=>kn x&&Vh xs
end
theorem Ni(h:kn d=true):∃a,tyName d=some a:=by
 cases d<;>first | exact⟨_,rfl⟩ | (simp[kn] at h)
def Bp(q:D)(xs:List D):Prop:=q=.tup xs\/q=.lst xs
noncomputable def RJ:D->Str
 | .tup (.str x::_)=>x
 | _=>Str.empty
def Ol(d:D):Prop:=∃x r,d=.tup (.str x::r)
def P8:Cp:=λb Q=>∃(q:D) (a:List D),b=[q]/\Bp q a/\a.length<=100/\(∀x∈a,Ol x)/\Q (kS (a.map RJ))
structure Tz(gs:List Gd):Prop where
 len:gs.length<=16
 nd:(gs.map (·.nm)).Nodup
 un:MM gs
noncomputable def vn(gs:List Gd)(x:Str):Option Str:=match gs.find? (λg=>decide (g.nm=x)) with
 | some g=>g.un
 | none=>none
noncomputable def ups(gs:List Gd):Nat->Option Str->ZT
 | 0,_=>[]
 | _+1,none=>[]
 | n+1,some x=>x::ups gs n (vn gs x)
def cH:Cp:=λa Q=>∃(q:D) (gs:List Gd) (x:Str),a=[q,.str x]/\Bp q (gs.map gD)/\Tz gs/\(∃g∈gs,g.nm=x)/\Q (kS (ups gs 8 (some x)))
noncomputable def j7(b:Bd):ZT:=b.gs.map (·.nm)
noncomputable def L9(b:Bd):ZT:=b.ls.map (·.nm)
noncomputable def HG(xs:ZT):D->Bool
 | .str x=>decide (x∈xs)
 | _=>false
noncomputable def Z2(b:Bd)(x:Str):Str:=match b.ls.find? (λl=>decide (l.nm=x)) with
 | some l=>l.at_
 | none=>x
noncomputable def l4(b:Bd)(x:Str):ZT:=ups b.gs 8 (some (Z2 b x))
def B6:Cp:=λa Q=>∃(b:Bd),a=[bD b]/\j5 b/\Q (kS (j7 b))
def U3:Cp:=λa Q=>∃(b:Bd),a=[bD b]/\j5 b/\Q (kS (L9 b))
def O9:Cp:=λa Q=>∃(b:Bd) (d:D),a=[bD b,d]/\j5 b/\kn d=true/\Q (.bl (HG (j7 b) d))
def T3:Cp:=λa Q=>∃(b:Bd) (d:D),a=[bD b,d]/\j5 b/\kn d=true/\Q (.bl (HG (L9 b) d))
def O3:Cp:=λa Q=>∃(b:Bd) (d:D),a=[bD b,d]/\j5 b/\kn d=true/\Q (.bl (HG (j7 b) d||HG (L9 b) d))
def QE(d:D)(xs:ZT):Prop:=d=.lst (xs.map D.str)\/d=.tup (xs.map D.str)
noncomputable def G5(b:Bd)(a:ZT)(x:Str):Bool:=(l4 b x).all λg=>decide (g∉a)
noncomputable def Pd(kvs:List (Key×D))(x:Str):Int:=match u4 kvs (.inr x) with
 | some (.int n)=>n
 | _=>0
def xS(kvs:List (Key×D)):Prop:=∀a∈kvs,∃n,a.2=.int n
noncomputable def sQ(b:Bd)(a:ZT):List (Key×D):=b.gs.map λg=>(.inr g.nm,.bl (G5 b a g.nm))
noncomputable def i6(b:Bd)(v:Str->Int):List (Key×D):=b.gs.map λg=>(.inr g.nm,.int (v g.nm))
noncomputable def Q5(b:Bd)(a:ZT)(P:Str->Int)(y:Str):Int:=((j7 b++L9 b).map λx=>if G5 b a x then(((l4 b x).count y:Nat):Int)*P x else 0).sum
noncomputable def lo(cv:List Pr):Int:=(cv.head?.map (·.1)).getD 0
noncomputable def vo(b:Bd)(x:Str):Int:=match b.ls.find? (λl=>decide (l.nm=x)) with
 | some l=>if l.on then l.la else 0
 | none=>0
noncomputable def j8(b:Bd):Str->Int:=Q5 b [] (vo b)
noncomputable def D7(b:Bd)(v:Str->Int):ZT:=(b.gs.filter λg=>decide (lo g.cv<=v g.nm)).map (·.nm)
def Q0:Cp:=λa Q=>∃(cv:List Pr),a=[mh cv]/\M1 cv/\Q (.int (lo cv))
def K9:Cp:=λc Q=>∃(b:Bd) (o:D) (a:ZT),c=[bD b,o]/\j5 b/\QE o a/\a.length<4000/\Q (.dic (sQ b a))
def O4:Cp:=λd Q=>∃(b:Bd) (c:ZT) (a:List (Key×D)),d=[bD b,.dic (sQ b c),.dic a]/\j5 b/\xS a/\Q (.dic (i6 b (Q5 b c (Pd a))))
def cW:Cp:=λd Q=>∃(b:Bd) (o:D) (c:ZT) (a:List (Key×D)),d=[bD b,o,.dic a]/\j5 b/\QE o c/\c.length<4000/\xS a/\Q (.dic (i6 b (Q5 b c (Pd a))))
def gv:Cp:=λa Q=>∃(b:Bd),a=[bD b]/\j5 b/\Q (.dic (i6 b (j8 b)))
def cJ:Cp:=λa Q=>∃(b:Bd) (v:Str->Int),a=[bD b,.dic (i6 b v)]/\j5 b/\Q (kS (D7 b v))
noncomputable def yL:ZT->D
 | []=>.o6
 | x::_=>.str x
def dm:Cp:=λa Q=>∃(b:Bd),a=[bD b]/\j5 b/\Q (yL (D7 b (j8 b)))
def uK:g4:=(r8 (p9 (c9 (c9 (a6 0) (uC (.int 0))) (uC (.int 0)))))
def aN:g4:=(ay 3 (mP (p9 (LN (o5 (Rh true) (a6 5) (a6 2)) (Vm (o5 (Q3 false) (a6 6) (uC .o6)) (c9 (a6 3) (a6 6)))))) (mP (a6 5)))
def hU:g4:=(e5 (QI 5 6 (a9 (c9 (a6 4) (uC (.int 0))) (a9 (c9 (a6 4) (uC (.int 1))) e9))) aN)
def pL:g4:=(r8 (a6 3))
def pM:g4:=(e5 (D9 (iP (A5 (c9 (a6 0) (uC (.int 0))))) (g1 4) hU) pL)
def oP:g4:=(e5 (n9 3 (uC (.dic []))) pM)
def jr:g4:=(e5 (n9 2 (W3 Ss (a9 (a6 1) e9))) oP)
def jZ:g4:=(xJ 3 (c9 (a6 5) (uC (.int 1))) (jF (a6 2) (c9 (a6 5) (uC (.int 0))) (uC (.int 0))))
def jw:g4:=(ay 3 (mP (uC (.int 0))) (mP (a6 6)))
def jP:g4:=(xJ 3 (a6 7) (c9 (a6 3) (a6 6)))
def ja:g4:=(aY (tP (uT (o5 (Q3 true) (a6 7) (uC .o6)))) jP y9)
def jh:g4:=(aY (tP (Gv (wo (c9 (a6 1) (a6 6))))) jw ja)
def bc:g4:=(e5 (QI 6 7 (a9 (c9 (a6 4) (uC (.int 0))) (a9 (c9 (a6 4) (uC (.int 1))) e9))) jh)
def ra:g4:=(r8 (a6 3))
def gG:g4:=(e5 (D9 (iP (NA (c9 (a6 0) (uC (.int 0))))) (g1 4) bc) ra)
def rD:g4:=(e5 (D9 (iP (A5 (c9 (a6 0) (uC (.int 1))))) (g1 5) jZ) gG)
def nP:g4:=(e5 (n9 3 (Nd [none,some 2] (A5 (c9 (a6 0) (uC (.int 0)))) (g1 0) R1 (c9 (a6 0) (uC (.int 0))) (jF (a6 1) (c9 (a6 0) (uC (.int 0))) (uC (.int 0))))) rD)
def EX:g4:=(r8 (i5 O4 (a9 (a6 0) (a9 (i5 K9 (a9 (a6 0) (a9 (a6 1) e9))) (a9 (a6 2) e9)))))
def Nq:g4:=(r8 (i5 cW (a9 (a6 0) (a9 (U9 e9) (a9 (Nd [none] (A5 (c9 (a6 0) (uC (.int 1)))) (g1 0) (wo (c9 (a6 0) (uC (.int 4)))) (c9 (a6 0) (uC (.int 0))) (c9 (a6 0) (uC (.int 3)))) e9)))))
def EH:g4:=(r8 (lB [none,some 1] (A5 (c9 (a6 0) (uC (.int 0)))) (g1 0) (uT (o5 Wf (c9 (a6 1) (c9 (a6 0) (uC (.int 0)))) (i5 Q0 (a9 (c9 (a6 0) (uC (.int 2))) e9)))) (p9 (c9 (a6 0) (uC (.int 0))))))
def ER:g4:=(r8 (p9 (Ws (wo (a6 1)) (c9 (a6 1) (uC (.int 0))) (uC .o6))))
def FK:g4:=(e5 (n9 1 (i5 cJ (a9 (a6 0) (a9 (i5 gv (a9 (a6 0) e9)) e9)))) ER)
def Wi(q:D)(b:Bd):Prop:=∃x y:D,q=.tup [x,y]/\Bp x (b.gs.map gD)/\Bp y (b.ls.map lD)
noncomputable def kQ(b:Bd)(a:ZT):List (Key×D):=a.map λx=>(.inr x,.fz ((l4 b x).map D.str))
def W8(u t:Int):Prop:=1<=u/\u<=10^50+3/\1<=t/\t<=10^40
structure VZ(gs:List Gd)(u t:Int):Prop where
 c1:∀g∈gs,∀p∈g.cv,p.1<=46*u
 c2:∀g∈gs,∀p∈g.cv,p.2<=15*t
 de:∀g∈gs,g.de<=3*t
 wa:∀g∈gs,g.wa<=2*t
structure Vu(ls:List Ld)(u t:Int):Prop where
 la:∀l∈ls,l.la<=3*u
 cs:∀l∈ls,∀p∈l.cs,p.1<=3*t/\p.2<=11*u
structure UW(b:Bd)(u t:Int):Prop where
 g8:b.gs.length<=8
 l8:b.ls.length<=8
 c1:∀g∈b.gs,∀p∈g.cv,p.1<=70*u
 c2:∀g∈b.gs,∀p∈g.cv,p.2<=15*t
 de:∀g∈b.gs,g.de<=3*t
 wa:∀g∈b.gs,g.wa<=2*t
 ls:Vu b.ls u t
noncomputable def T1(g:Gd)(n:Int):Gd:={ g with cv:=g.cv.map λp=>(p.1+n,p.2) }
def bj:Cp:=λa Q=>∃(q:D) (b:Bd),a=[q]/\Wi q b/\j5 b/\Q (.dic (kQ b (j7 b++L9 b)))
def U1:Cm:=λb Q=>∃(c d k u t:Int),b=[feed c d k,.int u,.int t]/\0<=k/\k<=10^6/\W8 u t/\∀(cv:List Pr) (e a:Int),M1 cv->(∀p∈cv,p.1<=46*u)->(∀p∈cv,p.2<=15*t)->k<=a->a<=k+50->Q (mh cv) (feed c e a)
def V6:Cp:=λa Q=>∃(g:Gd) (n:Int),a=[gD g,.int n]/\g.cv.length<=5/\Q (gD (T1 g n))
def W6:Cp:=λa Q=>∃(q:D) (b:Bd),a=[q]/\Wi q b/\j5 b/\Q (.dic (i6 b (j8 b)))
def P2:Cp:=λb Q=>∃(d:D) (ns:ZW) (a:ZT) (u t:Int),b=[d,kS a,.int u,.int t]/\MZ d ns/\1<=a.length/\a.length<=8/\a.Nodup/\W8 u t/\∀gs:List Gd,gs.map (·.nm)=a->MM gs->(∀g∈gs,M1 g.cv)->(∀g∈gs,0<=g.de)->(∀g∈gs,0<=g.wa)->VZ gs u t->Q (.lst (gs.map gD))
def U4:Cp:=λb Q=>∃(d:D) (ns:ZW) (a:ZT) (gs:List Gd) (u t:Int),b=[d,kS a,.lst (gs.map gD),.int u,.int t]/\MZ d ns/\1<=gs.length/\gs.length<=8/\a.length<=8/\W8 u t/\∀ls:List Ld,ls.map (·.nm)=a->(∀l∈ls,l.cs.length<=4)->(∀l∈ls,∀p∈l.cs,1<=p.1/\0<=p.2)->(∀l∈ls,0<=l.la)->(∀l∈ls,∃g∈gs,g.nm=l.at_)->Vu ls u t->Q (.lst (ls.map lD))
def S9:Cp:=λa Q=>∃(d:D) (ns:ZW) (u t:Int),a=[d,.int u,.int t]/\MZ d ns/\W8 u t/\∀b,j5 b->UW b u t->Q (bD b)
def cQ:Cp:=λa Q=>∃(d:D) (ns:ZW),a=[d]/\MZ d ns/\∀(b:Bd) (u t:Int),j5 b->UW b u t->W8 u t->Q (.tup [bD b,.int u])
noncomputable def Dr(b:Bd)(x:Str):Gd:=(b.gs.find? λg=>decide (g.nm=x)).getD ⟨x,none,[],0,0⟩
noncomputable def cu(b:Bd)(x:Str):Bool:=b.ls.any λl=>decide (l.nm=x)&&!l.on
noncomputable def C7(b:Bd)(x:Str):List (Gd×Int):=bif cu b x then[] else(l4 b x).map λy=>(Dr b y,j8 b y)
noncomputable def aT(ps:List (Gd×Int)):D:=.lst (ps.map λr=>.tup [gD r.1,.int r.2])
structure jB(ps:List (Gd×Int)):Prop where
 len:ps.length<=16
 cv:∀r∈ps,M1 r.1.cv
noncomputable def W7(cv:List Pr)(n:Int):Option Int:=((cv.filter λp=>decide (p.1<=n)).getLast?).map (·.2)
noncomputable def V3:Option Int->D
 | none=>.o6
 | some n=>.int n
structure lL(ps:List (Gd×Int))(m:Int)(ls:ZW):Prop where
 up:ls.Pairwise (·<·)
 mem:∀x,x∈ls ↔ x=1\/∃r∈ps,∃s∈r.1.cv,x=s.1-r.2/\x<=m
def dF:Cp:=λa Q=>∃(b:Bd),a=[bD b]/\j5 b/\Q (yL (D7 b (j8 b)))
def dM:Cp:=λa Q=>∃(b:Bd) (x:Str),a=[bD b,.str x]/\j5 b/\x∈j7 b++L9 b/\Q (aT (C7 b x))
def au:Cp:=λa Q=>∃(b:Bd),a=[bD b]/\j5 b/\Q (kS (j7 b++L9 b))
def bF:Cp:=λb Q=>∃(a:List (Gd×Int)) (m:Int),b=[aT a,.int m]/\jB a/\a.length<=8/\∀ls,lL a m ls->Q (.lst (ls.map D.int))
def jH:Cm:=λe Q=>∃(c d k u:Int) (a:List (Gd×Int)),e=[feed c d k,aT a,.int u]/\0<=k/\k<=10^6/\1<=u/\u<=10^50+3/\jB a/\∀(m g b:Int),1<=m->(m<10^60\/∃r∈a,∃s∈r.1.cv,m<=s.1-r.2+1)->k<=b->b<=k+5->Q (.int m) (feed c g b)
def U8:Cp:=λb Q=>∃(a:List (Gd×Int)) (i n:Int),b=[aT a,.int i,.int n]/\jB a/\0<=i/\i<a.length/\∀r,a[i.toNat]?=some r->Q (V3 (W7 r.1.cv (r.2+n)))
def K7:Cp:=λa Q=>∃(b:Bd),a=[bD b]/\j5 b/\D7 b (j8 b)=[]/\Q (.dic (i6 b (j8 b)))
def bO:Cp:=λa Q=>∃(b:Bd) (x:Str),a=[bD b,.str x]/\j5 b/\x∈j7 b++L9 b/\D7 b (j8 b)=[]/\Q (aT (C7 b x))
def J8:Cp:=λa Q=>∃(g:Gd) (n:Int),a=[.tup [gD g,.int n]]/\M1 g.cv/\Q (.int (lo g.cv-n))
noncomputable def gZ(cv:List Pr)(n:Int):Int:=(cv.filter λp=>decide (p.1<=n)).length
def wR:Cp:=λa Q=>∃(cv:List Pr) (n:Int),a=[.tup (cv.map pr),.int n]/\M1 cv/\Q (.int (gZ cv n))
def U5:Cp:=λa Q=>∃(cv:List Pr) (n:Int),a=[.tup (cv.map pr),.int n]/\M1 cv/\Q (V3 (W7 cv n))
def aE:Cp:=λb Q=>∃(a:List (Gd×Int)) (m:Int),b=[aT a,.int m]/\jB a/\a.length<=8/\∀ls,lL a m ls->Q (.lst (ls.map D.int))
noncomputable def G1(r:Gd×Int)(n:Int)(a:Bool):Option Int:=(W7 r.1.cv (r.2+n)).map λt=>bif a then t+r.1.wa else t
noncomputable def x5(n:Int):Bool->List (Gd×Int)->List (Option Int)
 | _,[]=>[]
 | a,r::b=>G1 r n a::x5 n (W7 r.1.cv (r.2+n)).isSome b
def V2:Cp:=λb Q=>∃(a:List (Gd×Int)) (n:Int),b=[aT a,.int n]/\jB a/\Q (.lst ((x5 n false a).map V3))
def Tx:g4:=(r8 (W3 cx (a9 (lB [none,some 1] (A5 (a6 0)) (g1 0) (uT (o5 xW (c9 (a6 0) (uC (.int 0))) (a6 1))) (p9 (a6 0))) e9)))
def lN:g4:=(r8 (uC .o6))
def xA:g4:=(r8 (p9 (c9 (c9 (a6 0) (o5 U0 (a6 2) (uC (.int 1)))) (uC (.int 1)))))
def vP:g4:=(e5 (aY (tP (uT (o5 (Z4 false) (a6 2) (uC (.int 0))))) lN y9) xA)
def tN:g4:=(e5 (n9 2 (i5 wR (a9 (a6 0) (a9 (a6 1) e9)))) vP)
def CI:g4:=(r8 (W3 rb (a9 (o5 p6 (U9 (a9 (uC (.int 1)) e9)) (lB [none,some 1] (A5 (a6 2)) (g1 0) (uT (o5 xW (a6 0) (a6 1))) (p9 (a6 0)))) e9)))
def Am:g4:=(e5 (n9 2 (Ug [none,none,none] (A5 (a6 0)) (gT (j4 (g1 0) (j4 (g1 1) J9))) R1 (tupI (c9 (a6 0) (uC (.int 2)))) (g1 2) R1 (o5 U0 (c9 (a6 2) (uC (.int 0))) (a6 1)))) CI)
def lu:g4:=(NX 6 (λi j=>i+j) (c9 (a6 4) (uC (.int 4))))
def X6:g4:=(U6 (eK 2 (mP (p9 (a6 6)))))
def lS:g4:=(e5 (aY (tP (fT (uT (o5 (Q3 true) (a6 6) (uC .o6))) (fT (uT (o5 LQ (a6 3) (uC (.int 0)))) (uT (o5 (Q3 true) (c9 (a6 2) (o5 U0 (a6 3) (uC (.int 1)))) (uC .o6)))))) lu y9) X6)
def lA:g4:=(e5 (n9 6 (i5 U5 (a9 (c9 (a6 4) (uC (.int 2))) (a9 (o5 p6 (a6 5) (a6 1)) e9)))) lS)
def vR:g4:=(r8 (a6 2))
def xw:g4:=(e5 (D9 (iP (SG (a6 0))) (gT (j4 (g1 3) (j4 (gT (j4 (g1 4) (j4 (g1 5) J9))) J9))) lA) vR)
def vj:g4:=(e5 (n9 2 (U9 e9)) xw)
def uW:g4:=(r8 (lB [none] (A5 (a6 0)) (g1 0) R1 (p9 (c9 (a6 0) (uC (.int 0))))))
def uL:g4:=(n9 1 (c9 (a6 2) (a6 1)))
def uU:g4:=(e5 (U6 (eK 4 (mP (p9 (a6 1))))) uL)
def DG:g4:=(r8 (a6 4))
def EB:g4:=(e5 (Ij (tP (uT (o5 (Q3 true) (a6 1) (uC .o6)))) uU) DG)
def sO:g4:=(e5 (n9 4 (U9 e9)) EB)
def ED:g4:=(e5 (n9 2 (Nd [none] (A5 (a6 0)) (g1 0) R1 (c9 (a6 0) (uC (.int 0))) (c9 (a6 0) (uC (.int 1))))) sO)
def nQ:g4:=(r8 (i5 P8 (a9 (c9 (a6 0) (uC (.int 0))) e9)))
def sk:g4:=(r8 (i5 P8 (a9 (c9 (a6 0) (uC (.int 1))) e9)))
def oq:g4:=(r8 (LN (W3 PH (a9 (a6 1) (a9 (uC (.ty "str")) e9))) (o5 (sP false) (a6 1) (i5 B6 (a9 (a6 0) e9)))))
def tq:g4:=(r8 (LN (W3 PH (a9 (a6 1) (a9 (uC (.ty "str")) e9))) (o5 (sP false) (a6 1) (i5 U3 (a9 (a6 0) e9)))))
def nH:g4:=(r8 (Vm (i5 O9 (a9 (a6 0) (a9 (a6 1) e9))) (i5 T3 (a9 (a6 0) (a9 (a6 1) e9)))))
def di:Cp:=λa Q=>∃(b:Bd) (x:Str),a=[bD b,.str x]/\j5 b/\x∈j7 b++L9 b/\Q (kS (l4 b x))
def sL:g4:=qt
def Hw:g4:=(r8 (i5 cH (a9 (c9 (a6 0) (uC (.int 0))) (a9 (jF (a6 2) (a6 1) (a6 1)) e9))))
def DS:g4:=(e5 (n9 2 (Nd [none] (A5 (c9 (a6 0) (uC (.int 1)))) (g1 0) R1 (c9 (a6 0) (uC (.int 0))) (c9 (a6 0) (uC (.int 1))))) Hw)
def EF:g4:=(e5 (aY (tP (Gv (wo (i5 O3 (a9 (a6 0) (a9 (a6 1) e9)))))) sL y9) DS)
def sv:g4:=(r8 (p9 (c9 (a6 2) (uC (.int 0)))))
def qH:g4:=(aY (tP (uT (o5 Wf (c9 (a6 1) (c9 (a6 2) (uC (.int 0)))) (c9 (c9 (c9 (a6 2) (uC (.int 2))) (uC (.int 0))) (uC (.int 0)))))) sv y9)
def IS:g4:=(r8 (uC .o6))
def Em:g4:=(e5 (D9 (iP (A5 (c9 (a6 0) (uC (.int 0))))) (g1 2) qH) IS)
def Fj:g4:=(e5 (n9 1 (i5 W6 (a9 (a6 0) e9))) Em)
def yj:g4:=(r8 (U9 e9))
def vV:g4:=(aY (tP (fT (uT (o5 (Z4 false) (c9 (a6 4) (uC (.int 0))) (a6 1))) (Gv (wo (c9 (a6 4) (uC (.int 4))))))) yj y9)
def As:g4:=(r8 (lB [none,some 2,some 3] (A5 (c9 (i5 bj (a9 (a6 0) e9)) (a6 1))) (g1 0) R1 (X0 (a9 (p9 (c9 (a6 1) (a6 0))) (a9 (p9 (c9 (a6 2) (a6 0))) e9)))))
def Mv:g4:=(e5 (D9 (iP (A5 (c9 (a6 0) (uC (.int 1))))) (g1 4) vV) As)
def Mq:g4:=(e5 (n9 3 (i5 W6 (a9 (a6 0) e9))) Mv)
def NO:g4:=(e5 (n9 2 (W3 pf (a9 (lB [none] (A5 (c9 (a6 0) (uC (.int 0)))) (g1 0) R1 (X0 (a9 (p9 (c9 (a6 0) (uC (.int 0)))) (a9 (p9 (a6 0)) e9)))) e9))) Mq)
def Ai:g4:=(r8 (o5 p6 (lB [none] (A5 (c9 (a6 0) (uC (.int 0)))) (g1 0) R1 (p9 (c9 (a6 0) (uC (.int 0))))) (lB [none] (A5 (c9 (a6 0) (uC (.int 1)))) (g1 0) R1 (p9 (c9 (a6 0) (uC (.int 0)))))))
def qK:g4:=(ay 2 (mP (uC (.bl true))) (mP (o5 U0 (c9 (a6 5) (uC (.int 0))) (a6 4))))
def vE:g4:=(aY (tP (uT (o5 xW (o5 U0 (c9 (a6 5) (uC (.int 0))) (a6 4)) (a6 1)))) qK y9)
def vh:g4:=(D9 (iP (A5 (c9 (a6 3) (uC (.int 2))))) (g1 5) vE)
def Jo:g4:=(r8 (W3 NM (a9 (W3 HR (a9 (a6 2) e9)) e9)))
def Fi:g4:=(e5 (D9 (iP (A5 (a6 0))) (gT (j4 (g1 3) (j4 (g1 4) J9))) vh) Jo)
def Jq:g4:=(e5 (n9 2 (Fh (uC (.int 1)) (uC (.bl true)))) Fi)
def wK:g4:=(r8 (o5 U0 (o5 JQ (uC (.int 10)) (uC (.int 60))) (uC (.int 1))))
def kJ:g4:=(Ht (bL p6 (mP (uC (.int 1))) (bL J3 (w8 0 u5 (l3 (mP (uC (.int 60))) y8)) (mP (a6 2)))))
def Kk:g4:=(Ht (SJ (QR λi j=>if j>i then j else i) (l3 (mP (uC (.int 1))) (l3 (bL p6 (mP (o5 U0 (o5 U0 (c9 (a6 6) (uC (.int 0))) (a6 5)) (uC (.int 1)))) (w8 0 u5 (l3 (mP (uC (.int 3))) y8))) y8))))
def JT:g4:=(e5 (J0 6 (xI (lJ (mP (c9 (a6 4) (uC (.int 2)))) (w8 0 u5 (l3 (mP (W3 cx (a9 (c9 (a6 4) (uC (.int 2))) e9))) y8))))) Kk)
def Ae:g4:=(e5 (Nf (gT (j4 (g1 4) (j4 (g1 5) J9))) (lJ (mP (a6 1)) (w8 0 u5 (l3 (mP (W3 cx (a9 (a6 1) e9))) y8)))) JT)
def Mj:g4:=(e5 (aY (tP (RP (uT (o5 RU (a6 3) (uC (.int 3)))) (uT (o5 (Z4 false) (W3 cx (a9 (a6 1) e9)) (uC (.int 0)))))) kJ y9) Ae)
def Na:g4:=(e5 (aY (tP (uT (o5 (Z4 false) (a6 3) (uC (.int 0))))) wK y9) Mj)
def Nt:g4:=(e5 (J0 3 (w8 0 u5 (l3 (mP (uC (.int 8))) y8))) Na)
def uo:g4:=(r8 (uC .o6))
def IX:g4:=(r8 (p9 (c9 (a6 5) (RQ Cv (uC (.int 1))))))
def Gp:g4:=(e5 (aY (tP (uT (o5 (Z4 false) (W3 cx (a9 (a6 5) e9)) (uC (.int 0))))) uo y9) IX)
def Js:g4:=(e5 (n9 5 (lB [none,some 4,some 2] (A5 (c9 (a6 3) (uC (.int 2)))) (g1 0) (uT (o5 xW (c9 (a6 0) (uC (.int 0))) (o5 p6 (a6 1) (a6 2)))) (p9 (c9 (a6 0) (uC (.int 1)))))) Gp)
def HI:g4:=(e5 (DK (gT (j4 (g1 3) (j4 (g1 4) J9))) (c9 (a6 0) (a6 1))) Js)
def gU:g4:=qt
def pD:g4:=(r8 (i5 gv (a9 (a6 0) e9)))
def pK:g4:=(e5 (aY (tP (uT (o5 (Q3 true) (a6 1) (uC .o6)))) gU y9) pD)
def kd:g4:=(e5 (n9 1 (i5 dm (a9 (a6 0) e9))) pK)
def vg:g4:=(r8 (U9 e9))
def Gs:g4:=(r8 (lB [none,some 4,some 3] (A5 (a6 2)) (g1 0) R1 (X0 (a9 (p9 (c9 (a6 1) (a6 0))) (a9 (p9 (c9 (a6 2) (a6 0))) e9)))))
def Ib:g4:=(e5 (n9 4 (Nd [none] (A5 (c9 (a6 0) (uC (.int 0)))) (g1 0) R1 (c9 (a6 0) (uC (.int 0))) (a6 0))) Gs)
def Iq:g4:=(e5 (aY (tP (uT (o5 (sP false) (a6 1) (lB [none] (A5 (c9 (a6 0) (uC (.int 1)))) (g1 0) (Gv (wo (c9 (a6 0) (uC (.int 4))))) (p9 (c9 (a6 0) (uC (.int 0)))))))) vg y9) Ib)
def Fn:g4:=(e5 (n9 3 (i5 K7 (a9 (a6 0) e9))) Iq)
def Jl:g4:=(e5 (n9 2 (i5 di (a9 (a6 0) (a9 (a6 1) e9)))) Fn)
def xE:g4:=(r8 (o5 U0 (i5 Q0 (a9 (c9 (a6 1) (uC (.int 2))) e9)) (a6 2)))
def sE:g4:=(e5 (DK (gT (j4 (g1 1) (j4 (g1 2) J9))) (a6 0)) xE)
noncomputable def J1(ps:List (Gd×Int))(n:Int)(j:Nat):Option Int:=(ps[j]?).bind λr=>W7 r.1.cv (r.2+n)
noncomputable def N4(ps:List (Gd×Int))(i:Nat)(n:Int):Option Int:=match J1 ps n 0,J1 ps n i,ps[i]? with
 | some a,some b,some r=>some (a-(bif (J1 ps n (i-1)).isSome then b+r.1.wa else b)+1)
 | _,_,_=>none
noncomputable def l6(ps:List (Gd×Int))(i:Nat)(o:Option (Int×Int))(low:Int):Option (Int×Int):=match N4 ps i low with
 | none=>o
 | some k=>match o with
  | none=>some (k,low)
  | some (a,b)=>if a<k then some (k,low) else some (a,b)
open Classical in
def mz(ps:List (Gd×Int))(m:Int):ZW:=if h:∃l,lL ps m l then h.choose else[]
def Q2(ps:List (Gd×Int))(i:Nat)(m:Int):Option (Int×Int):=(mz ps m).foldl (l6 ps i) none
noncomputable def FU:Option (Int×Int)->D
 | none=>.o6
 | some (k,l)=>.tup [.int k,.int l]
def iK:Cp:=λb Q=>∃(a:List (Gd×Int)) (i:Nat) (n:Int),b=[aT a,.int i,.int n]/\jB a/\1<=i/\i<a.length/\Q (V3 (N4 a i n))
def C4:Cp:=λb Q=>∃(a:List (Gd×Int)) (i:Nat) (m:Int),b=[aT a,.int i,.int m]/\jB a/\a.length<=8/\1<=i/\i<a.length/\Q (FU (Q2 a i m))
noncomputable def C1(b:Bd)(x:Str)(o:Option (Int×Int))(i:Nat):List D:=match o,(C7 b x)[i]? with
 | some (k,l),some r=>[.tup [.str x,.str r.1.nm,.int k,.int l]]
 | _,_=>[]
def u7(b:Bd)(m:Int)(x:Str):List D:=(List.range ((C7 b x).length-1)).flatMap λk=>C1 b x (Q2 (C7 b x) (1+k) m) (1+k)
def U2:Cp:=λa Q=>∃(b:Bd) (m:Int),a=[bD b,.int m]/\j5 b/\b.gs.length<=8/\D7 b (j8 b)=[]/\Q (.lst ((j7 b).flatMap (u7 b m)))
def ak:Cp:=λa Q=>∃(b:Bd) (m:Int),a=[bD b,.int m]/\j5 b/\b.gs.length<=8/\Q (.lst ((j7 b).flatMap (u7 b m)))
def cS:g4:=(n9 3 (X0 (a9 (p9 (a6 6)) (a9 (p9 (a6 4)) e9))))
def cK:g4:=(aY (tP (RP (uT (o5 (Q3 false) (a6 3) (uC .o6))) (uT (o5 LQ (a6 6) (c9 (a6 3) (uC (.int 0))))))) cS y9)
def cO:g4:=(e5 (n9 6 (o5 p6 (o5 U0 (c9 (a6 5) (uC (.int 0))) (c9 (a6 5) (a6 1))) (uC (.int 1)))) cK)
def cL:g4:=(aY (tP (fT (uT (o5 (Q3 true) (c9 (a6 5) (uC (.int 0))) (uC .o6))) (uT (o5 (Q3 true) (c9 (a6 5) (a6 1)) (uC .o6))))) cO y9)
def cN:g4:=(e5 (n9 5 (i5 V2 (a9 (a6 0) (a9 (a6 4) e9)))) cL)
def gR:g4:=(r8 (p9 (a6 3)))
def gP:g4:=(e5 (D9 (iP (A5 (i5 aE (a9 (a6 0) (a9 (a6 2) e9))))) (g1 4) cN) gR)
def cD:g4:=(e5 (n9 3 (uC .o6)) gP)
def mj:g4:=(U6 (eK 2 (mP (X0 (a9 (p9 (a6 3)) (a9 (p9 (c9 (c9 (c9 (a6 4) (a6 5)) (uC (.int 0))) (uC (.int 0)))) (a9 (p9 (c9 (a6 6) (uC (.int 0)))) (a9 (p9 (c9 (a6 6) (uC (.int 1)))) e9))))))))
def mf:g4:=(aY (tP (uT (o5 (Q3 true) (a6 6) (uC .o6)))) mj y9)
def lC:g4:=(e5 (n9 6 (i5 C4 (a9 (a6 4) (a9 (a6 5) (a9 (a6 1) e9))))) mf)
def lM:g4:=(D9 (iP (yY (a9 (uC (.int 1)) (a9 (W3 cx (a9 (a6 4) e9)) e9)))) (g1 5) lC)
def lH:g4:=(e5 (n9 4 (i5 bO (a9 (a6 0) (a9 (a6 3) e9)))) lM)
def wd:g4:=(r8 (a6 2))
def wB:g4:=(e5 (D9 (iP (A5 (i5 B6 (a9 (a6 0) e9)))) (g1 3) lH) wd)
def rR:g4:=(e5 (n9 2 (U9 e9)) wB)
def yJ:g4:=(r8 (uC .o6))
def yE:g4:=(n9 4 (o5 p6 (a6 4) (c9 (c9 (c9 (a6 0) (a6 1)) (uC (.int 0))) (uC (.int 4)))))
def Kw:g4:=(r8 (o5 p6 (o5 U0 (a6 3) (a6 4)) (uC (.int 1))))
def JW:g4:=(e5 (aY (tP (uT (o5 (Q3 true) (i5 U8 (a9 (a6 0) (a9 (o5 U0 (a6 1) (uC (.int 1))) (a9 (a6 2) e9)))) (uC .o6)))) yE y9) Kw)
def Jz:g4:=(e5 (aY (tP (RP (uT (o5 (Q3 false) (a6 3) (uC .o6))) (uT (o5 (Q3 false) (a6 4) (uC .o6))))) yJ y9) JW)
def JM:g4:=(e5 (n9 4 (i5 U8 (a9 (a6 0) (a9 (a6 1) (a9 (a6 2) e9))))) Jz)
def NF:g4:=(e5 (n9 3 (i5 U8 (a9 (a6 0) (a9 (uC (.int 0)) (a9 (a6 2) e9))))) JM)
noncomputable def wk(r:Gd×Int):Int:=lo r.1.cv-r.2
noncomputable def aI(m:Int):List (Gd×Int)->Option (Str×Int)
 | []=>none
 | p::a=>(a.find? λr=>decide (wk r<=m)&&decide (wk r<wk p)).map λr=>(r.1.nm,wk r)
noncomputable def aF(b:Bd)(m:Int)(xs:ZT):Option (Str×Str×Int):=xs.findSome? λx=>(aI m (C7 b x)).map λq=>(x,q.1,q.2)
noncomputable def UP:Option (Str×Str×Int)->D
 | none=>.o6
 | some (x,y,n)=>.tup [.str x,.str y,.int n]
def dg:Cp:=λa Q=>∃(b:Bd) (m:Int),a=[bD b,.int m]/\j5 b/\D7 b (j8 b)=[]/\Q (UP (aF b m (j7 b)))
def af:Cp:=λa Q=>∃(b:Bd) (m:Int),a=[bD b,.int m]/\j5 b/\1<=m/\Q (UP (aF b m (j7 b)))
def T4:Cp:=λc Q=>∃(b:Bd) (u t:Int),c=[bD b]/\j5 b/\UW b u t/\W8 u t/\∀a,j5 a->a.gs.length<=8->Q (bD a)
def iY:Cp:=λe Q=>∃(d:D) (ns:ZW),e=[d]/\MZ d ns/\∀(b:Bd) (m c g a:Int),j5 b->b.gs.length<=8->1<=m->m<=10^60->0<=a->a<=10^5->Q (.tup [bD b,.int m,feed c g a])
def qL:g4:=(r8 (X0 (a9 (p9 (a6 2)) (a9 (p9 (c9 (c9 (a6 5) (uC (.int 0))) (uC (.int 0)))) (a9 (i5 J8 (a9 (a6 5) e9)) e9)))))
def uE:g4:=(aY (tP (fT (uT (o5 xW (i5 J8 (a9 (a6 5) e9)) (a6 1))) (uT (o5 RU (i5 J8 (a9 (a6 5) e9)) (a6 4))))) qL y9)
def uj:g4:=(D9 (iP (A5 (BO (a6 3) (cE (uC (.int 1))) nU))) (g1 5) uE)
def tJ:g4:=(e5 (n9 4 (i5 J8 (a9 (c9 (a6 3) (uC (.int 0))) e9))) uj)
def gO:g4:=(e5 (n9 3 (i5 bO (a9 (a6 0) (a9 (a6 2) e9)))) tJ)
def EJ:g4:=(r8 (uC .o6))
def Ip:g4:=(e5 (D9 (iP (A5 (i5 B6 (a9 (a6 0) e9)))) (g1 2) gO) EJ)
def lP:g4:=(Fm 2 (mP (W3 (QR λi j=>if j>i then j else i) (a9 (vX (a6 2) (c9 (a6 4) (uC (.int 1))) (uC (.int 0))) (a9 (a6 6) e9)))) (mP (c9 (a6 4) (uC (.int 1)))))
def lK:g4:=(e5 (U6 (eK 3 (mP (i5 V6 (a9 (a6 4) (a9 (o5 U0 (a6 6) (a6 5)) e9)))))) lP)
def lX:g4:=(e5 (n9 6 (W3 (QR λi j=>if j>i then j else i) (a9 (vX (a6 2) (c9 (a6 4) (uC (.int 0))) (uC (.int 0))) (a9 (a6 5) e9)))) lK)
def lU:g4:=(e5 (n9 5 (o5 U0 (c9 (c9 (c9 (a6 4) (uC (.int 2))) (uC (.int 0))) (uC (.int 0))) (c9 (a6 1) (c9 (a6 4) (uC (.int 0)))))) lX)
def xR:g4:=(r8 (X0 (a9 (W3 cY (a9 (Ng (a6 3) (cE (RQ Cv (uC (.int 1))))) e9)) (a9 (p9 (c9 (a6 0) (uC (.int 1)))) e9))))
def yK:g4:=(e5 (D9 (iP (A5 (FG (c9 (a6 0) (uC (.int 0))) (cE (RQ Cv (uC (.int 1))))))) (g1 4) lU) xR)
def yS:g4:=(e5 (n9 3 (U9 e9)) yK)
def vY:g4:=(e5 (n9 2 (uC (.dn []))) yS)
def rH:g4:=(e5 (n9 1 (i5 W6 (a9 (a6 0) e9))) vY)
def yO:g4:=(n9 1 (i5 T4 (a9 (a6 1) e9)))
def Ke:g4:=(NV 3 (mP (p9 (a6 1))) (w8 3 jH (l3 (Nz dM (l3 (mP (a6 1)) (l3 (lJ (mP (a6 4)) (w8 3 u5 (l3 (mP (W3 cx (a9 (a6 4) e9))) y8))) y8))) (l3 (mP (a6 2)) y8))))
def Av:g4:=(e5 (n9 4 (i5 au (a9 (a6 1) e9))) Ke)
def Mw:g4:=(e5 (aY (mT (bL LQ (w8 3 u5 (l3 (mP (uC (.int 4))) y8)) (mP (uC (.int 0))))) yO y9) Av)
def KU:g4:=(e5 (n9 3 (i5 aM (a9 (a6 0) (a9 (uC (.int 19)) e9)))) Mw)
def Oh:g4:=(e5 (DK (gT (j4 (g1 1) (j4 (g1 2) J9))) (i5 cQ (a9 (a6 0) e9))) KU)
def pd:g4:=(r8 (X0 (a9 (p9 (c9 (a6 2) (uC (.int 0)))) (a9 (p9 (c9 (c9 (c9 (a6 3) (a6 4)) (uC (.int 0))) (uC (.int 0)))) (a9 (p9 (a6 5)) e9)))))
def eu:g4:=(aY (tP (fT (uT (o5 (Q3 true) (i5 U8 (a9 (a6 3) (a9 (a6 4) (a9 (a6 5) e9)))) (uC .o6))) (uT (o5 (Q3 false) (i5 U8 (a9 (a6 3) (a9 (uC (.int 0)) (a9 (a6 5) e9)))) (uC .o6))))) pd y9)
def qp:g4:=(D9 (iP (A5 (i5 bF (a9 (a6 3) (a9 (a6 1) e9))))) (g1 5) eu)
def oO:g4:=(D9 (iP (yY (a9 (uC (.int 1)) (a9 (W3 cx (a9 (a6 3) e9)) e9)))) (g1 4) qp)
def eL:g4:=(e5 (n9 3 (i5 dM (a9 (a6 0) (a9 (c9 (a6 2) (uC (.int 0))) e9)))) oO)
def CP:g4:=(r8 (uC .o6))
def zr:g4:=(e5 (D9 (iP (A5 (c9 (a6 0) (uC (.int 0))))) (g1 2) eL) CP)
abbrev Pa:=Str×Str×Int×Int
noncomputable def AB(r:Pa):D:=.tup [.str r.1,.str r.2.1,.int r.2.2.1,.int r.2.2.2]
noncomputable def Gk(b:Bd)(x:Str)(o:Option (Int×Int))(i:Nat):List Pa:=match o,(C7 b x)[i]? with
 | some (k,l),some r=>[(x,r.1.nm,k,l)]
 | _,_=>[]
def mm(b:Bd)(m:Int):List Pa:=(j7 b).flatMap λx=>(List.range ((C7 b x).length-1)).flatMap λk=>Gk b x (Q2 (C7 b x) (1+k) m) (1+k)
def bA(xs:ZT)(r:Pa):Prop:=∃i j:Nat,i<j/\xs[i]?=some r.2.1/\xs[j]?=some r.1
structure IsL(xs:ZT)(rs:List Pa)(f:Str->Int):Prop where
 nn:∀x∈xs,0<=f x
 ge:∀r∈rs,f r.1+r.2.2.1<=f r.2.1
 at_:∀x∈xs,0<f x->∃r∈rs,r.2.1=x/\f r.1+r.2.2.1=f x
noncomputable def aG(f:Str->Int)(x:Str)(r:Pa):Bool:=decide (r.2.1=x)&&decide (f r.1+r.2.2.1=f x)
noncomputable def D5(rs:List Pa)(f:Str->Int)(x:Str):List D:=bif decide (f x>0) then((rs.find? (aG f x)).map λr=>D.tup [.str x,.str r.1,.int r.2.2.2]).toList else[]
def D0:Cp:=λa Q=>∃(b:Bd) (m:Int),a=[bD b,.int m]/\j5 b/\b.gs.length<=8/\D7 b (j8 b)=[]/\aF b m (j7 b)=none/\Q (.lst ((mm b m).map AB))
def S8:Cp:=λc Q=>∃(b:Bd) (a:List Pa),c=[bD b,.lst (a.map AB)]/\j5 b/\(∀r∈a,bA (j7 b) r)/\∀f,IsL (j7 b) a f->Q (.dic (i6 b f))
def br:Cp:=λa Q=>∃(b:Bd) (m:Int),a=[bD b,.int m]/\j5 b/\b.gs.length<=8/\D7 b (j8 b)=[]/\aF b m (j7 b)=none/\∀f,IsL (j7 b) (mm b m) f->Q (.lst ((j7 b).flatMap (D5 (mm b m) f)))
def aB:Cp:=λc Q=>∃(b:Bd) (a:List Pa),c=[bD b,.lst (a.map AB)]/\j5 b/\(∀r∈a,bA (j7 b) r)/\∀f,IsL (j7 b) a f->Q (.dic (i6 b f))
def cU:Cp:=λc Q=>∃(b:Bd) (a:List Pa),c=[bD b,.lst (a.map AB)]/\j5 b/\(∀r∈a,bA (j7 b) r)/\∀f,IsL (j7 b) a f->Q (.lst ((j7 b).flatMap (D5 a f)))
def dC:Cp:=λa Q=>∃(d:D) (ns:ZW),a=[d]/\MZ d ns/\ns.length<=63/\Q (.bl true)
def dY:g4:=qt
def jI:g4:=(r8 (i5 U2 (a9 (a6 0) (a9 (a6 1) e9))))
def iS:g4:=(e5 (aY (tP (uT (o5 (Q3 true) (a6 2) (uC .o6)))) dY y9) jI)
def dQ:g4:=(e5 (n9 2 (i5 dg (a9 (a6 0) (a9 (a6 1) e9)))) iS)
def lp:g4:=(ay 2 (mP (W3 (QR λi j=>if j>i then j else i) (a9 (c9 (a6 2) (a6 3)) (a9 (o5 p6 (c9 (a6 2) (a6 4)) (a6 6)) e9)))) (mP (a6 3)))
def lY:g4:=(aY (tP (uT (o5 (Z4 false) (a6 5) (a6 3)))) lp y9)
def lq:g4:=(D9 (iP (A5 (a6 1))) (gT (j4 (g1 4) (j4 (g1 5) (j4 (g1 6) (j4 (g1 7) J9))))) lY)
def wq:g4:=(r8 (a6 2))
def wQ:g4:=(e5 (D9 (iP (Nh (i5 B6 (a9 (a6 0) e9)))) (g1 3) lq) wq)
def rW:g4:=(e5 (n9 2 (Nd [none] (A5 (i5 B6 (a9 (a6 0) e9))) (g1 0) R1 (a6 0) (uC (.int 0)))) wQ)
def qZ:g4:=(U6 (eK 4 (mP (p9 (c9 (a6 6) (uC (.int 0)))))))
def uJ:g4:=(aY (tP (uT (o5 LQ (c9 (a6 3) (a6 5)) (uC (.int 0))))) qZ y9)
def vB:g4:=(e5 (n9 6 (lB [none,none,none,none,some 5,some 3] (A5 (a6 2)) (gT (j4 (g1 0) (j4 (g1 1) (j4 (g1 2) (j4 (g1 3) J9))))) (fT (uT (o5 (Z4 false) (a6 1) (a6 4))) (uT (o5 (Z4 false) (o5 p6 (c9 (a6 5) (a6 0)) (a6 2)) (c9 (a6 5) (a6 4))))) (X0 (a9 (p9 (a6 4)) (a9 (p9 (a6 0)) (a9 (p9 (a6 3)) e9)))))) uJ)
def HW:g4:=(r8 (a6 4))
def Dy:g4:=(e5 (D9 (iP (A5 (i5 B6 (a9 (a6 0) e9)))) (g1 5) vB) HW)
def Eh:g4:=(e5 (n9 4 (U9 e9)) Dy)
def Ex:g4:=(e5 (n9 3 (i5 S8 (a9 (a6 0) (a9 (a6 2) e9)))) Eh)
def IH:g4:=(e5 (n9 2 (i5 D0 (a9 (a6 0) (a9 (a6 1) e9)))) Ex)
def pB:g4:=(ay 2 (mP (W3 (QR λi j=>if j>i then j else i) (a9 (c9 (a6 2) (a6 5)) (a9 (o5 p6 (c9 (a6 2) (a6 4)) (a6 6)) e9)))) (mP (a6 5)))
def fg:g4:=(D9 (iP (A5 (a6 1))) (gT (j4 (g1 4) (j4 (g1 5) (j4 (g1 6) (j4 (g1 7) J9))))) pB)
def Cc:g4:=(r8 (a6 2))
def nc:g4:=(e5 (D9 (iP (eQ (W3 cx (a9 (c9 (a6 0) (uC (.int 0))) e9)))) (g1 3) fg) Cc)
def zh:g4:=(e5 (n9 2 (W3 pf (a9 (lB [none] (A5 (c9 (a6 0) (uC (.int 0)))) (g1 0) R1 (X0 (a9 (p9 (c9 (a6 0) (uC (.int 0)))) (a9 (uC (.int 0)) e9)))) e9))) nc)
def sr:g4:=FY
def su:g4:=(e5 (U6 (eK 3 (mP (X0 (a9 (p9 (a6 5)) (a9 (p9 (a6 6)) (a9 (p9 (a6 9)) e9))))))) sr)
def qQ:g4:=(aY (tP (fT (uT (o5 (Z4 false) (a6 7) (a6 5))) (fT (uT (o5 (Z4 false) (o5 p6 (c9 (a6 2) (a6 6)) (a6 8)) (c9 (a6 2) (a6 5)))) (uT (o5 LQ (c9 (a6 2) (a6 5)) (uC (.int 0))))))) su y9)
def sT:g4:=(D9 (iP (A5 (a6 1))) (gT (j4 (g1 6) (j4 (g1 7) (j4 (g1 8) (j4 (g1 9) J9))))) qQ)
def qG:g4:=(e5 (n9 5 (c9 (a6 4) (uC (.int 0)))) sT)
def EZ:g4:=(r8 (a6 3))
def He:g4:=(e5 (D9 (iP (A5 (c9 (a6 0) (uC (.int 0))))) (g1 4) qG) EZ)
def HD:g4:=(e5 (n9 3 (U9 e9)) He)
def FX:g4:=(e5 (n9 2 (i5 aB (a9 (a6 0) (a9 (a6 1) e9)))) HD)
def qS:g4:=(n9 4 (lB [none,some 2,some 3] (eQ (a6 1)) (g1 0) R1 (o5 J3 (c9 (a6 1) (o5 iR (o5 p6 (a6 2) (a6 0)) (uC (.int 26)))) (o5 p6 (uC (.int 1)) (o5 JO (a6 0) (uC (.int 26)))))))
def qU:g4:=(U6 (eK 4 (mP (o5 p6 (Jf (uC (.str "")) (lB [none,some 2] (A5 (a6 11)) (g1 0) R1 (p9 (c9 (a6 1) (a6 0))))) (o5 J3 (c9 (a6 2) (a6 3)) (o5 J3 (a6 9) (o5 iR (a6 10) (uC (.int 2)))))))))
def uF:g4:=(e5 (Dc 11 (mP (o5 iR (o5 p6 (c9 (a6 6) (a6 8)) (o5 JO (a6 10) (uC (.int 26)))) (uC (.int 26)))) (mP (a6 8))) qU)
def qT:g4:=(e5 (Dc 11 (mP (o5 iR (o5 p6 (c9 (a6 6) (a6 7)) (a6 10)) (uC (.int 26)))) (mP (a6 7))) uF)
def rV:g4:=(e5 (n9 11 (W3 NY (a9 (a6 6) e9))) qT)
def rP:g4:=(D9 (iP (eQ (a6 1))) (g1 10) rV)
def uS:g4:=(e5 (n9 4 (U9 e9)) rP)
def uq:g4:=(e5 (J0 9 (bL J3 (w8 0 u5 (l3 (mP (uC (.int 2))) y8)) (mP (W3 uM (a9 (o5 RU (a6 5) (uC (.int 8))) e9))))) uS)
def sY:g4:=(e5 (J0 8 (bL iR (bL p6 (mP (o5 p6 (a6 7) (uC (.int 1)))) (w8 0 u5 (l3 (mP (o5 U0 (a6 5) (uC (.int 1)))) y8))) (mP (a6 5)))) uq)
def tm:g4:=(e5 (J0 7 (w8 0 u5 (l3 (mP (a6 5)) y8))) sY)
def tY:g4:=(e5 (J0 6 (Wo 1 0 [none,some 0] (iP (eQ (a6 5))) (g1 0) Si (w8 1 u5 (l3 (mP (uC (.int 26))) y8)))) tm)
def sf:g4:=(e5 (J0 5 (bL p6 (mP (uC (.int 2))) (w8 0 u5 (l3 (mP (uC (.int 7))) y8)))) tY)
def rZ:g4:=(Dc 4 (mP (p9 (a6 12))) (w8 0 u5 (l3 (mP (a6 1)) y8)))
def ES:g4:=(r8 (a6 4))
def tR:g4:=(e5 (aY (tP (fT (uT (o5 (Z4 true) (a6 12) (uC (.str "")))) (uT (o5 (sP true) (a6 12) (a6 4))))) rZ y9) ES)
def qC:g4:=(e5 (J0 12 (xI (lJ (mP (U9 (a9 (uC (.str "guard")) (a9 (uC (.str "load")) (a9 (uC (.str "on")) (a9 (uC (.str "off")) (a9 (uC (.str "board")) (a9 (uC (.str "map")) (a9 (uC (.str "least")) (a9 (uC (.str "")) (a9 (uC (.str "")) (a9 (uC (.str "")) (a9 (uC (.str "")) e9))))))))))))) (w8 0 u5 (l3 (mP (uC (.int 11))) y8))))) tR)
def ID:g4:=(e5 (aY (mT (bL (Z4 false) (w8 0 u5 (l3 (mP (uC (.int 5))) y8)) (mP (uC (.int 0))))) qS sf) qC)
def GP:g4:=(e5 (J0 3 (w8 0 u5 (l3 (mP (uC (.int 26))) y8))) ID)
def Hq:g4:=(e5 (n9 2 (uC (.str "abcdefghijklmnopqrstuvwxyz"))) GP)
def gJ:g4:=(ay 1 (mP (QK (o5 Ew (U9 (a9 (p9 (c9 (a6 2) (uC (.int 0)))) e9)) (jF (a6 1) (c9 (a6 2) (uC (.int 1))) (QK (U9 e9)))))) (mP (c9 (a6 2) (uC (.int 0)))))
def gA:g4:=(ay 1 (mP (p9 (c9 (a6 1) (c9 (a6 3) (uC (.int 1)))))) (mP (c9 (a6 3) (uC (.int 0)))))
def Ii:g4:=(r8 (a6 1))
def sJ:g4:=(e5 (D9 (iP (A5 (c9 (a6 0) (uC (.int 1))))) (g1 3) gA) Ii)
def Eb:g4:=(e5 (D9 (iP (A5 (c9 (a6 0) (uC (.int 0))))) (g1 2) gJ) sJ)
def DP:g4:=(e5 (n9 1 (uC (.dic []))) Eb)
def lF:g4:=(U6 (eK 5 (bL p6 (mP (o5 p6 (c9 (a6 5) (RQ Cv (uC (.int 1)))) (uC (.int 1)))) (w8 0 u5 (l3 (mP (uC (.int 3))) y8)))))
def lO:g4:=(e5 (U6 (eK 4 (bL p6 (mP (o5 p6 (c9 (a6 4) (RQ Cv (uC (.int 1)))) (uC (.int 1)))) (w8 0 u5 (l3 (mP (uC (.int 9))) y8))))) lF)
def kP:g4:=(r8 (W3 cY (a9 (lB [none,some 1,some 2,some 4,some 5,some 3] (eQ (a6 3)) (g1 0) R1 (X0 (a9 (o5 J3 (c9 (a6 3) (a6 0)) (a6 1)) (a9 (o5 J3 (c9 (a6 4) (o5 U0 (o5 U0 (a6 5) (uC (.int 1))) (a6 0))) (a6 2)) e9)))) e9)))
def wH:g4:=(e5 (D9 (iP (eQ (o5 U0 (a6 3) (uC (.int 1))))) (g1 6) lO) kP)
def xK:g4:=(e5 (J0 5 (JG (l3 (bL p6 (mP (uC (.int 1))) (w8 0 u5 (l3 (mP (uC (.int 3))) y8))) y8))) wH)
def xY:g4:=(e5 (J0 4 (JG (l3 (bL p6 (mP (uC (.int 1))) (w8 0 u5 (l3 (mP (uC (.int 10))) y8))) y8))) xK)
def qO:g4:=(e5 (J0 3 (bL p6 (mP (uC (.int 1))) (w8 0 u5 (l3 (mP (uC (.int 5))) y8)))) xY)
def zP:g4:=(r8 (o5 p6 (o5 p6 (BO (a6 0) nU (cE (uC (.int 2)))) (X0 (a9 (W3 cY (a9 (lB [none,some 1] (A5 (c9 (a6 0) (uC (.int 2)))) (g1 0) R1 (X0 (a9 (o5 p6 (c9 (a6 0) (uC (.int 0))) (a6 1)) (a9 (p9 (c9 (a6 0) (uC (.int 1)))) e9)))) e9)) e9))) (BO (a6 0) (cE (uC (.int 3))) nU)))
def vf:g4:=(ay 2 (mP (o5 p6 (c9 (a6 2) (a6 4)) (o5 J3 (c9 (a6 3) (uC (.int 3))) (W3 uM (a9 (c9 (a6 3) (uC (.int 4))) e9))))) (mP (a6 4)))
def gE:g4:=(D9 (iP (A5 (c9 (a6 1) (c9 (a6 3) (uC (.int 0)))))) (g1 4) vf)
def GD:g4:=(r8 (a6 2))
def rE:g4:=(e5 (D9 (iP (A5 (c9 (a6 0) (uC (.int 1))))) (g1 3) gE) GD)
def Fw:g4:=(e5 (n9 2 (W3 pf (a9 (lB [none] (A5 (c9 (a6 0) (uC (.int 0)))) (g1 0) R1 (X0 (a9 (p9 (c9 (a6 0) (uC (.int 0)))) (a9 (uC (.int 0)) e9)))) e9))) rE)
def Hj:g4:=(e5 (n9 1 (i5 bj (a9 (a6 0) e9))) Fw)
def iT:g4:=(U6 (eK 4 (KC (l3 (mP (p9 (c9 (a6 1) (a6 5)))) (l3 (mP (c9 (o5 p6 (U9 (a9 (uC .o6) e9)) (a6 1)) (a6 7))) (l3 (mP (p9 (a6 8))) (l3 (mP (p9 (a6 9))) (l3 (bL J3 (w8 6 u5 (l3 (mP (uC (.int 3))) y8)) (mP (a6 3))) y8))))))))
def kL:g4:=(e5 (J0 9 (bL J3 (w8 6 u5 (l3 (mP (uC (.int 4))) y8)) (mP (a6 3)))) iT)
def jz:g4:=(e5 (J0 8 (w8 6 U1 (l3 (mP (a6 2)) (l3 (mP (a6 3)) y8)))) kL)
def jK:g4:=(e5 (J0 7 (xI (lJ (JG (l3 (w8 6 u5 (l3 (mP (o5 p6 (a6 5) (uC (.int 1)))) y8)) (l3 (mP (p9 (a6 5))) y8))) (SJ uM (l3 (bL LQ (w8 6 u5 (l3 (mP (uC (.int 3))) y8)) (mP (uC (.int 0)))) y8))))) jz)
def iH:g4:=(e5 (n9 6 (i5 aM (a9 (a6 0) (a9 (o5 p6 (uC (.int 2)) (a6 5)) e9)))) jK)
def tW:g4:=(r8 (a6 4))
def uI:g4:=(e5 (D9 (iP (eQ (W3 cx (a9 (a6 1) e9)))) (g1 5) iH) tW)
def mV:g4:=(e5 (n9 4 (U9 e9)) uI)
def lz:g4:=(U6 (eK 9 (KC (l3 (bL J3 (bL p6 (mP (uC (.int 1))) (w8 7 u5 (l3 (mP (uC (.int 3))) y8))) (mP (a6 4))) (l3 (bL J3 (w8 7 u5 (l3 (mP (uC (.int 12))) y8)) (mP (a6 3))) y8)))))
def mi:g4:=(U6 (eK 5 (KC (l3 (mP (p9 (c9 (a6 1) (a6 6)))) (l3 (mP (p9 (a6 8))) (l3 (mP (W3 cY (a9 (a6 9) e9))) (l3 (bL J3 (w8 7 u5 (l3 (mP (uC (.int 4))) y8)) (mP (a6 3))) (l3 (bL LQ (w8 7 u5 (l3 (mP (uC (.int 4))) y8)) (mP (uC (.int 0)))) y8))))))))
def kT:g4:=(e5 (D9 (Sn (w8 7 u5 (l3 (mP (uC (.int 5))) y8))) (g1 10) lz) mi)
def lE:g4:=(e5 (n9 9 (U9 e9)) kT)
def lW:g4:=(e5 (J0 8 (xI (lJ (lJ (mP (a6 2)) (w8 7 u5 (l3 (mP (W3 cx (a9 (a6 2) e9))) y8))) (mP (uC (.int 0)))))) lE)
def lI:g4:=(e5 (n9 7 (i5 aM (a9 (a6 0) (a9 (o5 p6 (uC (.int 10)) (a6 6)) e9)))) lW)
def xj:g4:=(r8 (a6 5))
def vK:g4:=(e5 (D9 (iP (eQ (W3 cx (a9 (a6 1) e9)))) (g1 6) lI) xj)
def qV:g4:=(e5 (n9 5 (U9 e9)) vK)
def lh:g4:=(n9 6 (lB [none,some 8] (A5 (a6 6)) (g1 0) R1 (i5 V6 (a9 (a6 0) (a9 (c9 (a6 1) (c9 (a6 0) (uC (.int 0)))) e9)))))
def jl:g4:=(r8 (X0 (a9 (W3 cY (a9 (a6 6) e9)) (a9 (W3 cY (a9 (a6 7) e9)) e9))))
def wx:g4:=(e5 (aY (mT (bL LQ (w8 3 u5 (l3 (mP (uC (.int 8))) y8)) (mP (uC (.int 0))))) lh y9) jl)
def yU:g4:=(e5 (n9 8 (i5 W6 (a9 (X0 (a9 (a6 6) (a9 (a6 7) e9))) e9))) wx)
def xO:g4:=(e5 (n9 7 (i5 U4 (a9 (a6 0) (a9 (BO (a6 5) (cE (a6 4)) nU) (a9 (a6 6) (a9 (a6 1) (a9 (a6 2) e9))))))) yU)
def wM:g4:=(e5 (n9 6 (i5 P2 (a9 (a6 0) (a9 (BO (a6 5) nU (cE (a6 4))) (a9 (a6 1) (a9 (a6 2) e9)))))) xO)
def yA:g4:=(e5 (J0 5 (IF cP (mP (i5 aM (a9 (a6 0) (a9 (uC (.int 1)) e9)))) (l3 (bL p6 (mP (a6 4)) (w8 3 u5 (l3 (mP (uC (.int 9))) y8))) y8))) wM)
def xU:g4:=(e5 (J0 4 (bL p6 (mP (uC (.int 1))) (w8 3 u5 (l3 (mP (uC (.int 8))) y8)))) yA)
def rh:g4:=(e5 (n9 3 (i5 aM (a9 (a6 0) (a9 (uC (.int 0)) e9)))) xU)
def GR:g4:=(r8 (X0 (a9 (i5 S9 (a9 (a6 0) (a9 (a6 2) (a9 (a6 3) e9)))) (a9 (p9 (a6 2)) e9))))
def Ho:g4:=(e5 (J0 3 (xI (lJ (mP (U9 (a9 (uC (.int 1)) (a9 (uC (.int 1)) (a9 (uC (.int 5)) (a9 (o5 JQ (uC (.int 10)) (uC (.int 40))) e9)))))) (w8 1 u5 (l3 (mP (uC (.int 4))) y8))))) GR)
def FR:g4:=(e5 (J0 2 (xI (lJ (mP (U9 (a9 (uC (.int 1)) (a9 (uC (.int 1)) (a9 (uC (.int 7)) (a9 (o5 p6 (o5 JQ (uC (.int 10)) (uC (.int 50))) (uC (.int 3))) e9)))))) (w8 1 u5 (l3 (mP (uC (.int 4))) y8))))) Ho)
def Hx:g4:=(e5 (n9 1 (i5 aM (a9 (a6 0) (a9 (uC (.int 18)) e9)))) FR)
def pN:g4:=(n9 6 (X0 (a9 (p9 (c9 (a6 3) (uC (.int 0)))) (a9 (p9 (c9 (c9 (c9 (a6 4) (a6 5)) (uC (.int 0))) (uC (.int 0)))) (a9 (p9 (a6 8)) (a9 (p9 (a6 7)) e9))))))
def pO:g4:=(aY (tP (fT (uT (o5 (Q3 true) (a6 8) (uC .o6))) (RP (uT (o5 (Q3 false) (a6 6) (uC .o6))) (uT (o5 RU (c9 (a6 6) (uC (.int 2))) (a6 8)))))) pN y9)
def pW:g4:=(e5 (n9 8 (i5 iK (a9 (a6 4) (a9 (a6 5) (a9 (a6 7) e9))))) pO)
def pz:g4:=(U6 (eK 2 (mP (p9 (a6 6)))))
def eJ:g4:=(aY (tP (uT (o5 (Q3 true) (a6 6) (uC .o6)))) pz y9)
def qk:g4:=(e5 (D9 (iP (A5 (i5 bF (a9 (a6 4) (a9 (a6 1) e9))))) (g1 7) pW) eJ)
def pU:g4:=(e5 (n9 6 (uC .o6)) qk)
def pq:g4:=(D9 (iP (yY (a9 (uC (.int 1)) (a9 (W3 cx (a9 (a6 4) e9)) e9)))) (g1 5) pU)
def oH:g4:=(e5 (n9 4 (i5 dM (a9 (a6 0) (a9 (c9 (a6 3) (uC (.int 0))) e9)))) pq)
def Bl:g4:=(r8 (a6 2))
def CJ:g4:=(e5 (D9 (iP (A5 (c9 (a6 0) (uC (.int 0))))) (g1 3) oH) Bl)
def Ah:g4:=(e5 (n9 2 (U9 e9)) CJ)
def qD:g4:=(r8 (uC (.bl true)))
def tj:g4:=(r8 (uC (.bl false)))
def Du:g4:=(r8 (o5 (Z4 false) (W3 sx (a9 (i5 br (a9 (a6 1) (a9 (a6 2) e9))) e9)) (a6 4)))
def GV:g4:=(e5 (U6 (Sa 5)) Du)
def Fv:g4:=(e5 (aY (tP (uT (o5 (Z4 true) (W3 sx (a9 (a6 5) e9)) (a6 4)))) tj y9) GV)
def Jr:g4:=(e5 (n9 5 (i5 br (a9 (a6 1) (a9 (a6 2) e9)))) Fv)
def II:g4:=(e5 (n9 4 (W3 sx (a9 (i5 cU (a9 (a6 1) (a9 (i5 ak (a9 (a6 1) (a9 (a6 2) e9))) e9))) e9))) Jr)
def EW:g4:=(e5 (aY (tP (RP (uT (o5 (Q3 true) (i5 dF (a9 (a6 1) e9)) (uC .o6))) (uT (o5 (Q3 true) (i5 af (a9 (a6 1) (a9 (a6 2) e9))) (uC .o6))))) qD y9) II)
def Il:g4:=(e5 (DK (gT (j4 (g1 1) (j4 (g1 2) (j4 (g1 3) J9)))) (i5 iY (a9 (a6 0) e9))) EW)
noncomputable def top(i:Nat):Stmt:=PySem.Challenge.pw_fuseboard_k54_needs_told.main.body.getD i (.Pass ⟨0,0,0,0⟩)
abbrev kG:Stmt:=top 1
abbrev Kg:Stmt:=top 2
abbrev kh:Stmt:=top 3
abbrev eN:Stmt:=top 10
abbrev fD:Stmt:=top 11
abbrev jc:Stmt:=top 12
abbrev fA:Stmt:=top 13
abbrev jM:Stmt:=top 14
abbrev fG:Stmt:=top 15
abbrev pE:Stmt:=top 16
abbrev oR:Stmt:=top 17
abbrev dw:Stmt:=top 19
abbrev bU:Stmt:=top 21
abbrev wX:Stmt:=top 20
abbrev AG:Stmt:=top 22
abbrev qm:Stmt:=top 23
abbrev wb:Stmt:=top 24
abbrev cZ:Stmt:=top 25
abbrev gg:Stmt:=top 27
abbrev fe:Stmt:=top 28
abbrev jA:Stmt:=top 29
abbrev X2:Stmt:=top 32
abbrev ki:Stmt:=top 31
abbrev kz:Stmt:=top 34
abbrev xN:Stmt:=top 33
abbrev aC:Stmt:=top 37
abbrev dX:Stmt:=top 38
abbrev oZ:Stmt:=top 36
abbrev pY:Stmt:=top 40
abbrev Gy:Stmt:=top 41
abbrev IZ:Stmt:=top 42
abbrev gh:Stmt:=top 43
abbrev yB:Stmt:=top 44
abbrev eX:Stmt:=top 45
abbrev iE:Stmt:=top 46
abbrev qh:Stmt:=top 47
abbrev gq:Stmt:=top 48
abbrev iX:Stmt:=top 49
abbrev eY:Stmt:=top 50
abbrev sR:Stmt:=top 51
abbrev yR:Stmt:=top 53
abbrev yC:Stmt:=top 54
abbrev dR:Stmt:=top 55
abbrev vJ:Stmt:=top 56
abbrev EL:Stmt:=top 57
abbrev jj:Stmt:=top 58
abbrev FC:Stmt:=top 59
abbrev pC:Stmt:=top 60
abbrev HB:Stmt:=top 61
abbrev oX:Stmt:=top 62
abbrev qe:Stmt:=top 63
abbrev iA:Stmt:=top 64
abbrev wO:Stmt:=top 65
abbrev ai:Stmt:=top 66
abbrev TR:=HP "met" 1 ["curve","draw"] wR
abbrev kc:=HP "names_of" 1 ["rows"] P8
abbrev S4:=HP "guards_of" 2 ["board"] B6
abbrev qF:=HP "loads_of" 2 ["board"] U3
abbrev mQ:=HP "has_guard" 3 ["board","thing"] O9
abbrev sA:=HP "has_load" 3 ["board","thing"] T3
abbrev ot:=HP "has_place" 4 ["board","thing"] O3
abbrev DC:=HP "climb" 1 ["guards","name"] cH
abbrev kb:=HP "fed_guards" 1 ["board","opened"] K9
abbrev mY:=HP "draws_fed" 1 ["board","lit","pulls"] O4
abbrev FH:=HP "draws" 2 ["board","opened","pulls"] cW
abbrev iG:=HP "least_of" 1 ["curve"] Q0
abbrev Ds:=HP "rest" 3 ["board"] gv
abbrev DJ:=HP "awake" 2 ["board","found"] cJ
abbrev Je:=HP "loud" 4 ["board"] dm
abbrev Gw:=HP "over" 5 ["board","place"] di
abbrev jO:=HP "quiet_rest" 5 ["board"] K7
abbrev vG:=HP "turns_at" 2 ["curve","draw"] U5
abbrev zF:=HP "lows_of" 1 ["way","most"] aE
abbrev vt:=HP "spans_of" 3 ["way","greatness"] V2
abbrev yp:=HP "way_of" 6 ["board","place"] bO
abbrev cz:=HP "greatest_lack" 4 ["way","at","most"] C4
abbrev vb:=HP "wakes_at" 2 ["row"] J8
abbrev qY:=HP "pairs_of" 7 ["board","most"] U2
abbrev Gh:=HP "blind" 7 ["board","most"] dg
abbrev eS:=HP "seeing_pairs" 8 ["board","most"] D0
abbrev vA:=HP "least_by" 3 ["board","pairs"] S8
abbrev AA:=HP "_law_cell_at" 1 ["_law_script","_law_k"] aq
abbrev eO:=HM "_law_take" 1 ["_law_feed_here","_law_many"] u5
abbrev xx:=HP "_law_overs" 1 ["_law_board"] bj
abbrev nV:=HP "_law_feed" 2 ["_law_script","_law_k"] aM
abbrev ve:=HM "_law_small_curve" 2 ["_law_feed_here","_law_unit","_law_time"] U1
abbrev Ha:=HM "_law_names" 2 ["_law_feed_here","_law_many"] cP
abbrev qa:=HP "_law_lifted" 1 ["_law_guard","_law_more"] V6
abbrev ku:=HP "_law_rest" 2 ["_law_board"] W6
abbrev mG:=HP "_law_small_guards" 3 ["_law_script","_law_names_here","_law_unit","_law_time"] P2
abbrev uQ:=HP "_law_small_loads" 3 ["_law_script","_law_names_here","_law_guards","_law_unit","_law_time"] U4
abbrev vi:=HP "_law_small_board" 4 ["_law_script","_law_unit","_law_time"] S9
abbrev Aw:=HP "_law_path" 3 ["_law_board","_law_place"] dM
abbrev zE:=HP "_law_places" 1 ["_law_board"] au
abbrev HU:=HP "_law_sized" 5 ["_law_script"] cQ
abbrev NJ:=HM "_law_most" 2 ["_law_feed_here","_law_path_here","_law_unit"] jH
abbrev uP:=HP "_law_sighted" 3 ["_law_board"] T4
abbrev vM:=HP "_law_turns" 1 ["_law_path_here","_law_at","_law_greatness"] U8
abbrev yo:=HP "_law_lows" 1 ["_law_path_here","_law_most_here"] bF
abbrev NP:=HP "_law_lack" 2 ["_law_path_here","_law_at","_law_greatness"] iK
abbrev zJ:=HP "_law_least" 1 ["_law_board","_law_rows"] aB
abbrev HQ:=HP "needs" 9 ["board","most"] br
abbrev FE:=HP "_law_loud" 3 ["_law_board"] dF
abbrev Nu:=HP "_law_case" 6 ["_law_script"] iY
abbrev zu:=HP "_law_pairs" 4 ["_law_board","_law_most_here"] ak
abbrev zl:=HP "_law_blind" 4 ["_law_board","_law_most_here"] af
abbrev Jc:=HP "_law_due" 2 ["_law_board","_law_rows"] cU
section
variable{P:Program}{w:World}{K:AAD}{mg:ZZ}{base:Heap}
local macro_rules | `(tactic| walk_at "s") => `(tactic| exact ⟨rfl,rfl,rfl,by decide +kernel,rfl,by decide +kernel,by decide +kernel⟩)
theorem BD:g9 ["curve"] ["curve"] (c6 kG):=by walk_at "s"
theorem Cz (F:L6 K "least_of" "least_of" kG f c)
  (len:A3 Q0 1) (b:R8 Q0 uK 1):p7 P w K mg base J7 1 f c ["curve"] (N5 K Q0):=
 R9 (cl:=[.bor]) F BD rfl len (λd A outer e H E a=>(K4 rfl (o9 (PU.u3 (l7 a (l7 a (uv 0 rfl) a7) a7)) rfl))) b
theorem Tq:g9 ["curve","draw"] ["curve","draw"] (c6 Kg):=by walk_at "s"
theorem Qe:(["step","draw"]:ZT).Nodup:=by decide +kernel
theorem Uc (F:L6 K "met" "met" Kg f d) (a:mg "len"=none)
  (len:A3 wR 2) (b:R8 wR Tx 2):p7 P w K mg base J7 1 f d ["curve","draw"] (N5 K wR):=
 R9 (cl:=[.bor,.bor]) F Tq rfl len (λe A outer g H E c=>(K4 rfl (o9 (p3 B7 W0 (by rfl) a KF (a8 (U7 (XN:=["curve","draw"])  (XS:=c6 Kg)  (by decide +kernel) rfl rfl rfl rfl (j9 (uv 0 rfl)) (λ_ _ _ _=>(gn 0 Qe)) (λ_ _ _ _=>(df (iI (l7 c (uv 0 rfl) a7) (uv 1 rfl) (i7 _)))) (λ_ _ _ _=>(PU.u3 (uv 0 rfl)))) c7 rfl)) rfl))) b
theorem ou:g9 ["curve","draw","many"] ["curve","draw"] (c6 kh):=by walk_at "s"
theorem Cb (F:L6 K "turns_at" "turns_at" kh f g) (a:TR P w K mg base d c)
  (len:A3 U5 2) (e:R8 U5 tN 3):p7 P w K mg base J7 2 f g ["curve","draw"] (N5 K U5):=
 R9 (cl:=[.bor,.bor,.bor]) F ou rfl len (λh A outer i H E b=>(qA rfl (ss 2 ou.nd (pc a b (a8 (uv 0 rfl) (a8 (uv 1 rfl) c7 rfl) rfl) rfl) rfl)
   (G8 (P0.m (X3 b (uv 2 rfl) a7 (i7 _))) (K4 rfl (o9 u6 rfl)) A6)
   (o9 (PU.u3 (l7 b (l7 b (uv 0 rfl) (D8 (uv 2 rfl) a7)) a7)) rfl))) e
theorem Bm:g9 ["rows"] ["rows"] (c6 eN):=by walk_at "s"
theorem yQ:(["row"]:ZT).Nodup:=by decide +kernel
theorem Bb (F:L6 K "names_of" "names_of" eN f c)
  (len:A3 P8 1) (a:R8 P8 uW 1):p7 P w K mg base J7 1 f c ["rows"] (N5 K P8):=
 R9 (cl:=[.bor]) F Bm rfl len (λd A outer e H E b=>(K4 rfl (o9 (U7 (XN:=["rows"])  (XS:=c6 eN)  (by decide +kernel) rfl rfl rfl rfl (j9 (uv 0 rfl)) (λ_ _ _ _=>(gn 0 yQ)) (λ_ _ _ _=>C8) (λ_ _ _ _=>(PU.u3 (l7 b (uv 0 rfl) a7)))) rfl))) a
theorem xb:g9 ["board"] ["board"] (c6 fD):=by walk_at "s"
theorem vQ (F:L6 K "guards_of" "guards_of" fD f g) (a:kc P w K mg base c b)
  (len:A3 B6 1) (e:R8 B6 nQ 1):p7 P w K mg base J7 2 f g ["board"] (N5 K B6):=
 R9 (cl:=[.bor]) F xb rfl len (λh A outer i H E d=>(K4 rfl (o9 (pc a d (a8 (l7 d (uv 0 rfl) a7) c7 rfl) rfl) rfl))) e
theorem Bf:g9 ["board"] ["board"] (c6 jc):=by walk_at "s"
theorem Cy (F:L6 K "loads_of" "loads_of" jc f g) (a:kc P w K mg base c b)
  (len:A3 U3 1) (e:R8 U3 sk 1):p7 P w K mg base J7 2 f g ["board"] (N5 K U3):=
 R9 (cl:=[.bor]) F Bf rfl len (λh A outer i H E d=>(K4 rfl (o9 (pc a d (a8 (l7 d (uv 0 rfl) a7) c7 rfl) rfl) rfl))) e
theorem yv:g9 ["board","thing"] ["board","thing"] (c6 fA):=by walk_at "s"
theorem wj (F:L6 K "has_guard" "has_guard" fA f i) (b:S4 P w K mg base d c) (a:mg "isinstance"=none) (e:mg "str"=none)
  (len:A3 O9 2) (h:R8 O9 oq 2):p7 P w K mg base J7 3 f i ["board","thing"] (N5 K O9):=
 R9 (cl:=[.bor,.bor]) F yv rfl len (λj A outer l H E g=>(K4 rfl (o9 (yi (p3 gz Nj (by rfl) a ZB (a8 (uv 1 rfl) (a8 (NT (Ab  rfl e PyProof.Rows.boot_str rfl)) c7 rfl) rfl)) (iL (DI (C6 g) (uv 1 rfl) (pc b g (a8 (uv 0 rfl) c7 rfl) rfl) rfl))) rfl))) h
theorem Ci:g9 ["board","thing"] ["board","thing"] (c6 jM):=by walk_at "s"
theorem AK (F:L6 K "has_load" "has_load" jM f i) (b:qF P w K mg base d c) (a:mg "isinstance"=none) (e:mg "str"=none)
  (len:A3 T3 2) (h:R8 T3 tq 2):p7 P w K mg base J7 3 f i ["board","thing"] (N5 K T3):=
 R9 (cl:=[.bor,.bor]) F Ci rfl len (λj A outer l H E g=>(K4 rfl (o9 (yi (p3 gz Nj (by rfl) a ZB (a8 (uv 1 rfl) (a8 (NT (Ab  rfl e PyProof.Rows.boot_str rfl)) c7 rfl) rfl)) (iL (DI (C6 g) (uv 1 rfl) (pc b g (a8 (uv 0 rfl) c7 rfl) rfl) rfl))) rfl))) h
theorem ya:g9 ["board","thing"] ["board","thing"] (c6 fG):=by walk_at "s"
theorem yb (F:L6 K "has_place" "has_place" fG f j) (a:mQ P w K mg base e c) (b:sA P w K mg base g d)
  (len:A3 O3 2) (i:R8 O3 nH 2):p7 P w K mg base J7 4 f j ["board","thing"] (N5 K O3):=
 R9 (cl:=[.bor,.bor]) F ya rfl len (λl A outer o H E h=>(K4 rfl (o9 (Nc (pc a h (a8 (uv 0 rfl) (a8 (uv 1 rfl) c7 rfl) rfl) rfl) (iL (pc b h (a8 (uv 0 rfl) (a8 (uv 1 rfl) c7 rfl) rfl) rfl))) rfl))) i
abbrev zj:ZT:=["guards","name","unders","guard","found"]
theorem ip:g9 zj ["guards","name"] (c6 pE):=by walk_at "s"
theorem Iu:(["guard"]:ZT).Nodup:=by decide +kernel
theorem Kz (F:L6 K "climb" "climb" pE f d)
  (len:A3 cH 2) (b:R8 cH ED 5):p7 P w K mg base J7 1 f d ["guards","name"] (N5 K cH):=
 R9 (cl:=[.bor,.bor,.bor,.bor,.own]) F ip rfl len (λe A outer g H E a=>(IV rfl (ij  (XN:=zj)  (XS:=c6 pE)  ip.nd rfl rfl rfl (by decide +kernel) rfl rfl rfl rfl (j9 (uv 0 rfl)) (λ_ _ _ _=>(gn 0 Iu)) (λ_ _ _ _=>C8) (λ_ _ _ _=>(l7 a (uv 0 rfl) a7)) (λ_ _ _ _=>(l7 a (uv 0 rfl) a7)))
   (ss 4 ip.nd (B4 o7 rfl) rfl)
   (LG v2 (P0.m (A9 (uv 1 rfl) u6 (i7 _))) (lZ rfl (N1 (PM.n (A7 (r:=D2) 4 (pv 4) rfl (PU.m (PU.u3 (uv 1 rfl))) rfl (λc=>V7 xz PySem.F.slot_list_append PySem.F.type_list_append y1 (pv 4) c))))
   (ss 1 ip.nd (l7 a (uv 2 rfl) (uv 1 rfl)) rfl)))
   (K6 4 (pv 4) (by decide) rfl))) b
theorem zS:g9 ["board","place","ats","load"] ["board","place"] (c6 oR):=by walk_at "s"
theorem Gx:(["load"]:ZT).Nodup:=by decide +kernel
theorem LK (F:L6 K "over" "over" oR f l) (a:ot P w K mg base e c) (b:DC P w K mg base h g)
  (len:A3 di 2) (j:R8 di EF 4):p7 P w K mg base J7 5 f l ["board","place"] (N5 K di):=
 R9 (cl:=[.bor,.bor,.bor,.bor]) F zS rfl len (λo A outer p H E d=>(qA rfl (G8 (P0.m (oK (Y5 (pc a d (a8 (uv 0 rfl) (a8 (uv 1 rfl) c7 rfl) rfl) rfl) (λ_=>rfl)))) (K4 rfl pP) A6)
   (ij  (XN:=["board","place","ats","load"])  (XS:=c6 oR)  zS.nd rfl rfl rfl (by decide +kernel) rfl rfl rfl rfl (j9 (l7 d (uv 0 rfl) a7)) (λ_ _ _ _=>(gn 0 Gx)) (λ_ _ _ _=>C8) (λ_ _ _ _=>(l7 d (uv 0 rfl) a7)) (λ_ _ _ _=>(l7 d (uv 0 rfl) a7)))
   (o9 (pc b d (a8 (l7 d (uv 0 rfl) a7) (a8 (eV (C6 d) (uv 2 rfl) (uv 1 rfl) (uv 1 rfl) ⟨rfl,rfl,rfl,rfl⟩) c7 rfl) rfl) rfl) rfl))) j
theorem Q4:g9 ["board","opened","apart","found","guard","name","under"] ["board","opened"] (c6 dw):=by walk_at "s"
theorem um (F:L6 K "fed_guards" "fed_guards" dw f h) (d:mg "set"=none)
  (len:A3 K9 2) (g:R8 K9 jr 7):p7 P w K mg base J7 1 f h ["board","opened"] (N5 K K9):=
 R9 (cl:=[.bor,.bor,.bor,.own,.bor,.bor,.bor]) F Q4 rfl len (λl A outer o H E e=>(IV rfl (ss 2 Q4.nd (y4 (AX rfl) Qy (by rfl) d PyProof.Rows.boot_set (a8 (uv 1 rfl) c7 rfl)) rfl)
   (ss 3 Q4.nd zw rfl)
   (y3 (S0.m (j9 (l7 e (uv 0 rfl) a7)) rfl) (gn 4 Q4.nd)
    (lZ rfl (Nk   rfl Q4.nd rfl rfl (by decide) rfl rfl (a8 (l7 e (uv 4 rfl) a7) (a8 (l7 e (uv 4 rfl) a7) c7 rfl) rfl) rfl rfl rfl)
   (bo (C6 e) 3 (pv 3) rfl (PM.n (PU.m (PU.u3 (yi (Ck (uv 5 rfl) (uv 2 rfl) rfl) (iL (Nc (Qk (uv 6 rfl) u6 (i7 _)) (iL (l7 e (uv 3 rfl) (uv 6 rfl))))))))) (PU.n (uv 5 rfl) rfl))) (λa b c=>p4 v2 rfl a b c))
   (K6 3 (pv 3) (by decide) rfl))) g
abbrev jJ:ZT:=["board","lit","pulls","found","guard","load","name","under"]
theorem V0:g9 jJ ["board","lit","pulls"] (c6 bU):=by walk_at "s"
theorem vC:(["guard","pulls"]:ZT).Nodup:=by decide +kernel
theorem xr (F:L6 K "draws_fed" "draws_fed" bU f l) (e:mg "reversed"=none)
  (len:A3 O4 3) (g:R8 O4 nP 8):p7 P w K mg base J7 1 f l ["board","lit","pulls"] (N5 K O4):=
 R9 (cl:=[.bor,.bor,.bor,.own,.bor,.bor,.bor,.bor]) F V0 rfl len (λo A outer p H E d=>(IV rfl (ij  (XN:=jJ)  (XS:=c6 bU)  V0.nd rfl rfl rfl (by decide +kernel) rfl rfl rfl rfl (j9 (l7 d (uv 0 rfl) a7)) (λ_ _ _ _=>(gn 0 vC)) (λ_ _ _ _=>C8) (λ_ _ _ _=>(l7 d (uv 0 rfl) a7)) (λ_ _ _ _=>(eV (C6 d) (uv 1 rfl) (l7 d (uv 0 rfl) a7) a7 ⟨rfl,rfl,rfl,rfl⟩)))
   (y3 (S0.m (j9 (l7 d (uv 0 rfl) a7)) rfl) (gn 5 V0.nd)
    (K4 rfl (EA (C6 d) 3 (pv 3) rfl (l7 d (uv 5 rfl) a7) (eV (C6 d) (uv 2 rfl) (l7 d (uv 5 rfl) a7) a7 ⟨rfl,rfl,rfl,rfl⟩))) (λa b c=>p4 v2 rfl a b c))
   (y3 (S0.m (LR (l7 d (uv 0 rfl) a7) rfl (λh=>Hc (by rfl) e h)) rfl) (gn 4 V0.nd)
    (lZ rfl (Nk   rfl V0.nd rfl rfl (by decide) rfl rfl (a8 (l7 d (uv 4 rfl) a7) (a8 (l7 d (uv 4 rfl) a7) c7 rfl) rfl) rfl rfl rfl)
   (G8 (P0.m (oK (Y5 (l7 d (uv 1 rfl) (uv 6 rfl)) (λ_=>rfl)))) (K4 rfl (bo (C6 d) 3 (pv 3) rfl (PU.n a7 rfl) (PU.n (uv 6 rfl) rfl))) (K4 rfl (G8 (P0.m (A9 (uv 7 rfl) u6 (i7 _))) (K4 rfl (EA (C6 d) 3 (pv 3) rfl (uv 7 rfl) (l7 d (uv 3 rfl) (uv 6 rfl)))) A6)))) (λa b c=>p4 v2 rfl a b c))
   (K6 3 (pv 3) (by decide) rfl))) g
theorem MY:g9 ["board","opened","pulls"] ["board","opened","pulls"] (c6 wX):=by walk_at "s"
theorem JK (F:L6 K "draws" "draws" wX f j) (a:kb P w K mg base e c) (b:mY P w K mg base g d)
  (len:A3 cW 3) (i:R8 cW EX 3):p7 P w K mg base J7 2 f j ["board","opened","pulls"] (N5 K cW):=
 R9 (cl:=[.bor,.bor,.bor]) F MY rfl len (λl A outer o H E h=>(K4 rfl (o9 (pc b h (a8 (uv 0 rfl) (a8 (pc a h (a8 (uv 0 rfl) (a8 (uv 1 rfl) c7 rfl) rfl) rfl) (a8 (uv 2 rfl) c7 rfl) rfl) rfl) rfl) rfl))) i
theorem QW:g9 ["board","load"] ["board"] (c6 AG):=by walk_at "s"
theorem Ky:(["load"]:ZT).Nodup:=by decide +kernel
theorem QA (F:L6 K "rest" "rest" AG f g) (a:FH P w K mg base d c)
  (len:A3 gv 1) (e:R8 gv Nq 2):p7 P w K mg base J7 3 f g ["board"] (N5 K gv):=
 R9 (cl:=[.bor,.bor]) F QW rfl len (λh A outer i H E b=>(K4 rfl (o9 (pc a b (a8 (uv 0 rfl) (a8 (B4 o7 rfl) (a8 (Nl (XN:=["board","load"])  (XS:=c6 AG)  (by decide +kernel) rfl rfl rfl rfl (j9 (l7 b (uv 0 rfl) a7)) (λ_ _ _ _=>(gn 0 Ky)) (λ_ _ _ _=>(df (Y5 (l7 b (uv 0 rfl) a7) (λ_=>rfl)))) (λ_ _ _ _=>(l7 b (uv 0 rfl) a7)) (λ_ _ _ _=>(l7 b (uv 0 rfl) a7))) c7 rfl) rfl) rfl) rfl) rfl))) e
theorem MU:g9 ["board","found"] ["board","found"] (c6 qm):=by walk_at "s"
theorem Gb:(["guard","found"]:ZT).Nodup:=by decide +kernel
theorem Lw (F:L6 K "awake" "awake" qm f g) (a:iG P w K mg base d b)
  (len:A3 cJ 2) (e:R8 cJ EH 2):p7 P w K mg base J7 2 f g ["board","found"] (N5 K cJ):=
 R9 (cl:=[.bor,.bor]) F MU rfl len (λh A outer i H E c=>(K4 rfl (o9 (U7 (XN:=["board","found"])  (XS:=c6 qm)  (by decide +kernel) rfl rfl rfl rfl (j9 (l7 c (uv 0 rfl) a7)) (λ_ _ _ _=>(gn 0 Gb)) (λ_ _ _ _=>(df (HA (l7 c (uv 1 rfl) (l7 c (uv 0 rfl) a7)) (pc a c (a8 (l7 c (uv 0 rfl) a7) c7 rfl) rfl) (i7 _)))) (λ_ _ _ _=>(PU.u3 (l7 c (uv 0 rfl) a7)))) rfl))) e
theorem zx:g9 ["board","names"] ["board"] (c6 wb):=by walk_at "s"
theorem Mn (F:L6 K "loud" "loud" wb f l) (b:Ds P w K mg base i d) (a:DJ P w K mg base e c)
  (len:A3 dm 1) (j:R8 dm FK 2):p7 P w K mg base J7 4 f l ["board"] (N5 K dm):=
 R9 (cl:=[.bor,.bor]) F zx rfl len (λo A outer p H E h=>(lZ rfl (ss 1 zx.nd (pc a h (a8 (uv 0 rfl) (a8 (pc b h (a8 (uv 0 rfl) c7 rfl) rfl) c7 rfl) rfl) rfl) rfl)
   (o9 (PU.u3 (TB (Y5 (uv 1 rfl) (λ_=>rfl)) (l7 h (uv 1 rfl) a7) (PU.weak  u6 rfl))) rfl))) j
theorem gr:g9 ["board","first"] ["board"] (c6 cZ):=by walk_at "s"
theorem sM (F:L6 K "quiet_rest" "quiet_rest" cZ f j) (b:Ds P w K mg base g d) (a:Je P w K mg base e c)
  (len:A3 K7 1) (i:R8 K7 kd 2):p7 P w K mg base J7 5 f j ["board"] (N5 K K7):=
 R9 (cl:=[.bor,.bor]) F gr rfl len (λl A outer o H E h=>(qA rfl (ss 1 gr.nd (pc a h (a8 (uv 0 rfl) c7 rfl) rfl) rfl)
   (G8 (P0.m (A9 (uv 1 rfl) u6 (i7 _))) (K4 rfl pP) A6)
   (o9 (pc b h (a8 (uv 0 rfl) c7 rfl) rfl) rfl))) i
abbrev iw:ZT:=["board","place","names","found","guards","guard"]
theorem hZ:g9 iw ["board","place"] (c6 gg):=by walk_at "s"
theorem DB:(["load"]:ZT).Nodup:=by decide +kernel
theorem Fx:(["guard"]:ZT).Nodup:=by decide +kernel
theorem IP:(["name","guards","found"]:ZT).Nodup:=by decide +kernel
theorem MC (F:L6 K "way_of" "way_of" gg f l) (d:Gw P w K mg base h g) (a:jO P w K mg base e c)
  (len:A3 bO 2) (j:R8 bO Jl 6):p7 P w K mg base J7 6 f l ["board","place"] (N5 K bO):=
 R9 (cl:=[.bor,.bor,.bor,.bor,.bor,.bor]) F hZ rfl len (λo A outer p H E b=>(MS rfl (ss 2 hZ.nd (pc d b (a8 (uv 0 rfl) (a8 (uv 1 rfl) c7 rfl) rfl) rfl) rfl)
   (gL  hZ.nd rfl (Or.inr rfl) (pc a b (a8 (uv 0 rfl) c7 rfl) rfl) rfl)
   (G8 (P0.m (Rz (C6 b) (uv 1 rfl) (U7 (XN:=iw)  (XS:=c6 gg)  (by decide +kernel) rfl rfl rfl rfl (j9 (l7 b (uv 0 rfl) a7)) (λ_ _ _ _=>(gn 0 DB)) (λ_ _ _ _=>(df (oK (Y5 (l7 b (uv 0 rfl) a7) (λ_=>rfl))))) (λ_ _ _ _=>(PU.u3 (l7 b (uv 0 rfl) a7)))) rfl)) (K4 rfl (o9 (B4 o7 rfl) rfl)) A6)
   (gL  hZ.nd rfl (Or.inr rfl) (Nl (XN:=iw)  (XS:=c6 gg)  (by decide +kernel) rfl rfl rfl rfl (j9 (l7 b (uv 0 rfl) a7)) (λ_ _ _ _=>(gn 0 Fx)) (λ_ _ _ _=>C8) (λ_ _ _ _=>(l7 b (uv 0 rfl) a7)) (λ_ _ _ _=>(uv 0 rfl))) rfl)
   (o9 (U7 (XN:=iw)  (XS:=c6 gg)  (by decide +kernel) rfl rfl rfl rfl (j9 (uv 2 rfl)) (λ_ _ _ _=>(gn 0 IP)) (λ_ _ _ _=>C8) (λ_ _ _ _=>(E7 (e7 (PU.u3 (l7 b (uv 1 rfl) (uv 0 rfl))) (e7 (PU.u3 (l7 b (uv 2 rfl) (uv 0 rfl))) o7 rfl) rfl) rfl))) rfl))) j
abbrev ju:ZT:=["way","most","lows"]
theorem rF:g9 ju ["way","most"] (c6 fe):=by walk_at "s"
theorem fF:(["guard","drawn","step"]:ZT).Nodup:=by decide +kernel
theorem CT:(["low","most"]:ZT).Nodup:=by decide +kernel
theorem DZ (F:L6 K "lows_of" "lows_of" fe f e) (b:mg "set"=none) (a:mg "sorted"=none)
  (len:A3 aE 2) (d:R8 aE Am 3):p7 P w K mg base J7 1 f e ["way","most"] (N5 K aE):=
 R9 (cl:=[.bor,.bor,.bor]) F rF rfl len (λg A outer j H E c=>(lZ rfl (Hy  (XN:=ju)  (XS:=c6 fe)  rF.nd rfl rfl rfl (by decide +kernel) rfl rfl rfl rfl (j9 (uv 0 rfl)) (λ_ _ _ _=>(Z1  (l9 (gn 0 fF) (l9 (gn 1 fF) P1)) (λ_ _ _ h=>je h) (λp=>N8 rfl p))) (λ_ _ _ _=>C8) (λ_ _ _ _=>(Pm (l7 c (uv 0 rfl) a7))) (λ_ _ _ _=>(gn 2 fF)) (λ_ _ _ _=>C8) (λ_ _ _ _=>(D8 (l7 c (uv 2 rfl) a7) (uv 1 rfl))))
   (o9 (yg rfl (by rfl) a PyProof.Rows.boot_sorted (by rfl) b PyProof.Rows.boot_set (a8 (o3 (B4 (e7 a7 o7 rfl) rfl) (U7 (XN:=ju)  (XS:=c6 fe)  (by decide +kernel) rfl rfl rfl rfl (j9 (uv 2 rfl)) (λ_ _ _ _=>(gn 0 CT)) (λ_ _ _ _=>(df (iI (uv 0 rfl) (uv 1 rfl) (i7 _)))) (λ_ _ _ _=>(PU.u3 (uv 0 rfl))))) c7 rfl)) rfl))) d
theorem O8:g9 ["way","greatness","spans","at","guard","drawn","span"] ["way","greatness"] (c6 jA):=by walk_at "s"
theorem CF (F:L6 K "spans_of" "spans_of" jA f x) (e:vG P w K mg base o l) (d:mg "enumerate"=none)
  (len:A3 V2 2) (v:R8 V2 vj 7):p7 P w K mg base J7 3 f x ["way","greatness"] (N5 K V2):=
 R9 (cl:=[.bor,.bor,.own,.bor,.bor,.bor,.bor]) F O8 rfl len (λy A outer z H E q=>(qA rfl (ss 2 O8.nd (B4 o7 rfl) rfl)
   (y3 (S0.m (Qf (uv 0 rfl) rfl (λu=>MX (by rfl) d u)) rfl) (Z1  (l9 (gn 3 O8.nd) (l9 (Z1  (l9 (gn 4 O8.nd) (l9 (gn 5 O8.nd) P1)) (λ_ _ _ h=>je h) (λp=>N8 rfl p)) P1)) (λ_ _ _ h=>Pj h) (λp=>N8 rfl p))
    (qA rfl (ss 6 O8.nd (pc e q (a8 (l7 q (uv 4 rfl) a7) (a8 (o3 (uv 5 rfl) (uv 1 rfl)) c7 rfl) rfl) rfl) rfl)
   (G8 (P0.m (ji.pt (R0 (A9 (uv 6 rfl) u6 (i7 _)) (R0 (tX (uv 3 rfl) a7 (i7 _)) (P4 (A9 (l7 q (uv 2 rfl) (D8 (uv 3 rfl) a7)) u6 (i7 _))))))) (K4 rfl (Qo   (l7 q (uv 4 rfl) a7) rfl (λp=>Qw O8.nd rfl (Or.inl rfl) p EO))) A6)
   (N1 (PM.n (A7 (r:=D2) 2 (pv 2) rfl (PU.m (PU.u3 (uv 6 rfl))) rfl (λu=>V7 xz PySem.F.slot_list_append PySem.F.type_list_append y1 (pv 2) u))))) (λa b c=>p4 v2 rfl a b c))
   (K6 2 (pv 2) (by decide) rfl))) v
theorem C9:g9 ["way","at","most","best","low","spans","lack"] ["way","at","most"] (c6 X2):=by walk_at "s"
theorem jG (F:L6 K "greatest_lack" "greatest_lack" X2 f p) (e:zF P w K mg base l i) (d:vt P w K mg base j h)
  (len:A3 C4 3) (o:R8 C4 cD 7):p7 P w K mg base J7 4 f p ["way","at","most"] (N5 K C4):=
 R9 (cl:=[.bor,.bor,.bor,.bor,.bor,.bor,.bor]) F C9 rfl len (λq A outer r H E g=>(qA rfl (ss 3 C9.nd u6 rfl)
   (y3 (S0.m (j9 (pc e g (a8 (uv 0 rfl) (a8 (uv 2 rfl) c7 rfl) rfl) rfl)) rfl) (gn 4 C9.nd)
    (lZ rfl (ss 5 C9.nd (pc d g (a8 (uv 0 rfl) (a8 (uv 4 rfl) c7 rfl) rfl) rfl) rfl)
   (G8 (P0.m (ji.pt (R0 (A9 (l7 g (uv 5 rfl) a7) u6 (i7 _)) (P4 (A9 (l7 g (uv 5 rfl) (uv 1 rfl)) u6 (i7 _)))))) (lZ rfl (ss 6 C9.nd (o3 (D8 (l7 g (uv 5 rfl) a7) (l7 g (uv 5 rfl) (uv 1 rfl))) a7) rfl)
   (G8 (P0.m (ji.pt (sD (kj (uv 3 rfl) u6 (i7 _)) (jk (tX (uv 6 rfl) (l7 g (uv 3 rfl) a7) (i7 _)))))) (K4 rfl (ss 3 C9.nd (E7 (e7 (PU.u3 (uv 6 rfl)) (e7 (PU.u3 (uv 4 rfl)) o7 rfl) rfl) rfl) rfl)) A6)) A6)) (λa b c=>p4 v2 rfl a b c))
   (o9 (PU.u3 (uv 3 rfl)) rfl))) o
theorem S5:g9 ["board","most","found","lower","way","at","lack"] ["board","most"] (c6 ki):=by walk_at "s"
theorem Cw (F:L6 K "pairs_of" "pairs_of" ki f z) (e:S4 P w K mg base p o) (j:yp P w K mg base v u) (d:cz P w K mg base h g) (q:mg "len"=none) (i:mg "range"=none)
  (len:A3 U2 2) (y:R8 U2 rR 7):p7 P w K mg base J7 7 f z ["board","most"] (N5 K U2):=
 R9 (cl:=[.bor,.bor,.own,.bor,.bor,.bor,.bor]) F S5 rfl len (λB A outer C H E l=>(qA rfl (ss 2 S5.nd (B4 o7 rfl) rfl)
   (y3 (S0.m (j9 (pc e l (a8 (uv 0 rfl) c7 rfl) rfl)) rfl) (gn 3 S5.nd)
    (lZ rfl (ss 4 S5.nd (pc j l (a8 (uv 0 rfl) (a8 (uv 3 rfl) c7 rfl) rfl) rfl) rfl)
   (y3 (S0.m (jR (a8 a7 (a8 (p3 B7 W0 (by rfl) q KF (a8 (uv 4 rfl) c7 rfl)) c7 rfl) rfl) (λx=>fJ (by rfl) i x)) rfl) (gn 5 S5.nd)
    (lZ rfl (ss 6 S5.nd (pc d l (a8 (uv 4 rfl) (a8 (uv 5 rfl) (a8 (uv 1 rfl) c7 rfl) rfl) rfl) rfl) rfl)
   (G8 (P0.m (A9 (uv 6 rfl) u6 (i7 _))) (K4 rfl (N1 (PM.n (A7 (r:=D2) 2 (pv 2) rfl (PU.m (E7 (e7 (PU.u3 (uv 3 rfl)) (e7 (PU.u3 (l7 l (l7 l (l7 l (uv 4 rfl) (uv 5 rfl)) a7) a7)) (e7 (PU.u3 (l7 l (uv 6 rfl) a7)) (e7 (PU.u3 (l7 l (uv 6 rfl) a7)) o7 rfl) rfl) rfl) rfl) rfl)) rfl (λx=>V7 xz PySem.F.slot_list_append PySem.F.type_list_append y1 (pv 2) x))))) A6)) (λa b c=>p4 v2 rfl a b c))) (λa b c=>p4 v2 rfl a b c))
   (K6 2 (pv 2) (by decide) rfl))) y
theorem fO:g9 ["row","guard","drawn"] ["row"] (c6 kz):=by walk_at "s"
theorem BW (F:L6 K "wakes_at" "wakes_at" kz f i) (a:iG P w K mg base c b)
  (len:A3 J8 1) (e:R8 J8 sE 3):p7 P w K mg base J7 2 f i ["row"] (N5 K J8):=
 R9 (cl:=[.bor,.bor,.bor]) F fO rfl len (λj A outer l H E d=>(lZ rfl (Az (uv 0 rfl) rfl (Z1  (l9 (gn 1 fO.nd) (l9 (gn 2 fO.nd) P1)) (λ_ _ _ h=>je h) (λp=>N8 rfl p)) (λp g=>W4 p g))
   (o9 (D8 (pc a d (a8 (l7 d (uv 1 rfl) a7) c7 rfl) rfl) (uv 2 rfl)) rfl))) e
theorem eh:g9 ["board","most","lower","way","first","row"] ["board","most"] (c6 xN):=by walk_at "s"
theorem Li (F:L6 K "blind" "blind" xN f u) (e:S4 P w K mg base l i) (h:yp P w K mg base q p) (d:vb P w K mg base o j)
  (len:A3 dg 2) (r:R8 dg Ip 6):p7 P w K mg base J7 7 f u ["board","most"] (N5 K dg):=
 R9 (cl:=[.bor,.bor,.bor,.bor,.bor,.bor]) F eh rfl len (λv A outer x H E g=>(lZ rfl (y3 (S0.m (j9 (pc e g (a8 (uv 0 rfl) c7 rfl) rfl)) rfl) (gn 2 eh.nd)
    (qA rfl (ss 3 eh.nd (pc h g (a8 (uv 0 rfl) (a8 (uv 2 rfl) c7 rfl) rfl) rfl) rfl)
   (ss 4 eh.nd (pc d g (a8 (l7 g (uv 3 rfl) a7) c7 rfl) rfl) rfl)
   (y3 (S0.m (j9 (jQ (uv 3 rfl) (ah a7) eU)) rfl) (gn 5 eh.nd)
    (K4 rfl (G8 (P0.m (ji.pt (R0 (iI (pc d g (a8 (uv 5 rfl) c7 rfl) rfl) (uv 1 rfl) (i7 _)) (P4 (Aj (pc d g (a8 (uv 5 rfl) c7 rfl) rfl) (uv 4 rfl) (i7 _)))))) (K4 rfl (o9 (E7 (e7 (PU.u3 (uv 2 rfl)) (e7 (PU.u3 (l7 g (l7 g (uv 5 rfl) a7) a7)) (e7 (pc d g (a8 (uv 5 rfl) c7 rfl) rfl) o7 rfl) rfl) rfl) rfl) rfl)) A6)) (λa b c=>p4 v2 rfl a b c))) (λa b c=>p4 v2 rfl a b c))
   (o9 u6 rfl))) r
theorem cA:g9 ["board","most","pair"] ["board","most"] (c6 aC):=by walk_at "s"
theorem lV (F:L6 K "seeing_pairs" "seeing_pairs" aC f j) (a:qY P w K mg base d c) (b:Gh P w K mg base g e)
  (len:A3 D0 2) (i:R8 D0 dQ 3):p7 P w K mg base J7 8 f j ["board","most"] (N5 K D0):=
 R9 (cl:=[.bor,.bor,.bor]) F cA rfl len (λl A outer o H E h=>(qA rfl (ss 2 cA.nd (pc b h (a8 (uv 0 rfl) (a8 (uv 1 rfl) c7 rfl) rfl) rfl) rfl)
   (G8 (P0.m (A9 (uv 2 rfl) u6 (i7 _))) (K4 rfl pP) A6)
   (o9 (pc a h (a8 (uv 0 rfl) (a8 (uv 1 rfl) c7 rfl) rfl) rfl) rfl))) i
abbrev nY:ZT:=["board","pairs","least","name","lower","upper","more","greatness"]
theorem O5:g9 nY ["board","pairs"] (c6 dX):=by walk_at "s"
theorem yy:(["name"]:ZT).Nodup:=by decide +kernel
theorem CO (F:L6 K "least_by" "least_by" dX f u) (d:S4 P w K mg base j g) (o:mg "max"=none) (e:mg "reversed"=none)
  (len:A3 S8 2) (q:R8 S8 rW 8):p7 P w K mg base J7 3 f u ["board","pairs"] (N5 K S8):=
 R9 (cl:=[.bor,.bor,.own,.bor,.bor,.bor,.bor,.bor]) F O5 rfl len (λv A outer x H E l=>(qA rfl (ij  (XN:=nY)  (XS:=c6 dX)  O5.nd rfl rfl rfl (by decide +kernel) rfl rfl rfl rfl (j9 (pc d l (a8 (uv 0 rfl) c7 rfl) rfl)) (λ_ _ _ _=>(gn 0 yy)) (λ_ _ _ _=>C8) (λ_ _ _ _=>(uv 0 rfl)) (λ_ _ _ _=>a7))
   (y3 (S0.m (Qg (pc d l (a8 (uv 0 rfl) c7 rfl) rfl) rfl (λr=>JV (by rfl) e r)) rfl) (gn 3 O5.nd)
    (K4 rfl (y3 (S0.m (j9 (uv 1 rfl)) rfl) (Z1  (l9 (gn 4 O5.nd) (l9 (gn 5 O5.nd) (l9 (gn 6 O5.nd) (l9 (gn 7 O5.nd) P1)))) (λ_ _ _ h=>AJ h) (λp=>N8 rfl p))
    (K4 rfl (G8 (P0.m (X3 l (uv 5 rfl) (uv 3 rfl) (i7 _))) (K4 rfl (bo (C6 l) 2 (pv 2) rfl (PU.n (p3 (Z0 rfl) FF (by rfl) o Xu (a8 (l7 l (uv 2 rfl) (uv 3 rfl)) (a8 (o3 (l7 l (uv 2 rfl) (uv 4 rfl)) (uv 6 rfl)) c7 rfl) rfl)) rfl) (PU.n (uv 3 rfl) rfl))) A6)) (λa b c=>p4 v2 rfl a b c))) (λa b c=>p4 v2 rfl a b c))
   (K6 2 (pv 2) (by decide) rfl))) q
abbrev zi:ZT:=["board","most","pairs","least","found","guard","faults"]
theorem bT:g9 zi ["board","most"] (c6 oZ):=by walk_at "s"
theorem dO:(["lower","upper","more","greatness","guard","least"]:ZT).Nodup:=by decide +kernel
theorem LI (F:L6 K "needs" "needs" oZ f B) (e:S4 P w K mg base v q) (d:eS P w K mg base l j) (g:vA P w K mg base x u)
  (len:A3 br 2) (y:R8 br IH 7):p7 P w K mg base J7 9 f B ["board","most"] (N5 K br):=
 R9 (cl:=[.bor,.bor,.bor,.bor,.own,.bor,.bor]) F bT rfl len (λC A outer G H E o=>(MS rfl (ss 2 bT.nd (pc d o (a8 (uv 0 rfl) (a8 (uv 1 rfl) c7 rfl) rfl) rfl) rfl)
   (gL  bT.nd rfl (Or.inr rfl) (pc g o (a8 (uv 0 rfl) (a8 (uv 2 rfl) c7 rfl) rfl) rfl) rfl)
   (ss 4 bT.nd (B4 o7 rfl) rfl)
   (y3 (S0.m (j9 (pc e o (a8 (uv 0 rfl) c7 rfl) rfl)) rfl) (wt (pX  bT.nd rfl (Or.inr rfl)) rfl)
    (lZ rfl (iy  (XN:=zi)  (XS:=c6 oZ)  bT.nd rfl rfl rfl (by decide +kernel) rfl rfl rfl rfl (j9 (uv 2 rfl)) (λ_ _ _ _=>(Z1  (l9 (gn 0 dO) (l9 (gn 1 dO) (l9 (gn 2 dO) (l9 (gn 3 dO) P1)))) (λ_ _ _ h=>AJ h) (λp=>N8 rfl p))) (λ_ _ _ _=>(df (ji.pt (R0 (X3 o (uv 1 rfl) (uv 4 rfl) (i7 _)) (P4 (X3 o (o3 (l7 o (uv 5 rfl) (uv 0 rfl)) (uv 2 rfl)) (l7 o (uv 5 rfl) (uv 4 rfl)) (i7 _))))))) (λ_ _ _ _=>(E7 (e7 (PU.u3 (uv 4 rfl)) (e7 (PU.u3 (uv 0 rfl)) (e7 (PU.u3 (uv 3 rfl)) o7 rfl) rfl) rfl) rfl)))
   (G8 (P0.m (tX (l7 o (uv 3 rfl) (uv 5 rfl)) a7 (i7 _))) (K4 rfl (N1 (PM.n (A7 (r:=D2) 4 (pv 4) rfl (PU.m (PU.u3 (l7 o (uv 6 rfl) a7))) rfl (λz=>V7 xz PySem.F.slot_list_append PySem.F.type_list_append y1 (pv 4) z))))) A6)) (λa b c=>p4 v2 rfl a b c))
   (K6 4 (pv 4) (by decide) rfl))) y
theorem GJ:g9 ["_law_script","_law_k"] ["_law_script","_law_k"] (c6 pY):=by walk_at "s"
theorem GS (F:L6 K "_law_cell_at" "_law_cell_at" pY f d) (a:mg "len"=none)
  (len:A3 aq 2) (b:R8 aq zL 2):p7 P w K mg base J7 1 f d ["_law_script","_law_k"] (N5 K aq):=
 R9 (cl:=[.bor,.bor]) F GJ rfl len (λe A outer g H E c=>(lZ rfl (G8 (P0.m (Aj (uv 1 rfl) (p3 B7 W0 (by rfl) a KF (a8 (uv 0 rfl) c7 rfl)) (i7 _))) (K4 rfl (o9 (PU.u3 (l7 c (uv 0 rfl) (uv 1 rfl))) rfl)) A6)
   (o9 a7 rfl))) b
theorem FD:g9 ["_law_script","_law_k","_law_cell"] ["_law_script","_law_k"] (c6 Gy):=by walk_at "s"
theorem QP (F:L6 K "_law_feed" "_law_feed" Gy f g) (a:AA P w K mg base c b)
  (len:A3 aM 2) (d:R8 aM Nr 3):p7 P w K mg base J7 2 f g ["_law_script","_law_k"] (N5 K aM):=
 R9 (cl:=[.bor,.bor,.bor]) F FD rfl len (λh A outer i H E e=>(lZ rfl (ss 2 FD.nd (pc a e (a8 (uv 0 rfl) (a8 (uv 1 rfl) c7 rfl) rfl) rfl) rfl)
   (o9 (B4 (e7 (PU.u3 (uv 2 rfl)) (e7 (PU.u3 (uv 2 rfl)) (e7 (K1 a7 (uv 1 rfl)) o7 rfl) rfl) rfl) rfl) rfl))) d
theorem ql:g9 ["_law_feed_here","_law_many","_law_digit","_law_number"] ["_law_feed_here","_law_many"] (c6 IZ):=by walk_at "s"
theorem PQ (F:L6 K "_law_take" "_law_take" IZ f d)
  (len:NQ u5 2) (c:UY u5 Nv 4):p7 P w K mg base J7 1 f d ["_law_feed_here","_law_many"] (Jv K u5):=
 UL (cl:=[.bor,.bor,.bor]) F ql rfl len (λe A outer g H E a=>(MS rfl (rY 0 (pv 0) rfl (PU.m (o3 (l7 a (uv 0 rfl) a7) a7)) (PU.n a7 rfl) (λp b=>W4 p (jU (pv 0) b set_list)))
   (G8 (P0.m (ji.pt (R0 (HA (l7 a (uv 0 rfl) a7) (pV a7 a7) (i7 _)) (P4 (tX (l7 a (uv 0 rfl) a7) a7 (i7 _)))))) (qA rfl (ss 2 ql.nd (W5 (l7 a (uv 0 rfl) a7) (uv 1 rfl)) rfl)
   (rY 0 (pv 0) rfl (PU.m (ir (l7 a (uv 0 rfl) a7) (uv 1 rfl))) (PU.n a7 rfl) (λp b=>W4 p (jU (pv 0) b set_list)))
   (o9 (PU.u3 (uv 2 rfl)) rfl)) A6)
   (ss 3 ql.nd (o3 (K1 (W5 (l7 a (uv 0 rfl) a7) a7) a7) (K1 a7 (l7 a (uv 0 rfl) a7))) rfl)
   (ss 3 ql.nd (W5 (o3 (o3 (uv 3 rfl) (K1 (K1 (l7 a (uv 0 rfl) a7) (l7 a (uv 0 rfl) a7)) a7)) a7) a7) rfl)
   (o9 (W5 (ir (W5 (K1 (uv 3 rfl) (o3 (W5 (uv 3 rfl) a7) a7)) a7) a7) (uv 1 rfl)) rfl))) c
abbrev iq:ZT:=["_law_feed_here","_law_many","_law_letters","_law_first","_law_names_here","_law_size","_law_base","_law_at","_law_other","_law_longer","_law_k","_law_some","_law_word"]
theorem G6:g9 iq ["_law_feed_here","_law_many"] (c6 gh):=by walk_at "s"
theorem Fq:(["_law_k","_law_letters","_law_first"]:ZT).Nodup:=by decide +kernel
theorem IU:(["_law_k","_law_feed_here"]:ZT).Nodup:=by decide +kernel
theorem GZ:(["_law_one","_law_letters"]:ZT).Nodup:=by decide +kernel
theorem JJ (F:L6 K "_law_names" "_law_names" gh f x) (d:eO P w K mg base u q) (o:mg "int"=none) (j:mg "list"=none) (e:mg "range"=none)
  (len:NQ cP 2) (v:UY cP Hq 13):p7 P w K mg base J7 2 f x ["_law_feed_here","_law_many"] (Jv K cP):=
 UL (cl:=[.bor,.bor,.bor,.own,.bor,.bor,.bor,.bor,.bor,.bor,.own,.bor]) F G6 rfl len (λy A outer z H E g=>(Wr rfl (gL  G6.nd rfl (Or.inr rfl) M6 rfl)
   (D4  G6.nd rfl (Or.inr rfl) (pl 0 d g (i9 (PU.n a7 rfl) o4 rfl)) rfl)
   (G8 (Rj g (PM.n (pl 0 d g (i9 (PU.n a7 rfl) o4 rfl))) (PU.n a7 rfl) (i7 _)) (K4 rfl (iy  (XN:=iq) (N:=["_law_k","_law_letters","_law_first"]) (XS:=c6 gh) (cap:=[none,some 2,some 3]) G6.nd rfl rfl rfl (by decide +kernel) rfl rfl rfl rfl (Q9 (by rfl) e (uv 1 rfl) rfl (λh=>G7 (by rfl) e h)) (λ_ _ _ _=>(gn 0 Fq)) (λ_ _ _ _=>C8) (λ_ _ _ _=>(K1 (l7 g (uv 1 rfl) (W5 (o3 (uv 2 rfl) (uv 0 rfl)) a7)) (o3 a7 (ir (uv 0 rfl) a7)))))) (Wh rfl (D4 (i:=5) G6.nd rfl (Or.inl rfl) (K2 (PU.n a7 rfl) (PM.n (pl 0 d g (i9 (PU.n a7 rfl) o4 rfl)))) rfl)
   (Fb (i:=6) (XN:=iq) (N:=["_law_k","_law_feed_here"]) (XS:=c6 gh) (cap:=[none,some 0]) 1 0 G6.nd rfl rfl rfl rfl rfl rfl (by decide +kernel) rfl rfl rfl rfl (S0.m (Q9 (by rfl) e (uv 5 rfl) rfl (λh=>G7 (by rfl) e h)) rfl) (λ_ _ _ _=>(gn 0 IU)) (λ_ _ _ _=>Mz) (λ_ _ _ _=>(pl 1 d g (i9 (PU.n a7 rfl) o4 rfl))))
   (D4 (i:=7) G6.nd rfl (Or.inl rfl) (pl 0 d g (i9 (PU.n (uv 5 rfl) rfl) o4 rfl)) rfl)
   (D4 (i:=8) G6.nd rfl (Or.inl rfl) (Rp (PM.n (K2 (PU.n (o3 (uv 7 rfl) a7) rfl) (PM.n (pl 0 d g (i9 (PU.n (D8 (uv 5 rfl) a7) rfl) o4 rfl))))) (PU.n (uv 5 rfl) rfl)) rfl)
   (D4 (i:=9) G6.nd rfl (Or.inl rfl) (aj (PM.n (pl 0 d g (i9 (PU.n a7 rfl) o4 rfl))) (PU.n (y4 fP ye (by rfl) o YU (a8 (Sr (uv 5 rfl) a7 (i7 _)) c7 rfl)) rfl)) rfl)
   (ss 4 G6.nd (B4 o7 rfl) rfl)
   (y3 (S0.m (Q9 (by rfl) e (uv 1 rfl) rfl (λh=>G7 (by rfl) e h)) rfl) (gn 10 G6.nd)
    (IV rfl (ss 11 G6.nd (y4 pQ QV (by rfl) j PyProof.Rows.boot_list (a8 (uv 6 rfl) c7 rfl)) rfl)
   (rY 11 (pv 11) rfl (PU.m (W5 (o3 (l7 g (uv 6 rfl) (uv 7 rfl)) (uv 10 rfl)) a7)) (PU.n (uv 7 rfl) rfl) (λp l=>W4 p (jU (pv 11) l set_list)))
   (rY 11 (pv 11) rfl (PU.m (W5 (o3 (l7 g (uv 6 rfl) (uv 8 rfl)) (ir (uv 10 rfl) a7)) a7)) (PU.n (uv 8 rfl) rfl) (λp l=>W4 p (jU (pv 11) l set_list)))
   (N1 (PM.n (A7 (r:=D2) 4 (pv 4) rfl (PU.m (o3 (LO M6 (U7 (XN:=iq) (N:=["_law_one","_law_letters"]) (XS:=c6 gh) (cap:=[none,some 2]) (by decide +kernel) rfl rfl rfl rfl (j9 (uv 11 rfl)) (λ_ _ _ _=>(gn 0 GZ)) (λ_ _ _ _=>C8) (λ_ _ _ _=>(PU.u3 (l7 g (uv 1 rfl) (uv 0 rfl))))) rfl (λpo h=>V7 PySem.F.plainAttrs_str PySem.F.slot_str_join PySem.F.type_str_join MB po h)) (K1 (l7 g (uv 2 rfl) (uv 3 rfl)) (K1 (uv 9 rfl) (W5 (uv 10 rfl) a7))))) rfl (λh=>V7 xz PySem.F.slot_list_append PySem.F.type_list_append y1 (pv 4) h))))) (λa b c=>p4 v2 rfl a b c))))
   (D4 (i:=12) G6.nd rfl (Or.inl rfl) (PN.u3 (Z9 (C6 g) (PU.n (B4 (e7 M6 (e7 M6 (e7 M6 (e7 M6 (e7 M6 (e7 M6 (e7 M6 (e7 M6 (e7 M6 (e7 M6 (e7 M6 o7 rfl) rfl) rfl) rfl) rfl) rfl) rfl) rfl) rfl) rfl) rfl) rfl) rfl) (PM.n (pl 0 d g (i9 (PU.n a7 rfl) o4 rfl))) (λ_ _=>rfl))) rfl)
   (G8 (P0.m (ji.pt (R0 (GQ g (uv 12 rfl) M6 (i7 _)) (P4 (Cn (C6 g) (uv 12 rfl) (uv 4 rfl) rfl))))) (K4 rfl (rY 4 (pv 4) rfl (PU.m (PU.u3 (uv 12 rfl))) (PM.n (pl 0 d g (i9 (PU.n (uv 1 rfl) rfl) o4 rfl))) (λp l=>W4 p (jU (pv 4) l set_list)))) A6)
   (K6 4 (pv 4) (by decide) rfl))) v
theorem iC:g9 ["_law_board","_law_overs_here","_law_guard","_law_load"] ["_law_board"] (c6 yB):=by walk_at "s"
theorem Lx (F:L6 K "_law_overs" "_law_overs" yB f g)
  (len:A3 bj 1) (e:R8 bj DP 4):p7 P w K mg base J7 1 f g ["_law_board"] (N5 K bj):=
 R9 (cl:=[.bor,.own,.bor,.bor]) F iC rfl len (λh A outer i H E d=>(IV rfl (ss 1 iC.nd zw rfl)
   (y3 (S0.m (j9 (l7 d (uv 0 rfl) a7)) rfl) (gn 2 iC.nd)
    (K4 rfl (bo (C6 d) 1 (pv 1) rfl (PU.n (FO (Mc (B4 (e7 (PU.u3 (l7 d (uv 2 rfl) a7)) o7 rfl) rfl) (eV (C6 d) (uv 1 rfl) (l7 d (uv 2 rfl) a7) (FO (B4 o7 rfl)) ⟨rfl,rfl,rfl,rfl⟩))) rfl) (PU.n (l7 d (uv 2 rfl) a7) rfl))) (λa b c=>p4 v2 rfl a b c))
   (y3 (S0.m (j9 (l7 d (uv 0 rfl) a7)) rfl) (gn 3 iC.nd)
    (K4 rfl (bo (C6 d) 1 (pv 1) rfl (PM.n (PU.m (PU.u3 (l7 d (uv 1 rfl) (l7 d (uv 3 rfl) a7))))) (PU.n (l7 d (uv 3 rfl) a7) rfl))) (λa b c=>p4 v2 rfl a b c))
   (K6 1 (pv 1) (by decide) rfl))) e
abbrev nJ:ZT:=["_law_feed_here","_law_unit","_law_time","_law_many","_law_some","_law_times","_law_k"]
theorem Y8:g9 nJ ["_law_feed_here","_law_unit","_law_time"] (c6 eX):=by walk_at "s"
theorem xa:(["_law_k","_law_unit","_law_time","_law_some","_law_times","_law_many"]:ZT).Nodup:=by decide +kernel
theorem BI (F:L6 K "_law_small_curve" "_law_small_curve" eX f q) (e:eO P w K mg base o l) (d:mg "range"=none) (g:mg "tuple"=none)
  (len:NQ U1 3) (p:UY U1 qO 7):p7 P w K mg base J7 2 f q ["_law_feed_here","_law_unit","_law_time"] (Jv K U1):=
 UL (cl:=[.bor,.bor,.bor,.own,.own,.bor]) F Y8 rfl len (λu A outer v H E h=>(MS rfl (D4  Y8.nd rfl (Or.inr rfl) (K2 (PU.n a7 rfl) (PM.n (pl 0 e h (i9 (PU.n a7 rfl) o4 rfl)))) rfl)
   (D4  Y8.nd rfl (Or.inr rfl) (wJ (B9 (K2 (PU.n a7 rfl) (PM.n (pl 0 e h (i9 (PU.n a7 rfl) o4 rfl)))) cR rfl) rfl) rfl)
   (D4  Y8.nd rfl (Or.inr rfl) (wJ (B9 (K2 (PU.n a7 rfl) (PM.n (pl 0 e h (i9 (PU.n a7 rfl) o4 rfl)))) cR rfl) rfl) rfl)
   (y3 (S0.m (Q9 (by rfl) d (D8 (uv 3 rfl) a7) rfl (λj=>G7 (by rfl) d j)) rfl) (gn 6 Y8.nd)
    (lZ rfl (N1 (PM.n (A7 (r:=D2) 4 (pv 4) rfl (K2 (PU.n (o3 (l7 h (uv 4 rfl) (kO a7)) a7) rfl) (PM.n (pl 0 e h (i9 (PU.n a7 rfl) o4 rfl)))) rfl (λj=>V7 xz PySem.F.slot_list_append PySem.F.type_list_append y1 (pv 4) j))))
   (N1 (PM.n (A7 (r:=D2) 5 (pv 5) rfl (K2 (PU.n (o3 (l7 h (uv 5 rfl) (kO a7)) a7) rfl) (PM.n (pl 0 e h (i9 (PU.n a7 rfl) o4 rfl)))) rfl (λj=>V7 xz PySem.F.slot_list_append PySem.F.type_list_append y1 (pv 5) j))))) (λa b c=>p4 v2 rfl a b c))
   (o9 (y4 D6 cb (by rfl) g Wp (a8 (U7 (XN:=nJ)  (XS:=c6 eX)  (by decide +kernel) rfl rfl rfl rfl (Q9 (by rfl) d (uv 3 rfl) rfl (λj=>G7 (by rfl) d j)) (λ_ _ _ _=>(gn 0 xa)) (λ_ _ _ _=>C8) (λ_ _ _ _=>(E7 (e7 (K1 (l7 h (uv 3 rfl) (uv 0 rfl)) (uv 1 rfl)) (e7 (K1 (l7 h (uv 4 rfl) (D8 (D8 (uv 5 rfl) a7) (uv 0 rfl))) (uv 2 rfl)) o7 rfl) rfl) rfl))) c7 rfl)) rfl))) p
theorem Hr:g9 ["_law_guard","_law_more"] ["_law_guard","_law_more"] (c6 iE):=by walk_at "s"
theorem Ba:(["_law_step","_law_more"]:ZT).Nodup:=by decide +kernel
theorem Ep (F:L6 K "_law_lifted" "_law_lifted" iE f d) (a:mg "tuple"=none)
  (len:A3 V6 2) (c:R8 V6 zP 2):p7 P w K mg base J7 1 f d ["_law_guard","_law_more"] (N5 K V6):=
 R9 (cl:=[.bor,.bor]) F Hr rfl len (λe A outer g H E b=>(K4 rfl (o9 (o3 (o3 (jQ (uv 0 rfl) eU (ah a7)) (E7 (e7 (y4 D6 cb (by rfl) a Wp (a8 (U7 (XN:=["_law_guard","_law_more"])  (XS:=c6 iE)  (by decide +kernel) rfl rfl rfl rfl (j9 (l7 b (uv 0 rfl) a7)) (λ_ _ _ _=>(gn 0 Ba)) (λ_ _ _ _=>C8) (λ_ _ _ _=>(E7 (e7 (o3 (l7 b (uv 0 rfl) a7) (uv 1 rfl)) (e7 (PU.u3 (l7 b (uv 0 rfl) a7)) o7 rfl) rfl) rfl))) c7 rfl)) o7 rfl) rfl)) (jQ (uv 0 rfl) (ah a7) eU)) rfl))) c
abbrev AD:ZT:=["_law_board","_law_overs_here","_law_found","_law_load","_law_name"]
theorem ff:g9 AD ["_law_board"] (c6 qh):=by walk_at "s"
theorem DW:(["_law_guard"]:ZT).Nodup:=by decide +kernel
theorem LX (F:L6 K "_law_rest" "_law_rest" qh f o) (e:xx P w K mg base j i) (g:mg "dict"=none) (h:mg "int"=none)
  (len:A3 W6 1) (l:R8 W6 Hj 5):p7 P w K mg base J7 2 f o ["_law_board"] (N5 K W6):=
 R9 (cl:=[.bor,.bor,.own,.bor,.bor]) F ff rfl len (λp A outer q H E d=>(IV rfl (ss 1 ff.nd (pc e d (a8 (uv 0 rfl) c7 rfl) rfl) rfl)
   (ss 2 ff.nd (y4 (cX rfl) oC (by rfl) g YI (a8 (U7 (XN:=AD)  (XS:=c6 qh)  (by decide +kernel) rfl rfl rfl rfl (j9 (l7 d (uv 0 rfl) a7)) (λ_ _ _ _=>(gn 0 DW)) (λ_ _ _ _=>C8) (λ_ _ _ _=>(E7 (e7 (PU.u3 (l7 d (uv 0 rfl) a7)) (e7 a7 o7 rfl) rfl) rfl))) c7 rfl)) rfl)
   (y3 (S0.m (j9 (l7 d (uv 0 rfl) a7)) rfl) (gn 3 ff.nd)
    (K4 rfl (y3 (S0.m (j9 (l7 d (uv 1 rfl) (l7 d (uv 3 rfl) a7))) rfl) (gn 4 ff.nd)
    (K4 rfl (bo (C6 d) 2 (pv 2) rfl (PU.n (o3 (l7 d (uv 2 rfl) (uv 4 rfl)) (K1 (l7 d (uv 3 rfl) a7) (y4 fP ye (by rfl) h YU (a8 (l7 d (uv 3 rfl) a7) c7 rfl)))) rfl) (PU.n (uv 4 rfl) rfl))) (λa b c=>p4 v2 rfl a b c))) (λa b c=>p4 v2 rfl a b c))
   (K6 2 (pv 2) (by decide) rfl))) l
theorem K5:g9 ["_law_script","_law_names_here","_law_unit","_law_time","_law_guards","_law_k","_law_feed_here","_law_at","_law_curve","_law_delay"] ["_law_script","_law_names_here","_law_unit","_law_time"] (c6 gq):=by walk_at "s"
theorem wC (F:L6 K "_law_small_guards" "_law_small_guards" gq f C) (l:nV P w K mg base z v) (d:eO P w K mg base y u) (g:ve P w K mg base o j) (q:mg "int"=none) (p:mg "len"=none) (e:mg "range"=none)
  (len:A3 P2 4) (B:R8 P2 mV 10):p7 P w K mg base J7 3 f C ["_law_script","_law_names_here","_law_unit","_law_time"] (N5 K P2):=
 R9 (cl:=[.bor,.bor,.bor,.bor,.own,.bor,.own,.bor,.bor,.bor]) F K5 rfl len (λG A outer I H E h=>(qA rfl (ss 4 K5.nd (B4 o7 rfl) rfl)
   (y3 (S0.m (Q9 (by rfl) e (p3 B7 W0 (by rfl) p KF (a8 (uv 1 rfl) c7 rfl)) rfl (λx=>G7 (by rfl) e x)) rfl) (gn 5 K5.nd)
    (MS rfl (ss 6 K5.nd (pc l h (a8 (uv 0 rfl) (a8 (o3 a7 (uv 5 rfl)) c7 rfl) rfl) rfl) rfl)
   (D4  K5.nd rfl (Or.inl rfl) (PN.u3 (Z9 (C6 h) (PM.n (wJ (B9 (pl 6 d h (i9 (PU.n (o3 (uv 5 rfl) a7) rfl) o4 rfl)) (B9 (PU.m (PU.u3 (uv 5 rfl))) cR rfl) rfl) rfl)) (PM.n (Dk fP ye (by rfl) q YU (i9 (PM.n (Og (PM.n (pl 6 d h (i9 (PU.n a7 rfl) o4 rfl))) (PU.n a7 rfl) (i7 _))) o4 rfl))) (λ_ _=>rfl))) rfl)
   (D4  K5.nd rfl (Or.inl rfl) (pl 6 g h (i9 (PU.n (uv 2 rfl) rfl) (i9 (PU.n (uv 3 rfl) rfl) o4 rfl) rfl)) rfl)
   (D4  K5.nd rfl (Or.inl rfl) (aj (PM.n (pl 6 d h (i9 (PU.n a7 rfl) o4 rfl))) (PU.n (uv 3 rfl) rfl)) rfl)
   (N1 (PM.n (A7 (r:=D2) 4 (pv 4) rfl (vO (B9 (PU.m (PU.u3 (l7 h (uv 1 rfl) (uv 5 rfl)))) (B9 (PU.m (l7 h (o3 (B4 (e7 u6 o7 rfl) rfl) (uv 1 rfl)) (uv 7 rfl))) (B9 (PU.m (PU.u3 (uv 8 rfl))) (B9 (PU.m (PU.u3 (uv 9 rfl))) (B9 (aj (PM.n (pl 6 d h (i9 (PU.n a7 rfl) o4 rfl))) (PU.n (uv 3 rfl) rfl)) cR rfl) rfl) rfl) rfl) rfl) rfl) rfl (λx=>V7 xz PySem.F.slot_list_append PySem.F.type_list_append y1 (pv 4) x))))) (λa b c=>p4 v2 rfl a b c))
   (K6 4 (pv 4) (by decide) rfl))) B
theorem O0:g9 ["_law_script","_law_names_here","_law_guards","_law_unit","_law_time","_law_loads","_law_k","_law_feed_here","_law_at","_law_course","_law_j"] ["_law_script","_law_names_here","_law_guards","_law_unit","_law_time"] (c6 iX):=by walk_at "s"
theorem BM (F:L6 K "_law_small_loads" "_law_small_loads" iX f y) (o:nV P w K mg base v q) (d:eO P w K mg base u p) (j:mg "len"=none) (e:mg "range"=none) (h:mg "tuple"=none)
  (len:A3 U4 5) (x:R8 U4 qV 11):p7 P w K mg base J7 3 f y ["_law_script","_law_names_here","_law_guards","_law_unit","_law_time"] (N5 K U4):=
 R9 (cl:=[.bor,.bor,.bor,.bor,.bor,.own,.bor,.own,.bor,.own,.bor]) F O0 rfl len (λz A outer B H E g=>(qA rfl (ss 5 O0.nd (B4 o7 rfl) rfl)
   (y3 (S0.m (Q9 (by rfl) e (p3 B7 W0 (by rfl) j KF (a8 (uv 1 rfl) c7 rfl)) rfl (λl=>G7 (by rfl) e l)) rfl) (gn 6 O0.nd)
    (MS rfl (ss 7 O0.nd (pc o g (a8 (uv 0 rfl) (a8 (o3 a7 (uv 6 rfl)) c7 rfl) rfl) rfl) rfl)
   (D4  O0.nd rfl (Or.inl rfl) (PN.u3 (Z9 (C6 g) (Z9 (C6 g) (PU.n (uv 2 rfl) rfl) (PM.n (pl 7 d g (i9 (PU.n (p3 B7 W0 (by rfl) j KF (a8 (uv 2 rfl) c7 rfl)) rfl) o4 rfl))) (λ_ _=>rfl)) (PU.n a7 rfl) (λ_ _=>rfl))) rfl)
   (ss 9 O0.nd (B4 o7 rfl) rfl)
   (y3 (BA (by rfl) e (PM.n (pl 7 d g (i9 (PU.n a7 rfl) o4 rfl))) rfl (λl=>G7 (by rfl) e l)) (gn 10 O0.nd)
    (K4 rfl (N1 (PM.n (A7 (r:=D2) 9 (pv 9) rfl (vO (B9 (aj (PM.n (K2 (PU.n a7 rfl) (PM.n (pl 7 d g (i9 (PU.n a7 rfl) o4 rfl))))) (PU.n (uv 4 rfl) rfl)) (B9 (aj (PM.n (pl 7 d g (i9 (PU.n a7 rfl) o4 rfl))) (PU.n (uv 3 rfl) rfl)) cR rfl) rfl) rfl) rfl (λl=>V7 xz PySem.F.slot_list_append PySem.F.type_list_append y1 (pv 9) l))))) (λa b c=>p4 v2 rfl a b c))
   (N1 (PM.n (A7 (r:=D2) 5 (pv 5) rfl (vO (B9 (PU.m (PU.u3 (l7 g (uv 1 rfl) (uv 6 rfl)))) (B9 (PU.m (PU.u3 (uv 8 rfl))) (B9 (PU.m (y4 D6 cb (by rfl) h Wp (a8 (uv 9 rfl) c7 rfl))) (B9 (aj (PM.n (pl 7 d g (i9 (PU.n a7 rfl) o4 rfl))) (PU.n (uv 3 rfl) rfl)) (B9 (Og (PM.n (pl 7 d g (i9 (PU.n a7 rfl) o4 rfl))) (PU.n a7 rfl) (i7 _)) cR rfl) rfl) rfl) rfl) rfl) rfl) rfl (λl=>V7 xz PySem.F.slot_list_append PySem.F.type_list_append y1 (pv 5) l))))) (λa b c=>p4 v2 rfl a b c))
   (K6 5 (pv 5) (by decide) rfl))) x
abbrev om:ZT:=["_law_script","_law_unit","_law_time","_law_feed_here","_law_many","_law_names_here","_law_guards","_law_loads","_law_found"]
theorem L1:g9 om ["_law_script","_law_unit","_law_time"] (c6 eY):=by walk_at "s"
theorem xP:(["_law_guard","_law_found"]:ZT).Nodup:=by decide +kernel
theorem Cs (F:L6 K "_law_small_board" "_law_small_board" eY f O) (h:nV P w K mg base J B) (a:eO P w K mg base I z) (l:Ha P w K mg base G x) (g:qa P w K mg base y r) (j:ku P w K mg base C v) (b:mG P w K mg base q o) (d:uQ P w K mg base u p) (c:mg "tuple"=none)
  (len:A3 S9 3) (M:R8 S9 rh 9):p7 P w K mg base J7 4 f O ["_law_script","_law_unit","_law_time"] (N5 K S9):=
 R9 (cl:=[.bor,.bor,.bor,.own,.bor,.bor,.bor,.bor,.bor]) F L1 rfl len (λQ A outer R H E e=>(WG rfl (ss 3 L1.nd (pc h e (a8 (uv 0 rfl) (a8 a7 c7 rfl) rfl) rfl) rfl)
   (D4  L1.nd rfl (Or.inl rfl) (K2 (PU.n a7 rfl) (PM.n (pl 3 a e (i9 (PU.n a7 rfl) o4 rfl)))) rfl)
   (D4  L1.nd rfl (Or.inl rfl) (Fz l (e.mono (by decide)) (by rfl) (PU.m (pc h e (a8 (uv 0 rfl) (a8 a7 c7 rfl) rfl) rfl)) (B9 (K2 (PU.n (uv 4 rfl) rfl) (PM.n (pl 3 a e (i9 (PU.n a7 rfl) o4 rfl)))) cR rfl) rfl) rfl)
   (ss 6 L1.nd (pc b e (a8 (uv 0 rfl) (a8 (jQ (uv 5 rfl) eU (ah (uv 4 rfl))) (a8 (uv 1 rfl) (a8 (uv 2 rfl) c7 rfl) rfl) rfl) rfl) rfl) rfl)
   (ss 7 L1.nd (pc d e (a8 (uv 0 rfl) (a8 (jQ (uv 5 rfl) (ah (uv 4 rfl)) eU) (a8 (uv 6 rfl) (a8 (uv 1 rfl) (a8 (uv 2 rfl) c7 rfl) rfl) rfl) rfl) rfl) rfl) rfl)
   (gL  L1.nd rfl (Or.inr rfl) (pc j e (a8 (Lm (Aq (uv 6 rfl) (Aq (uv 7 rfl) PC rfl rfl) rfl rfl) rfl) c7 rfl) rfl) rfl)
   (G8 (Oe (PM.n (pl 3 a e (i9 (PU.n a7 rfl) o4 rfl))) (PU.n a7 rfl) (i7 _)) (K4 rfl (iy  (XN:=om)  (XS:=c6 eY) (cap:=[none,some 8]) L1.nd rfl rfl rfl (by decide +kernel) rfl rfl rfl rfl (j9 (uv 6 rfl)) (λ_ _ _ _=>(gn 0 xP)) (λ_ _ _ _=>C8) (λ_ _ _ _=>(pc g e (a8 (uv 0 rfl) (a8 (l7 e (uv 1 rfl) (l7 e (uv 0 rfl) a7)) c7 rfl) rfl) rfl)))) A6)
   (o9 (E7 (e7 (y4 D6 cb (by rfl) c Wp (a8 (uv 6 rfl) c7 rfl)) (e7 (y4 D6 cb (by rfl) c Wp (a8 (uv 7 rfl) c7 rfl)) o7 rfl) rfl) rfl) rfl))) M
abbrev wU:ZT:=["_law_board","_law_place","_law_known","_law_found","_law_load"]
theorem oU:g9 wU ["_law_board","_law_place"] (c6 sR):=by walk_at "s"
theorem MW:(["_law_guard"]:ZT).Nodup:=by decide +kernel
theorem Ko:(["_law_name","_law_known","_law_found"]:ZT).Nodup:=by decide +kernel
theorem Qv (F:L6 K "_law_path" "_law_path" sR f r) (g:xx P w K mg base p l) (e:ku P w K mg base o j) (h:mg "dict"=none)
  (len:A3 dM 2) (q:R8 dM NO 5):p7 P w K mg base J7 3 f r ["_law_board","_law_place"] (N5 K dM):=
 R9 (cl:=[.bor,.bor,.bor,.bor,.bor]) F oU rfl len (λu A outer v H E d=>(IV rfl (gL  oU.nd rfl (Or.inr rfl) (y4 (cX rfl) oC (by rfl) h YI (a8 (U7 (XN:=wU)  (XS:=c6 sR)  (by decide +kernel) rfl rfl rfl rfl (j9 (l7 d (uv 0 rfl) a7)) (λ_ _ _ _=>(gn 0 MW)) (λ_ _ _ _=>C8) (λ_ _ _ _=>(E7 (e7 (PU.u3 (l7 d (uv 0 rfl) a7)) (e7 (PU.u3 (uv 0 rfl)) o7 rfl) rfl) rfl))) c7 rfl)) rfl)
   (gL  oU.nd rfl (Or.inr rfl) (pc e d (a8 (uv 0 rfl) c7 rfl) rfl) rfl)
   (y3 (S0.m (j9 (l7 d (uv 0 rfl) a7)) rfl) (gn 4 oU.nd)
    (K4 rfl (G8 (P0.m (ji.pt (R0 (X3 d (l7 d (uv 4 rfl) a7) (uv 1 rfl) (i7 _)) (P4 (oK (Y5 (l7 d (uv 4 rfl) a7) (λ_=>rfl))))))) (K4 rfl (o9 (B4 o7 rfl) rfl)) A6)) (λa b c=>p4 v2 rfl a b c))
   (o9 (U7 (XN:=wU)  (XS:=c6 sR)  (by decide +kernel) rfl rfl rfl rfl (j9 (l7 d (pc g d (a8 (uv 0 rfl) c7 rfl) rfl) (uv 1 rfl))) (λ_ _ _ _=>(gn 0 Ko)) (λ_ _ _ _=>C8) (λ_ _ _ _=>(E7 (e7 (PU.u3 (l7 d (uv 1 rfl) (uv 0 rfl))) (e7 (PU.u3 (l7 d (uv 2 rfl) (uv 0 rfl))) o7 rfl) rfl) rfl))) rfl))) q
theorem eI:g9 ["_law_path_here","_law_most_here","_law_lows_here","_law_guard","_law_one","_law_step"] ["_law_path_here","_law_most_here"] (c6 yR):=by walk_at "s"
theorem Mf (F:L6 K "_law_lows" "_law_lows" yR f j) (e:mg "list"=none) (d:mg "sorted"=none)
  (len:A3 bF 2) (i:R8 bF Jq 6):p7 P w K mg base J7 1 f j ["_law_path_here","_law_most_here"] (N5 K bF):=
 R9 (cl:=[.bor,.bor,.own,.bor,.bor,.bor]) F eI rfl len (λl A outer o H E g=>(qA rfl (ss 2 eI.nd (Hm a7 Ak) rfl)
   (y3 (S0.m (j9 (uv 0 rfl)) rfl) (Z1  (l9 (gn 3 eI.nd) (l9 (gn 4 eI.nd) P1)) (λ_ _ _ h=>je h) (λp=>N8 rfl p))
    (K4 rfl (y3 (S0.m (j9 (l7 g (uv 3 rfl) a7)) rfl) (gn 5 eI.nd)
    (K4 rfl (G8 (P0.m (iI (D8 (l7 g (uv 5 rfl) a7) (uv 4 rfl)) (uv 1 rfl) (i7 _))) (K4 rfl (bo (C6 g) 2 (pv 2) rfl (PU.n Ak rfl) (PU.n (D8 (l7 g (uv 5 rfl) a7) (uv 4 rfl)) rfl))) A6)) (λa b c=>p4 v2 rfl a b c))) (λa b c=>p4 v2 rfl a b c))
   (o9 (p3 xu QS (by rfl) d PyProof.Rows.boot_sorted (a8 (y4 (yF rfl) KN (by rfl) e PyProof.Rows.boot_list (a8 (uv 2 rfl) c7 rfl)) c7 rfl)) rfl))) i
theorem pF:g9 ["_law_board","_law_found","_law_guard"] ["_law_board"] (c6 yC):=by walk_at "s"
theorem ML (F:L6 K "_law_loud" "_law_loud" yC f j) (d:ku P w K mg base h g)
  (len:A3 dF 1) (i:R8 dF Fj 3):p7 P w K mg base J7 3 f j ["_law_board"] (N5 K dF):=
 R9 (cl:=[.bor,.bor,.bor]) F pF rfl len (λl A outer o H E e=>(qA rfl (ss 1 pF.nd (pc d e (a8 (uv 0 rfl) c7 rfl) rfl) rfl)
   (y3 (S0.m (j9 (l7 e (uv 0 rfl) a7)) rfl) (gn 2 pF.nd)
    (K4 rfl (G8 (P0.m (HA (l7 e (uv 1 rfl) (l7 e (uv 2 rfl) a7)) (l7 e (l7 e (l7 e (uv 2 rfl) a7) a7) a7) (i7 _))) (K4 rfl (o9 (PU.u3 (l7 e (uv 2 rfl) a7)) rfl)) A6)) (λa b c=>p4 v2 rfl a b c))
   (o9 u6 rfl))) i
theorem FW:g9 ["_law_board"] ["_law_board"] (c6 dR):=by walk_at "s"
theorem BR:(["_law_guard"]:ZT).Nodup:=by decide +kernel
theorem Cj:(["_law_load"]:ZT).Nodup:=by decide +kernel
theorem EK (F:L6 K "_law_places" "_law_places" dR f c)
  (len:A3 au 1) (b:R8 au Ai 1):p7 P w K mg base J7 1 f c ["_law_board"] (N5 K au):=
 R9 (cl:=[.bor]) F FW rfl len (λd A outer e H E a=>(K4 rfl (o9 (o3 (U7 (XN:=["_law_board"])  (XS:=c6 dR)  (by decide +kernel) rfl rfl rfl rfl (j9 (l7 a (uv 0 rfl) a7)) (λ_ _ _ _=>(gn 0 BR)) (λ_ _ _ _=>C8) (λ_ _ _ _=>(PU.u3 (l7 a (uv 0 rfl) a7)))) (U7 (XN:=["_law_board"])  (XS:=c6 dR)  (by decide +kernel) rfl rfl rfl rfl (j9 (l7 a (uv 0 rfl) a7)) (λ_ _ _ _=>(gn 0 Cj)) (λ_ _ _ _=>C8) (λ_ _ _ _=>(PU.u3 (l7 a (uv 0 rfl) a7))))) rfl))) b
theorem ic:g9 ["_law_script","_law_feed_here","_law_unit","_law_time"] ["_law_script"] (c6 vJ):=by walk_at "s"
theorem Lz (F:L6 K "_law_sized" "_law_sized" vJ f q) (d:nV P w K mg base o j) (b:eO P w K mg base l h) (a:vi P w K mg base g c)
  (len:A3 cQ 1) (p:R8 cQ Hx 4):p7 P w K mg base J7 5 f q ["_law_script"] (N5 K cQ):=
 R9 (cl:=[.bor,.own,.bor,.bor]) F ic rfl len (λr A outer u H E e=>(IV rfl (ss 1 ic.nd (pc d e (a8 (uv 0 rfl) (a8 a7 c7 rfl) rfl) rfl) rfl)
   (D4  ic.nd rfl (Or.inl rfl) (PN.u3 (Z9 (C6 e) (PU.n (B4 (e7 a7 (e7 a7 (e7 a7 (e7 (o3 (pV a7 a7) a7) o7 rfl) rfl) rfl) rfl) rfl) rfl) (PM.n (pl 1 b e (i9 (PU.n a7 rfl) o4 rfl))) (λ_ _=>rfl))) rfl)
   (D4  ic.nd rfl (Or.inl rfl) (PN.u3 (Z9 (C6 e) (PU.n (B4 (e7 a7 (e7 a7 (e7 a7 (e7 (pV a7 a7) o7 rfl) rfl) rfl) rfl) rfl) rfl) (PM.n (pl 1 b e (i9 (PU.n a7 rfl) o4 rfl))) (λ_ _=>rfl))) rfl)
   (o9 (E7 (e7 (pc a e (a8 (uv 0 rfl) (a8 (uv 2 rfl) (a8 (uv 3 rfl) c7 rfl) rfl) rfl) rfl) (e7 (PU.u3 (uv 2 rfl)) o7 rfl) rfl) rfl) rfl))) p
theorem jn:g9 ["_law_feed_here","_law_path_here","_law_unit","_law_way","_law_guard","_law_one","_law_step"] ["_law_feed_here","_law_path_here","_law_unit"] (c6 EL):=by walk_at "s"
theorem OY (F:L6 K "_law_most" "_law_most" EL f o) (a:eO P w K mg base j e) (c:mg "len"=none) (d:mg "max"=none)
  (len:NQ jH 3) (l:UY jH Nt 7):p7 P w K mg base J7 2 f o ["_law_feed_here","_law_path_here","_law_unit"] (Jv K jH):=
 UL (cl:=[.bor,.bor,.bor,.bor,.bor,.bor]) F jn rfl len (λq A outer r H E b=>(Wr rfl (D4  jn.nd rfl (Or.inl rfl) (pl 0 a b (i9 (PU.n a7 rfl) o4 rfl)) rfl)
   (G8 (P0.m (X3 b (uv 3 rfl) a7 (i7 _))) (K4 rfl (o9 (D8 (pV a7 a7) a7) rfl)) A6)
   (G8 (P0.m (ji.pt (sD (Aj (uv 3 rfl) a7 (i7 _)) (jk (X3 b (p3 B7 W0 (by rfl) c KF (a8 (uv 1 rfl) c7 rfl)) a7 (i7 _)))))) (K4 rfl (Jn (K2 (PU.n a7 rfl) (PM.n (aj (PM.n (pl 0 a b (i9 (PU.n a7 rfl) o4 rfl))) (PU.n (uv 2 rfl) rfl)))))) A6)
   (Oo (Z9 (C6 b) (PU.n (uv 1 rfl) rfl) (PM.n (pl 0 a b (i9 (PU.n (p3 B7 W0 (by rfl) c KF (a8 (uv 1 rfl) c7 rfl)) rfl) o4 rfl))) (λ_ _=>rfl)) (Z1  (l9 (gn 4 jn.nd) (l9 (gn 5 jn.nd) P1)) (λ_ _ _ h=>je h) (λp=>N8 rfl p)) (λp g=>W4 p g))
   (D4  jn.nd rfl (Or.inl rfl) (PN.u3 (Z9 (C6 b) (PU.n (l7 b (uv 4 rfl) a7) rfl) (PM.n (pl 0 a b (i9 (PU.n (p3 B7 W0 (by rfl) c KF (a8 (l7 b (uv 4 rfl) a7) c7 rfl)) rfl) o4 rfl))) (λ_ _=>rfl))) rfl)
   (Jn (GN (Z0 rfl) FF (by rfl) d Xu (i9 (PU.n a7 rfl) (i9 (PM.n (K2 (PU.n (D8 (D8 (l7 b (uv 6 rfl) a7) (uv 5 rfl)) a7) rfl) (PM.n (pl 0 a b (i9 (PU.n a7 rfl) o4 rfl))))) o4 rfl) rfl))))) l
theorem O6:g9 ["_law_board","_law_found","_law_lows_here","_law_guards","_law_guard","_law_mine","_law_low"] ["_law_board"] (c6 jj):=by walk_at "s"
theorem BE (F:L6 K "_law_sighted" "_law_sighted" jj f v) (e:qa P w K mg base o j) (h:ku P w K mg base p l) (i:mg "max"=none) (g:mg "tuple"=none)
  (len:A3 T4 1) (q:R8 T4 rH 7):p7 P w K mg base J7 3 f v ["_law_board"] (N5 K T4):=
 R9 (cl:=[.bor,.bor,.own,.own,.bor,.bor,.bor]) F O6 rfl len (λx A outer y H E d=>(MS rfl (ss 1 O6.nd (pc h d (a8 (uv 0 rfl) c7 rfl) rfl) rfl)
   (ss 2 O6.nd Ie rfl)
   (ss 3 O6.nd (B4 o7 rfl) rfl)
   (y3 (S0.m (j9 (EU (l7 d (uv 0 rfl) a7) (kO a7))) rfl) (gn 4 O6.nd)
    (IV rfl (ss 5 O6.nd (D8 (l7 d (l7 d (l7 d (uv 4 rfl) a7) a7) a7) (l7 d (uv 1 rfl) (l7 d (uv 4 rfl) a7))) rfl)
   (ss 6 O6.nd (p3 (Z0 rfl) FF (by rfl) i Xu (a8 (sG (uv 2 rfl) (l7 d (uv 4 rfl) a7) a7 ⟨rfl,rfl,rfl,rfl⟩) (a8 (uv 5 rfl) c7 rfl) rfl)) rfl)
   (N1 (PM.n (A7 (r:=D2) 3 (pv 3) rfl (PU.m (pc e d (a8 (uv 4 rfl) (a8 (D8 (uv 6 rfl) (uv 5 rfl)) c7 rfl) rfl) rfl)) rfl (λu=>V7 xz PySem.F.slot_list_append PySem.F.type_list_append y1 (pv 3) u))))
   (KO 2 (pv 2) rfl (PU.n (p3 (Z0 rfl) FF (by rfl) i Xu (a8 (sG (uv 2 rfl) (l7 d (uv 4 rfl) a7) a7 ⟨rfl,rfl,rfl,rfl⟩) (a8 (uv 6 rfl) c7 rfl) rfl)) rfl) (PU.n (l7 d (uv 4 rfl) a7) rfl))) (λa b c=>p4 v2 rfl a b c))
   (o9 (E7 (e7 (y4 D6 cb (by rfl) g Wp (a8 (JU (uv 3 rfl) (kO a7)) c7 rfl)) (e7 (PU.u3 (l7 d (uv 0 rfl) a7)) o7 rfl) rfl) rfl) rfl))) q
theorem fU:g9 ["_law_script","_law_board","_law_unit","_law_feed_here","_law_places_here"] ["_law_script"] (c6 FC):=by walk_at "s"
theorem Pl (F:L6 K "_law_case" "_law_case" FC f S) (q:nV P w K mg base Q G) (b:eO P w K mg base J z) (l:Aw P w K mg base M B) (c:zE P w K mg base y r) (e:HU P w K mg base I x) (o:NJ P w K mg base O C) (a:uP P w K mg base u j) (v:mg "len"=none)
  (len:A3 iY 1) (R:R8 iY Oh 5):p7 P w K mg base J7 6 f S ["_law_script"] (N5 K iY):=
 R9 (cl:=[.bor,.bor,.bor,.own,.bor]) F fU rfl len (λT A outer U H E d=>(MS rfl (Az (pc e d (a8 (uv 0 rfl) c7 rfl) rfl) rfl (Z1  (l9 (gn 1 fU.nd) (l9 (gn 2 fU.nd) P1)) (λ_ _ _ h=>je h) (λp=>N8 rfl p)) (λp g=>W4 p g))
   (ss 3 fU.nd (pc q d (a8 (uv 0 rfl) (a8 a7 c7 rfl) rfl) rfl) rfl)
   (G8 (Oe (PM.n (pl 3 b d (i9 (PU.n a7 rfl) o4 rfl))) (PU.n a7 rfl) (i7 _)) (K4 rfl (ss 1 fU.nd (pc a d (a8 (uv 1 rfl) c7 rfl) rfl) rfl)) A6)
   (ss 4 fU.nd (pc c d (a8 (uv 1 rfl) c7 rfl) rfl) rfl)
   (Qu  (PU.m (PU.u3 (uv 1 rfl))) rfl (pl 3 o d (i9 (PM.n (DM l (d.mono (by decide)) (by rfl) (i9 (PU.n (uv 1 rfl) rfl) (i9 (Z9 (C6 d) (PU.n (uv 4 rfl) rfl) (PM.n (pl 3 b d (i9 (PU.n (p3 B7 W0 (by rfl) v KF (a8 (uv 4 rfl) c7 rfl)) rfl) o4 rfl))) (λ_ _=>rfl)) o4 rfl) rfl) rfl)) (i9 (PU.n (uv 2 rfl) rfl) o4 rfl) rfl)) rfl (pv 3) (by decide) rfl))) R
abbrev zp:ZT:=["_law_path_here","_law_at","_law_greatness","_law_guard","_law_one","_law_times"]
theorem iD:g9 zp ["_law_path_here","_law_at","_law_greatness"] (c6 pC):=by walk_at "s"
theorem IA:(["_law_step","_law_one","_law_greatness"]:ZT).Nodup:=by decide +kernel
theorem LJ (F:L6 K "_law_turns" "_law_turns" pC f d) (b:mg "len"=none)
  (len:A3 U8 3) (c:R8 U8 HI 6):p7 P w K mg base J7 1 f d ["_law_path_here","_law_at","_law_greatness"] (N5 K U8):=
 R9 (cl:=[.bor,.bor,.bor,.bor,.bor,.bor]) F iD rfl len (λe A outer j H E a=>(IV rfl (Az (l7 a (uv 0 rfl) (uv 1 rfl)) rfl (Z1  (l9 (gn 3 iD.nd) (l9 (wt (pX  iD.nd rfl (Or.inr rfl)) rfl) P1)) (λ_ _ _ h=>je h) (λp=>N8 rfl p)) (λp g=>W4 p g))
   (iy  (XN:=zp)  (XS:=c6 pC)  iD.nd rfl rfl rfl (by decide +kernel) rfl rfl rfl rfl (j9 (l7 a (uv 3 rfl) a7)) (λ_ _ _ _=>(gn 0 IA)) (λ_ _ _ _=>(df (iI (l7 a (uv 0 rfl) a7) (o3 (uv 1 rfl) (uv 2 rfl)) (i7 _)))) (λ_ _ _ _=>(PU.u3 (l7 a (uv 0 rfl) a7))))
   (G8 (P0.m (X3 a (p3 B7 W0 (by rfl) b KF (a8 (uv 5 rfl) c7 rfl)) a7 (i7 _))) (K4 rfl (o9 u6 rfl)) A6)
   (o9 (PU.u3 (l7 a (uv 5 rfl) (kO a7))) rfl))) c
theorem oQ:g9 ["_law_path_here","_law_at","_law_greatness","_law_low","_law_up"] ["_law_path_here","_law_at","_law_greatness"] (c6 HB):=by walk_at "s"
theorem RE (F:L6 K "_law_lack" "_law_lack" HB f g) (a:vM P w K mg base d c)
  (len:A3 iK 3) (e:R8 iK NF 5):p7 P w K mg base J7 2 f g ["_law_path_here","_law_at","_law_greatness"] (N5 K iK):=
 R9 (cl:=[.bor,.bor,.bor,.bor,.bor]) F oQ rfl len (λh A outer i H E b=>(MS rfl (ss 3 oQ.nd (pc a b (a8 (uv 0 rfl) (a8 a7 (a8 (uv 2 rfl) c7 rfl) rfl) rfl) rfl) rfl)
   (ss 4 oQ.nd (pc a b (a8 (uv 0 rfl) (a8 (uv 1 rfl) (a8 (uv 2 rfl) c7 rfl) rfl) rfl) rfl) rfl)
   (G8 (P0.m (ji.pt (sD (kj (uv 3 rfl) u6 (i7 _)) (jk (kj (uv 4 rfl) u6 (i7 _)))))) (K4 rfl (o9 u6 rfl)) A6)
   (G8 (P0.m (A9 (pc a b (a8 (uv 0 rfl) (a8 (D8 (uv 1 rfl) a7) (a8 (uv 2 rfl) c7 rfl) rfl) rfl) rfl) u6 (i7 _))) (K4 rfl (ss 4 oQ.nd (o3 (uv 4 rfl) (l7 b (l7 b (l7 b (uv 0 rfl) (uv 1 rfl)) a7) a7)) rfl)) A6)
   (o9 (o3 (D8 (uv 3 rfl) (uv 4 rfl)) a7) rfl))) e
theorem M8:g9 ["_law_board","_law_most_here","_law_rows","_law_guard","_law_path_here","_law_at","_law_best","_law_greatness","_law_more"] ["_law_board","_law_most_here"] (c6 oX):=by walk_at "s"
theorem EN (F:L6 K "_law_pairs" "_law_pairs" oX f z) (h:Aw P w K mg base v o) (g:yo P w K mg base q l) (i:NP P w K mg base x p) (j:mg "len"=none) (e:mg "range"=none)
  (len:A3 ak 2) (y:R8 ak Ah 9):p7 P w K mg base J7 4 f z ["_law_board","_law_most_here"] (N5 K ak):=
 R9 (cl:=[.bor,.bor,.own,.bor,.bor,.bor,.bor,.bor,.bor]) F M8 rfl len (λB A outer C H E d=>(qA rfl (ss 2 M8.nd (B4 o7 rfl) rfl)
   (y3 (S0.m (j9 (l7 d (uv 0 rfl) a7)) rfl) (gn 3 M8.nd)
    (lZ rfl (ss 4 M8.nd (pc h d (a8 (uv 0 rfl) (a8 (l7 d (uv 3 rfl) a7) c7 rfl) rfl) rfl) rfl)
   (y3 (S0.m (jR (a8 a7 (a8 (p3 B7 W0 (by rfl) j KF (a8 (uv 4 rfl) c7 rfl)) c7 rfl) rfl) (λu=>fJ (by rfl) e u)) rfl) (gn 5 M8.nd)
    (qA rfl (ss 6 M8.nd u6 rfl)
   (y3 (S0.m (j9 (pc g d (a8 (uv 4 rfl) (a8 (uv 1 rfl) c7 rfl) rfl) rfl)) rfl) (gn 7 M8.nd)
    (lZ rfl (ss 8 M8.nd (pc i d (a8 (uv 4 rfl) (a8 (uv 5 rfl) (a8 (uv 7 rfl) c7 rfl) rfl) rfl) rfl) rfl)
   (G8 (P0.m (ji.pt (R0 (A9 (uv 8 rfl) u6 (i7 _)) (P4 (ji.pt (sD (kj (uv 6 rfl) u6 (i7 _)) (jk (Aj (l7 d (uv 6 rfl) a7) (uv 8 rfl) (i7 _))))))))) (K4 rfl (ss 6 M8.nd (E7 (e7 (PU.u3 (l7 d (uv 3 rfl) a7)) (e7 (PU.u3 (l7 d (l7 d (l7 d (uv 4 rfl) (uv 5 rfl)) a7) a7)) (e7 (PU.u3 (uv 8 rfl)) (e7 (PU.u3 (uv 7 rfl)) o7 rfl) rfl) rfl) rfl) rfl) rfl)) A6)) (λa b c=>p4 v2 rfl a b c))
   (G8 (P0.m (A9 (uv 6 rfl) u6 (i7 _))) (K4 rfl (N1 (PM.n (A7 (r:=D2) 2 (pv 2) rfl (PU.m (PU.u3 (uv 6 rfl))) rfl (λu=>V7 xz PySem.F.slot_list_append PySem.F.type_list_append y1 (pv 2) u))))) A6)) (λa b c=>p4 v2 rfl a b c))) (λa b c=>p4 v2 rfl a b c))
   (K6 2 (pv 2) (by decide) rfl))) y
theorem aW:g9 ["_law_board","_law_most_here","_law_guard","_law_path_here","_law_at","_law_greatness"] ["_law_board","_law_most_here"] (c6 qe):=by walk_at "s"
theorem Fp (F:L6 K "_law_blind" "_law_blind" qe f y) (i:Aw P w K mg base u p) (h:yo P w K mg base r o) (d:vM P w K mg base q l) (j:mg "len"=none) (g:mg "range"=none)
  (len:A3 af 2) (v:R8 af zr 6):p7 P w K mg base J7 4 f y ["_law_board","_law_most_here"] (N5 K af):=
 R9 (cl:=[.bor,.bor,.bor,.bor,.bor,.bor]) F aW rfl len (λz A outer B H E e=>(lZ rfl (y3 (S0.m (j9 (l7 e (uv 0 rfl) a7)) rfl) (gn 2 aW.nd)
    (lZ rfl (ss 3 aW.nd (pc i e (a8 (uv 0 rfl) (a8 (l7 e (uv 2 rfl) a7) c7 rfl) rfl) rfl) rfl)
   (y3 (S0.m (jR (a8 a7 (a8 (p3 B7 W0 (by rfl) j KF (a8 (uv 3 rfl) c7 rfl)) c7 rfl) rfl) (λx=>fJ (by rfl) g x)) rfl) (gn 4 aW.nd)
    (K4 rfl (y3 (S0.m (j9 (pc h e (a8 (uv 3 rfl) (a8 (uv 1 rfl) c7 rfl) rfl) rfl)) rfl) (gn 5 aW.nd)
    (K4 rfl (G8 (P0.m (ji.pt (R0 (A9 (pc d e (a8 (uv 3 rfl) (a8 (uv 4 rfl) (a8 (uv 5 rfl) c7 rfl) rfl) rfl) rfl) u6 (i7 _)) (P4 (kj (pc d e (a8 (uv 3 rfl) (a8 a7 (a8 (uv 5 rfl) c7 rfl) rfl) rfl) rfl) u6 (i7 _)))))) (K4 rfl (o9 (E7 (e7 (PU.u3 (l7 e (uv 2 rfl) a7)) (e7 (PU.u3 (l7 e (l7 e (l7 e (uv 3 rfl) (uv 4 rfl)) a7) a7)) (e7 (PU.u3 (uv 5 rfl)) o7 rfl) rfl) rfl) rfl) rfl)) A6)) (λa b c=>p4 v2 rfl a b c))) (λa b c=>p4 v2 rfl a b c))) (λa b c=>p4 v2 rfl a b c))
   (o9 u6 rfl))) v
abbrev sy:ZT:=["_law_board","_law_rows","_law_delays","_law_turn","_law_lower","_law_upper","_law_more","_law_greatness"]
theorem V1:g9 sy ["_law_board","_law_rows"] (c6 iA):=by walk_at "s"
theorem BJ:(["_law_guard"]:ZT).Nodup:=by decide +kernel
theorem DF (F:L6 K "_law_least" "_law_least" iA f q) (e:mg "dict"=none) (j:mg "len"=none) (i:mg "max"=none) (d:mg "range"=none)
  (len:A3 aB 2) (l:R8 aB zh 8):p7 P w K mg base J7 1 f q ["_law_board","_law_rows"] (N5 K aB):=
 R9 (cl:=[.bor,.bor,.own,.bor,.bor,.bor,.bor,.bor]) F V1 rfl len (λr A outer u H E g=>(qA rfl (ss 2 V1.nd (y4 (cX rfl) oC (by rfl) e YI (a8 (U7 (XN:=sy)  (XS:=c6 iA)  (by decide +kernel) rfl rfl rfl rfl (j9 (l7 g (uv 0 rfl) a7)) (λ_ _ _ _=>(gn 0 BJ)) (λ_ _ _ _=>C8) (λ_ _ _ _=>(E7 (e7 (PU.u3 (l7 g (uv 0 rfl) a7)) (e7 a7 o7 rfl) rfl) rfl))) c7 rfl)) rfl)
   (y3 (S0.m (Q9 (by rfl) d (p3 B7 W0 (by rfl) j KF (a8 (l7 g (uv 0 rfl) a7) c7 rfl)) rfl (λo=>G7 (by rfl) d o)) rfl) (gn 3 V1.nd)
    (K4 rfl (y3 (S0.m (j9 (uv 1 rfl)) rfl) (Z1  (l9 (gn 4 V1.nd) (l9 (gn 5 V1.nd) (l9 (gn 6 V1.nd) (l9 (gn 7 V1.nd) P1)))) (λ_ _ _ h=>AJ h) (λp=>N8 rfl p))
    (K4 rfl (bo (C6 g) 2 (pv 2) rfl (PU.n (p3 (Z0 rfl) FF (by rfl) i Xu (a8 (l7 g (uv 2 rfl) (uv 5 rfl)) (a8 (o3 (l7 g (uv 2 rfl) (uv 4 rfl)) (uv 6 rfl)) c7 rfl) rfl)) rfl) (PU.n (uv 5 rfl) rfl))) (λa b c=>p4 v2 rfl a b c))) (λa b c=>p4 v2 rfl a b c))
   (K6 2 (pv 2) (by decide) rfl))) l
theorem S1:g9 ["_law_board","_law_rows","_law_delays","_law_due_here","_law_guard","_law_name","_law_lower","_law_upper","_law_more","_law_greatness"] ["_law_board","_law_rows"] (c6 wO):=by walk_at "s"
theorem Mm (F:L6 K "_law_due" "_law_due" wO f o) (d:zJ P w K mg base i g)
  (len:A3 cU 2) (j:R8 cU FX 10):p7 P w K mg base J7 2 f o ["_law_board","_law_rows"] (N5 K cU):=
 R9 (cl:=[.bor,.bor,.bor,.own,.bor,.bor,.bor,.bor,.bor,.bor]) F S1 rfl len (λq A outer u H E e=>(IV rfl (ss 2 S1.nd (pc d e (a8 (uv 0 rfl) (a8 (uv 1 rfl) c7 rfl) rfl) rfl) rfl)
   (ss 3 S1.nd (B4 o7 rfl) rfl)
   (y3 (S0.m (j9 (l7 e (uv 0 rfl) a7)) rfl) (gn 4 S1.nd)
    (lZ rfl (ss 5 S1.nd (l7 e (uv 4 rfl) a7) rfl)
   (y3 (S0.m (j9 (uv 1 rfl)) rfl) (Z1  (l9 (gn 6 S1.nd) (l9 (gn 7 S1.nd) (l9 (gn 8 S1.nd) (l9 (gn 9 S1.nd) P1)))) (λ_ _ _ h=>AJ h) (λp=>N8 rfl p))
    (K4 rfl (G8 (P0.m (ji.pt (R0 (X3 e (uv 7 rfl) (uv 5 rfl) (i7 _)) (R0 (X3 e (o3 (l7 e (uv 2 rfl) (uv 6 rfl)) (uv 8 rfl)) (l7 e (uv 2 rfl) (uv 5 rfl)) (i7 _)) (P4 (tX (l7 e (uv 2 rfl) (uv 5 rfl)) a7 (i7 _))))))) (lZ rfl (N1 (PM.n (A7 (r:=D2) 3 (pv 3) rfl (PU.m (E7 (e7 (PU.u3 (uv 5 rfl)) (e7 (PU.u3 (uv 6 rfl)) (e7 (PU.u3 (uv 9 rfl)) o7 rfl) rfl) rfl) rfl)) rfl (λl=>V7 xz PySem.F.slot_list_append PySem.F.type_list_append y1 (pv 3) l))))
   MJ) A6)) (λa b c=>p4 v2 rfl a b c))) (λa b c=>p4 v2 rfl a b c))
   (K6 3 (pv 3) (by decide) rfl))) j
theorem bV:g9 ["_law_script","_law_board","_law_most_here","_law_feed_here","_law_due_here","_law_found"] ["_law_script"] (c6 ai):=by walk_at "s"
theorem JD (F:L6 K "law" "law" ai f M) (b:HQ P w K mg base B r) (i:FE P w K mg base C u) (l:Nu P w K mg base I z) (d:zu P w K mg base x o) (e:zl P w K mg base y q) (j:Jc P w K mg base G v) (a:mg "repr"=none)
  (len:A3 dC 1) (J:R8 dC Il 6):p7 P w K mg base J7 10 f M ["_law_script"] (N5 K dC):=
 R9 (cl:=[.bor,.bor,.bor,.bor,.bor,.own]) F bV rfl len (λO A outer Q H E c=>(Wh rfl (Az (pc l c (a8 (uv 0 rfl) c7 rfl) rfl) rfl (Z1  (l9 (gn 1 bV.nd) (l9 (gn 2 bV.nd) (l9 (gn 3 bV.nd) P1))) (λ_ _ _ h=>RY h) (λp=>N8 rfl p)) (λp g=>W4 p g))
   (G8 (P0.m (ji.pt (sD (A9 (pc i c (a8 (uv 1 rfl) c7 rfl) rfl) u6 (i7 _)) (jk (A9 (pc e c (a8 (uv 1 rfl) (a8 (uv 2 rfl) c7 rfl) rfl) rfl) u6 (i7 _)))))) (K4 rfl (o9 Ak rfl)) A6)
   (ss 4 bV.nd (p3 (fS c) wL (by rfl) a YH (a8 (pc j c (a8 (uv 1 rfl) (a8 (pc d c (a8 (uv 1 rfl) (a8 (uv 2 rfl) c7 rfl) rfl) rfl) c7 rfl) rfl) rfl) c7 rfl)) rfl)
   (ss 5 bV.nd (pc b c (a8 (uv 1 rfl) (a8 (uv 2 rfl) c7 rfl) rfl) rfl) rfl)
   (G8 (P0.m (GQ c (p3 (fS c) wL (by rfl) a YH (a8 (uv 5 rfl) c7 rfl)) (uv 4 rfl) (i7 _))) (K4 rfl (o9 Ak rfl)) A6)
   (N1 (PM.n (QM 5 (pv 5) rfl (RC xz PySem.F.slot_list_clear PySem.F.type_list_clear Jm (pv 5)))))
   (o9 (QD c (p3 (fS c) wL (by rfl) a YH (a8 (pc b c (a8 (uv 1 rfl) (a8 (uv 2 rfl) c7 rfl) rfl) rfl) c7 rfl)) (uv 4 rfl) (i7 _)) rfl))) J
end
theorem sz(h:n<=100000):n<=sizeLine:=by rw[Uf];omega
theorem iF(x:Str):∀ys:ZT,inD (.str x) (ys.map D.str)=decide (x∈ys)
 | []=>rfl
 | y::ys=>by
  have a:=iF x ys;unfold inD at a ⊢;rw[vc,Xi,a];show(decide (y=x)||decide (x∈ys))=_
  by_cases h:y=x
  ·subst h;simp
  ·have b:¬x=y:=λz=>h z.symm;simp[h,b]
theorem bZ:∀ys:ZT,(ys.map D.str).all aJ=true
 | []=>rfl
 | y::ys=>by
  rw[vc,Xt,bZ ys];rfl
theorem CK(ds:List D)(Q:D->Prop)(h:P8 ds Q):uW (EP Q) (i4 1 ds):=by
 obtain⟨d,b,rfl,g,o,i,q⟩:=h
 have body:b.length<sizeLine/\vd (g1 0) R1 (p9 (c9 (a6 0) (uC (.int 0)))) (V4 [none] [some d]) b [] λds=>(EP Q).rt (.lst ds) [some d]:=by
  refine⟨g6 (by omega),?_⟩;have e:b=b.map id:=by simp
  rw[e];refine M9  (f:=λd=>.str (RJ d)) b [] (λa j K R c=>?_) ?_
  ·obtain⟨x,r,rfl⟩:=i a j;walk_at "r";exact c
  ·have l:b.map (λd=>D.str (RJ d))=(b.map RJ).map D.str:=by rw[Bi];rfl
   rwa[l]
 rcases g with rfl | rfl
 ·exact body
 ·exact body
theorem oV:∀{gs:List Gd} {g:Gd},(gs.map (·.nm)).Nodup->g∈gs->gs.find? (λh=>decide (h.nm=g.nm))=some g
 | [],_,_,h=>by cases h
 | a::i,g,h,b=>by
  rw[vc] at h;obtain⟨d,c⟩:=List.nodup_cons.mp h;rw[z0];rcases List.mem_cons.mp b with e | e
  ·subst e;rw[v1 rfl]
  ·have ne:¬a.nm=g.nm:=λz=>d (z▸List.mem_map.mpr ⟨g,e,rfl⟩);rw[wl ne];exact oV c e
theorem bq(h:(gs.map (·.nm)).Nodup)(a:g∈gs):vn gs g.nm=g.un:=by
 unfold vn;rw[oV h a]
def vw(gs:List Gd)(dp:Nat->Nat)(n:Nat)(y:Str):Prop:=∃(j:Nat) (g:Gd),gs[j]?=some g/\g.nm=y/\1<=dp j/\dp j<=n
def si(gs:List Gd)(dp:Nat->Nat):Prop:=∀i g,gs[i]?=some g->1<=dp i/\dp i<=8/\(g.un=none->dp i=1)/\∀y,g.un=some y->∃j a,j<i/\gs[j]?=some a/\a.nm=y/\dp i=dp j+1
theorem vw.next(h:si gs dp)(o:(gs.map (·.nm)).Nodup)(d:vw gs dp (n+1) y)(e:vn gs y=some z):vw gs dp n z:=by
 obtain⟨j,g,c,rfl,r,q⟩:=d;rw[bq o (oT c)] at e;obtain⟨_,_,_,a⟩:=h j g c;obtain⟨b,i,_,l,p,u⟩:=a z e;exact⟨b,i,l,p,(h b i l).1,by omega⟩
theorem Kj(ds:List D)(Q:D->Prop)(h:cH ds Q):ED (EP Q) (i4 5 ds):=by
 obtain⟨d,gs,x,rfl,hs,O,⟨g0,M,e0⟩,q⟩:=h;obtain⟨dp,B⟩:=O.un;have hl:=O.len;have I:=O.nd
 have l:∀c,(∀g∈gs,u4 c (.inr g.nm)=some (uD g.un))->sO (EP Q) [some d,some (.str x),some (.dic c),none,none]:=λc hv=>by
  walk_at "r";refine⟨λm T=>∃(b:ZT) (a:Option Str) (E:Option D),T=[some d,some (uD a),some (.dic c),E,some (kS b)]/\b++ups gs m a=ups gs 8 (some x)/\b.length<=8-m/\m<=8/\(∀y,a=some y->vw gs dp m y),⟨8,[],some x,none,rfl,rfl,xL _,sK _,λy hy=>?_⟩,?_⟩
  ·cases hy;obtain⟨j,U⟩:=Da M;obtain⟨a1,a2,_⟩:=B j g0 U;exact⟨j,g0,U,e0,a1,a2⟩
  ·rintro m T ⟨b,a,E,rfl,i,ha,hm,hd⟩
   cases a with
   | none=>
    walk_at "r";have e:ups gs m none=[]:=by cases m<;>rfl
    rw[e,vy] at i;rwa[<-i] at q
   | some y=>
    have S:=hd y rfl
    have J:∃G,m=G+1:=by
     obtain⟨_,_,_,_,Y,X⟩:=S;exact⟨m-1,by omega⟩
    obtain⟨G,rfl⟩:=J
    have C:∃g∈gs,g.nm=y:=by
     obtain⟨j,g,Y,X,_⟩:=S;exact⟨g,oT Y,X⟩
    obtain⟨g,p,rfl⟩:=C;have o:=bq I p;walk_at "r";refine⟨by rw[dL];exact g6 (by omega),?_⟩;refine⟨_,_,rfl,hv g p,rfl,?_⟩;refine⟨G,XH _,b++[g.nm],g.un,E,?_,?_,?_,by omega,λz hz=>S.next B I (o.trans hz)⟩
    ·unfold kS;rw[v7];rfl
    ·rw[wT,<-o];exact i
    ·rw[vv,BB];omega
 rcases hs with rfl | rfl
 all_goals
  refine⟨by rw[dL];exact g6 (by omega),?_⟩;refine iV (k:=λg:Gd=>.inr g.nm) (v:=λg:Gd=>uD g.un) gs [] (λg C K R H=>?_) ⟨rfl,?_⟩
  ·obtain⟨n,u,cv,de,wa⟩:=g;have H:K (.inr n) (uD u):=H;have iU:u3 (uD u)=true:=jq u;walk_at "r";exact⟨iU,H⟩
  ·refine l _ λg C=>kg (k:=λg:Gd=>(.inr g.nm:Key)) (v:=λg:Gd=>uD g.un) gs [] ?_ g C;have e:gs.map (λg:Gd=>(.inr g.nm:Key))=(gs.map (·.nm)).map (λy=>(.inr y:Key)):=by rw[Bi];rfl
   rw[e,List.Nodup,XA];exact I.imp λh z=>h (XG z)
theorem Uu(gs:List Gd):(gs.map gD).map RJ=gs.map (·.nm):=by rw[Bi];rfl
theorem KZ(gs:List Gd):∀x∈gs.map gD,Ol x:=λx a=>by
 obtain⟨g,_,rfl⟩:=List.mem_map.mp a;exact⟨_,_,rfl⟩
theorem Sy(gs:List Ld):(gs.map lD).map RJ=gs.map (·.nm):=by rw[Bi];rfl
theorem Lg(gs:List Ld):∀x∈gs.map lD,Ol x:=λx a=>by
 obtain⟨g,_,rfl⟩:=List.mem_map.mp a;exact⟨_,_,rfl⟩
theorem j5.dG(h:j5 b):Tz b.gs:=⟨h.g16,(List.nodup_append.mp h.nd).1,h.un⟩
theorem vI(ds:List D)(Q:D->Prop)(h:B6 ds Q):nQ (EP Q) (i4 1 ds):=by
 obtain⟨b,rfl,a,q⟩:=h;have:=a.g16;walk_at "r";refine⟨_,_,rfl,.inl rfl,by rw[dL];omega,KZ _,?_⟩;rwa[Uu]
theorem CS(ds:List D)(Q:D->Prop)(h:U3 ds Q):sk (EP Q) (i4 1 ds):=by
 obtain⟨b,rfl,a,q⟩:=h;have:=a.l24;walk_at "r";refine⟨_,_,rfl,.inl rfl,by rw[dL];omega,Lg _,?_⟩;rwa[Sy]
theorem yH(ds:List D)(Q:D->Prop)(h:O9 ds Q):oq (EP Q) (i4 2 ds):=by
 obtain⟨b,d,rfl,g,e,q⟩:=h;obtain⟨a,c⟩:=Ni e;refine⟨d,a,"str",rfl,c,rfl,?_⟩;cases d<;>first | (cases c;done) | skip
 case str x=>
  cases c;refine Br.yes rfl ?_;have q:Q (.bl (decide (x∈j7 b))):=q;rw[<-iF] at q;exact⟨b,rfl,g,⟨rfl,_,rfl,bZ _,q⟩⟩
 all_goals
  cases c;exact Br.no (by decide) q
theorem Bo(ds:List D)(Q:D->Prop)(h:T3 ds Q):tq (EP Q) (i4 2 ds):=by
 obtain⟨b,d,rfl,g,e,q⟩:=h;obtain⟨a,c⟩:=Ni e;refine⟨d,a,"str",rfl,c,rfl,?_⟩;cases d<;>first | (cases c;done) | skip
 case str x=>
  cases c;refine Br.yes rfl ?_;have q:Q (.bl (decide (x∈L9 b))):=q;rw[<-iF] at q;exact⟨b,rfl,g,⟨rfl,_,rfl,bZ _,q⟩⟩
 all_goals
  cases c;exact Br.no (by decide) q
theorem xC(ds:List D)(Q:D->Prop)(h:O3 ds Q):nH (EP Q) (i4 2 ds):=by
 obtain⟨b,d,rfl,c,a,q⟩:=h;refine⟨b,d,rfl,c,a,⟨λe=>?_,λe=>⟨b,d,rfl,c,a,?_⟩⟩⟩
 ·rwa[e] at q
 ·rwa[e] at q
theorem LD(a:j5 b):(b.ls.map (·.nm)).Nodup:=(List.nodup_append.mp a.nd).2.1
theorem Q8:∀{ls:List Ld} {l:Ld},(ls.map (·.nm)).Nodup->l∈ls->ls.find? (λh=>decide (h.nm=l.nm))=some l
 | [],_,_,h=>by cases h
 | a::i,g,h,b=>by
  rw[vc] at h;obtain⟨d,c⟩:=List.nodup_cons.mp h;rw[z0];rcases List.mem_cons.mp b with e | e
  ·subst e;rw[v1 rfl]
  ·have ne:¬a.nm=g.nm:=λz=>d (z▸List.mem_map.mpr ⟨g,e,rfl⟩);rw[wl ne];exact Q8 c e
theorem ba{ls:List Ld}(h:x∉ls.map (·.nm)):ls.find? (λh=>decide (h.nm=x))=none:=by
 rw[List.find?_eq_none];intro l a e;exact h (List.mem_map.mpr ⟨l,a,Ch e⟩)
theorem qE(a:j5 b)(d:x∈j7 b++L9 b):∃g∈b.gs,g.nm=Z2 b x:=by
 unfold Z2;rcases List.mem_append.mp d with h | h
 ·have i:=λz=>(List.nodup_append.mp a.nd).2.2 x h x z rfl;rw[ba i];obtain⟨g,j,e⟩:=List.mem_map.mp h;exact⟨g,j,e⟩
 ·obtain⟨l,c,rfl⟩:=List.mem_map.mp h;rw[Q8 (LD a) c];exact a.at_ l c
theorem MG(g:j5 b)(a:List (Key×D))(d:∀l∈b.ls,u4 a (.inr l.nm)=some (.str l.at_))(e:∀x,x∉L9 b->u4 a (.inr x)=none)(x:Str):(u4 a (.inr x)).getD (.str x)=.str (Z2 b x):=by
 unfold Z2
 by_cases h:x∈L9 b
 ·obtain⟨l,c,rfl⟩:=List.mem_map.mp h;rw[Q8 (LD g) c,d l c];rfl
 ·rw[ba h,e x h];rfl
theorem sum_add{a:Type}(f g:a->Int):∀l:List a,(l.map λx=>f x+g x).sum=(l.map f).sum+(l.map g).sum
 | []=>rfl
 | x::l=>by
  rw[vc,vc,vc,UF,UF,UF,sum_add f g l];omega
theorem Q6{a:Type}(l:List a)(f:a->Int)(h:∀x∈l,f x=0):(l.map f).sum=0:=by
 induction l with
 | nil=>rfl
 | cons x l b=>rw[vc,UF,h x hQ,b λy c=>h y (hH _ c)];rfl
theorem L8{a:Type}{l:List a}{f g:a->Int}(h:∀x∈l,f x=g x):(l.map f).sum=(l.map g).sum:=by
 rw[Xa h]
theorem uz{b a:Type}(f:b->a->Int)(m:List a):∀l:List b,(l.map λx=>(m.map λy=>f x y).sum).sum=(m.map λy=>(l.map λx=>f x y).sum).sum
 | []=>(Q6 m (λ_=>0) λ_ _=>rfl).symm
 | x::l=>by
  rw[vc,UF,uz f m l,<-sum_add];rfl
theorem An{a:Type}(f:a->Int)(c:Int):∀l:List a,(l.map f).sum*c=(l.map λx=>f x*c).sum
 | []=>Yr c
 | x::l=>by rw[vc,vc,UF,UF,Zy,An f c l]
theorem pZ{b:Type}{nm:b->Str}(f:b->Int):∀{l:List b} {a:b},(l.map nm).Nodup->a∈l->(l.map λx=>if nm x=nm a then f x else 0).sum=f a
 | [],_,_,h=>by cases h
 | x::l,a,nd,h=>by
  obtain⟨c,g⟩:=List.nodup_cons.mp nd;rw[vc,UF];rcases List.mem_cons.mp h with e | e
  ·subst e;rw[ux rfl,Q6 l _ λy d=>uk λz:nm y=nm a=>c (z▸List.mem_map.mpr ⟨y,d,rfl⟩)];omega
  ·have ne:¬nm x=nm a:=λz=>c (z▸List.mem_map.mpr ⟨a,e,rfl⟩);rw[uk ne,pZ f g e];omega
theorem gN(y x:Str)(l:ZT):(((x::l).count y:Nat):Int)=(if x=y then 1 else 0)+((l.count y:Nat):Int):=by
 by_cases h:x=y
 ·subst h;simp;omega
 ·simp[h]
theorem zX(b:si gs dp)(nd:(gs.map (·.nm)).Nodup)(y:Str):∀(n:Nat) (x:Str),vw gs dp n x ->
  (((ups gs n (some x)).count y:Nat):Int)=(if x=y then 1 else 0)+(gs.map λh=>if h.un=some y then(((ups gs n (some x)).count h.nm:Nat):Int) else 0).sum
 | 0,x,d=>by
  obtain⟨_,_,_,_,p,o⟩:=d;omega
 | n+1,x,d=>by
  obtain⟨j,g,l,rfl,p,o⟩:=id d;have c:=oT l;have a:=bq nd c
  have C:ups gs (n+1) (some g.nm)=g.nm::ups gs n g.un:=by
   show g.nm::ups gs n (vn gs g.nm)=_;rw[a]
  rw[C,gN]
  have B:(gs.map λh=>if h.un=some y then(((g.nm::ups gs n g.un).count h.nm):Int) else 0).sum=(if g.un=some y then 1 else 0)+(gs.map λh=>if h.un=some y then(((ups gs n g.un).count h.nm):Int) else 0).sum:=by
   have v:=pZ  (λh=>if h.un=some y then 1 else 0) nd c;rw[<-v,<-sum_add];refine L8 λh _=>?_;rw[gN]
   by_cases z:h.un=some y
   ·rw[ux z,ux z,ux z]
    by_cases z2:g.nm=h.nm
    ·rw[ux z2,ux z2.symm]
    ·rw[uk z2,uk λw=>z2 w.symm]
   ·rw[uk z];split<;>rfl
  rw[B]
  cases i:g.un with
  | none=>
   have u:ups gs n none=[]:=by cases n<;>rfl
   rw[u,Q6 gs _ λh _=>by split<;>rfl];simp
  | some z=>
   have E:=d.next b nd (a.trans i)
   have e:=zX b nd y n z E;rw[e]
   have r:(if (some z)=some y then(1:Int) else 0)=if z=y then 1 else 0:=by
    by_cases w:z=y
    ·rw[ux w,ux (by rw[w])]
    ·rw[uk w,uk λq=>w (x2 q)]
   rw[r]
theorem W2(d:j5 b)(a:x∈j7 b):Z2 b x=x:=by
 have c:=λz=>(List.nodup_append.mp d.nd).2.2 x a x z rfl;unfold Z2;rw[ba c]
theorem zZ(c:j5 b)(a:l∈b.ls):Z2 b l.nm=l.at_:=by
 unfold Z2;rw[Q8 (LD c) a]
theorem yZ(h:j5 b):∃dp,si b.gs dp/\∀x∈j7 b,vw b.gs dp 8 x:=by
 obtain⟨dp,a⟩:=h.dG.un;refine⟨dp,a,λx d=>?_⟩;obtain⟨g,e,rfl⟩:=List.mem_map.mp d;obtain⟨j,c⟩:=Da e;obtain⟨l,i,_⟩:=a j g c;exact⟨j,g,c,rfl,l,i⟩
theorem rq(d:j5 b)(a:x∈j7 b++L9 b):Z2 b x∈j7 b:=by
 obtain⟨g,c,e⟩:=qE d a;rw[<-e];exact List.mem_map.mpr ⟨g,c,rfl⟩
theorem Ff(a:j5 b)(d:x∈j7 b++L9 b)(y:Str) :
  (((l4 b x).count y:Nat):Int)=(if Z2 b x=y then 1 else 0)+(b.gs.map λh=>if h.un=some y then(((l4 b x).count h.nm:Nat):Int) else 0).sum:=by
 obtain⟨dp,c,e⟩:=yZ a;exact zX c a.dG.nd y 8 _ (e _ (rq a d))
theorem dI(a:si gs dp)(nd:(gs.map (·.nm)).Nodup):∀(n m:Nat) (x:Str),vw gs dp n x->n<=m->ups gs m (some x)=ups gs n (some x)
 | 0,_,_,d,_=>by
  obtain⟨_,_,_,_,e,c⟩:=d;omega
 | n+1,0,_,_,h=>by omega
 | n+1,m+1,x,d,h=>by
  show x::ups gs m (vn gs x)=x::ups gs n (vn gs x)
  cases b:vn gs x with
  | none=>cases m<;>cases n<;>rfl
  | some z=>rw[dI a nd n m z (d.next a nd b) (by omega)]
theorem zc(b:si gs dp)(nd:(gs.map (·.nm)).Nodup):∀(n:Nat) (x y:Str),n<=8->vw gs dp n x->y∈ups gs n (some x)->∀z∈ups gs 8 (some y),z∈ups gs n (some x)
 | 0,_,_,_,d,_=>by
  obtain⟨_,_,_,_,j,i⟩:=d;omega
 | n+1,x,y,h,d,g=>by
  rcases List.mem_cons.mp g with e | e
  ·subst e;rw[dI b nd (n+1) 8 y d h];exactλz c=>c
  ·cases a:vn gs x with
   | none=>
    rw[a] at e;cases n<;>cases e
   | some w=>
    rw[a] at e;intro z c;show z∈x::ups gs n (vn gs x);rw[a];exact hH _ (zc b nd n w y (by omega) (d.next b nd a) e z c)
theorem KW(a:j5 b)(e:x∈j7 b++L9 b)(d:y∈j7 b)(h:y∈l4 b x):∀z∈l4 b y,z∈l4 b x:=by
 obtain⟨dp,c,g⟩:=yZ a;unfold l4;rw[W2 a d];exact zc c a.dG.nd 8 _ y (sK _) (g _ (rq a e)) h
theorem DX(g:j5 b)(e:x∈j7 b++L9 b)(d:y∈j7 b)(h:y∈l4 b x)(f:G5 b a x=true):G5 b a y=true:=by
 unfold G5 at f ⊢;rw[XO] at f ⊢;exactλz c=>f z (KW g e d h z c)
theorem OZ(c:j5 b)(d:x∈j7 b++L9 b):G5 b a x=G5 b a (Z2 b x):=by
 unfold G5 l4;rw[W2 c (rq c d)]
noncomputable def xM(b:Bd)(P:Str->Int)(y:Str):Int:=P y+(b.ls.map λl=>if l.at_=y then P l.nm else 0).sum
theorem KD(c:j5 b)(P:Str->Int)(d:y∈j7 b):((j7 b++L9 b).map λx=>if Z2 b x=y then P x else 0).sum=xM b P y:=by
 rw[v7,Ym]
 have i:((j7 b).map λx=>if Z2 b x=y then P x else 0).sum=P y:=by
  have:=pZ  P   (by rw[Zm];exact c.dG.nd) d;rw[<-this];exact L8 λx e=>by rw[W2 c e]
 have h:((L9 b).map λx=>if Z2 b x=y then P x else 0).sum=(b.ls.map λl=>if l.at_=y then P l.nm else 0).sum:=by
  unfold L9;rw[Bi]
  exact L8 λl g=>by
   show(if Z2 b l.nm=y then P l.nm else 0)=_;rw[zZ c g]
 rw[i,h];rfl
theorem DV(e:j5 b)(c:ZT)(P:Str->Int)(g:y∈j7 b) :
  Q5 b c P y=if G5 b c y then xM b P y+(b.gs.map λh=>if h.un=some y then Q5 b c P h.nm else 0).sum else 0:=by
 by_cases f:G5 b c y=true
 ·rw[ux f,<-KD e P g]
  have l:(b.gs.map λh=>if h.un=some y then Q5 b c P h.nm else 0).sum=((j7 b++L9 b).map λx=>(b.gs.map λh=>if h.un=some y then(if G5 b c x then(((l4 b x).count h.nm))*P x else 0) else 0).sum).sum:=by
   rw[uz];refine L8 λh _=>?_
   by_cases z:h.un=some y
   ·rw[ux z];exact L8 λx _=>by rw[ux z]
   ·rw[uk z];exact(Q6 _ _ λx _=>uk z).symm
  rw[l,<-sum_add];refine L8 λx d=>?_;rw[Ff e d y,Zy,An]
  by_cases a:G5 b c x=true
  ·rw[ux a];have j:(if Z2 b x=y then(1:Int) else 0)*P x=if Z2 b x=y then P x else 0:=by split<;>simp
   congr 1;refine L8 λh _=>?_
   by_cases z:h.un=some y
   ·rw[ux z,ux z,ux a]
   ·rw[uk z,uk z];simp
  ·rw[uk a];have i:¬Z2 b x=y:=λz=>a (by rwa[OZ e d,z]);rw[uk i,Q6 b.gs _ λh _=>by split<;>rfl];rfl
 ·rw[uk f];refine Q6 _ _ λx d=>?_
  by_cases a:G5 b c x=true
  ·have:=λz=>f (DX e d g z a);rw[List.count_eq_zero.mpr this];simp
  ·rw[uk a]
theorem Et(h:QE o a):rQ o=some (a.map D.str):=by
 rcases h with rfl | rfl<;>rfl
theorem bP{b:Type}(k:b->Str)(v:b->D):∀as:List b,dt (as.map λa=>.tup [.str (k a),v a])=some (as.map λa=>((.inr (k a):Key),v a))
 | []=>rfl
 | a::as=>by
  rw[vc];unfold dt;rw[bP k v as];rfl
theorem mw{b:Type}(k:b->Str)(v:b->D)(as:List b):ke (as.map λa=>((.inr (k a):Key),v a))=as.foldl (λacc a=>putD acc (.inr (k a)) (v a)) []:=by
 unfold ke;rw[List.foldl_map]
theorem S2{b:Type}{k:b->Str}{v:b->D}{as:List b}(nd:(as.map k).Nodup){a:b}(c:a∈as):u4 (as.map λa=>((.inr (k a):Key),v a)) (.inr (k a))=some (v a):=by
 induction as with
 | nil=>cases c
 | cons x as d=>
  obtain⟨h,g⟩:=List.nodup_cons.mp nd;unfold u4;rw[vc,z0];rcases List.mem_cons.mp c with e | e
  ·subst e;rw[v1 rfl];rfl
  ·have ne:¬(Sum.inr (k x):Key)=Sum.inr (k a):=λz=>h (XG z▸List.mem_map.mpr ⟨a,e,rfl⟩);rw[wl ne];exact d g e
theorem jS{b:Type}{k:b->Str}{v:b->D}{as:List b}(h:x∉as.map k):u4 (as.map λa=>((.inr (k a):Key),v a)) (.inr x)=none:=by
 unfold u4;rw[Option.map_eq_none_iff,List.find?_eq_none];intro g c e;obtain⟨a,d,rfl⟩:=List.mem_map.mp c;exact h (List.mem_map.mpr ⟨a,d,XG (Ch e)⟩)
theorem nN{b:Type}{k:b->Str}{v:b->D}(as:List b)(x:Str):((as.map λa=>((.inr (k a):Key),v a)).any λg=>decide (g.1=Sum.inr x))=decide (x∈as.map k):=by
 by_cases h:x∈as.map k
 ·rw[v1 h,YE];obtain⟨a,d,rfl⟩:=List.mem_map.mp h;exact⟨_,List.mem_map.mpr ⟨a,d,rfl⟩,v1 rfl⟩
 ·rw[wl h,XD];intro g c e;obtain⟨a,d,rfl⟩:=List.mem_map.mp c;exact h (List.mem_map.mpr ⟨a,d,XG (Ch e)⟩)
theorem fM{b:Type}{k:b->Str}{v:b->D}{as:List b}(h:x∉as.map k):putD (as.map λa=>((.inr (k a):Key),v a)) (.inr x) d=(as.map λa=>((.inr (k a):Key),v a))++[(.inr x,d)]:=by
 unfold putD;rw[nN,wl h];rfl
theorem Y1(a:x∈j7 b):putD (i6 b v) (.inr x) (.int n)=i6 b (λy=>if y=x then n else v y):=by
 unfold i6 putD;rw[nN  ,v1 (show x∈b.gs.map (λg=>g.nm) from a),Bi];refine Xa λg _=>?_;show(if (Sum.inr g.nm)=Sum.inr x then _ else _)=_
 by_cases e:g.nm=x
 ·rw[ux (by rw[e])];show(_,D.int n)=(_,D.int (if g.nm=x then n else v g.nm));rw[ux e]
 ·rw[uk λz=>e (XG z)];show(_,D.int (v g.nm))=(_,D.int (if g.nm=x then n else v g.nm));rw[uk e]
theorem x4(d:j5 b)(a:x∈j7 b):u4 (i6 b v) (.inr x)=some (.int (v x)):=by
 obtain⟨g,c,rfl⟩:=List.mem_map.mp a;exact S2   d.dG.nd c
theorem y7(h:∀x∈j7 b,v x=w x):i6 b v=i6 b w:=
 Xa λg a=>by rw[h g.nm (List.mem_map.mpr ⟨g,a,rfl⟩)]
theorem X8(b:Bd)(v:Str->Int):(i6 b v).length=b.gs.length:=dL _
theorem O2{b:Type}{k:b->Str}{v:b->D}:∀{as bs:List b},((bs++as).map k).Nodup->as.foldl (λacc a=>putD acc (.inr (k a)) (v a)) (bs.map λa=>((.inr (k a):Key),v a))=(bs++as).map λa=>((.inr (k a):Key),v a)
 | [],bs,_=>by rw[vy];rfl
 | a::as,bs,nd=>by
  have e:bs++a::as=(bs++[a])++as:=by rw[wT];rfl
  rw[WY,e]
  have c:=λz=>by
   rw[v7] at nd;exact(List.nodup_append.mp nd).2.2 _ z _ hQ rfl
  rw[fM c];have d:(bs.map λa=>((.inr (k a)),v a))++[(.inr (k a),v a)]=(bs++[a]).map λa=>((.inr (k a):Key),v a):=by rw[v7];rfl
  rw[d];exact O2 (by rwa[<-e])
theorem cq{j:Type}{g:aQ}{tc:aS}{tk te:TU}{i:Ev}{F v:j->D}{k:j->Key}{Q:List (Key×D)->Prop}(p:j->Bool):∀(as:List j) (acc:List (Key×D)),(∀a∈as,∀(K:Key->D->Prop) (R:Prop),(p a=true->K (k a) (v a))->(p a=false->R)->g (F a) i λc=>tc c λb=>Br b (tk c λy=>te c λd=>∃k,X5 y=some k/\u3 d=true/\K k d) R) ->
  Q ((as.filter p).foldl (λacc a=>putD acc (k a) (v a)) acc)->qc g tc tk te i (as.map F) acc Q
 | [],acc,_,q=>q
 | a::as,acc,h,q=>by
  refine h a hQ (λk d=>qc g tc tk te i (as.map F) (putD acc k d) Q) _ (λe=>cq p as _ (λb l=>h b (hH _ l)) ?_) λe=>cq p as acc (λb l=>h b (hH _ l)) ?_
  ·rwa[Re,ux e] at q
  ·rwa[Re,uk (by rw[e];exact ud)] at q
theorem uw(h:xS kvs)(x:Str):(u4 kvs (.inr x)).getD (.int 0)=.int (Pd kvs x):=by
 unfold Pd
 cases e:u4 kvs (.inr x) with
 | none=>rfl
 | some d=>
  obtain⟨b,a,rfl⟩:=Option.map_eq_some_iff.mp e;obtain⟨n,c⟩:=h b (Yw a);show b.2=_;rw[c]
theorem Ek(a:ZT)(x:Str):Ey (a.map Sum.inr) (.inr x)=decide (x∈a):=by
 unfold Ey;rw[List.any_map]
 by_cases h:x∈a
 ·rw[v1 h,YE];exact⟨x,h,v1 rfl⟩
 ·rw[wl h,XD];intro y b e;have:=XG (Ch e);exact h (this▸b)
theorem Iy(a:j5 b)(d:ZT)(l:g∈b.gs):G5 b d g.nm=(decide (g.nm∉d)&&match g.un with | none=>true | some y=>G5 b d y):=by
 have i:g.nm∈j7 b:=List.mem_map.mpr ⟨g,l,rfl⟩;obtain⟨dp,e,x⟩:=yZ a;have c:=bq a.dG.nd l
 have v:l4 b g.nm=g.nm::ups b.gs 7 g.un:=by
  unfold l4;rw[W2 a i];show g.nm::ups b.gs 7 (vn b.gs g.nm)=_;rw[c]
 unfold G5;rw[v]
 cases p:g.un with
 | none=>rfl
 | some y=>
  have d7:=(x _ i).next e a.dG.nd (c.trans p)
  have o:y∈j7 b:=by
   obtain⟨j,h,r,q,_⟩:=d7;exact List.mem_map.mpr ⟨h,oT r,q⟩
  have u:l4 b y=ups b.gs 7 (some y):=by
   unfold l4;rw[W2 a o];exact dI e a.dG.nd 7 8 y d7 (by decide)
  show(_&&_)=(_&&(l4 b y).all _);rw[u]
theorem AL(ds:List D)(Q:D->Prop)(h:Q0 ds Q):uK (EP Q) (i4 1 ds):=by
 obtain⟨cv,rfl,a,q⟩:=h
 cases cv with
 | nil=>exact absurd a.1 (by decide)
 | cons p b=>
  walk_at "r";exact q
theorem WV(r:j5 b)(q:b.gs[i]?=some g)
  (J:T.nx [some (bD b),some o,some (.st (a.map Sum.inr)),some (.dic ((b.gs.take (i+1)).map λg=>(.inr g.nm,.bl (G5 b a g.nm)))),x,some (.str g.nm),some (uD g.un)]) :
  aN T [some (bD b),some o,some (.st (a.map Sum.inr)),some (.dic ((b.gs.take i).map λg=>(.inr g.nm,.bl (G5 b a g.nm)))),x,some (.str g.nm),some (uD g.un)]:=by
 have U:=r.g16;have H:=oT q;have d:g.nm∉(b.gs.take i).map (λg=>g.nm):=λz=>by
  obtain⟨h,S,e⟩:=List.mem_map.mp z;obtain⟨j,p⟩:=Da S;have G:=(List.getElem?_eq_some_iff.mp p).1;rw[wE] at G;rw[NE (by omega)] at p;have:=(XB (i:=j) (j:=i)  (by rw[dL];omega) r.dG.nd).mp (by rw[ue,ue,p,q];show some h.nm=some g.nm;rw[e]);omega
 have c:∀k,k=G5 b a g.nm->∃j,X5 (.str g.nm)=some j/\((b.gs.take i).map λg=>((.inr g.nm:Key),D.bl (G5 b a g.nm))).length<sizeLine/\T.nx [some (bD b),some o,some (.st (a.map Sum.inr)),some (.dic (putD ((b.gs.take i).map λg=>(.inr g.nm,.bl (G5 b a g.nm))) j (.bl k))),x,some (.str g.nm),some (uD g.un)]:=λk R=>by
  refine⟨.inr g.nm,rfl,by rw[dL,wE];exact g6 (by omega),?_⟩;rw[fM   d,R];rwa[v9,q,v7] at J
 have st:=Iy r a H;refine⟨_,rfl,?_⟩;rw[Ek]
 by_cases u:g.nm∈a
 ·refine Br.no (by rw[v1 u];rfl) ?_;rw[show decide (g.nm∉a)=false from wl λz=>z u] at st;exact⟨rfl,rfl,c false st.symm⟩
 ·refine Br.yes (by rw[wl u];rfl) ?_;rw[show decide (g.nm∉a)=true from v1 u,Bool.true_and] at st
  cases C:g.un with
  | none=>
   rw[C] at st c;exact Br.yes rfl ⟨rfl,rfl,c true st.symm⟩
  | some y=>
   rw[C] at st c;obtain⟨dp,O⟩:=r.un;obtain⟨_,_,_,up⟩:=O i g q;obtain⟨j,M,p,I,rfl,_⟩:=up y C
   have E:M∈b.gs.take i:=by
    refine oT (i:=j) ?_;rw[NE p];exact I
   have B:((b.gs.take i).map λg:Gd=>g.nm).Nodup:=by
    rw[List.map_take];exact r.dG.nd.sublist (Xz _ _)
   have Q:=S2 (k:=λg:Gd=>g.nm) (v:=λg:Gd=>.bl (G5 b a g.nm)) B E;refine Br.no rfl ?_;exact⟨_,_,rfl,Q,rfl,rfl,c (G5 b a M.nm) st.symm⟩
theorem rX(ds:List D)(Q:D->Prop)(h:K9 ds Q):jr (EP Q) (i4 7 ds):=by
 obtain⟨b,o,a,rfl,u,v,x,q⟩:=h;have C:a.map D.str=(a.map Sum.inr).map kD:=by rw[Bi];rfl
 refine⟨o,a.map Sum.inr,rfl,by rw[<-C];exact Et v,by rwa[dL],rfl,rfl,⟨_,J5 _ _,.of ⟨λi c=>∃l j d:Option D,c=[some (bD b),some o,some (.st (a.map Sum.inr)),some (.dic ((b.gs.take i).map λg=>(.inr g.nm,.bl (G5 b a g.nm)))),l,j,d],⟨none,none,none,rfl⟩,?_,?_⟩⟩⟩
 ·rintro i e c z ⟨l,j,d,rfl⟩;obtain⟨g,p,rfl⟩:=get_map z;refine⟨rfl,?_⟩;walk_at "r";exact⟨jq g.un,rfl,rfl,WV u p ⟨_,_,_,rfl⟩⟩
 ·rintro c ⟨l,j,d,rfl⟩;rwa[dL,wh]
noncomputable def wv(b:Bd)(a:ZT)(P:Str->Int)(pr:List Gd)(y:Str):Int:=if y∈pr.map (·.nm) then Q5 b a P y else xM b P y+(pr.map λh=>if h.un=some y then Q5 b a P h.nm else 0).sum
theorem yM(d:j5 b){i j:Nat}(a:b.gs[i]?=some g)(c:b.gs[j]?=some h)(e:g.nm=h.nm):i=j:=
 (XB    (by rw[dL];exact(List.getElem?_eq_some_iff.mp a).1) d.dG.nd).mp (by rw[ue,ue,a,c];show some g.nm=some h.nm;rw[e])
theorem zA(o:j5 b)(d:b.gs[i]?=some g)(c:i<j):g.nm∉(b.gs.drop j).map (·.nm):=λz=>by
 obtain⟨h,l,e⟩:=List.mem_map.mp z;obtain⟨k,a⟩:=Da l;rw[List.getElem?_drop] at a;have:=yM o a d e;omega
theorem Kr(l:j5 b)(o:ZT)(P:Str->Int)(p:b.gs[j]?=some g):wv b o P (b.gs.drop (j+1)) g.nm=xM b P g.nm+(b.gs.map λh=>if h.un=some g.nm then Q5 b o P h.nm else 0).sum:=by
 unfold wv;rw[uk (zA l p (XH _))];conv=>rhs;rw[<-Xv (j+1) b.gs,v7,Ym]
 rw[Q6 (b.gs.take (j+1)) _ λh r=>uk λz=>?_]
 ·omega
 ·obtain⟨i,c⟩:=Da r;have a:=(List.getElem?_eq_some_iff.mp c).1;rw[wE] at a;rw[NE (by omega)] at c;obtain⟨dp,q⟩:=l.un;obtain⟨_,_,_,up⟩:=q i h c;obtain⟨k,v,u,d,e,_⟩:=up _ z;have:=yM l d p e;omega
theorem qr(o:j5 b)(c:ZT)(P:Str->Int)(h:b.gs[j]?=some g):wv b c P (b.gs.drop j) y=if y=g.nm then Q5 b c P g.nm else wv b c P (b.gs.drop (j+1)) y+if g.un=some y then Q5 b c P g.nm else 0:=by
 have d:=(List.getElem?_eq_some_iff.mp h).1
 have e:b.gs.drop j=g::b.gs.drop (j+1):=by
  rw[Fk d];have:=(List.getElem?_eq_some_iff.mp h).2;rw[this]
 rw[e];unfold wv;rw[vc]
 by_cases l:y=g.nm
 ·subst l;rw[ux hQ,ux rfl]
 ·rw[uk l]
  by_cases a:y∈(b.gs.drop (j+1)).map (·.nm)
  ·rw[ux (hH _ a),ux a,uk,YK];intro z;obtain⟨dp,p⟩:=o.un;obtain⟨_,_,_,up⟩:=p j g h;obtain⟨k,u,r,i,q,_⟩:=up y z;exact zA o i (show k<j+1 by omega) (q▸a)
  ·rw[uk λz=>(List.mem_cons.mp z).elim l a,uk a,vc,UF];omega
theorem RV(d:j5 b)(e:b.gs[j]?=some g)(Q:m=j+1)
  (i:∀C B:Option D,T.nx [some (bD b),some (.dic (sQ b a)),some d2,some (.dic (i6 b (wv b a P (b.gs.drop j)))),some (gD g),I,C,B]) :
  bc T [some (bD b),some (.dic (sQ b a)),some d2,some (.dic (i6 b (wv b a P (b.gs.drop m)))),some (gD g),I,C,B]:=by
 subst Q;have R:=d.g16;have p:=oT e;have H:g.nm∈j7 b:=List.mem_map.mpr ⟨g,p,rfl⟩;have u:=Kr d a P e;have c:=DV d a P H;have G:=S2  (v:=λg=>.bl (G5 b a g.nm)) d.dG.nd p;walk_at "r";refine⟨jq g.un,rfl,rfl,?_⟩;have i:=i (some (.str g.nm)) (some (uD g.un));refine⟨_,_,rfl,G,?_⟩;by_cases f:G5 b a g.nm=true
 ·refine Br.no (by rw[f];rfl) ?_;rw[ux f,<-u] at c
  cases o:g.un with
  | none=>
   refine Br.no rfl ?_
   have:i6 b (wv b a P (b.gs.drop j))=i6 b (wv b a P (b.gs.drop (j+1))):=y7 λx _=>by
    rw[qr d a P e,o,uk (show ¬(none:Option Str)=some x fromλz=>by cases z),YK]
    by_cases z:x=g.nm
    ·rw[ux z,z];exact c
    ·rw[uk z]
   rw[this,o] at i;exact i
  | some y=>
   have J:y∈j7 b:=by
    obtain⟨dp,E⟩:=d.un;obtain⟨_,_,_,up⟩:=E j g e;obtain⟨k,M,_,l,rfl,_⟩:=up y o;exact List.mem_map.mpr ⟨M,oT l,rfl⟩
   refine Br.yes rfl ?_;refine⟨_,_,rfl,x4 d J,by rw[X8];exact g6 (by omega),?_⟩;refine⟨_,_,rfl,x4 d H,_,rfl,?_⟩;rw[Y1 J]
   have:i6 b (wv b a P (b.gs.drop j))=i6 b (λz=>if z=y then wv b a P (b.gs.drop (j+1)) y+wv b a P (b.gs.drop (j+1)) g.nm else wv b a P (b.gs.drop (j+1)) z):=y7 λx _=>by
    rw[qr d a P e,o]
    by_cases z:x=g.nm
    ·rw[ux z]
     have O:¬x=y:=λw=>by
      obtain⟨dp,E⟩:=d.un;obtain⟨_,_,_,up⟩:=E j g e;obtain⟨k,M,X,l,U,_⟩:=up y o;have:=yM d l e (by rw[U,<-w,z]);omega
     show _=if x=y then _ else _
     rw[uk O,z];exact c
    ·rw[uk z];show _=if x=y then _ else _
     by_cases w:x=y
     ·subst w;rw[ux rfl,ux rfl,c]
     ·rw[uk w,uk λq=>w (x2 q).symm,YK]
   rw[this,o] at i;exact i
 ·have S:G5 b a g.nm=false:=by cases h:G5 b a g.nm<;>simp_all
  refine Br.yes (by rw[S];rfl) ?_;rw[uk f] at c;refine⟨rfl,.inr g.nm,rfl,by rw[X8];exact g6 (by omega),?_⟩;rw[Y1 H]
  have:i6 b (wv b a P (b.gs.drop j))=i6 b (λz=>if z=g.nm then 0 else wv b a P (b.gs.drop (j+1)) z):=y7 λx _=>by
   rw[qr d a P e,c];show _=if x=g.nm then _ else _
   by_cases z:x=g.nm
   ·rw[ux z,ux z]
   ·rw[uk z,uk z];split<;>omega
  rw[this] at i;exact i
theorem WI(r:j5 b)(q:Q (.dic (i6 b (Q5 b h P)))) :
  gG (EP Q) [some (bD b),some (.dic (sQ b h)),some d2,some (.dic (i6 b (xM b P))),j,d,c,a]:=by
 have B:=r.g16;refine⟨_,J5 _ _,by rw[dL];exact g6 (by omega),.of ⟨λi l=>∃j d c a:Option D,l=[some (bD b),some (.dic (sQ b h)),some d2,some (.dic (i6 b (wv b h P (b.gs.drop (b.gs.length-i))))),j,d,c,a],⟨j,d,c,a,?_⟩,?_,?_⟩⟩
 ·rw[Nat.sub_zero,XM]
  have:i6 b (wv b h P [])=i6 b (xM b P):=y7 λx _=>by
   unfold wv;show xM b P x+0=_;omega
  rw[this]
 ·rintro i e l o ⟨j,d,c,a,rfl⟩
  have v:=by
   have:=(List.getElem?_eq_some_iff.mp o).1;rwa[On,dL] at this
  rw[YV (by rwa[dL]),dL] at o;obtain⟨g,y,rfl⟩:=get_map o;have C:b.gs.length-i=b.gs.length-1-i+1:=by omega
  have p:b.gs.length-(i+1)=b.gs.length-1-i:=by omega
  refine⟨rfl,RV r y C λc a=>⟨some (gD g),d,c,a,?_⟩⟩;rw[p]
 ·rintro l ⟨j,d,c,a,rfl⟩;rw[On,dL,Yp];have:i6 b (wv b h P (b.gs.drop 0))=i6 b (Q5 b h P):=y7 λx u=>ux u;rwa[this]
theorem xB(ds:List D)(Q:D->Prop)(h:O4 ds Q):nP (EP Q) (i4 8 ds):=by
 obtain⟨b,I,c,rfl,d,C,q⟩:=h;have S:=d.g16;refine⟨_,J5 _ _,by rw[dL];exact g6 (by omega),iV (k:=λg=>.inr g.nm) (v:=λg=>.int (Pd c g.nm)) b.gs [] (λg G K R J=>?_) ⟨rfl,?_⟩⟩
 ·walk_at "r";rw[uw C];exact⟨rfl,_,rfl,rfl,J⟩
 have H:=O2  (v:=λg=>.int (Pd c g.nm))  (bs:=[]) d.dG.nd;rw[show b.gs.foldl (λB a=>putD B (Sum.inr a.nm) (.int (Pd c a.nm))) []=i6 b (Pd c) from H];refine⟨_,aP _ _ _,.of ⟨λi o=>∃p:Option D,o=[some (bD b),some (.dic (sQ b I)),some (.dic c),some (.dic (i6 b λy=>Pd c y+((b.ls.take i).map λl=>if l.at_=y then Pd c l.nm else 0).sum)),none,p,none,none],⟨none,?_⟩,?_,?_⟩⟩
 ·have:i6 b (λy=>Pd c y+((b.ls.take 0).map λl=>if l.at_=y then Pd c l.nm else 0).sum)=i6 b (Pd c):=y7 λx _=>by
   show Pd c x+0=_;omega
  rw[this];rfl
 ·rintro i e o M ⟨p,rfl⟩;obtain⟨l,E,rfl⟩:=get_map M;have u:=oT E
  have j:l.at_∈j7 b:=by
   obtain⟨g,G,e⟩:=d.at_ l u;rw[<-e];exact List.mem_map.mpr ⟨g,G,rfl⟩
  refine⟨rfl,?_⟩;walk_at "r";refine⟨.inr l.at_,_,rfl,x4 d j,by rw[X8];exact g6 (by omega),?_⟩;walk_at "r";rw[uw C];refine⟨rfl,_,rfl,?_⟩;rw[Y1 j];refine⟨some (lD l),?_⟩
  have:i6 b (λy=>Pd c y+((b.ls.take (i+1)).map λl=>if l.at_=y then Pd c l.nm else 0).sum)=i6 b (λy=>if y=l.at_ then Pd c l.at_+((b.ls.take i).map λm=>if m.at_=l.at_ then Pd c m.nm else 0).sum+Pd c l.nm else Pd c y+((b.ls.take i).map λl=>if l.at_=y then Pd c l.nm else 0).sum):=y7 λx _=>by
   rw[v9,E,v7,Ym];show _+(_+((if l.at_=x then Pd c l.nm else 0)+0))=if x=l.at_ then _ else _
   by_cases z:x=l.at_
   ·subst z;rw[ux rfl,ux rfl];omega
   ·rw[uk z,uk λw=>z w.symm];omega
  rw[this];rfl
 ·rintro o ⟨p,rfl⟩;rw[dL,wh];exact WI (P:=Pd c) d q
theorem LP(ds:List D)(Q:D->Prop)(h:cW ds Q):EX (EP Q) (i4 3 ds):=by
 obtain⟨b,o,c,a,rfl,d,e,i,g,q⟩:=h;exact⟨b,o,c,rfl,d,e,i,b,c,a,rfl,d,g,q⟩
theorem tS(a:j5 b):((b.ls.filter λl=>l.on).map λl:Ld=>l.nm).Nodup:=(LD a).sublist (List.Sublist.map _ List.filter_sublist)
theorem Mh(c:j5 b):Pd ((b.ls.filter λl=>l.on).map λl:Ld=>((.inr l.nm:Key),D.int l.la))=vo b:=by
 funext x
 unfold Pd vo
 by_cases h:x∈b.ls.map (·.nm)
 ·obtain⟨l,i,rfl⟩:=List.mem_map.mp h;rw[Q8 (LD c) i]
  by_cases o:l.on=true
  ·have a:=List.mem_filter.mpr ⟨i,o⟩;rw[S2   (tS c) a];show l.la=if l.on=true then _ else _
   rw[ux o]
  ·rw[jS  ]
   ·show(0:Int)=if l.on=true then _ else _
    rw[uk o]
   ·intro z;obtain⟨m,a,e⟩:=List.mem_map.mp z;obtain⟨g,d⟩:=List.mem_filter.mp a;have p:=Q8 (LD c) i;have j:=Q8 (LD c) g;rw[e,p] at j;cases j;exact o d
 ·rw[ba h,jS  ];intro z;obtain⟨m,a,e⟩:=List.mem_map.mp z;exact h (List.mem_map.mpr ⟨m,(List.mem_filter.mp a).1,e⟩)
theorem Pu(ds:List D)(Q:D->Prop)(h:gv ds Q):Nq (EP Q) (i4 2 ds):=by
 obtain⟨b,rfl,c,q⟩:=h;have p:=c.l24;refine⟨_,aP _ _ _,by rw[dL];exact g6 (by omega),cq (k:=λl=>.inr l.nm) (v:=λl=>.int l.la) (λl=>l.on) b.ls [] (λl y K R o j=>?_) ?_⟩
 ·obtain⟨n,u,cv,de,on⟩:=l
  cases on with
  | true=>
   have i:=o rfl;walk_at "r";exact i
  | false=>
   walk_at "r";exact j rfl
 ·have g:=O2  (v:=λl=>.int l.la)  (bs:=[]) (tS c);rw[wf] at g;rw[show(b.ls.filter λl=>l.on).foldl (λe a=>putD e (Sum.inr a.nm) (.int a.la)) []=_ from g];refine⟨b,_,[],_,rfl,c,.inl rfl,by decide,λx d=>?_,?_⟩
  ·obtain⟨l,_,rfl⟩:=List.mem_map.mp d;exact⟨_,rfl⟩
  ·rwa[Mh c]
theorem JX(ds:List D)(Q:D->Prop)(h:cJ ds Q):EH (EP Q) (i4 2 ds):=by
 obtain⟨b,v,rfl,a,q⟩:=h;have l:=a.g16;refine⟨_,J5 _ _,by rw[dL];exact g6 (by omega),L7 (f:=λg=>.str g.nm) (λg=>decide (lo g.cv<=v g.nm)) b.gs [] (λg c K R i d=>?_) ?_⟩
 ·have j:g.nm∈j7 b:=List.mem_map.mpr ⟨g,c,rfl⟩;refine⟨rfl,?_⟩;walk_at "r";refine⟨_,_,rfl,x4 a j,?_⟩;walk_at "r";refine⟨a.cv g c,?_⟩;refine⟨λe=>?_,λe=>d e⟩;walk_at "r";exact i e
 ·have e:(b.gs.filter λg=>decide (lo g.cv<=v g.nm)).map (λg=>D.str g.nm)=(D7 b v).map D.str:=by unfold D7;rw[Bi];rfl
  rwa[e]
theorem Ln(ds:List D)(Q:D->Prop)(h:dm ds Q):FK (EP Q) (i4 2 ds):=by
 obtain⟨b,rfl,a,q⟩:=h;refine⟨b,rfl,a,b,j8 b,rfl,a,rfl,?_⟩
 cases e:D7 b (j8 b) with
 | nil=>
  rw[e] at q;exact Br.no rfl ⟨rfl,q⟩
 | cons x c=>
  rw[e] at q;exact Br.yes rfl ⟨_,J5 _ _,rfl,q⟩
def Up(b:Int)(xs:ZW):Prop:=xs.Pairwise (·<·)/\∀x∈xs,1<=x/\x<=b
theorem Ao(h:Up b xs)(o:0<xs.length):∃l,l∈xs/\(∀x∈xs,x<=l)/\O7 (xs.map D.int) (-1)=some (.int l):=by
 refine⟨xs[xs.length-1],Xp (by omega),λx a=>?_,?_⟩
 ·obtain⟨i,c,rfl⟩:=Yn a
  by_cases e:i=xs.length-1
  ·subst e;exact Rl _
  ·exact Int.le_of_lt (List.pairwise_iff_getElem.mp h.1 i (xs.length-1) c (by omega) (by omega))
 ·unfold O7 mO;have j:¬0<=-1:=by decide
  have g:-((xs.map D.int).length:Int)<=-1:=by rw[dL];omega
  have d:((-1)+((xs.map D.int).length:Int)).toNat=xs.length-1:=by rw[dL];omega
  rw[ux g,d];show(xs.map D.int)[xs.length-1]?=_;rw[ue,nA (by omega)];rfl
theorem Up.mono(h:Up b xs)(d:b<=c):Up c xs:=⟨h.1,λx a=>⟨(h.2 x a).1,by have:=(h.2 x a).2;omega⟩⟩
theorem Up.snoc(h:Up b xs)(d:l∈xs)(e:∀x∈xs,x<=l)(i:1<=u)(g:u<10^59):Up (b+10^59) (xs++[l+u]):=by
 refine⟨List.pairwise_append.mpr ⟨h.1,Os _ _,λx a y c=>?_⟩,λx a=>?_⟩
 ·rw[List.mem_singleton.mp c];have:=e x a;omega
 ·have:=h.2 l d;rcases List.mem_append.mp a with w | w
  ·have:=h.2 x w;omega
  ·rw[List.mem_singleton.mp w];omega
noncomputable def steps(m:Nat)(xs ys:ZW):List Pr:=(List.range m).map λ(k:Nat)=>(xs.getD k 0,ys.getD (m-1-k) 0)
theorem El(B:xs.length=m)(z:ys.length=m)(v:1<=m)(u:m<=5)(h:Up (10^60-1) xs)(g:Up (10^60-1) ys):M1 (steps m xs ys):=by
 have y:∀k,k<m->xs.getD k 0∈xs:=λk d=>by rw[v4,nA (by omega)];exact Xp _
 have x:∀k,k<m->ys.getD k 0∈ys:=λk d=>by rw[v4,nA (by omega)];exact Xp _
 have q:∀i j,i<j->j<m->xs.getD i 0<xs.getD j 0:=λi j c e=>by
  rw[v4,v4,nA (by omega),nA (by omega)];exact List.pairwise_iff_getElem.mp h.1 i j (by omega) (by omega) c
 have o:∀i j,i<j->j<m->ys.getD i 0<ys.getD j 0:=λi j c e=>by
  rw[v4,v4,nA (by omega),nA (by omega)];exact List.pairwise_iff_getElem.mp g.1 i j (by omega) (by omega) c
 unfold steps;refine⟨by rwa[dL,vr],by rwa[dL,vr],λp r=>?_,?_⟩
 ·obtain⟨k,d,rfl⟩:=List.mem_map.mp r;have d:=List.mem_range.mp d;have a:=h.2 _ (y k d);have b:=g.2 _ (x (m-1-k) (by omega));exact⟨a.1,by omega,b.1,by omega⟩
 ·rw[XA];refine List.Pairwise.imp_of_mem ?_ (List.pairwise_lt_range (n:=m));intro i j l e c;have e:=List.mem_range.mp e;exact⟨q i j c e,o _ _ (by omega) (by omega)⟩
theorem yq(d:0<=i)(e:i<26):∃c,O7 qu.cps.toList i=some c:=by
 have a:qu.cps.toList.length=26:=by decide +kernel
 have b:i.toNat<qu.cps.toList.length:=by omega
 refine⟨qu.cps.toList[i.toNat],?_⟩;unfold O7 mO;rw[ux d,ux (by omega)];exact nA b
theorem oW:qu.length<=sizeLine:=by decide +kernel
theorem GL(hz:z.length=1)(b:0<=n)(a:n<=4):MulOk z n:=by
 have h:n=0\/n=1\/n=2\/n=3\/n=4:=by omega
 unfold MulOk;rw[hz];rcases h with rfl | rfl | rfl | rfl | rfl
 all_goals decide
theorem SU(hz:z.length=1)(b:0<=n)(a:n<=1):(Txt.mul z n).length<=1:=by
 have h:n=0\/n=1:=by omega
 rcases h with rfl | rfl
 ·exact xL _
 ·have e:Txt.mul z 1=z:=by
   unfold Txt.mul;rw[uk (by decide),ux (by rfl)]
  rw[e,hz];exact sK _
theorem Ot{xs:ZT}(h:inD (.str x) (xs.map D.str)=false):x∉xs:=λa=>by
 unfold inD at h;rw[XD] at h;have:=h (.str x) (List.mem_map.mpr ⟨x,a,rfl⟩);exact this (beq_self_eq_true x)
theorem names5    {x:Str}  (hw:x="" \/ nm 8 x) (j:(xs.length:Int)=m) (U:1<=m) (T:m<=100) (I:0<=k) (S:k<=10^8) (b:xs.Nodup) (a:∀x∈xs,nm 8 x) (q:∀(xs:ZT) (d' J:Int),xs.length=m->xs.Nodup->(∀x∈xs,nm 8 x)->Q (kS xs) (feed c d' J)):tR (EM Q) [some (feed c d k),some (.int m),G,E,some (kS xs),C,B,v,u,p,h,g,some (.str x)]:=by
 have O:(xs.map D.str).all aJ=true:=by
  rw[XO];intro y i;obtain⟨z,_,rfl⟩:=List.mem_map.mp i;rfl
 walk_at "r";refine⟨λo=>?_,λo=>Br.no rfl (q xs d k j b a)⟩;walk_at "r";refine⟨O,?_⟩;walk_at "r";refine⟨λl=>?_,λl=>q xs d k j b a⟩;walk_at "r";refine⟨c,d,k,m,rfl,I,by omega,by omega,by omega,λr d1 H R=>?_⟩;walk_at "r";refine⟨r.toNat,?_,?_⟩
 ·unfold mO;rw[ux H,dL,ux (by omega)]
 ·have e:(xs.map D.str).set r.toNat (.str x)=(xs.set r.toNat x).map D.str:=by rw[List.map_set]
  walk_at "r";rw[e];refine q _ _ _ (by rw[WP];exact j) (nT _ b (Ot ?_)) λy i=>?_
  ·cases M:inD (D.str x) (List.map D.str xs) with
   | false=>rfl
   | true=>rw[M] at l;exact absurd l (by decide)
  ·rcases TD i with w | w
   ·exact a y w
   ·rw[w];rcases hw with hw | hw
    ·rw[hw] at o;exact absurd o (by decide)
    ·exact hw
theorem IC:∀x∈(["guard","load","on","off","board","map","least","","","",""]:ZT),x="" \/ nm 8 x:=by decide +kernel
theorem names4(I:(xs.length:Int)=m)(M:1<=m)(J:m<=100)(G:0<=k)(O:k<=10^7)(l:xs.Nodup)(j:∀x∈xs,nm 8 x)(q:∀(xs:ZT) (d' H:Int),xs.length=m->xs.Nodup->(∀x∈xs,nm 8 x)->Q (kS xs) (feed c d' H)):qC (EM Q) [some (feed c d k),some (.int m),B,z,some (kS xs),y,v,u,p,o,e,b,a]:=by
 walk_at "r";refine⟨c,d,k,11,rfl,G,by omega,by decide,by decide,λr d1 E C=>?_⟩;obtain⟨x,g,_,h⟩:=G9 (f:=D.str) (xs:=["guard","load","on","off","board","map","least","","","",""])  E C;exact⟨_,h,rfl,rfl,names5 (IC x g) I M J (by omega) (by omega) l j q⟩
theorem Mb(ds:List D)(Q:D->D->Prop)(h:cP ds Q):Hq (EM Q) (i4 13 ds):=by
 obtain⟨c,d,k,m,rfl,h0,h1,a5,a4,q⟩:=h;walk_at "r";refine⟨c,d,k,26,rfl,h0,by omega,by decide,by decide,λf d1 f0 f1=>?_⟩;walk_at "r";refine⟨c,d1,k+1,5,rfl,by omega,by omega,by decide,by decide,λr d2 r0 r1=>?_⟩;walk_at "r";refine⟨λe=>?_,λe=>?_⟩
 ·walk_at "r";refine⟨⟨by omega,by omega⟩,⟨by rw[A2,dL,vr];exact g6 (by omega),M9 (f:=λ(i:Nat)=>.str (Txt.mul ⟨#[(O7 qu.cps.toList ((f+(0+(i:Int)))%26)).getD 0]⟩ (1+(0+(i:Int))/26))) (List.range m.toNat) [] (λi v K R kk=>?_) ?_⟩⟩
  ·have v:=List.mem_range.mp v;obtain⟨H,o⟩:=yq (i:=(f+(0+(i:Int)))%26) (KM _ (by decide)) (Fa _ (by decide));rw[o] at kk;walk_at "r";refine⟨oW,H,o,?_⟩;walk_at "r";refine⟨GL rfl (by omega) (by omega),?_⟩;exact kk
  ·have e:(List.range m.toNat).map (λ(i:Nat)=>D.str (Txt.mul ⟨#[(O7 qu.cps.toList ((f+(0+(i:Int)))%26)).getD 0]⟩ (1+(0+(i:Int))/26)))=((List.range m.toNat).map λ(i:Nat)=>Txt.mul ⟨#[(O7 qu.cps.toList ((f+(0+(i:Int)))%26)).getD 0]⟩ (1+(0+(i:Int))/26)).map D.str:=by rw[Bi];rfl
   rw[wf,e];refine⟨rfl,?_⟩;refine names4 (by rw[dL,vr];omega) a5 a4 (by omega) (by omega) (aK (nameA f) _ λi j v hj=>Ca (by omega) (by omega)) (λx hx=>?_) q;obtain⟨i,v,rfl⟩:=List.mem_map.mp hx;have v:=List.mem_range.mp v;exact Ik (i:=i) (by omega) (by omega)
 ·walk_at "r";refine⟨c,d2,k+1+1,7,rfl,by omega,by omega,by decide,by decide,λsz d3 s0 s1=>?_⟩;walk_at "r";refine⟨⟨by omega,by omega⟩,?_⟩;refine⟨by rw[A2,dL,vr];exact g6 (by omega),?_⟩;walk_at "r";refine .of ⟨λn a3 M=>∃(d':Int) (bs:ZW),M=[some (feed c d' (k+1+1+1+n)),some (.int m),some (.str qu),some (.int f),none,some (.int (2+sz)),none,none,none,none,none,none,none]/\a3=bs.map D.int/\bs.length=n/\∀b∈bs,0<=b/\b<26,⟨d3,[],?_,rfl,rfl,λb hb=>(by cases hb)⟩,?_,?_⟩
  ·have:k+1+1+1+((0:Nat):Int)=k+1+1+1:=by omega
   rw[this];rfl
  ·rintro n y a3 M hy ⟨d',bs,rfl,rfl,C,hb⟩
   have hn:n<8:=by
    have:=(List.getElem?_eq_some_iff.mp hy).1;rw[A2,dL,vr] at this;omega
   walk_at "r";refine⟨c,d',_,26,rfl,by omega,by omega,by decide,by decide,λb d4 b0 I=>?_⟩;walk_at "r";refine⟨d4,bs++[b],?_,by rw[v7];rfl,by simp[C],λz hz=>?_⟩
   ·have:k+1+1+1+((n+1:Nat):Int)=k+1+1+1+(n:Int)+1:=by omega
    rw[this];rfl
   ·rcases List.mem_append.mp hz with w | w
    ·exact hb z w
    ·rw[List.mem_singleton.mp w];exact⟨b0,I⟩
  ·rintro a3 M ⟨d',bs,rfl,rfl,C,hb⟩;rw[A2,dL,vr] at C ⊢;have C:(bs.length:Int)=2+sz:=by omega
   walk_at "r";refine⟨c,d',_,_,rfl,by omega,by omega,by omega,by omega,λa d5 a0 a1=>?_⟩;walk_at "r";refine⟨c,d5,_,_,rfl,by omega,by omega,by omega,by omega,λa2 d6 an b5=>?_⟩;walk_at "r";refine⟨show(0:Int)<2+sz by omega,?_⟩;have o0:=KM (a+1+a2) (show 2+sz≠0 by omega);have o1:=Fa (a+1+a2) (show 0<2+sz by omega);walk_at "r";refine⟨c,d6,_,2,rfl,by omega,by omega,by decide,by decide,λlo d7 b3 lo1=>?_⟩;walk_at "r";refine⟨.inl ⟨by omega,by omega⟩,?_⟩;have lg:∀b:Bool,0<=lo*(if b then 1 else 0)/\lo*(if b then 1 else 0)<=1:=λb=>by cases b<;>simp<;>omega
   obtain⟨Y,X⟩:=lg (decide (2+sz<8));obtain⟨I,_,_,al⟩:=G9 (f:=D.int) (xs:=bs) (i:=a) a0 (by omega);obtain⟨b2,_,_,ab⟩:=G9 (f:=D.int) (xs:=bs) (i:=(a+1+a2)%(2+sz)) o0 (by omega);have ao:=Hf (n:=2+sz) a0 (by omega) an (by omega)
   have b4:2+sz+lo*(if decide (2+sz<8)=true then 1 else 0)<=8:=by
    by_cases h8:2+sz<8
    ·omega
    ·rw[wl h8];show 2+sz+lo*0<=8;omega
   walk_at "r";refine⟨⟨by omega,by omega⟩,?_⟩;walk_at "w";refine .of ⟨λi M=>∃(S:ZT) (U T:Option D),M=[some (feed c d7 (k+1+1+1+((2+sz).toNat:Int)+1+1+1)),some (.int m),some (.str qu),some (.int f),some (kS S),some (.int (2+sz)),some (nums bs),some (.int a),some (.int ((a+1+a2)%(2+sz))),some (.int (lo*(if decide (2+sz<8)=true then 1 else 0))),U,T,none]/\S=(List.range i).map (gB bs a ((a+1+a2)%(2+sz)) I b2 f (lo*(if decide (2+sz<8)=true then 1 else 0))),⟨[],none,none,rfl,rfl⟩,?_,?_⟩
   ·rintro i y M hy ⟨S,U,T,rfl,l⟩;have ad:S.length=i:=by rw[l,dL,vr]
    have v:i<100:=by
     have:=(List.getElem?_eq_some_iff.mp hy).1;rw[A2,dL,vr] at this;omega
    rw[A2] at hy;obtain⟨g,am,rfl⟩:=get_map hy
    have ei:g=i:=by
     have:=(List.getElem?_eq_some_iff.mp am).2;rw[Xs] at this;exact this.symm
    subst ei;generalize (a+1+a2)%(2+sz)=O at o0 o1 ab l;generalize lo*(if decide (2+sz<8)=true then 1 else 0)=L at Y X l;walk_at "r";refine⟨DL bs,?_⟩;walk_at "r";refine⟨_,al,?_⟩;walk_at "r";refine⟨a.toNat,by unfold mO;rw[ux a0,dL,ux (by omega)],?_⟩;walk_at "r";refine⟨_,ab,?_⟩;walk_at "r";refine⟨O.toNat,by unfold mO;rw[ux o0,WP,dL,ux (by omega)],?_⟩;have e1:((bs.map D.int).set a.toNat (.int ((I+(0+(g:Int)))%26))).set O.toNat (.int ((b2+(0+(g:Int))/26)%26))=((bs.set a.toNat ((I+(0+(g:Int)))%26)).set O.toNat ((b2+(0+(g:Int))/26)%26)).map D.int:=by rw[List.map_set,List.map_set]
    have E:∀b∈(bs.set a.toNat ((I+(0+(g:Int)))%26)).set O.toNat ((b2+(0+(g:Int))/26)%26),0<=b/\b<26:=λb G=>by
     rcases TD G with w | w
     ·rcases TD w with w | w
      ·exact hb b w
      ·rw[w];exact⟨KM _ (by decide),Fa _ (by decide)⟩
     ·rw[w];exact⟨KM _ (by decide),Fa _ (by decide)⟩
    have u:((bs.set a.toNat ((I+(0+(g:Int)))%26)).set O.toNat ((b2+(0+(g:Int))/26)%26)).length=bs.length:=by rw[WP,WP]
    walk_at "r";dsimp only;rw[e1];generalize ac:(bs.set a.toNat ((I+(0+(g:Int)))%26)).set O.toNat ((b2+(0+(g:Int))/26)%26)=p at E u;refine⟨by rw[dL,u];exact g6 (by omega),?_⟩;refine M9 (f:=λ(b:Int)=>.str ⟨#[(O7 qu.cps.toList b).getD 0]⟩) p [] (λb G K R kk=>?_) ?_
    ·obtain⟨H,o⟩:=yq (E b G).1 (E b G).2;rw[o] at kk;walk_at "r";refine⟨oW,H,o,rfl,kk⟩
    ·have e2:p.map (λ(b:Int)=>D.str ⟨#[(O7 qu.cps.toList b).getD 0]⟩)=(p.map λ(b:Int)=>(⟨#[(O7 qu.cps.toList b).getD 0]⟩:Str)).map D.str:=by rw[Bi];rfl
     have e3:((p.map λ(b:Int)=>(⟨#[(O7 qu.cps.toList b).getD 0]⟩:Str)).map (·.length)).sum=p.length:=by
      clear ac e1 E u e2
      induction p with
      | nil=>rfl
      | cons b B ih=>rw[vc,vc,UF,ih,wP];show 1+B.length=_;omega
     rw[wf];refine⟨"",_,p.map λ(b:Int)=>(⟨#[(O7 qu.cps.toList b).getD 0]⟩:Str),rfl,rfl,e2,?_,?_⟩
     ·rw[e3,dL];show p.length+p.length*0<=_;omega
     ·have e4:(Txt.join "" (p.map λ(b:Int)=>(⟨#[(O7 qu.cps.toList b).getD 0]⟩:Str))).length<=8:=by
       have:=size_glued "" (p.map λ(b:Int)=>(⟨#[(O7 qu.cps.toList b).getD 0]⟩:Str));unfold Txt.join;rw[this,e3];show p.length+_*0<=8;omega
      generalize hJ:Txt.join "" (p.map λ(b:Int)=>(⟨#[(O7 qu.cps.toList b).getD 0]⟩:Str))=J at e4;obtain⟨H,o⟩:=yq f0 f1;walk_at "r";refine⟨oW,H,o,?_⟩;walk_at "r";refine⟨.inl ⟨by omega,by omega⟩,?_⟩;have p0:=KM (0+(g:Int)) (show(2:Int)≠0 by decide);have p1:=Fa (0+(g:Int)) (show(0:Int)<2 by decide);have ap:L=0\/L=1:=by omega
      have n0:0<=L*((0+(g:Int))%2)/\L*((0+(g:Int))%2)<=1:=by rcases ap with rfl | rfl<;>omega
      walk_at "r";refine⟨GL rfl n0.1 (by omega),?_⟩;have ml:=SU (z:=⟨#[H]⟩) rfl n0.1 n0.2;walk_at "r";refine⟨by rw[Uf];omega,?_⟩;walk_at "r";refine⟨by rw[dL];exact g6 (by omega),?_⟩;refine⟨S++[J++Txt.mul ⟨#[H]⟩ (L*((0+(g:Int))%2))],some (.int (0+(g:Int))),some (.lst (p.map D.int)),?_,?_⟩
      ·unfold kS;rw[v7];rfl
      ·have en:gB bs a O I b2 f L g=J++Txt.mul ⟨#[H]⟩ (L*((0+(g:Int))%2)):=by
        unfold gB gX;rw[ac];have ef:kR f=H:=by unfold kR;rw[o];rfl
        rw[ef];exact Sc (·++_) hJ
       rw[YQ,v7,<-l,List.map_singleton,en]
   ·rintro M ⟨S,U,T,rfl,l⟩;rw[A2,dL,vr] at l;have ad:S.length=m.toNat:=by rw[l,dL,vr]
    refine names4 (by omega) a5 a4 (by omega) (by omega) ?_ (λx hx=>?_) q
    ·rw[l];exact aK _ _ λi j v hj=>Di (by omega) (by omega) Y X a0 (by omega) o0 (by omega) ao hb
    ·rw[l] at hx;obtain⟨i,v,rfl⟩:=List.mem_map.mp hx;exact Hh Y X f0 f1 hb (by omega) (by omega)
open PySem.Builtin PySem.Builtin.Str in
structure RI(xs:ZT)(gs:List Gd)(es:ZX):Prop where
 len:es.length=gs.length
 nms:gs.map (·.nm)=xs.take gs.length
 all:∀(j:Nat) (g:Gd),gs[j]?=some g->∃e:Nat,es[j]?=some e/\1<=e/\e<=8/\(g.un=none->e=1)/\∀y,g.un=some y->∃(j':Nat) (gj:Gd) (e':Nat),j'<j/\gs[j']?=some gj/\gj.nm=y/\es[j']?=some e'/\e=e'+1
 cv:∀g∈gs,M1 g.cv
 de:∀g∈gs,0<=g.de/\g.de<10^60
 wa:∀g∈gs,0<=g.wa/\g.wa<10^60
theorem RI.snoc(h:RI xs gs o)(C:xs[gs.length]?=some g.nm)(X:1<=e)(U:e<=8)(x:g.un=none->e=1)(v:∀y,g.un=some y->∃(j:Nat) (d:Nat),j<gs.length/\xs[j]?=some y/\o[j]?=some d/\e=d+1)(H:M1 g.cv)(hd:0<=g.de/\g.de<10^60)(hw:0<=g.wa/\g.wa<10^60):RI xs (gs++[g]) (o++[e]):=by
 have mem:∀{P:Gd->Prop},(∀g∈gs,P g)->P g->∀z∈gs++[g],P z:=λJ I z a=>by
  rcases List.mem_append.mp a with w | w
  ·exact J z w
  ·rwa[List.mem_singleton.mp w]
 refine⟨by rw[vv,vv,h.len];rfl,?_,λj z a=>?_,mem h.cv H,mem h.de hd,mem h.wa hw⟩
 ·rw[v7,h.nms,vv,BB,v9,C];rfl
 ·by_cases u:j<gs.length
  ·rw[wr u] at a;obtain⟨f,S,R,Q,O,M⟩:=h.all j z a;refine⟨f,by rw[wr (by rw[h.len];exact u)];exact S,R,Q,O,λy l=>?_⟩;obtain⟨B,b,d,c,r,q,p,Y⟩:=M y l;exact⟨B,b,d,c,by rw[wr (by omega)];exact r,q,by rw[wr (by rw[h.len];omega)];exact p,Y⟩
  ·have G:=(List.getElem?_eq_some_iff.mp a).1;rw[vv,BB] at G;have T:j=gs.length:=by omega
   subst T;rw[Ix (sK _),Yp] at a;cases a;refine⟨e,by rw[<-h.len,Ix (sK _),Yp];rfl,X,U,x,λy l=>?_⟩;obtain⟨j,d,c,r,q,p⟩:=v y l;obtain⟨b,i⟩:∃b,gs[j]?=some b:=⟨_,nA c⟩
   have E:b.nm=y:=by
    have z1:(gs.map (·.nm))[j]?=some b.nm:=by rw[ue,i];rfl
    rw[h.nms,NE c,r] at z1;exact(x2 z1).symm
   exact⟨j,b,d,c,by rw[wr c];exact i,E,by rw[wr (by rw[h.len];exact c)];exact q,p⟩
theorem RI.un(h:RI xs gs a):MM gs:=by
 refine⟨λi=>a.getD i 0,λi g d=>?_⟩;obtain⟨e,G,E,C,B,z⟩:=h.all i g d;have o:a.getD i 0=e:=by rw[v4,G];rfl
 simp only[o];refine⟨E,C,B,λy c=>?_⟩;obtain⟨b,j,p,x,v,u,r,q⟩:=z y c;have l:a.getD b 0=p:=by rw[v4,r];rfl
 exact⟨b,j,x,v,u,by rwa[l]⟩
theorem Tu(x y:Int)(b:0<=t)(a:t<2):∃p:Int,O7 [D.int x,.int y] t=some (.int p)/\(p=x\/p=y):=by
 have h:t=0\/t=1:=by omega
 rcases h with rfl | rfl
 ·exact⟨x,rfl,.inl rfl⟩
 ·exact⟨y,rfl,.inr rfl⟩
structure Vx(gs:List Gd)(ls:List Ld):Prop where
 c4:∀l∈ls,l.cs.length<=4
 cs:∀l∈ls,∀p∈l.cs,1<=p.1/\p.1<10^60/\0<=p.2/\p.2<10^60
 la:∀l∈ls,0<=l.la/\l.la<10^60
 at_:∀l∈ls,∃g∈gs,g.nm=l.at_
theorem Vx.snoc(h:Vx gs ls)(b:l.cs.length<=4)(a:∀p∈l.cs,1<=p.1/\p.1<10^60/\0<=p.2/\p.2<10^60)(e:0<=l.la/\l.la<10^60)(d:∃g∈gs,g.nm=l.at_):Vx gs (ls++[l]):=by
 have mem:∀{P:Ld->Prop},(∀g∈ls,P g)->P l->∀z∈ls++[l],P z:=λb a z c=>by
  rcases List.mem_append.mp c with w | w
  ·exact b z w
  ·rwa[List.mem_singleton.mp w]
 exact⟨mem h.c4 b,mem h.cs a,mem h.la e,mem h.at_ d⟩
theorem JL(xs:List D)(n:Nat):cutD xs none (some (n:Int))=xs.take n:=by
 unfold cutD;have b:HT.F0 xs.length 0 none=0:=rfl
 have a:HT.F0 xs.length xs.length (some n)=min n xs.length:=by
  show(if (n)<0 then(n+(xs.length:Int)).toNat else min (n:Int).toNat xs.length)=_;rfl
 show List.take (min n xs.length-0) xs=_;rw[List.take_eq_take_iff];omega
theorem mW(xs:List D)(n:Nat)(h:n<=xs.length):cutD xs (some (n:Int)) none=xs.drop n:=by
 unfold cutD
 have b:HT.F0 xs.length 0 (some n)=n:=by
  show(if (n)<0 then(n+(xs.length:Int)).toNat else min (n:Int).toNat xs.length)=_;show min n xs.length=n;omega
 have a:HT.F0 xs.length xs.length none=xs.length:=rfl;rw[b];rw[SZ (by rw[Xd];omega)]
theorem uu(gs:List Gd):∀(n:Nat) (o:Option Str),(ups gs n o).length<=n
 | 0,o=>by cases o<;>exact sK _
 | n+1,none=>xL _
 | n+1,some y=>by
  show(ups gs n _).length+1<=n+1;have:=uu gs n (vn gs y);omega
theorem eT(l:j5 b)(q:x∈j7 b++L9 b):∀y∈l4 b x,y∈j7 b:=by
 have go:∀(n:Nat) (g:Gd),g∈b.gs->∀y∈ups b.gs n (some g.nm),y∈j7 b:=by
  intro n
  induction n with
  | zero=>intro g c y d;cases d
  | succ n p=>
   intro g c y d;rcases List.mem_cons.mp d with e | e
   ·rw[e];exact List.mem_map.mpr ⟨g,c,rfl⟩
   ·rw[bq l.dG.nd c] at e
    cases h:g.un with
    | none=>
     rw[h] at e;cases n<;>cases e
    | some z=>
     rw[h] at e;obtain⟨dp,o⟩:=l.dG.un;obtain⟨j,r⟩:=Da c;obtain⟨_,_,_,a⟩:=o j g r;obtain⟨k,u,_,i,rfl,_⟩:=a z h;exact p u (oT i) y e
 obtain⟨g,c,e⟩:=List.mem_map.mp (rq l q);unfold l4;rw[<-e];exact go 8 g c
theorem nW(a:j5 b):ke (b.gs.map λg:Gd=>((.inr g.nm:Key),D.int 0))=i6 b λ_=>0:=by
 rw[mw];have:=O2  (v:=λ_=>D.int 0)   (by rw[wf];exact a.dG.nd);exact this
local macro_rules | `(tactic| walk_at "n")=>`(tactic| (try dsimp only[i4,List.length,List.replicate,List.map,List.set,List.append,List.cons_append,List.nil_append,Nat.reduceAdd,Nat.reduceSub]))
theorem ia(c:x∈a)(nd:a.Nodup):u4 (kQ b a) (.inr x)=some (.fz ((l4 b x).map D.str)):=by
 have:=S2  (v:=λx=>D.fz ((l4 b x).map D.str))  (by rwa[Zm]) c;exact this
theorem ze(c:x∉a):putD (kQ b a) (.inr x) (.fz ((l4 b x).map D.str))=kQ b (a++[x]):=by
 have:=fM  (v:=λx=>D.fz ((l4 b x).map D.str))   (d:=.fz ((l4 b x).map D.str)) (by rwa[Zm]);unfold kQ;rw[this,v7];rfl
theorem Io(gs:List Gd)(n:Nat):ups gs n none=[]:=by cases n<;>rfl
theorem dq(a:j5 b)(i:g∈b.gs):l4 b g.nm=g.nm::(match g.un with | none=>[] | some y=>l4 b y):=by
 have e:g.nm∈j7 b:=List.mem_map.mpr ⟨g,i,rfl⟩;obtain⟨dp,d,v⟩:=yZ a;have c:=bq a.dG.nd i
 have u:l4 b g.nm=g.nm::ups b.gs 7 g.un:=by
  unfold l4;rw[W2 a e];show g.nm::ups b.gs 7 (vn b.gs g.nm)=_;rw[c]
 rw[u]
 cases o:g.un with
 | none=>rw[Io]
 | some y=>
  have d7:=(v _ e).next d a.dG.nd (c.trans o)
  have l:y∈j7 b:=by
   obtain⟨j,h,q,p,_⟩:=d7;exact List.mem_map.mpr ⟨h,oT q,p⟩
  have r:l4 b y=ups b.gs 7 (some y):=by
   unfold l4;rw[W2 a l];exact dI d a.dG.nd 7 8 y d7 (by decide)
  show _=g.nm::l4 b y;rw[r]
theorem BC(a:j5 b)(c:l∈b.ls):l4 b l.nm=l4 b l.at_:=by
 obtain⟨g,d,e⟩:=a.at_ l c;have h:=List.mem_map.mpr ⟨g,d,e⟩;unfold l4;rw[zZ a c,W2 a h]
theorem Fg(l:j5 b)(h:b.gs[i]?=some g)(d:g.un=some y):y∈(j7 b).take i:=by
 obtain⟨dp,c⟩:=l.un;obtain⟨_,_,_,up⟩:=c i g h;obtain⟨j,o,e,a,rfl,_⟩:=up y d;refine oT (i:=j) ?_;unfold j7;rw[NE e,ue,a];rfl
theorem ka{c:Type}{xs:List c}(nd:xs.Nodup){x:c}(h:xs[i]?=some x):x∉xs.take i:=λz=>by
 obtain⟨j,b⟩:=Da z;have a:=(List.getElem?_eq_some_iff.mp b).1;rw[wE] at a;rw[NE (by omega)] at b;have:=(XB (i:=j) (j:=i) (by omega) nd).mp (by rw[b,h]);omega
theorem take_snoc{a:Type}{xs:List a}{x:a}(h:xs[i]?=some x):xs.take (i+1)=xs.take i++[x]:=by rw[v9,h];rfl
theorem dW(x:Str):(l4 b x).length<=8:=uu _ 8 _
theorem HK(d:j5 b)(o:b.gs[i]?=some g)
  (z:T.nx [some q,some (.dic (kQ b ((j7 b).take (i+1)))),some (gD g),e]):gJ T [some q,some (.dic (kQ b ((j7 b).take i))),some (gD g),e]:=by
 have l:=oT o;have B:=d.g16;have v:(j7 b)[i]?=some g.nm:=by unfold j7;rw[ue,o];rfl
 have nd:(j7 b).Nodup:=d.dG.nd;have h:((j7 b).take i).Nodup:=nd.sublist (Xz _ _);have c:=dq d l
 have a:∃k,X5 (.str g.nm)=some k/\(kQ b ((j7 b).take i)).length<sizeLine/\T.nx [some q,some (.dic (putD (kQ b ((j7 b).take i)) k (.fz ((l4 b g.nm).map D.str)))),some (gD g),e]:=by
  refine⟨.inr g.nm,rfl,?_,?_⟩
  ·unfold kQ j7;rw[dL,wE,dL];exact g6 (by omega)
  ·rwa[ze (ka nd v),<-take_snoc v]
 walk_at "r"
 cases j:g.un with
 | none=>
  rw[j] at c;rw[c] at a;exact⟨rfl,[.str g.nm],[],rfl,rfl,rfl,rfl,g6 (by decide),_,rfl,rfl,rfl,_,rfl,a⟩
 | some y=>
  rw[j] at c;rw[c] at a;have x:=ia (b:=b) (Fg d o j) h;refine⟨.inr y,rfl,?_⟩;rw[x];have u:=bB (l4 b y);have p:=bB (g.nm::l4 b y);have:=dW (b:=b) y;exact⟨u,[.str g.nm],(l4 b y).map D.str,rfl,rfl,rfl,u,by rw[dL];exact SL (g6 (by show 1+_<=_;omega)),_,rfl,p,p,_,rfl,a⟩
theorem DT(d:j5 b)(u:b.ls[i]?=some l)
  (B:T.nx [some q,some (.dic (kQ b (j7 b++(L9 b).take (i+1)))),p,some (lD l)]):gA T [some q,some (.dic (kQ b (j7 b++(L9 b).take i))),p,some (lD l)]:=by
 have c:=oT u;have E:=d.g16;have C:=d.l24;have j:(L9 b)[i]?=some l.nm:=by unfold L9;rw[ue,u];rfl
 have nd:=d.nd;obtain⟨n1,n2,v⟩:=List.nodup_append.mp nd;have h:(j7 b++(L9 b).take i).Nodup:=nd.sublist (List.Sublist.append_left (Xz _ _) _);obtain⟨g,y,e⟩:=d.at_ l c;have o:l.at_∈j7 b++(L9 b).take i:=v5 _ (List.mem_map.mpr ⟨g,y,e⟩);have x:=ia (b:=b) o h
 have a:l.nm∉j7 b++(L9 b).take i:=λz=>by
  rcases List.mem_append.mp z with z | z
  ·exact v l.nm z l.nm (oT j) rfl
  ·exact ka n2 j z
 have r:=bB (l4 b l.at_);refine⟨_,rfl,.inr l.at_,_,rfl,x,r,r,_,rfl,.inr l.nm,rfl,?_,?_⟩
 ·unfold kQ j7 L9;rw[dL,vv,wE,dL,dL];exact g6 (by omega)
 ·rwa[<-BC d c,ze a,wT,<-take_snoc j]
theorem Km(o:j5 b)(g:Bp y (b.ls.map lD))(q:Q (.dic (kQ b (j7 b++L9 b)))):sJ (EP Q) [some (.tup [x,y]),some (.dic (kQ b (j7 b))),d,a]:=by
 rcases g with rfl | rfl
 all_goals
  refine⟨_,aP _ _ _,.of ⟨λi c=>∃a:Option D,c=[some (.tup [x,_]),some (.dic (kQ b (j7 b++(L9 b).take i))),d,a],⟨a,by rw[List.take_zero,vy]⟩,?_,?_⟩⟩
  ·rintro i e c j ⟨a,rfl⟩;obtain⟨l,h,rfl⟩:=get_map j;exact⟨rfl,DT o h ⟨_,rfl⟩⟩
  ·rintro c ⟨a,rfl⟩;rwa[dL,SZ (by unfold L9;rw[dL];exact sK _)]
theorem Ks(ds:List D)(Q:D->Prop)(h:bj ds Q):DP (EP Q) (i4 4 ds):=by
 obtain⟨_,b,rfl,⟨x,y,rfl,l,j⟩,d,q⟩:=h;refine⟨rfl,?_⟩;rcases l with rfl | rfl
 all_goals
  refine⟨_,J5 _ _,.of ⟨λi a=>∃c:Option D,a=[some (.tup [_,y]),some (.dic (kQ b ((j7 b).take i))),c,none],⟨none,rfl⟩,?_,?_⟩⟩
  ·rintro i e a p ⟨c,rfl⟩;obtain⟨g,o,rfl⟩:=get_map p;exact⟨rfl,HK d o ⟨_,rfl⟩⟩
  ·rintro a ⟨c,rfl⟩;rw[dL,SZ (by unfold j7;rw[dL];exact sK _)];exact Km d j q
noncomputable def rv(b:Bd)(ls:List Ld)(y:Str):Int:=(ls.map λl=>(((l4 b l.nm).count y:Nat):Int)*(if l.on then l.la else 0)).sum
theorem tu(d:j5 b)(y:Str):j8 b y=rv b b.ls y:=by
 have c:∀x,G5 b [] x=true:=λx=>by
  unfold G5;rw[XO];exactλg _=>v1 (λz=>nomatch z)
 unfold j8 Q5 rv;rw[v7,Ym,Q6 (j7 b) _ λx e=>?_,Int.zero_add]
 ·unfold L9;rw[Bi];refine L8 λl h=>?_;show(if G5 b [] l.nm=true then _ else _)=_;rw[ux (c _)];unfold vo;rw[Q8 (LD d) h]
 ·have a:=λz=>(List.nodup_append.mp d.nd).2.2 x e x z rfl;rw[ux (c _)];unfold vo;rw[ba a,Int.mul_zero]
theorem Hv(d:j5 b)(B:l∈b.ls)
  (C:∀a,T.nx [some q,some (.dic (kQ b (j7 b++L9 b))),some (.dic (i6 b λy=>f y+(((l4 b l.nm).count y:Nat):Int)*(if l.on then l.la else 0))),some (lD l),a]) :
  gE T [some q,some (.dic (kQ b (j7 b++L9 b))),some (.dic (i6 b f)),some (lD l),a]:=by
 have G:=d.g16;have o:l.nm∈j7 b++L9 b:=tz _ (List.mem_map.mpr ⟨l,B,rfl⟩);have j:=eT d o;refine⟨_,rfl,.inr l.nm,_,rfl,ia o d.nd,?_⟩;generalize l4 b l.nm=c at *;generalize E:kQ b (j7 b++L9 b)=I;refine .of ⟨λn i=>∃a,i=[some q,some (.dic I),some (.dic (i6 b λy=>f y+(((c.take n).count y))*(if l.on then l.la else 0))),some (lD l),a],⟨a,?_⟩,?_,?_⟩
 ·have e:(i6 b λy=>f y+((((c.take 0).count y)))*(if l.on then l.la else 0))=i6 b f:=y7 λx _=>by
   show f x+0*_=f x;rw[Yr,YK]
  rw[e]
 ·rintro n y i v ⟨a,rfl⟩;obtain⟨g,r,rfl⟩:=get_map v;have p:=j g (oT r);refine⟨rfl,⟨_,_,rfl,x4 d p,?_⟩⟩;have H:(l.la*if l.on=true then 1 else 0)=if l.on then l.la else 0:=by split<;>omega
  have e:(i6 b λz=>if z=g then f g+(((c.take n).count g))*(if l.on then l.la else 0)+(if l.on then l.la else 0) else f z+(((c.take n).count z))*(if l.on then l.la else 0))=i6 b λz=>f z+(((c.take (n+1)).count z))*(if l.on then l.la else 0):=y7 λz _=>by
   rw[List.take_succ,r,show(some g).toList=[g] from rfl,List.count_append,List.count_singleton]
   by_cases h:z=g
   ·subst h;rw[ux rfl];simp[Zy];omega
   ·rw[uk h];have:(g == z)=false:=by rw[beq_eq_false_iff_ne];exactλw=>h w.symm
    simp[this]
  refine⟨_,rfl,_,rfl,⟨.inr ⟨?_,?_⟩,?_⟩⟩
  ·split<;>decide
  ·split<;>decide
  rw[H];refine⟨rfl,_,rfl,by rw[X8];exact g6 (by omega),some (.str g),?_⟩;rw[Y1 p,e];rfl
 ·rintro i ⟨a,rfl⟩;rw[dL,wh,<-E];exact C a
theorem KA(h:j5 b)(j:Bp y (b.ls.map lD))(q:Q (.dic (i6 b (j8 b)))):rE (EP Q) [some (.tup [x,y]),some (.dic (kQ b (j7 b++L9 b))),some (.dic (i6 b λ_=>0)),c,a]:=by
 rcases j with rfl | rfl
 all_goals
  refine⟨_,aP _ _ _,.of ⟨λi d=>∃c a:Option D,d=[some (.tup [x,_]),some (.dic (kQ b (j7 b++L9 b))),some (.dic (i6 b (rv b (b.ls.take i)))),c,a],⟨c,a,rfl⟩,?_,?_⟩⟩
  ·rintro i e d o ⟨c,a,rfl⟩;obtain⟨l,g,rfl⟩:=get_map o;refine⟨rfl,Hv h (oT g) λa=>⟨some (lD l),a,?_⟩⟩
   have e:(i6 b λy=>rv b (b.ls.take i) y+(((l4 b l.nm).count y))*(if l.on then l.la else 0))=i6 b (rv b (b.ls.take (i+1))):=y7 λz _=>by
    unfold rv;rw[v9,g,v7,Ym];show _=_+(_+0);rw[YK]
   rw[e]
  ·rintro d ⟨c,a,rfl⟩;have e:i6 b (rv b b.ls)=i6 b (j8 b):=y7 λz _=>(tu h z).symm;rwa[dL,wh,e]
theorem Lo(ds:List D)(Q:D->Prop)(h:W6 ds Q):Hj (EP Q) (i4 5 ds):=by
 obtain⟨_,b,rfl,⟨x,y,rfl,d,c⟩,a,q⟩:=h;have i:=a.g16;refine⟨_,b,rfl,⟨x,y,rfl,d,c⟩,a,rfl,?_⟩;rcases d with rfl | rfl
 all_goals
  refine⟨_,J5 _ _,by rw[dL];exact g6 (by omega),M9 (f:=λg=>.tup [.str g.nm,.int 0]) b.gs [] (λg j K R e=>?_) ?_⟩
  ·walk_at "r";exact e
  refine .inl ⟨_,_,_,rfl,rfl,M5  (λg=>rfl) b.gs,bP (λg:Gd=>g.nm) (λ_=>.int 0) b.gs,by rw[dL];exact g6 (by omega),?_⟩;rw[nW a];exact⟨rfl,KA a c q⟩
theorem Ga(ds:List D)(Q:D->Prop)(h:V6 ds Q):zP (EP Q) (i4 2 ds):=by
 obtain⟨g,n,rfl,v,q⟩:=h;have l:=Z3 (g.cv.map λp=>(p.1+n,p.2));have a:=jq g.un;have b:=W9 g;refine⟨b,⟨_,rfl,by rw[dL];exact g6 (by omega),M9 (f:=λp=>pr (p.1+n,p.2)) g.cv [] (λp u K R c=>?_) ?_⟩⟩
 ·walk_at "r";exact c
 have e:([]++g.cv.map λp=>pr (p.1+n,p.2))=(g.cv.map λp=>(p.1+n,p.2)).map pr:=by rw[Bi];rfl
 rw[e];refine⟨_,_,rfl,rfl,l,?_⟩
 have j:=by
  show(true&&(u3 (uD g.un)&&true))=true;rw[a];rfl
 have i:=by
  show(u3 (mh (g.cv.map λp=>(p.1+n,p.2)))&&true)=true;rw[bS];rfl
 have d:=by
  show(true&&(u3 (uD g.un)&&(u3 (mh (g.cv.map λp=>(p.1+n,p.2)))&&true)))=true;rw[a,bS];rfl
 exact⟨j,i,SL (g6 (show 2+1<=100000 by decide)),b,d,rfl,SL (g6 (show 3+2<=100000 by decide)),q⟩
theorem Up.more(h:Up b xs)(d:l∈xs)(e:∀x∈xs,x<=l)(i:1<=u)(g:u<=w):Up (b+w) (xs++[l+u]):=by
 refine⟨List.pairwise_append.mpr ⟨h.1,Os _ _,λx a y c=>?_⟩,λx a=>?_⟩
 ·rw[List.mem_singleton.mp c];have:=e x a;omega
 ·have:=h.2 l d;rcases List.mem_append.mp a with z | z
  ·have:=h.2 x z;omega
  ·rw[List.mem_singleton.mp z];omega
theorem Up.scale(h:Up b xs)(c:1<=u)(i:b*u<=B):Up B (xs.map (·*u)):=by
 refine⟨List.pairwise_map.mpr (h.1.imp λh=>Int.mul_lt_mul_of_pos_right h (by omega)),λy d=>?_⟩;obtain⟨x,e,rfl⟩:=List.mem_map.mp d;have a:=h.2 x e;have g:=Int.mul_le_mul a.1 c (by decide) (by omega);have j:x*u<=b*u:=wS a.2 (by omega);exact⟨g,by omega⟩
theorem Z8(xs:ZW)(u:Int)(k:Nat):(xs.map (·*u)).getD k 0=xs.getD k 0*u:=by
 rw[v4,v4,ue]
 cases xs[k]? with
 | none=>exact(Yr u).symm
 | some x=>rfl
theorem getD_mem{xs:ZW}(h:k<xs.length):xs.getD k 0∈xs:=by
 rw[v4,nA h];exact Xp h
theorem oE(h:W8 u t):46*u<=10^60-1/\15*t<=10^60-1:=by
 obtain⟨d,c,b,a⟩:=h;omega
theorem Bw(b:W8 u t)(B:(xs.length:Int)=m)(T:(ys.length:Int)=m)(X:1<=m)(U:m<=5)(j:Up 46 xs)(h:Up 15 ys)
  (q:∀cv:List Pr,M1 cv->(∀p∈cv,p.1<=46*u)->(∀p∈cv,p.2<=15*t)->Q (mh cv) (feed c d k)):kP (EM Q) [some (feed c d k),some (.int u),some (.int t),some (.int m),some (nums xs),some (nums ys),v]:=by
 obtain⟨I,H⟩:=oE b;have E:=j.scale b.1 I;have C:=h.scale b.2.2.1 H;refine⟨⟨by omega,by omega⟩,by rw[A2,dL,vr];exact g6 (by omega),M9 (f:=λk=>pr ((xs.map (·*u)).getD k 0,(ys.map (·*t)).getD (m.toNat-1-k) 0)) (List.range m.toNat) [] (λk a K R z=>?_) ?_⟩
 ·have a:=List.mem_range.mp a
  have M:O7 (xs.map D.int) (0+(k:Int))=some (.int (xs.getD k 0)):=by
   obtain⟨x,_,g,y⟩:=G9 (f:=D.int) (xs:=xs) (i:=0+(k:Int)) (by omega) (by omega);rw[y];have r:(0+(k:Int)).toNat=k:=by omega
   rw[r] at g;rw[v4,g];rfl
  have J:O7 (ys.map D.int) (m-1-(0+(k:Int)))=some (.int (ys.getD (m.toNat-1-k) 0)):=by
   obtain⟨x,_,g,y⟩:=G9 (f:=D.int) (xs:=ys) (i:=m-1-(0+(k:Int))) (by omega) (by omega);rw[y];have r:(m-1-(0+(k:Int))).toNat=m.toNat-1-k:=by omega
   rw[r] at g;rw[v4,g];rfl
  have S:=j.2 _ (getD_mem (xs:=xs) (k:=k) (by omega));have O:=h.2 _ (getD_mem (xs:=ys) (k:=m.toNat-1-k) (by omega));rw[Z8,Z8] at z;refine⟨rfl,Br.yes rfl (⟨_,M,.inl ⟨by omega,by omega⟩,_,J,.inl ⟨by omega,by omega⟩,z⟩)⟩
 ·have G:∀l:ZX,x3 (l.map λ(k:Nat)=>pr ((xs.map (·*u)).getD k 0,(ys.map (·*t)).getD (m.toNat-1-k) 0))=true:=λl=>tB λx B=>by
   obtain⟨k,_,rfl⟩:=List.mem_map.mp B;rfl
  refine⟨_,_,rfl,rfl,G _,?_⟩;have e:(List.range m.toNat).map (λ(k:Nat)=>pr ((xs.map (·*u)).getD k 0,(ys.map (·*t)).getD (m.toNat-1-k) 0))=(steps m.toNat (xs.map (·*u)) (ys.map (·*t))).map pr:=by unfold steps;rw[Bi];rfl
  rw[wf,e];refine q _ (El (by rw[dL];omega) (by rw[dL];omega) (by omega) (by omega) E C) (λp o=>?_) λp o=>?_
  ·obtain⟨k,a,rfl⟩:=List.mem_map.mp o;have a:=List.mem_range.mp a;show(xs.map (·*u)).getD k 0<=46*u;rw[Z8];exact wS (j.2 _ (getD_mem (by omega))).2 (by have:=b.1;omega)
  ·obtain⟨k,a,rfl⟩:=List.mem_map.mp o;have a:=List.mem_range.mp a;show(ys.map (·*t)).getD (m.toNat-1-k) 0<=15*t;rw[Z8];exact wS (h.2 _ (getD_mem (by omega))).2 (by have:=b.2.2.1;omega)
theorem Ct(ds:List D)(Q:D->D->Prop)(h:U1 ds Q):qO (EM Q) (i4 7 ds):=by
 obtain⟨c,d,k,u,t,rfl,k0,k1,X,q⟩:=h;refine⟨c,d,k,5,rfl,k0,by omega,by decide,by decide,λm d1 m0 m1=>⟨rfl,⟨c,d1,k+1,10,rfl,by omega,by omega,by decide,by decide,λr d2 r0 r1=>⟨rfl,⟨c,d2,k+1+1,3,rfl,by omega,by omega,by decide,by decide,λr' d3 a0 Y=>⟨rfl,⟨⟨by omega,by omega⟩,.of ⟨λi E=>∃(B a:Int) (g b:ZW) (G:Option D),E=[some (feed c B a),some (.int u),some (.int t),some (.int (1+m)),some (nums g),some (nums b),G]/\g.length=i+1/\b.length=i+1/\Up (10+9*i) g/\Up (3+3*i) b/\k<=a/\a<=k+3+2*i,
  ⟨d3,k+1+1+1,[1+r],[1+r'],none,rfl,rfl,rfl,⟨Os _ _,λx o=>by rw[List.mem_singleton.mp o];omega⟩,⟨Os _ _,λx o=>by rw[List.mem_singleton.mp o];omega⟩,by omega,by omega⟩,?_,?_⟩⟩⟩⟩⟩⟩⟩⟩
 ·rintro i e E R ⟨B,a,g,b,G,rfl,o,J,y,v,k2,O⟩;rw[A2] at R;obtain⟨j,hj,rfl⟩:=get_map R;have hi:i<(1+m-1).toNat:=by have:=(List.getElem?_eq_some_iff.mp hj).1;rwa [vr] at this
  obtain⟨l,lm,lx,hl⟩:=Ao y (by omega);obtain⟨C,I,H,M⟩:=Ao v (by omega);refine⟨rfl,rfl,_,hl,?_⟩;refine⟨c,B,a,9,rfl,by omega,by omega,by decide,by decide,λw d4 w0 w1=>?_⟩;refine⟨by rw[dL];exact g6 (by omega),?_⟩;refine⟨rfl,_,M,?_⟩;refine⟨c,d4,a+1,3,rfl,by omega,by omega,by decide,by decide,λp d5 U T=>?_⟩;refine⟨by rw[dL];exact g6 (by omega),?_⟩;have z:=y.more (w:=9) (u:=1+w) lm lx (by omega) (by omega);have S:=v.more (w:=3) (u:=1+p) I H (by omega) (by omega);refine⟨d5,a+1+1,g++[l+(1+w)],b++[C+(1+p)],some (.int (0+(j:Int))),?_,by simp[o],by simp[J],z.mono (by omega),S.mono (by omega),by omega,by omega⟩;unfold nums;rw[v7,v7];show _=[some (feed c d5 (a+1+1)),_,_,_,some (.lst (g.map D.int++[.int (l+(1+w))])),some (.lst (b.map D.int++[.int (C+(1+p))])),_];rw[show l+(1+w)=l+1+w from by omega,show C+(1+p)=C+1+p from by omega];rfl
 ·rintro E ⟨B,a,g,b,G,rfl,o,J,y,v,k2,O⟩;rw[A2,dL,vr] at o J O y v;exact Bw X (by omega) (by omega) (by omega) (by omega) (y.mono (by omega)) (v.mono (by omega)) λcv c1 c2 c3=>q cv B a c1 c2 c3 (by omega) (by omega)
theorem Eu{a:List D}{p:Int}(c:0<=p)(b:p<a.length):O7 a p=a[p.toNat]?:=by
 unfold O7 mO;rw[ux c,ux b];rfl
theorem Ma(xs:ZT){p:Int}(b:0<=p)(g:p<=xs.length):∃un:Option Str,O7 ([D.o6]++xs.map D.str) p=some (uD un)/\(∀y,un=some y->∃j:Nat,(j:Int)+1=p/\xs[j]?=some y):=by
 rw[Eu b (by rw[vv,dL];show p<((1+xs.length));omega)]
 by_cases h:p=0
 ·subst h;exact⟨none,rfl,λy z=>nomatch z⟩
 ·obtain⟨n,e⟩:∃n,p.toNat=n+1:=⟨p.toNat-1,by omega⟩
  have d:n<xs.length:=by omega
  have a:=nA d;refine⟨some xs[n],?_,λz c=>by cases c;exact⟨n,by omega,a⟩⟩;rw[e];show(xs.map D.str)[n]?=_;rw[ue,a];rfl
structure UO(xs:ZT)(gs:List Gd)(es:ZX)(u t:Int):Prop where
 k:RI xs gs es
 lo:∀(j e:Nat),es[j]?=some e->e<=j+1
 sm:VZ gs u t
theorem UO.snoc(r:W8 u t)(h:UO xs gs c u t)(Q:gs.length<8)(v:xs[gs.length]?=some g.nm)(un:∀y,g.un=some y->∃j:Nat,j<gs.length/\xs[j]?=some y)(x:M1 g.cv)(hd:0<=g.de)(hw:0<=g.wa)
  (c1:∀p∈g.cv,p.1<=46*u) (c2:∀p∈g.cv,p.2<=15*t) (d2:g.de<=3*t) (B:g.wa<=2*t):∃q,UO xs (gs++[g]) q u t:=by
 have mem:∀{P:Gd->Prop},(∀g∈gs,P g)->P g->∀z∈gs++[g],P z:=λI H z C=>by
  rcases List.mem_append.mp C with w | w
  ·exact I z w
  ·rw[List.mem_singleton.mp w];exact H
 have b:=oE r;have sm:VZ (gs++[g]) u t:=⟨mem h.sm.c1 c1,mem h.sm.c2 c2,mem h.sm.de d2,mem h.sm.wa B⟩
 have lo:∀e:Nat,e<=gs.length+1->∀(j l:Nat),(c++[e])[j]?=some l->l<=j+1:=λe i j l a=>by
  by_cases G:j<c.length
  ·rw[wr G] at a;exact h.lo j l a
  ·have o:=(List.getElem?_eq_some_iff.mp a).1;rw[vv,BB] at o;have J:j=c.length:=by omega
   subst J;rw[Ix (sK _),Yp] at a;cases a;rw[h.k.len];exact i
 cases d:g.un with
 | none=>exact⟨c++[1],h.k.snoc (e:=1) v (sK _) (by decide) (λ_=>rfl) (λy z=>by rw[d] at z;cases z) x ⟨hd,by omega⟩ ⟨hw,by omega⟩,lo 1 (by omega),sm⟩
 | some y=>
  obtain⟨j,a,E⟩:=un y d;obtain⟨e,i⟩:∃e,c[j]?=some e:=⟨_,nA (by rw[h.k.len];exact a)⟩
  have:=h.lo j e i;exact⟨c++[e+1],h.k.snoc (e:=e+1) v (by omega) (by omega) (λz=>by rw[d] at z;cases z) (λM z=>by rw[d] at z;cases z;exact⟨j,e,a,E,i,rfl⟩) x ⟨hd,by omega⟩ ⟨hw,by omega⟩,lo (e+1) (by omega),sm⟩
theorem yI(ds:List D)(Q:D->Prop)(h:P2 ds Q):mV (EP Q) (i4 10 ds):=by
 obtain⟨d,ns,v,u,t,rfl,hs,x1,x8,xn,B,q⟩:=h;have t1:=B.2.2.1;refine⟨rfl,⟨⟨by omega,by rw[dL];omega⟩,.of ⟨λi H=>∃(gs:List Gd) (es:ZX) (R O M J I:Option D),H=[some d,some (kS v),some (.int u),some (.int t),some (.lst (gs.map gD)),R,O,M,J,I]/\gs.length=i/\UO v gs es u t,
  ⟨[],[],none,none,none,none,none,rfl,rfl,⟨⟨rfl,rfl,λj g l=>(by simp at l),(λg l=>nomatch l),(λg l=>nomatch l),(λg l=>nomatch l)⟩,λj e E=>(by simp at E),⟨(λg l=>nomatch l),(λg l=>nomatch l),(λg l=>nomatch l),(λg l=>nomatch l)⟩⟩⟩,?_,?_⟩⟩⟩
 ·rintro i e H E ⟨gs,es,R,O,M,J,I,rfl,C,o⟩;rw[A2] at E;obtain⟨j,hj,rfl⟩:=get_map E
  have hi:i<v.length/\j=i:=by
   obtain⟨z1,z2⟩:=List.getElem?_eq_some_iff.mp hj;rw[vr,dL] at z1;rw[Xs] at z2;exact⟨by omega,by omega⟩
  obtain⟨hi,rfl⟩:=hi;obtain⟨x,_,z,T⟩:=G9 (f:=D.str) (xs:=v) (i:=0+(j:Int)) (by omega) (by omega);have e0:(0+(j:Int)).toNat=j:=by omega
  rw[e0] at z;refine⟨rfl,⟨d,ns,2+(0+(j:Int)),rfl,hs,by omega,by omega,λc=>⟨rfl,?_⟩⟩⟩;walk_at "n";refine⟨c,c,_,0+(j:Int)+1,rfl,by omega,by omega,by omega,by omega,λr d1 r0 r1=>⟨rfl,c,d1,_,3,rfl,by omega,by omega,by decide,by decide,λw d2 w0 w1=>?_⟩⟩;walk_at "n";obtain⟨p,hp,ab⟩:=Tu r (0+(j:Int)) (t:=if decide (0<w)=true then 1 else 0) (by split<;>decide) (by split<;>decide);refine⟨_,hp,rfl,rfl,?_⟩;walk_at "n";refine⟨c,d2,_,u,t,rfl,by omega,by omega,B,λcv d3 S hc c1 c2 a5 a4=>⟨rfl,?_⟩⟩;walk_at "n";refine⟨c,d3,S,4,rfl,by omega,by omega,by decide,by decide,λa d4 a0 a1=>⟨.inl ⟨by omega,by omega⟩,rfl,?_⟩⟩;walk_at "n";obtain⟨un,X,U⟩:=Ma v (p:=p) (by omega) (by omega);refine⟨rfl,_,T,rfl,⟨rfl,bB v,?_,_,X,?_⟩⟩
  ·rw[dL];exact SL (g6 (by show 1+_<=_;omega))
  refine⟨bS cv,rfl,c,d4,S+1,3,rfl,by omega,by omega,by decide,by decide,λG d5 a3 ac=>⟨.inl ⟨by omega,by omega⟩,⟨by rw[dL];exact g6 (by omega),?_⟩⟩⟩;have m1:a*t<=3*t:=wS (by omega) (by omega);have m2:G*t<=2*t:=wS (by omega) (by omega);have m3:0<=a*t:=Yu a0 (by omega);have m4:0<=G*t:=Yu a3 (by omega);obtain⟨a2,Y⟩:=o.snoc B (g:=⟨x,un,cv,a*t,G*t⟩) (by omega) (by rw[C];exact z) (λy hy=>by obtain⟨n,h1,h2⟩:=U y hy;exact⟨n,by omega,h2⟩) hc m3 m4 c1 c2 m1 m2;refine⟨gs++[⟨x,un,cv,a*t,G*t⟩],a2,some (.int (0+(j:Int))),some (feed c d5 (S+1+1)),some (.int p),some (mh cv),some (.int (a*t)),?_,by simp[C],Y⟩;rw[v7];rfl
 ·rintro H ⟨gs,es,R,O,M,J,I,rfl,C,o⟩;rw[A2,dL,vr,dL] at C;refine q gs ?_ o.k.un o.k.cv (λg l=>(o.k.de g l).1) (λg l=>(o.k.wa g l).1) o.sm;have:=o.k.nms;rw[this,SZ (by omega)]
structure UU(gs:List Gd)(ls:List Ld)(u t:Int):Prop where
 c4:∀l∈ls,l.cs.length<=4
 cs:∀l∈ls,∀p∈l.cs,1<=p.1/\0<=p.2
 la:∀l∈ls,0<=l.la
 at_:∀l∈ls,∃g∈gs,g.nm=l.at_
 sm:Vu ls u t
theorem UU.snoc(h:UU gs ls u t)(c:l.cs.length<=4)(a:∀p∈l.cs,1<=p.1/\p.1<=3*t/\0<=p.2/\p.2<=11*u)(j:0<=l.la)(i:l.la<=3*u)(e:∃g∈gs,g.nm=l.at_):UU gs (ls++[l]) u t:=by
 have mem:∀{P:Ld->Prop},(∀g∈ls,P g)->P l->∀z∈ls++[l],P z:=λc a z d=>by
  rcases List.mem_append.mp d with w | w
  ·exact c z w
  ·rwa[List.mem_singleton.mp w]
 exact⟨mem h.c4 c,mem h.cs λp b=>⟨(a p b).1,(a p b).2.2.1⟩,mem h.la j,mem h.at_ e,mem h.sm.la i,mem h.sm.cs λp b=>⟨(a p b).2.1,(a p b).2.2.2⟩⟩
theorem BK(ds:List D)(Q:D->Prop)(h:U4 ds Q):qV (EP Q) (i4 11 ds):=by
 obtain⟨d,ns,H,gs,u,t,rfl,hs,g1,g8,x8,ut,q⟩:=h;have u1:=ut.1;have t1:=ut.2.2.1;refine⟨rfl,⟨⟨by omega,by rw[dL];omega⟩,.of ⟨λi B=>∃(ls:List Ld) (X U T S b:Option D),B=[some d,some (kS H),some (.lst (gs.map gD)),some (.int u),some (.int t),some (.lst (ls.map lD)),X,U,T,S,b]/\ls.length=i/\ls.map (·.nm)=H.take i/\UU gs ls u t,
  ⟨[],none,none,none,none,none,rfl,rfl,rfl,⟨(λg l=>nomatch l),(λg l=>nomatch l),(λg l=>nomatch l),(λg l=>nomatch l),(λg l=>nomatch l),(λg l=>nomatch l)⟩⟩,?_,?_⟩⟩⟩
 ·rintro i e B he ⟨ls,X,U,T,S,b,rfl,hl,R,C⟩;rw[A2] at he;obtain⟨j,hj,rfl⟩:=get_map he
  have hi:i<H.length/\j=i:=by
   obtain⟨z1,z2⟩:=List.getElem?_eq_some_iff.mp hj;rw[vr,dL] at z1;rw[Xs] at z2;exact⟨by omega,by omega⟩
  obtain⟨hi,rfl⟩:=hi;obtain⟨x,_,I,a2⟩:=G9 (f:=D.str) (xs:=H) (i:=0+(j:Int)) (by omega) (by omega);have e0:(0+(j:Int)).toNat=j:=by omega
  rw[e0] at I;refine⟨rfl,?_⟩;refine⟨d,ns,10+(0+(j:Int)),rfl,hs,by omega,by omega,λc=>⟨rfl,?_⟩⟩;refine⟨c,c,_,_,rfl,by omega,by omega,by rw[dL];omega,by rw[dL];omega,λr d1 r0 r1=>?_⟩;rw[dL] at r1;obtain⟨g,l,_,a3⟩:=G9 (f:=gD) (xs:=gs) (i:=r) r0 r1;refine⟨_,a3,_,rfl,rfl,rfl,rfl,?_⟩;refine⟨c,d1,_,5,rfl,by omega,by omega,by decide,by decide,λr2 d2 ab a5=>?_⟩;generalize hK:100*(10+(0+(j:Int)))+1+1=K0;refine⟨⟨by omega,by omega⟩,?_⟩;refine .of ⟨λn B=>∃(J o:Int) (v:List Pr) (b:Option D),B=[some d,some (kS H),some (.lst (gs.map gD)),some (.int u),some (.int t),some (.lst (ls.map lD)),some (.int (0+(j:Int))),some (feed c J o),some (.str g.nm),some (.lst (v.map pr)),b]/\v.length=n/\(∀p∈v,1<=p.1/\p.1<=3*t/\0<=p.2/\p.2<=11*u)/\0<=o/\o<=10000+2*n,⟨d2,K0,[],b,rfl,rfl,(λp hp=>nomatch hp),by omega,by omega⟩,?_,?_⟩
  ·rintro n y B hy ⟨J,o,v,b,rfl,G,E,k0,k1⟩;have hn:n<r2.toNat:=by have:=(List.getElem?_eq_some_iff.mp hy).1;rwa [A2,dL,vr] at this
   refine⟨rfl,?_⟩;refine⟨rfl,c,J,o,3,rfl,by omega,by omega,by decide,by decide,λa d3 a0 a1=>⟨.inl ⟨by omega,by omega⟩,?_⟩⟩;refine⟨c,d3,o+1,12,rfl,by omega,by omega,by decide,by decide,λO d4 M a4=>⟨.inl ⟨by omega,by omega⟩,?_⟩⟩;refine⟨by rw[dL];exact g6 (by omega),?_⟩;have m1:(1+a)*t<=3*t:=wS (by omega) (by omega);have m2:O*u<=11*u:=wS (by omega) (by omega);have Y:1*1<=(1+a)*t:=Int.mul_le_mul (by omega) t1 (by decide) (by omega);have m4:0<=O*u:=Yu M (by omega);refine⟨d4,o+1+1,v++[((1+a)*t,O*u)],some y,?_,by simp[G],λp hp=>?_,by omega,by omega⟩
   ·rw[v7];rfl
   ·rcases List.mem_append.mp hp with z | z
    ·exact E p z
    ·rw[List.mem_singleton.mp z];exact⟨Y,m1,m4,m2⟩
  ·rintro B ⟨J,o,v,b,rfl,G,E,k0,k1⟩;rw[A2,dL,vr] at G k1;refine⟨rfl,_,a2,rfl,rfl,_,_,rfl,rfl,Z3 v,?_⟩;refine⟨c,J,o,4,rfl,by omega,by omega,by decide,by decide,λa d5 a0 a1=>⟨.inl ⟨by omega,by omega⟩,?_⟩⟩;refine⟨c,d5,o+1,4,rfl,by omega,by omega,by decide,by decide,λO d6 M a4=>?_⟩;refine⟨by rw[dL];exact g6 (by omega),?_⟩;have m1:a*u<=3*u:=wS (by omega) (by omega);have Y:0<=a*u:=Yu a0 (by omega);refine⟨ls++[⟨x,g.nm,v,a*u,decide (0<O)⟩],some (.int (0+(j:Int))),some (feed c d6 (o+1+1)),some (.str g.nm),some (.lst (v.map pr)),b,?_,by simp[hl],?_,C.snoc (by show v.length<=4;omega) E Y m1 ⟨g,l,rfl⟩⟩
   ·rw[v7];rfl
   ·rw[v7,R,v9,I];rfl
 ·rintro B ⟨ls,X,U,T,S,b,rfl,hl,R,C⟩;rw[A2,dL,vr,dL] at R;exact q ls (by rw[R,SZ (by omega)]) C.c4 C.cs C.la C.at_ C.sm
theorem GH(l:si gs dp)(nd:(gs.map (·.nm)).Nodup):∀(n j:Nat) (g:Gd),gs[j]?=some g->∀y∈ups gs n (some g.nm),∃k h,k<=j/\gs[k]?=some h/\h.nm=y
 | 0,_,_,_,y,b=>by cases b
 | n+1,j,g,d,y,b=>by
  rcases List.mem_cons.mp b with e | e
  ·exact⟨j,g,sK _,d,e.symm⟩
  ·rw[bq nd (oT d)] at e
   cases c:g.un with
   | none=>
    rw[c] at e;cases n<;>cases e
   | some z=>
    rw[c] at e;obtain⟨_,_,_,a⟩:=l j g d;obtain⟨k,r,u,i,rfl,_⟩:=a z c;obtain⟨o,h,v,q,p⟩:=GH l nd n k r i y e;exact⟨o,h,by omega,q,p⟩
theorem OO{gs:List Gd}(nd:(gs.map (·.nm)).Nodup){i j:Nat}(d:gs[i]?=some g)(c:gs[j]?=some h)(e:g.nm=h.nm):i=j:=by
 have a:(gs.map (·.nm))[i]?=some g.nm:=by rw[ue,d];rfl
 have l:(gs.map (·.nm))[j]?=some g.nm:=by rw[ue,c,e];rfl
 have b:=(List.getElem?_eq_some_iff.mp a).1;exact(XB b nd).mp (a.trans l.symm)
theorem nS(c:si gs dp)(nd:(gs.map (·.nm)).Nodup):∀(n j:Nat) (g:Gd),gs[j]?=some g->(ups gs n (some g.nm)).Nodup
 | 0,_,_,_=>uy
 | n+1,j,g,d=>by
  show(g.nm::ups gs n (vn gs g.nm)).Nodup;rw[bq nd (oT d)]
  cases i:g.un with
  | none=>
   have p:ups gs n none=[]:=by cases n<;>rfl
   rw[p];exact List.nodup_cons.mpr ⟨(λz=>nomatch z),uy⟩
  | some z=>
   obtain⟨_,_,_,a⟩:=c j g d;obtain⟨k,e,r,b,rfl,_⟩:=a z i;refine List.nodup_cons.mpr ⟨λy=>?_,nS c nd n k e b⟩;obtain⟨q,h,u,o,l⟩:=GH c nd n k e b _ y;have:=OO nd o d l;omega
theorem wD(a:j5 b)(d:x∈j7 b++L9 b):(l4 b x).Nodup:=by
 obtain⟨dp,c⟩:=a.dG.un;obtain⟨g,i,e⟩:=List.mem_map.mp (rq a d);obtain⟨j,h⟩:=Da i;unfold l4;rw[<-e];exact nS c a.dG.nd 8 j g h
theorem xf(c:j5 b)(a:x∈j7 b++L9 b)(y:Str):(((l4 b x).count y:Nat):Int)=if y∈l4 b x then 1 else 0:=by
 by_cases h:y∈l4 b x
 ·rw[ux h,List.Nodup.count (wD c a),ux h];rfl
 ·rw[uk h,List.count_eq_zero.mpr h];rfl
theorem gK{d:Type}{f:d->Int}:∀{l:List d},(∀x∈l,0<=f x/\f x<=c)->0<=(l.map f).sum/\(l.map f).sum<=l.length*c
 | [],_=>⟨Rl _,by show(0:Int)<=((0:Nat))*c;rw[Int.natCast_zero,Yr];exact Rl _⟩
 | x::l,h=>by
  have a:=h x hQ;have b:=gK  λy g=>h y (hH _ g);rw[vc,UF,wP];have e:((l.length+1:Nat))*c=l.length*c+c:=by rw[Int.natCast_add,Zy];simp
  omega
theorem ax(d:j5 b)(j:0<=c)(g:∀l∈b.ls,l.la<=c)(y:Str):0<=j8 b y/\j8 b y<=b.ls.length*c:=by
 rw[tu d];refine gK λl a=>?_;have i:=d.la l a;have h:=g l a;have e:0<=(if l.on=true then l.la else 0)/\(if l.on=true then l.la else 0)<=c:=by split<;>omega
 rw[xf d (tz _ (List.mem_map.mpr ⟨l,a,rfl⟩))];split
 ·rwa[Int.one_mul]
 ·omega
theorem M1.lift(h:M1 cv)(l:0<=n)(i:∀p∈cv,p.1<=B)(j:B+n<10^60):M1 (cv.map λp=>(p.1+n,p.2)):=by
 obtain⟨a,b,c,d⟩:=h;refine⟨by rwa[dL],by rwa[dL],λq g=>?_,?_⟩
 ·obtain⟨p,e,rfl⟩:=List.mem_map.mp g;have z:=c p e;have w:=i p e;exact⟨by omega,by omega,z.2.2.1,z.2.2.2⟩
 ·rw[XA];exact d.imp λz=>⟨by omega,z.2⟩
theorem j5.guards(a:j5 b)(f:Gd->Gd)(d:∀g,(f g).nm=g.nm)(p:∀g,(f g).un=g.un)(B:∀g∈b.gs,M1 (f g).cv)(x:∀g∈b.gs,0<=(f g).de/\(f g).de<UN)(v:∀g∈b.gs,0<=(f g).wa/\(f g).wa<10^60):j5 ⟨b.gs.map f,b.ls⟩:=by
 have E:(b.gs.map f).map (·.nm)=b.gs.map (·.nm):=by rw[Bi];exact Xa λg _=>d g
 have all:∀{P:Gd->Prop},(∀g∈b.gs,P (f g))->∀g∈b.gs.map f,P g:=λh g c=>by
  obtain⟨z,o,rfl⟩:=List.mem_map.mp c;exact h z o
 refine⟨by rw[dL];exact a.g1,by rw[dL];exact a.g16,a.l24,by rw[E];exact a.nd,all λg c=>by rw[d];exact a.nmg g c,a.nml,all B,all x,all v,?_,a.cs4,a.cs,a.la,λl u=>?_⟩
 ·obtain⟨dp,q⟩:=a.un;refine⟨dp,λi g c=>?_⟩;rw[ue] at c;obtain⟨z,o,rfl⟩:=Option.map_eq_some_iff.mp c;obtain⟨R,Q,O,M⟩:=q i z o;refine⟨R,Q,λw=>O (by rwa[<-p]),λy r=>?_⟩;obtain⟨j,C,J,I,H,G⟩:=M y (by rwa[<-p]);exact⟨j,f C,J,by rw[ue,I];rfl,by rwa[d],G⟩
 ·obtain⟨g,c,e⟩:=a.at_ l u;exact⟨f g,List.mem_map.mpr ⟨g,c,rfl⟩,by rwa[d]⟩
theorem Cd(ds:List D)(Q:D->Prop)(h:S9 ds Q):rh (EP Q) (i4 9 ds):=by
 obtain⟨d,ns,u,t,rfl,O,z,q⟩:=h;have u1:=z.1;have u2:=z.2.1;have t2:=z.2.2.2;refine⟨d,ns,0,rfl,O,by decide,by decide,λc=>⟨rfl,?_⟩⟩;walk_at "n";refine⟨c,c,_,8,rfl,by decide,by decide,by decide,by decide,λr d1 r0 r1=>⟨rfl,?_⟩⟩;walk_at "n";refine⟨d,ns,1,rfl,O,by decide,by decide,λc'=>?_⟩;walk_at "n";refine⟨c,d1,_,9,rfl,by decide,by decide,by decide,by decide,λr' d2 a1 a0=>?_⟩;walk_at "n";refine⟨c',c',_,_,rfl,by decide,by decide,by omega,by omega,λo _ _ xl xn xm=>⟨rfl,?_⟩⟩;walk_at "n";obtain⟨n,en⟩:∃n:Nat,1+r=(n:Int):=⟨(1+r).toNat,by omega⟩
 have nl:n<=o.length:=by omega
 have im:=bB o;have z1:cutD (o.map D.str) none (some (1+r))=(o.take n).map D.str:=by rw[en,JL,List.map_take]
 have z2:cutD (o.map D.str) (some (1+r)) none=(o.drop n).map D.str:=by rw[en,mW _ _ (by rw[dL];exact nl),List.map_drop]
 refine⟨im,?_⟩;rw[z1];refine⟨d,ns,o.take n,u,t,rfl,O,by rw[wE];omega,by rw[wE];omega,xn.sublist (Xz _ _),z,λgs gn gu Y gd gw j=>⟨rfl,?_⟩⟩;walk_at "n"
 have gl:gs.length=n:=by
  have:=Sc List.length gn;rw[dL,wE] at this;omega
 refine⟨im,?_⟩;rw[z2];refine⟨d,ns,o.drop n,gs,u,t,rfl,O,by omega,by omega,by rw[Xd];omega,z,λls S lc U T X I=>⟨rfl,?_⟩⟩;walk_at "n"
 have ll:ls.length<=8:=by
  have:=Sc List.length S;rw[dL,Xd] at this;omega
 have E:j5 ⟨gs,ls⟩:=by
  refine⟨by show 1<=gs.length;omega,by show gs.length<=16;omega,by show ls.length<=24;omega,?_,λg i=>?_,λl C=>?_,Y,λg i=>⟨gd g i,by have:=j.de g i;show g.de<UN;unfold UN;omega⟩,λg i=>⟨gw g i,by have:=j.wa g i;show g.wa<_;omega⟩,gu,lc,λl C p x=>?_,λl C=>⟨T l C,by have:=I.la l C;show l.la<_;omega⟩,X⟩
  ·show(gs.map (·.nm)++ls.map (·.nm)).Nodup;rw[gn,S,Xv];exact xn
  ·exact xm _ (YX (gn▸List.mem_map.mpr ⟨g,i,rfl⟩))
  ·exact xm _ (List.mem_of_mem_drop (S▸List.mem_map.mpr ⟨l,C,rfl⟩))
  ·have a:=U l C p x;have b:=I.cs l C p x;exact⟨a.1,by omega,a.2,by omega⟩
 have J:∀(d3:D) (G:List Gd) (v:List (Option D)),j5 ⟨G,ls⟩->UW ⟨G,ls⟩ u t->jl (EP Q) [some d,some (.int u),some (.int t),some d3,some (.int (1+r)),some (kS o),some (.lst (G.map gD)),some (.lst (ls.map lD)),some (.dic (i6 ⟨gs,ls⟩ (j8 ⟨gs,ls⟩)))]:=λd3 G _ h1 h2=>
  ⟨_,_,rfl,rfl,eP G,_,_,rfl,rfl,pe ls,q ⟨G,ls⟩ h1 h2⟩
 refine⟨_,⟨gs,ls⟩,rfl,⟨_,_,rfl,.inr rfl,.inr rfl⟩,E,rfl,?_⟩;walk_at "n";refine⟨c,d2,_,8,rfl,by decide,by decide,by decide,by decide,λw d3 w0 w1=>⟨λe=>?_,λe=>J _ gs [] E ⟨by show gs.length<=8;omega,ll,λg i p x=>by have:=j.c1 g i p x;omega,j.c2,j.de,j.wa,I⟩⟩⟩;have H:=ax E (c:=3*u) (by omega) I.la;have l24:(ls.length:Int)*(3*u)<=8*(3*u):=wS (by omega) (by omega);have H:∀y,0<=j8 ⟨gs,ls⟩ y/\j8 ⟨gs,ls⟩ y<=24*u:=λy=>⟨(H y).1,by have h:=(H y).2;have h:j8 ⟨gs,ls⟩ y<=(ls.length:Int)*(3*u):=h;omega⟩
 refine⟨by rw[dL];exact g6 (by omega),M9 (f:=λg:Gd=>gD (T1 g (j8 ⟨gs,ls⟩ g.nm))) gs [] (λg i K R kk=>?_) ?_⟩
 ·refine⟨rfl,Br.yes rfl ?_⟩;refine⟨_,rfl,.inr g.nm,_,rfl,x4 E (List.mem_map.mpr ⟨g,i,rfl⟩),?_⟩;exact⟨g,_,rfl,(Y g i).2.1,kk⟩
 ·refine⟨rfl,?_⟩;have e2:([]++gs.map λg:Gd=>gD (T1 g (j8 ⟨gs,ls⟩ g.nm)))=(gs.map λg=>T1 g (j8 ⟨gs,ls⟩ g.nm)).map gD:=by rw[wf,Bi];rfl
  rw[e2];refine J _ _ [] (E.guards (λg=>T1 g (j8 ⟨gs,ls⟩ g.nm)) (λg=>rfl) (λg=>rfl) (λg i=>(Y g i).lift (H g.nm).1 (j.c1 g i) (by have:=(H g.nm).2;omega)) E.de E.wa) ⟨by show(gs.map _).length<=8;rw[dL];omega,ll,λg i p x=>?_,λg i p x=>?_,λg i=>?_,λg i=>?_,I⟩
  all_goals
   obtain⟨g,M,rfl⟩:=List.mem_map.mp i
  ·obtain⟨p,B,rfl⟩:=List.mem_map.mp x;have a:=j.c1 g M p B;have b:=(H g.nm).2;show p.1+_<=_;omega
  ·obtain⟨p,B,rfl⟩:=List.mem_map.mp x;exact j.c2 g M p B
  ·exact j.de g M
  ·exact j.wa g M
theorem NR(a b c e:Int)(g:0<=t)(d:t<4):∃p:Int,O7 [D.int a,.int b,.int c,.int e] t=some (.int p)/\(p=a\/p=b\/p=c\/p=e):=by
 have h:t=0\/t=1\/t=2\/t=3:=by omega
 rcases h with rfl | rfl | rfl | rfl
 ·exact⟨a,rfl,.inl rfl⟩
 ·exact⟨b,rfl,.inr (.inl rfl)⟩
 ·exact⟨c,rfl,.inr (.inr (.inl rfl))⟩
 ·exact⟨e,rfl,.inr (.inr (.inr rfl))⟩
theorem JH(ds:List D)(Q:D->Prop)(h:cQ ds Q):Hx (EP Q) (i4 4 ds):=by
 obtain⟨d,ns,rfl,y,q⟩:=h;refine⟨d,ns,18,rfl,y,by decide,by decide,λc=>⟨rfl,?_⟩⟩;have u:bM 10 50:=⟨by decide,by decide,by decide⟩
 have v:bM 10 40:=⟨by decide,by decide,by decide⟩
 refine⟨u,⟨c,c,_,4,rfl,by decide,by decide,by decide,by decide,λr d1 B z=>?_⟩⟩;obtain⟨p,E,C⟩:=NR 1 1 7 (10^(50:Int).toNat+3) B z;refine⟨_,E,rfl,rfl,v,⟨c,d1,_,4,rfl,by decide,by decide,by decide,by decide,λI d2 e a=>?_⟩⟩;obtain⟨i,j,g⟩:=NR 1 1 5 (10^(40:Int).toNat) e a;refine⟨_,j,rfl,rfl,?_⟩;have l:(10:Int)^(50:Int).toNat=10^50:=rfl;have o:(10:Int)^(40:Int).toNat=10^40:=rfl;have x:W8 p i:=⟨by omega,by omega,by omega,by omega⟩
 exact⟨d,ns,p,i,rfl,y,x,λb H G=>⟨rfl,q b p i H G x⟩⟩
theorem sZ(a:b.gs[i]?=some g)(h:∀z∈b.gs.take i,¬lo z.cv<=v z.nm)(d:lo g.cv<=v g.nm):yL (D7 b v)=.str g.nm:=by
 have e:b.gs=b.gs.take i++g::b.gs.drop (i+1):=by
  have j:=(List.getElem?_eq_some_iff.mp a).1;have o:=List.getElem?_eq_some_iff.mp a;obtain⟨_,l⟩:=o;rw[<-l,<-Fk j,Xv]
 unfold D7;rw[e,List.filter_append,List.filter_eq_nil_iff.mpr λz c=>by rw[Op];exact h z c,Re,ux (v1 d)];rfl
theorem xq(h:∀z∈b.gs,¬lo z.cv<=v z.nm):D7 b v=[]:=by
 unfold D7;rw[List.filter_eq_nil_iff.mpr λz a=>by rw[Op];exact h z a];rfl
theorem JZ(ds:List D)(Q:D->Prop)(h:dF ds Q):Fj (EP Q) (i4 3 ds):=by
 obtain⟨b,rfl,x,q⟩:=h;refine⟨bD b,b,rfl,⟨_,_,rfl,.inl rfl,.inl rfl⟩,x,rfl,⟨_,J5 _ _,.of ⟨λi r=>∃u:Option D,r=[some (bD b),some (.dic (i6 b (j8 b))),u]/\∀z∈b.gs.take i,¬lo z.cv<=j8 b z.nm,⟨none,rfl,λz o=>nomatch o⟩,?_,?_⟩⟩⟩
 ·rintro i e r C ⟨u,rfl,a⟩;obtain⟨g,v,rfl⟩:=get_map C;have c:=oT v;have y:=x.cv g c
  obtain⟨p,l,B⟩:∃p l,g.cv=p::l:=by
   cases e:g.cv with
   | nil=>rw[e] at y;exact absurd y.1 (by decide)
   | cons p l=>exact⟨p,l,rfl⟩
  have j:lo g.cv=p.1:=by rw[B];rfl
  refine⟨rfl,⟨_,rfl,.inr g.nm,_,rfl,x4 x (List.mem_map.mpr ⟨g,c,rfl⟩),⟨_,rfl,?_⟩⟩⟩;rw[B];refine⟨pr p,J5 _ _,⟨_,rfl,⟨λe=>?_,λe=>?_⟩⟩⟩
  ·have e:=Ch e;rw[sZ v a (by rwa[j])] at q;exact⟨_,rfl,rfl,q⟩
  ·have e:=T0 e;refine⟨_,rfl,λz o=>?_⟩;rw[v9,v] at o;rcases List.mem_append.mp o with w | w
   ·exact a z w
   ·rwa[List.mem_singleton.mp w,j]
 ·rintro r ⟨u,rfl,a⟩;rw[dL,wh] at a;rwa[xq a] at q
theorem Fc(ds:List D)(Q:D->Prop)(h:au ds Q):Ai (EP Q) (i4 1 ds):=by
 obtain⟨b,rfl,c,q⟩:=h;have j:=c.g16;have i:=c.l24;refine⟨_,J5 _ _,by rw[dL];exact g6 (by omega),M9  b.gs [] (λg d K R a=>⟨rfl,Br.yes rfl ⟨_,rfl,rfl,a⟩⟩) ⟨_,aP _ _ _,by rw[dL];exact g6 (by omega),M9  b.ls [] (λg d K R a=>⟨rfl,Br.yes rfl ⟨_,rfl,rfl,a⟩⟩) ⟨M5  (λg=>rfl) _,M5  (λg=>rfl) _,?_,?_⟩⟩⟩
 ·rw[wf,wf,dL,dL];exact SL (g6 (by omega))
 ·have e:([]++b.gs.map λg=>D.str g.nm)++([]++b.ls.map λg=>D.str g.nm)=(j7 b++L9 b).map D.str:=by
   unfold j7 L9;rw[v7,Bi,Bi];rfl
  rwa[e]
theorem iJ(c:j5 b)(a:g∈b.gs):Dr b g.nm=g:=by
 unfold Dr;rw[oV c.dG.nd a];rfl
theorem nZ(c:j5 b)(d:x∈j7 b):u4 (b.gs.map λg:Gd=>((.inr g.nm:Key),gD g)) (.inr x)=some (gD (Dr b x)):=by
 obtain⟨g,a,rfl⟩:=List.mem_map.mp d;rw[iJ c a];exact S2   c.dG.nd a
theorem nD(a:j5 b):b.gs.foldl (λacc g=>putD acc (.inr g.nm) (gD g)) []=b.gs.map λg:Gd=>((.inr g.nm:Key),gD g):=
 O2     (by rw[wf];exact a.dG.nd)
theorem Py(c:j5 b)(e:x∈j7 b++L9 b)(q:Q (.lst ((l4 b x).map λy=>.tup [gD (Dr b y),.int (j8 b y)]))) :
  As (EP Q) [some (bD b),some (.str x),some (.dic (b.gs.map λg:Gd=>(.inr g.nm,gD g))),some (.dic (i6 b (j8 b))),h]:=by
 have a:=eT c e;have j:=dW (b:=b) x;refine⟨bD b,b,rfl,⟨_,_,rfl,.inl rfl,.inl rfl⟩,c,⟨.inr x,_,rfl,ia e c.nd,by rw[dL];exact g6 (by omega),M9 (f:=λy=>.tup [gD (Dr b y),.int (j8 b y)]) (l4 b x) [] (λy d K R i=>?_) q⟩⟩
 ·exact⟨rfl,Br.yes rfl ⟨.inr y,_,rfl,nZ c (a y d),W9 _,.inr y,_,rfl,x4 c (a y d),rfl,i⟩⟩
theorem tZ{b:Bd}(c:b.ls[i]?=some l)(h:∀z∈b.ls.take i,¬(z.nm=x/\z.on=false))(d:¬(l.nm=x/\l.on=false)):∀z∈b.ls.take (i+1),¬(z.nm=x/\z.on=false):=λz a=>by
 rw[v9,c] at a;rcases List.mem_append.mp a with w | w
 ·exact h z w
 ·rwa[List.mem_singleton.mp w]
theorem Mk(c:l∈b.ls)(h:l.nm=x)(a:l.on=false):cu b x=true:=by
 unfold cu;rw[YE];exact⟨l,c,by rw[v1 h,a];rfl⟩
theorem Gu(h:∀z∈b.ls,¬(z.nm=x/\z.on=false)):cu b x=false:=by
 unfold cu;rw[XD];intro z a e;rw[v8,Op] at e;exact h z a ⟨e.1,by cases a:z.on;rfl;rw[a] at e;exact nomatch e.2⟩
theorem GI(h:cu b x=false):aT (C7 b x)=.lst ((l4 b x).map λy=>.tup [gD (Dr b y),.int (j8 b y)]):=by
 unfold aT C7;rw[h];exact Sc D.lst (Bi ..)
theorem zG(h:cu b x=true):aT (C7 b x)=.lst []:=by
 unfold aT C7;rw[h];rfl
theorem Qi(ds:List D)(Q:D->Prop)(h:dM ds Q):NO (EP Q) (i4 5 ds):=by
 obtain⟨b,x,rfl,c,B,q⟩:=h;have E:=c.g16;refine⟨_,J5 _ _,by rw[dL];exact g6 (by omega),M9  b.gs [] (λg G K R u=>⟨rfl,Br.yes rfl ⟨_,rfl,rfl,W9 g,u⟩⟩) ?_⟩
 have v:=λg=>by
  show(true&&(u3 (gD g)&&true))=true;rw[W9];rfl
 refine .inl ⟨_,_,_,rfl,rfl,M5 v b.gs,bP (λg:Gd=>g.nm) gD b.gs,by rw[dL];exact g6 (by omega),?_⟩;rw[mw,nD c];refine⟨rfl,?_⟩;walk_at "n";refine⟨bD b,b,rfl,⟨_,_,rfl,.inl rfl,.inl rfl⟩,c,rfl,?_⟩;walk_at "n";refine⟨_,aP _ _ _,.of ⟨λi d=>∃j:Option D,d=[some (bD b),some (.str x),some (.dic (b.gs.map λg=>(.inr g.nm,gD g))),some (.dic (i6 b (j8 b))),j]/\∀z∈b.ls.take i,¬(z.nm=x/\z.on=false),⟨none,rfl,λz y=>nomatch y⟩,?_,?_⟩⟩
 ·rintro i e d C ⟨j,rfl,a⟩;obtain⟨l,p,rfl⟩:=get_map C;have o:=oT p;refine⟨rfl,⟨_,rfl,?_⟩⟩;walk_at "w";refine⟨λe=>?_,λe=>Br.no rfl ⟨_,rfl,tZ p a λz=>T0 e z.1⟩⟩
  ·have e:=Ch e;refine⟨_,rfl,?_⟩;cases r:l.on with
   | true=>exact Br.no rfl ⟨_,rfl,tZ p a λz=>by rw[r] at z;exact nomatch z.2⟩
   | false=>
    rw[zG (Mk o e r)] at q;exact Br.yes rfl q
 ·rintro d ⟨j,rfl,a⟩;rw[dL,wh] at a;rw[GI (Gu a)] at q;exact Py c B q
theorem Dz(c:j5 b)(d:x∈j7 b++L9 b):kn (.str x)=true:=by
 have h:nm 8 x:=by
  rcases List.mem_append.mp d with z | z
  ·obtain⟨g,a,rfl⟩:=List.mem_map.mp z;exact c.nmg g a
  ·obtain⟨g,a,rfl⟩:=List.mem_map.mp z;exact c.nml g a
 have h:=h.2.1;rw[v3] at h;exact v1 (show x.cps.size<=100000 by omega)
theorem Kf(ds:List D)(Q:D->Prop)(h:di ds Q):EF (EP Q) (i4 4 ds):=by
 obtain⟨b,x,rfl,a,i,q⟩:=h;refine⟨b,.str x,rfl,a,Dz a i,?_⟩;show Br (!(decide (x∈j7 b)||decide (x∈L9 b))) _ _
 ·refine Br.no ?_ ?_
  ·rcases List.mem_append.mp i with h | h
   ·rw[v1 h];rfl
   ·rw[v1 h,Bool.or_true];rfl
  have p:=a.l24;refine⟨_,aP _ _ _,by rw[dL];exact g6 (by omega),iV (k:=λl=>.inr l.nm) (v:=λl=>.str l.at_) b.ls [] (λl c K R d=>?_) ⟨rfl,?_⟩⟩
  ·obtain⟨n,u,cv,de,wa⟩:=l;walk_at "r";exact d
  ·have e:=MG a _ (λl c=>kg   b.ls [] (by
     have e:b.ls.map (λg=>(.inr g.nm))=(b.ls.map (·.nm)).map (λy=>(.inr y:Key)):=by rw[Bi];rfl
     rw[e,List.Nodup,XA];exact(LD a).imp λh z=>h (XG z)) l c)
    (λy j=>fV   (.inr y) b.ls [] λl c z=>j (List.mem_map.mpr ⟨l,c,XG z⟩)) x
   obtain⟨g,o,B⟩:=qE a i;walk_at "r";rw[e];exact⟨rfl,_,b.gs,Z2 b x,rfl,.inl rfl,a.dG,⟨g,o,B⟩,q⟩
theorem uA(ds:List D)(Q:D->Prop)(h:K7 ds Q):kd (EP Q) (i4 2 ds):=by
 obtain⟨b,rfl,a,c,q⟩:=h;refine⟨b,rfl,a,?_⟩;rw[c];exact⟨rfl,Br.no rfl ⟨b,rfl,a,q⟩⟩
theorem JI(ds:List D)(Q:D->Prop)(h:bO ds Q):Jl (EP Q) (i4 6 ds):=by
 obtain⟨b,x,rfl,a,p,u,q⟩:=h;have E:=a.g16;have B:=a.l24;refine⟨b,x,rfl,a,p,rfl,⟨b,rfl,a,u,rfl,?_⟩⟩;walk_at "n";refine⟨_,aP _ _ _,by rw[dL];exact g6 (by omega),L7 (f:=λl=>.str l.nm) (λl=>!l.on) b.ls [] (λl c K R i j=>?_) ?_⟩
 ·exact⟨rfl,⟨_,rfl,⟨λe=>⟨_,rfl,rfl,i e⟩,λe=>j e⟩⟩⟩
 have I:([]++(b.ls.filter λl=>!l.on).map λl=>D.str l.nm)=((b.ls.filter λl=>!l.on).map (·.nm)).map D.str:=by rw[Bi];rfl
 rw[I];refine⟨rfl,_,rfl,bZ _,?_⟩;rw[iF]
 have H:decide (x∈(b.ls.filter λl=>!l.on).map (·.nm))=cu b x:=by
  by_cases h:cu b x=true
  ·rw[h];obtain⟨l,c,e⟩:=List.any_eq_true.mp h;rw[v8,Op] at e;exact v1 (List.mem_map.mpr ⟨l,List.mem_filter.mpr ⟨c,e.2⟩,e.1⟩)
  ·rw[Bool.not_eq_true] at h;rw[h];refine wl λz=>?_;obtain⟨l,c,e⟩:=List.mem_map.mp z;obtain⟨G,C⟩:=List.mem_filter.mp c;have:=List.any_eq_false.mp h l G;exact this (by rw[v8,Op];exact⟨e,C⟩)
 rw[H];refine⟨λe=>?_,λe=>?_⟩
 ·rwa[zG e] at q
 ·rw[GI e] at q;have d:=eT a p;have c:=dW (b:=b) x;refine⟨_,J5 _ _,by rw[dL];exact g6 (by omega),cq (v:=gD) (k:=λg:Gd=>.inr g.nm) (λ_=>true) b.gs [] (λg J K R i j=>⟨rfl,Br.yes rfl ⟨_,rfl,.inr g.nm,rfl,W9 g,i rfl⟩⟩) ?_⟩
  rw[List.filter_eq_self.mpr λ_ _=>rfl,nD a];refine⟨rfl,⟨by rw[dL];exact g6 (by omega),M9 (f:=λy:Str=>.tup [gD (Dr b y),.int (j8 b y)]) (l4 b x) [] (λy o K R r=>?_) q⟩⟩
  ·refine⟨rfl,Br.yes rfl ?_⟩;exact⟨.inr y,_,rfl,nZ a (d y o),W9 _,.inr y,_,rfl,x4 a (d y o),rfl,r⟩
theorem Ce(ds:List D)(Q:D->Prop)(h:J8 ds Q):sE (EP Q) (i4 3 ds):=by
 obtain⟨g,n,rfl,a,q⟩:=h;exact⟨rfl,rfl,_,rfl,g.cv,rfl,a,q⟩
theorem MD{a:Type}{f:a->D}{xs:List a}(h:0<xs.length):O7 (xs.map f) (-1)=some (f (xs.getLast (by intro e;rw[e] at h;exact absurd h (XR 0)))):=by
 unfold O7 mO;have d:¬0<=-1:=by decide
 have c:-((xs.map f).length:Int)<=-1:=by rw[dL];omega
 have b:((-1)+((xs.map f).length:Int)).toNat=xs.length-1:=by rw[dL];omega
 rw[ux c,b];show(xs.map f)[xs.length-1]?=_;rw[ue,List.getLast_eq_getElem,nA (by omega)];rfl
theorem jB.at(h:jB ps){i:Int}(c:0<=i)(b:i<ps.length):∃r,ps[i.toNat]?=some r/\M1 r.1.cv/\O7 (ps.map λr:Gd×Int=>D.tup [gD r.1,.int r.2]) i=some (.tup [gD r.1,.int r.2]):=by
 obtain⟨r,a,e,d⟩:=G9    c b;exact⟨r,e,h.cv r a,d⟩
theorem KL(ds:List D)(Q:D->Prop)(h:U8 ds Q):HI (EP Q) (i4 6 ds):=by
 obtain⟨u,i,n,rfl,a,j,g,q⟩:=h;obtain⟨r,o,b,l⟩:=a.at j g;have q:=q r o;refine⟨_,l,⟨rfl,rfl,?_⟩⟩;walk_at "n";refine⟨_,rfl,by rw[dL];exact g6 (by have:=b.2.1;omega),L7  (λp=>decide (p.1<=r.2+n)) r.1.cv [] (λp a K R d c=>⟨rfl,_,rfl,λe=>⟨_,rfl,rfl,d e⟩,λe=>c e⟩) ?_⟩
 unfold W7 at q;generalize r.1.cv.filter (λp=>decide (p.1<=r.2+n))=fs at *;refine⟨rfl,?_⟩;walk_at "n"
 cases fs with
 | nil=>exact Br.yes rfl q
 | cons p fs=>
  refine Br.no ?_ ?_
  ·show decide (((List.length (([])++(p::fs).map λp=>D.int p.2)))=0)=false;refine wl λz=>?_;rw[wf,dL,wP] at z;omega
  ·have z:=MD (f:=λp=>D.int p.2) (xs:=p::fs) (by show 0<fs.length+1;omega);refine⟨_,z,rfl,?_⟩;rwa[] at q
noncomputable def va(a:ZW):List (Key×D):=a.map λk=>(.inl k,.bl true)
theorem Mp(a:ZW)(k:Int):putD (va a) (.inl k) (.bl true)=va (if k∈a then a else a++[k]):=by
 unfold putD va
 by_cases h:k∈a
 ·have e:((a.map λk=>((.inl k:Key),D.bl true)).any λb=>decide (b.1=Sum.inl k))=true:=by
   rw[YE];exact⟨_,List.mem_map.mpr ⟨k,h,rfl⟩,v1 rfl⟩
  rw[ux h,ux e,Bi];exact Xa λx _=>ite_self _
 ·have e:((a.map λk=>((.inl k:Key),D.bl true)).any λb=>decide (b.1=Sum.inl k))=false:=by
   rw[XD];intro b c z;obtain⟨x,d,rfl⟩:=List.mem_map.mp c;exact h (Sum.inl.inj (Ch z)▸d)
  rw[uk h,e,v7];rfl
structure gY(rs:List (Gd×Int))(cv:List Pr)(n m:Int)(ks:ZW):Prop where
 nd:ks.Nodup
 mem:∀x,x∈ks ↔ x=1\/(∃r∈rs,∃s∈r.1.cv,x=s.1-r.2/\x<=m)\/∃s∈cv,x=s.1-n/\x<=m
 len:ks.length<=1+5*rs.length+cv.length
theorem gY.skip(h:gY rs cv n m b)(c:¬s.1-n<=m):gY rs (cv++[s]) n m b:=by
 refine⟨h.nd,λx=>?_,by have:=h.len;rw[vv];omega⟩;rw[h.mem];refine Zk Za (Zk Za ⟨λ⟨z,a,e⟩=>⟨z,v5 _ a,e⟩,λ⟨z,a,e⟩=>?_⟩);rcases List.mem_append.mp a with w | w
 ·exact⟨z,w,e⟩
 ·rw[List.mem_singleton.mp w] at e;exact absurd (e.1▸e.2) c
theorem gY.put(h:gY rs cv n m c)(g:s.1-n<=m):gY rs (cv++[s]) n m (if s.1-n∈c then c else c++[s.1-n]):=by
 have mem:∀x,x∈(if s.1-n∈c then c else c++[s.1-n]) ↔ x∈c\/x=s.1-n:=λx=>by
  split
  ·exact⟨.inl,λz=>z.elim id λz=>by rw[z];assumption⟩
  ·rw[YR,List.mem_singleton]
 refine⟨?_,λx=>?_,?_⟩
 ·split
  ·exact h.nd
  ·refine List.nodup_append.mpr ⟨h.nd,Os _ _,λa j b i=>?_⟩;rw[List.mem_singleton.mp i];intro e;rw[e] at j
   contradiction
 ·rw[mem,h.mem];constructor
  ·rintro((e | e | ⟨z,d,e⟩) | e)
   ·exact .inl e
   ·exact .inr (.inl e)
   ·exact .inr (.inr ⟨z,v5 _ d,e⟩)
   ·exact .inr (.inr ⟨s,tz _ (List.mem_singleton.mpr rfl),e,by rwa[e]⟩)
  ·rintro(e | e | ⟨z,d,e⟩)
   ·exact .inl (.inl e)
   ·exact .inl (.inr (.inl e))
   ·rcases List.mem_append.mp d with w | w
    ·exact .inl (.inr (.inr ⟨z,w,e⟩))
    ·rw[List.mem_singleton.mp w] at e;exact .inr e.1
 ·have:=h.len;rw[vv,BB];split
  ·omega
  ·rw[vv,BB];omega
theorem gY.next(h:gY rs r.1.cv r.2 m b)(c:r.1.cv.length<=5):gY (rs++[r]) [] n m b:=by
 refine⟨h.nd,λx=>?_,by have:=h.len;rw[vv,BB];omega⟩;rw[h.mem];refine Zk Za ⟨?_,?_⟩
 ·rintro(⟨z,a,e⟩ | ⟨z,a,e⟩)
  ·exact .inl ⟨z,v5 _ a,e⟩
  ·exact .inl ⟨r,tz _ (List.mem_singleton.mpr rfl),z,a,e⟩
 ·rintro(⟨z,a,e⟩ | ⟨z,a,_⟩)
  ·rcases List.mem_append.mp a with w | w
   ·exact .inl ⟨z,w,e⟩
   ·rw[List.mem_singleton.mp w] at e;exact .inr e
  ·cases a
theorem oS{c:ZW}(nd:c.Nodup)(up:c.Pairwise (·<=·)):c.Pairwise (·<·):=by
 refine List.Pairwise.imp₂ (λa b e d=>?_) nd up;omega
theorem MR(ds:List D)(Q:D->Prop)(h:bF ds Q):Jq (EP Q) (i4 6 ds):=by
 obtain⟨g,m,rfl,o,O,q⟩:=h;refine⟨rfl,rfl,?_⟩;walk_at "n";refine .of ⟨λi d=>∃(a:ZW) (u p c:Option D),d=[some (aT g),some (.int m),some (.dic (va a)),u,p,c]/\gY (g.take i) [] 0 m a,⟨[1],none,none,none,rfl,by simp,λx=>by simp,by simp⟩,?_,?_⟩
 ·rintro i e d B ⟨a,u,p,c,rfl,b⟩;obtain⟨r,v,rfl⟩:=get_map B;have C:=o.cv r (oT v);have lt:(g.take i).length<=8:=by rw[wE];omega
  refine⟨rfl,rfl,?_⟩;walk_at "n";refine⟨_,rfl,?_⟩;have y:gY (g.take i) (r.1.cv.take 0) r.2 m a:=⟨b.nd,λx=>by rw[b.mem];simp,by have:=b.len;rw[XU] at this;omega⟩
  refine .of ⟨λj d=>∃(a:ZW) (c:Option D),d=[some (aT g),some (.int m),some (.dic (va a)),some (gD r.1),some (.int r.2),c]/\gY (g.take i) (r.1.cv.take j) r.2 m a,⟨a,c,rfl,y⟩,?_,?_⟩
  ·rintro j e d B ⟨a,c,rfl,b⟩;obtain⟨s,l,rfl⟩:=get_map B;have I:=List.length_take_le' j r.1.cv;have J:=C.2.1;have lk:=b.len;refine⟨rfl,?_⟩;walk_at "n";refine⟨_,rfl,⟨λe=>?_,λe=>⟨a,_,rfl,?_⟩⟩⟩
   ·have e:=Ch e;refine⟨rfl,_,rfl,_,rfl,by unfold va;rw[dL];exact g6 (by omega),?_⟩;rw[Mp];refine⟨_,_,rfl,?_⟩;rw[v9,l];exact b.put e
   ·rw[v9,l];exact b.skip (T0 e)
  ·rintro d ⟨a,c,rfl,b⟩;rw[dL,wh] at b;refine⟨a,_,_,_,rfl,?_⟩;rw[v9,v];exact b.next C.2.1
 ·rintro d ⟨a,u,p,c,rfl,b⟩;rw[dL,wh] at b;have lk:=b.len;rw[XU] at lk;have e:(va a).map (λE=>kD E.1)=a.map D.int:=by unfold va;rw[Bi];rfl
  refine⟨_,rfl,?_⟩;rw[e];refine⟨_,a,rfl,rfl,by omega,λls o l=>q ls ⟨oS (o.nodup_iff.mpr b.nd) l,λx=>?_⟩⟩;rw[o.mem_iff,b.mem];refine Zk Za ⟨λz=>z.elim id (λ⟨_,G,_⟩=>(by cases G)),.inl⟩
theorem PV(ds:List D)(Q:D->D->Prop)(h:jH ds Q):Nt (EM Q) (i4 7 ds):=by
 obtain⟨c,d,k,u,v,rfl,T,k1,u1,u2,J,q⟩:=h;have S:=J.len;have C:bM 10 60:=⟨by decide,by decide,by decide⟩
 refine⟨c,d,k,8,rfl,T,by omega,by decide,by decide,λw d1 w0 Y=>⟨rfl,?_⟩⟩;walk_at "n"
 have low:∀{H G E:Option D},kJ { nx:=Ae (EM Q),rt:=(EM Q).rt } [some (feed c d1 (k+1)),some (aT v),some (.int u),some (.int w),H,G,E]:=by
  intro H G E;refine⟨c,d1,k+1,60,rfl,by omega,by omega,by decide,by decide,λr d2 p l=>⟨.inl ⟨by omega,by omega⟩,?_⟩⟩;have m1:r*u<=59*u:=wS (by omega) (by omega);have m2:0<=r*u:=Yu p (by omega);exact q (1+r*u) d2 (k+1+1) (by omega) (.inl (by omega)) (by omega) (by omega)
 refine⟨λe=>?_,λe=>?_⟩
 ·exact⟨C,q _ d1 (k+1) (by decide) (.inl (by decide)) (by omega) (by omega)⟩
 ·refine⟨λB=>Br.yes rfl low,λB=>⟨λb=>low,λb=>?_⟩⟩
  have hn:v.length≠0:=λz=>by
   have:=T0 b;rw[dL] at this;omega
  refine⟨c,d1,k+1,_,rfl,by omega,by omega,by rw[dL];omega,by rw[dL];omega,λr d2 p l=>?_⟩;rw[dL] at l;obtain⟨g,X,y,B⟩:=J.at p l;have x:=oT X;refine⟨_,B,rfl,rfl,?_⟩;walk_at "n";have l1:=y.1;have l5:=y.2.1;refine⟨_,rfl,⟨_,rfl,c,d2,k+1+1,_,rfl,by omega,by omega,by rw[dL];omega,by rw[dL];omega,λR d3 o a=>?_⟩⟩;rw[dL] at a;obtain⟨s,I,_,U⟩:=G9 (f:=pr) (xs:=g.1.cv) (i:=R) o a;refine⟨_,U,rfl,rfl,?_⟩;walk_at "n";refine⟨_,rfl,c,d3,k+1+1+1,3,rfl,by omega,by omega,by decide,by decide,λj d4 O M=>?_⟩;show Q (.int (if s.1-g.2-1+j>1 then s.1-g.2-1+j else 1)) _;refine q _ d4 (k+1+1+1+1) (by split<;>omega) ?_ (by omega) (by omega)
  by_cases z:s.1-g.2-1+j>1
  ·rw[ux z];exact .inr ⟨g,x,s,I,by omega⟩
  ·rw[uk z];exact .inl (by decide)
theorem za:∀cv:List Pr,x3 (cv.map pr)=true
 | []=>rfl
 | p::cv=>by show(u3 (pr p)&&x3 (cv.map pr))=true;rw[za cv];rfl
theorem Um(ds:List D)(Q:D->Prop)(h:wR ds Q):Tx (EP Q) (i4 2 ds):=by
 obtain⟨cv,n,rfl,c,q⟩:=h;have d:=c.2.1;refine⟨by rw[dL];exact g6 (by omega),L7 (f:=pr) (λp=>decide (p.1<=n)) cv [] (λp g K R b a=>?_) ?_⟩
 ·refine⟨rfl,?_⟩;walk_at "r";exact⟨λe=>⟨rfl,b e⟩,λe=>a e⟩
 walk_at "r";rwa[wf,dL]
theorem uZ:∀{cv:List Pr},(cv.Pairwise λp q=>p.1<q.1/\q.2<p.2)->cv.filter (λp=>decide (p.1<=n))=cv.take (cv.filter λp=>decide (p.1<=n)).length
 | [],_=>rfl
 | p::cv,h=>by
  cases h with
  | cons d b=>
   by_cases c:p.1<=n
   ·rw[Re,ux (v1 c),wP,Zc,<-uZ b]
   ·have e:(p::cv).filter (λp=>decide (p.1<=n))=[]:=List.filter_eq_nil_iff.mpr λz a=>by
     rw[Op];rcases List.mem_cons.mp a with w | w
     ·rwa[w]
     ·have:=(d z w).1;omega
    rw[e];rfl
theorem GF(h:M1 cv)(n:Int):W7 cv n=if gZ cv n=0 then none else(cv[(gZ cv n-1).toNat]?).map (·.2):=by
 unfold W7 gZ;have e:=uZ (n:=n) h.2.2.2;have l:=Yj (λp=>decide (p.1<=n)) cv;generalize (cv.filter λp=>decide (p.1<=n)).length=k at *;rw[e,List.getLast?_eq_getElem?,wE,Nat.min_eq_left l,List.getElem?_take]
 by_cases c:k=0
 ·subst c;rfl
 ·rw[ux (by omega),uk (by omega),show((k:Int)-1).toNat=k-1 by omega]
theorem Be(ds:List D)(Q:D->Prop)(h:U5 ds Q):tN (EP Q) (i4 3 ds):=by
 obtain⟨cv,n,rfl,a,q⟩:=h;refine⟨cv,n,rfl,a,rfl,?_⟩;rw[GF a] at q;have l:gZ cv n<=cv.length:=Int.ofNat_le.mpr (Yj _ _)
 have d:0<=gZ cv n:=Int.natCast_nonneg _
 walk_at "n";refine⟨λe=>?_,λe=>?_⟩
 ·have e:=Ch e;rwa[ux e] at q
 ·have e:=T0 e;obtain⟨p,_,c,b⟩:=G9  (xs:=cv) (i:=gZ cv n-1) (by omega) (by omega);rw[uk e,c] at q;exact⟨_,b,_,rfl,rfl,q⟩
noncomputable def M7(ps:List (Gd×Int)):ZW:=ps.flatMap λr=>r.1.cv.map λs=>s.1-r.2
theorem gC:∀{ps:List (Gd×Int)},(∀r∈ps,M1 r.1.cv)->(M7 ps).length<=5*ps.length
 | [],_=>xL _
 | r::ps,h=>by
  have:=gC  λr a=>h r (hH _ a);have:=(h r hQ).2.1;unfold M7 at *;rw[Yc,vv,dL,wP];omega
theorem Iw(ds:List D)(Q:D->Prop)(h:aE ds Q):Am (EP Q) (i4 3 ds):=by
 obtain⟨g,m,rfl,o,O,q⟩:=h
 suffices I:∀(b:List (Gd×Int)) (a:ZW),(∀r∈b,M1 r.1.cv)->a.length+5*b.length<=1000->∀K,K ((a++M7 b).map D.int) ->
   jT (gT (j4 (g1 0) (j4 (g1 1) J9))) R1 (tupI (c9 (a6 0) (uC (D.int 2)))) (g1 2) R1 (o5 L3.U0 (c9 (a6 2) (uC (D.int 0))) (a6 1)) [none,none,none] (b.map λr=>D.tup [gD r.1,.int r.2]) (a.map D.int) K by
  refine I g [] o.cv (by rw[XU];omega) _ ⟨rfl,?_⟩;walk_at "n";have y:=gC o.cv;refine⟨by rw[dL];exact g6 (by omega),L7  (f:=D.int) (λz=>decide (z<=m)) (M7 g) [] (λp o K R E C=>?_) ?_⟩
  ·refine⟨rfl,?_⟩;walk_at "r";exact⟨λe=>⟨rfl,E e⟩,λe=>C e⟩
  walk_at "r";have M:=Yj (λz=>decide (z<=m)) (M7 g);refine⟨M5  (λ_=>rfl) _,?_,?_⟩
  ·show 1+(List.map D.int _).length<=_;rw[dL];exact SL (g6 (by omega))
  refine⟨_,1::(M7 g).filter (λz=>decide (z<=m)),rfl,rfl,by rw[wP];omega,λj up mem=>q j ⟨up,λx=>?_⟩⟩;rw[mem,Xh,List.mem_filter,Op];unfold M7;rw[List.mem_flatMap];refine Zk Za ⟨λ⟨⟨r,c,J⟩,v⟩=>?_,λ⟨r,c,z,i,e,v⟩=>⟨⟨r,c,List.mem_map.mpr ⟨z,i,e.symm⟩⟩,v⟩⟩;obtain⟨z,i,e⟩:=List.mem_map.mp J;exact⟨r,c,z,i,e.symm,v⟩
 intro b
 induction b with
 | nil=>intro a _ _ K k;unfold M7 at k;rw[Zs,vy] at k;exact k
 | cons r b G=>
  intro a B y K k;rw[wP] at y;have S:=(B r hQ).2.1
  suffices H:∀(ss:List Pr) (a:ZW) (z:Option D),(match z with | some d=>u3 d | none=>true)=true->a.length+ss.length<=1000->∀K:List D->Prop,K ((a++ss.map λs=>s.1-r.2).map D.int) ->
    HS (g1 2) R1 (o5 L3.U0 (c9 (a6 2) (uC (D.int 0))) (a6 1)) (ss.map pr) [some (gD r.1),some (.int r.2),z] (a.map D.int) K by
   refine⟨rfl,rfl,Br.yes rfl ⟨?_,?_⟩⟩
   ·show(u3 (gD r.1)&&(true&&(true&&true)))=true;rw[W9];rfl
   ·refine⟨_,rfl,za _,?_⟩;refine H r.1.cv a none rfl (by omega) _ ?_;refine G _ (λr c=>B r (hH _ c)) ?_ K ?_
    ·rw[vv,dL];omega
    ·unfold M7 at k ⊢;rw[Yc,<-wT] at k;exact k
  intro ss
  induction ss with
  | nil=>intro a z _ _ K k;rw[Yq,vy] at k;exact k
  | cons s ss l=>
   intro a z i u K k;rw[wP] at u;refine⟨rfl,?_,?_⟩
   ·show(u3 (gD r.1)&&(true&&(u3 (pr s)&&true)))=true;rw[W9];rfl
   ·refine Br.yes rfl ⟨by rw[dL];exact g6 (by omega),?_⟩;have z:=l (a++[s.1-r.2]) (some (pr s)) rfl (by rw[vv,BB];omega) K (by rw[wT];exact k);rw[v7] at z;exact⟨_,rfl,rfl,z⟩
noncomputable def Dl(ps:List (Gd×Int))(n:Int)(j:Nat):Bool:=match ps[j]? with
 | some r=>(W7 r.1.cv (r.2+n)).isSome
 | none=>false
noncomputable def Jt(ps:List (Gd×Int))(n:Int)(a:Bool):Nat->Bool
 | 0=>a
 | j+1=>Dl ps n j
theorem uG(r:Gd×Int)(n:Int)(a:Bool):(G1 r n a).isSome=(W7 r.1.cv (r.2+n)).isSome:=by
 unfold G1;rw[Yx]
theorem gf(n:Int):∀(ps:List (Gd×Int)) (a:Bool),(x5 n a ps).length=ps.length
 | [],_=>rfl
 | r::ps,a=>by unfold x5;rw[wP,wP,gf n ps]
theorem S3:∀{ps:List (Gd×Int)} {a:Bool} {i:Nat} {r:Gd×Int},ps[i]?=some r->(x5 n a ps)[i]?=some (G1 r n (Jt ps n a i))
 | [],_,i,_,h=>by cases h
 | b::ps,a,0,r,h=>by cases h;rfl
 | b::ps,a,1,r,h=>by
  show(x5 n _ ps)[0]?=_;rw[S3 (i:=0)  h];rfl
 | b::ps,a,i+2,r,h=>by
  show(x5 n _ ps)[i+1]?=_;rw[S3 (i:=i+1)  h];rfl
theorem CG(ds:List D)(Q:D->Prop)(h:V2 ds Q):vj (EP Q) (i4 7 ds):=by
 obtain⟨g,n,rfl,M,q⟩:=h;have a0:=M.len;refine⟨rfl,.of ⟨λi B=>∃u o l C:Option D,B=[some (aT g),some (.int n),some (.lst (((x5 n false g).take i).map V3)),u,o,l,C],⟨none,none,none,none,rfl⟩,?_,?_⟩⟩
 ·rintro i e B he ⟨u,o,l,C,rfl⟩;obtain⟨x,hx,rfl⟩:=L3.fm he;obtain⟨r,I,rfl⟩:=get_map hx;have hi:=(List.getElem?_eq_some_iff.mp I).1;have hc:=M.cv r (oT I);refine⟨rfl,rfl,rfl,?_⟩;walk_at "n";refine⟨_,rfl,⟨r.1.cv,r.2+n,rfl,hc,rfl,?_⟩⟩;walk_at "n";have Y:=S3 (n:=n) (a:=false) I;have tk:(x5 n false g).take (i+1)=(x5 n false g).take i++[G1 r n (Jt g n false i)]:=by rw[v9,Y];rfl
  rw[tk];generalize X:(x5 n false g).take i=S;have a1:S.length=i:=by rw[<-X,wE,gf];omega
  have v:∀(u o l:Option D) (sp:Option Int) (T:R6),G1 r n (Jt g n false i)=sp->(T.nx=λB=>∃u o l C:Option D,B=[some (aT g),some (.int n),some (.lst ((S++[sp]).map V3)),u,o,l,C]) ->
    X6 T [some (aT g),some (.int n),some (.lst (S.map V3)),u,o,l,some (V3 sp)]:=by
   intro u o l sp T _ U;have main:∃a b c d:Option D,[some (aT g),some (D.int n),some (D.lst (S.map V3++[V3 sp])),u,o,l,some (V3 sp)]=[some (aT g),some (.int n),some (.lst ((S++[sp]).map V3)),a,b,c,d]:=⟨u,o,l,_,by rw[v7];rfl⟩
   have H:X6 T [some (aT g),some (D.int n),some (D.lst (S.map V3)),u,o,l,some (V3 sp)]:=by
    have O:(S.map V3).length<sizeLine:=by rw[dL];exact g6 (by omega)
    cases sp with
    | none=>
     refine⟨rfl,rfl,?_⟩;refine⟨O,?_⟩;show T.nx _;rw[U];exact main
    | some t=>
     refine⟨rfl,rfl,?_⟩;refine⟨O,?_⟩;show T.nx _;rw[U];exact main
   exact H
  cases e:W7 r.1.cv (r.2+n) with
  | none=>
   have y:G1 r n (Jt g n false i)=none:=by unfold G1;rw[e];rfl
   rw[y];exact⟨λz=>(by cases z),λ_=>Br.no rfl (v _ _ _ none _ y rfl)⟩
  | some t=>
   refine⟨λ_=>?_,λz=>(by cases z)⟩
   cases i with
   | zero=>
    have y:G1 r n (Jt g n false 0)=some t:=by unfold G1;rw[e];rfl
    rw[y];exact⟨λz=>(by cases z),λ_=>Br.no rfl (v _ _ _ (some t) _ y rfl)⟩
   | succ j=>
    obtain⟨E,G⟩:∃E,g[j]?=some E:=⟨g[j],nA (by omega)⟩
    have J:S[j]?=some (G1 E n (Jt g n false j)):=by rw[<-X,List.getElem?_take,ux (XH j),S3 G]
    have R:(G1 E n (Jt g n false j)).isSome=Dl g n j:=by rw[uG];unfold Dl;rw[G]
    generalize G1 E n (Jt g n false j)=pv at J R
    have ix:O7 (S.map V3) ((((0+(j+1):Nat):Int))-1)=some (V3 pv):=by
     rw[show(((0+(j+1):Nat):Int))-1=((j:Nat):Int) by omega];exact pT (by rw[ue,J];rfl)
    have y:G1 r n (Jt g n false (j+1))=some (bif pv.isSome then t+r.1.wa else t):=by unfold G1;rw[e,R];rfl
    rw[y];refine⟨λ_=>⟨_,ix,?_⟩,λz=>absurd (show decide ((((0+(j+1):Nat):Int))>0)=false from z) (by rw[v1 (by omega)];decide)⟩
    cases pv with
    | none=>exact Br.no rfl (v _ _ _ (some t) _ y rfl)
    | some p=>
     refine Br.yes rfl ?_;exact⟨_,rfl,rfl,v _ _ _ (some (t+r.1.wa)) _ y rfl⟩
 ·rintro B ⟨u,o,l,C,rfl⟩;rw[eM,dL,<-gf n g false,wh];exact q
theorem rL:∀{l k:ZW},l.Pairwise (·<·)->k.Pairwise (·<·)->(∀x,x∈l ↔ x∈k)->l=k
 | [],[],_,_,_=>rfl
 | [],y::k,_,_,h=>absurd ((h y).mpr hQ) (by simp)
 | x::l,[],_,_,h=>absurd ((h x).mp hQ) (by simp)
 | x::l,y::k,g,d,h=>by
  cases g with
  | cons c j=>cases d with
   | cons b i=>
    have e:x=y:=by
     rcases List.mem_cons.mp ((h x).mp hQ) with z | z
     ·exact z
     ·rcases List.mem_cons.mp ((h y).mpr hQ) with w | w
      ·exact w.symm
      ·have:=c y w;have:=b x z;omega
    subst e;rw[rL j i λz=>⟨λa=>?_,λa=>?_⟩]
    ·rcases List.mem_cons.mp ((h z).mp (hH _ a)) with w | w
     ·have:=c z a;omega
     ·exact w
    ·rcases List.mem_cons.mp ((h z).mpr (hH _ a)) with w | w
     ·have:=b z a;omega
     ·exact w
theorem iO(h:lL ps m ls):ls=mz ps m:=by
 have a:∃l,lL ps m l:=⟨ls,h⟩
 unfold mz;rw[dif_pos a];exact rL h.up a.choose_spec.up λx=>by rw[h.mem,a.choose_spec.mem]
theorem Y7(h:ps[j]?=some r):J1 ps n j=W7 r.1.cv (r.2+n):=by unfold J1;rw[h];rfl
theorem MT(h:0<ps.length):(x5 n false ps)[0]?=some (J1 ps n 0):=by
 obtain⟨r,a⟩:∃r,ps[0]?=some r:=⟨ps[0],nA h⟩
 rw[S3 a,Y7 a];unfold G1 Jt;cases W7 r.1.cv (r.2+n)<;>rfl
theorem Lk(g:1<=i)(h:i<ps.length):∃b:Option Int,(x5 n false ps)[i]?=some b/\N4 ps i n=match J1 ps n 0,b with
  | some x,some y=>some (x-y+1)
  | _,_=>none:=by
 obtain⟨r,c⟩:∃r,ps[i]?=some r:=⟨ps[i],nA h⟩
 obtain⟨k,rfl⟩:∃k,i=k+1:=⟨i-1,by omega⟩
 obtain⟨e,a⟩:∃r,ps[k]?=some r:=⟨ps[k],nA (by omega)⟩
 refine⟨_,S3 c,?_⟩
 have d:Dl ps n k=(J1 ps n (k+1-1)).isSome:=by
  rw[Nat.add_sub_cancel,Y7 a];unfold Dl;rw[a]
 unfold N4 G1;rw[Y7 c,c]
 show _=match J1 ps n 0,Option.map (λt=>bif Dl ps n k then t+r.1.wa else t) (W7 r.1.cv (r.2+n)) with
  | some x,some y=>some (x-y+1)
  | _,_=>none
 rw[d];cases J1 ps n 0<;>cases W7 r.1.cv (r.2+n)<;>rfl
theorem jW(ds:List D)(Q:D->Prop)(h:C4 ds Q):cD (EP Q) (i4 7 ds):=by
 obtain⟨c,i,m,rfl,G,O,H,J,q⟩:=h;refine⟨rfl,⟨c,m,rfl,G,O,λls B=>?_⟩⟩;have q:Q (FU (ls.foldl (l6 c i) none)):=by rwa[iO B]
 walk_at "n";refine .of ⟨λj l=>∃v u r:Option D,l=[some (aT c),some (.int i),some (.int m),some (FU ((ls.take j).foldl (l6 c i) none)),v,u,r],⟨none,none,none,rfl⟩,?_,?_⟩
 ·rintro j e l M ⟨v,u,r,rfl⟩;obtain⟨low,I,rfl⟩:=get_map M
  have R:(ls.take (j+1)).foldl (l6 c i) none=l6 c i ((ls.take j).foldl (l6 c i) none) low:=by
   rw[v9,I];rw[WF];rfl
  refine⟨rfl,?_⟩;walk_at "n";rw[R];generalize (ls.take j).foldl (l6 c i) none=o;refine⟨c,low,rfl,G,rfl,?_⟩;walk_at "n";obtain⟨b,T,el⟩:=Lk  H J;have U:=MT (n:=low) (show 0<c.length by omega);have g:O7 ((x5 low false c).map V3) 0=some (V3 (J1 c low 0)):=pT  (by rw[ue,U];rfl);have p:O7 ((x5 low false c).map V3) i=some (V3 b):=pT (by rw[ue,T];rfl);generalize J1 c low 0=a at g el;refine⟨_,g,?_⟩
  cases a with
  | none=>
   have e:l6 c i o low=o:=by unfold l6;rw[el]
   rw[e];exact⟨λz=>(by cases z),λ_=>Br.no rfl ⟨_,_,_,rfl⟩⟩
  | some x=>
   refine⟨λ_=>⟨_,p,?_⟩,λz=>(by cases z)⟩
   cases b with
   | none=>
    have e:l6 c i o low=o:=by unfold l6;rw[el]
    rw[e];exact Br.no rfl ⟨_,_,_,rfl⟩
   | some y=>
    refine Br.yes rfl ?_;refine⟨_,g,_,p,rfl,?_⟩;walk_at "n"
    cases o with
    | none=>
     have e:l6 c i none low=some (x-y+1,low):=by unfold l6;rw[el]
     rw[e];exact⟨λ_=>Br.yes rfl ⟨rfl,rfl,rfl,_,_,_,rfl⟩,λz=>(by cases z)⟩
    | some E=>
     obtain⟨d,C⟩:=E;have e:l6 c i (some (d,C)) low=if d<x-y+1 then some (x-y+1,low) else some (d,C):=by unfold l6;rw[el]
     rw[e];refine⟨λz=>(by cases z),λ_=>⟨_,rfl,λz=>?_,λz=>?_⟩⟩
     ·have z:x-y+1>d:=Ch z;rw[ux z];exact⟨rfl,rfl,rfl,_,_,_,rfl⟩
     ·have z:¬x-y+1>d:=T0 z;rw[uk z];exact⟨_,_,_,rfl⟩
 ·rintro l ⟨v,u,r,rfl⟩;rw[dL,wh];generalize ls.foldl (l6 c i) none=o at *
  cases o with
  | none=>exact⟨rfl,q⟩
  | some E=>exact⟨rfl,q⟩
theorem Qz(ds:List D)(Q:D->Prop)(h:iK ds Q):NF (EP Q) (i4 5 ds):=by
 obtain⟨d,i,n,rfl,l,E,G,q⟩:=h;obtain⟨k,rfl⟩:∃k,i=k+1:=⟨i-1,by omega⟩
 refine⟨d,0,n,rfl,l,by decide,by omega,λB p=>?_⟩;rw[<-Y7  (j:=0) p];refine⟨rfl,?_⟩;walk_at "n";refine⟨d,((k+1:Nat)),n,rfl,l,by omega,by omega,λr g=>?_⟩;rw[EQ] at g;rw[<-Y7  g];unfold N4 at q;rw[g] at q;refine⟨rfl,?_⟩;walk_at "n";generalize J1 d n 0=a at q ⊢;generalize J1 d n (k+1)=b at q ⊢
 cases a with
 | none=>exact⟨λ_=>Br.yes rfl q,λz=>(by cases z)⟩
 | some x=>
  cases b with
  | none=>exact⟨λz=>(by cases z),λ_=>Br.yes rfl q⟩
  | some y=>
   refine⟨λz=>(by cases z),λ_=>Br.no rfl ?_⟩;have q:Q (.int (x-(bif (J1 d n k).isSome then y+r.1.wa else y)+1)):=q;refine⟨d,(k),n,(by show[aT d,D.int (((k+1:Nat))-1),D.int n]=_;rw[show((k+1:Nat))-1=(k:Int) by omega]),l,by omega,by omega,λv e=>?_⟩;rw[EQ] at e;rw[<-Y7  e];generalize J1 d n k=c at q ⊢
   cases c with
   | none=>exact Br.no rfl q
   | some z=>
    obtain⟨C,o,_,u⟩:=l.at (i:=((k+1:Nat))) (by omega) (by omega);rw[EQ,g] at o;cases o;exact Br.yes rfl ⟨_,u,_,rfl,_,rfl,rfl,q⟩
theorem bH(d:j5 b)(i:x∈j7 b++L9 b):jB (C7 b x)/\(C7 b x).length<=8:=by
 have c:=eT d i;have j:=dW (b:=b) x;unfold C7
 cases cu b x with
 | true=>exact⟨⟨xL _,λr a=>nomatch a⟩,xL _⟩
 | false=>
  refine⟨⟨?_,λr a=>?_⟩,?_⟩
  ·show((l4 b x).map _).length<=16;rw[dL];omega
  ·obtain⟨y,h,rfl⟩:=List.mem_map.mp a;obtain⟨g,e,rfl⟩:=List.mem_map.mp (c y h);rw[iJ d e];exact d.cv g e
  ·show((l4 b x).map _).length<=8;rwa[dL]
theorem AV(d:j5 b)(c:x∈j7 b):cu b x=false:=Gu λz a e=>
 (List.nodup_append.mp d.nd).2.2 x c x (e.1▸List.mem_map.mpr ⟨z,a,rfl⟩) rfl
theorem oh(c:j5 b)(a:g∈b.gs):∃ps,C7 b g.nm=(g,j8 b g.nm)::ps:=by
 have d:g.nm∈j7 b:=List.mem_map.mpr ⟨g,a,rfl⟩;unfold C7;rw[AV c d,dq c a];exact⟨_,by show(Dr b g.nm,_)::_=_;rw[iJ c a]⟩
theorem oB{a:Type}{p:a->Bool}{xs:List a}{x:a}(b:xs[i]?=some x)(h:∀z∈xs.take i,p z=false)(d:p x=true):xs.find? p=some x:=by
 have g:=(List.getElem?_eq_some_iff.mp b).1
 have e:xs=xs.take i++x::xs.drop (i+1):=by
  obtain⟨_,j⟩:=List.getElem?_eq_some_iff.mp b;rw[<-j,<-Fk g,Xv]
 rw[e,List.find?_append,List.find?_eq_none.mpr λz c=>by rw[h z c];exact ud,z0,d];rfl
theorem jN{a:Type}{p:a->Bool}{xs:List a}(h:∀z∈xs,p z=false):xs.find? p=none:=
 List.find?_eq_none.mpr λz b=>by rw[h z b];exact ud
theorem oA{a b:Type}{f:a->Option b}{xs:List a}{x:a}{y:b}(c:xs[i]?=some x)(h:∀z∈xs.take i,f z=none)(g:f x=some y):xs.findSome? f=some y:=by
 have d:=(List.getElem?_eq_some_iff.mp c).1
 have e:xs=xs.take i++x::xs.drop (i+1):=by
  obtain⟨_,j⟩:=List.getElem?_eq_some_iff.mp c;rw[<-j,<-Fk d,Xv]
 rw[e,List.findSome?_append,List.findSome?_eq_none_iff.mpr h,List.findSome?_cons,g];rfl
noncomputable def qB(m:Int)(p r:Gd×Int):Bool:=decide (wk r<=m)&&decide (wk r<wk p)
noncomputable def aO(r:Gd×Int):D:=.tup [gD r.1,.int r.2]
theorem FQ(ps:List (Gd×Int)):x3 (ps.map aO)=true:=M5  (λr=>by
 show(u3 (gD r.1)&&(true&&true))=true;rw[W9];rfl) ps
theorem Y9{a:Type}{P:a->Prop}{xs:List a}{x:a}(c:xs[i]?=some x)(h:∀z∈xs.take i,P z)(d:P x):∀z∈xs.take (i+1),P z:=λz b=>by
 rw[v9,c] at b;rcases List.mem_append.mp b with w | w
 ·exact h z w
 ·rwa[List.mem_singleton.mp w]
theorem Ej(o:j5 b)(J:D7 b (j8 b)=[])(v:g∈b.gs)
  (C:∀q,aI m (C7 b g.nm)=some q->∀h d a,T.rt (UP (some (g.nm,q.1,q.2))) [some (bD b),some (.int m),some (.str g.nm),h,d,a])
  (B:aI m (C7 b g.nm)=none->∀h d a,T.nx [some (bD b),some (.int m),some (.str g.nm),h,d,a]) :
  gO T [some (bD b),some (.int m),some (.str g.nm),h,d,a]:=by
 have G:g.nm∈j7 b:=List.mem_map.mpr ⟨g,v,rfl⟩;have j:g.nm∈j7 b++L9 b:=v5 _ G;obtain⟨po,pl⟩:=bH o j;obtain⟨c,M⟩:=oh o v;refine⟨b,g.nm,rfl,o,j,J,rfl,?_⟩;walk_at "n";rw[M] at C B po pl ⊢;refine⟨aO (g,j8 b g.nm),J5 _ _,⟨g,j8 b g.nm,rfl,o.cv g v,rfl,?_⟩⟩;walk_at "n"
 have O:cutD (aO (g,j8 b g.nm)::c.map aO) (some 1) none=c.map aO:=by
  have:=mW (aO (g,j8 b g.nm)::c.map aO) 1 (by show 1<=_+1;omega);exact this
 refine⟨FQ ((g,j8 b g.nm)::c),?_⟩;show Le _ _ (cutD (aO (g,j8 b g.nm)::c.map aO) (some 1) none) _ _;rw[O];refine .of ⟨λi p=>∃a:Option D,p=[some (bD b),some (.int m),some (.str g.nm),some (aT ((g,j8 b g.nm)::c)),some (.int (wk (g,j8 b g.nm))),a]/\∀z∈c.take i,qB m (g,j8 b g.nm) z=false,⟨a,rfl,λz E=>nomatch E⟩,?_,?_⟩
 ·rintro i e p I ⟨a,rfl,l⟩;obtain⟨r,u,rfl⟩:=get_map I;have x:=po.cv r (hH _ (oT u));refine⟨rfl,?_⟩;walk_at "n";refine⟨r.1,r.2,rfl,x,?_⟩;have no:qB m (g,j8 b g.nm) r=false->∃a:Option D,[some (bD b),some (.int m),some (.str g.nm),some (aT ((g,j8 b g.nm)::c)),some (.int (wk (g,j8 b g.nm))),some (aO r)]=[some (bD b),some (.int m),some (.str g.nm),some (aT ((g,j8 b g.nm)::c)),some (.int (wk (g,j8 b g.nm))),a]/\∀z∈c.take (i+1),qB m (g,j8 b g.nm) z=false:=λz=>⟨_,rfl,Y9 u l z⟩
  refine⟨λe=>?_,λe=>?_⟩
  ·refine⟨r.1,r.2,rfl,x,⟨λy=>?_,λy=>no ?_⟩⟩
   ·have H:qB m (g,j8 b g.nm) r=true:=by
     unfold qB;rw[v8];exact⟨e,y⟩
    refine⟨rfl,_,rfl,_,rfl,rfl,r.1,r.2,rfl,x,C (r.1.nm,wk r) ?_ _ _ _⟩;show(c.find? (qB m (g,j8 b g.nm))).map _=_;rw[oB u l H];rfl
   ·unfold qB;rw[show decide (wk r<wk (g,j8 b g.nm))=false from y,ZN]
  ·refine Br.no rfl (no ?_);unfold qB;rw[show decide (wk r<=m)=false from e,YY]
 ·rintro p ⟨a,rfl,l⟩;rw[dL,wh] at l;refine B ?_ _ _ _;show(c.find? (qB m (g,j8 b g.nm))).map _=_;rw[jN l];rfl
theorem LM(ds:List D)(Q:D->Prop)(h:dg ds Q):Ip (EP Q) (i4 6 ds):=by
 obtain⟨b,m,rfl,r,C,q⟩:=h;refine⟨b,rfl,r,.of ⟨λi l=>∃o d c a:Option D,l=[some (bD b),some (.int m),o,d,c,a]/\∀z∈(j7 b).take i,(aI m (C7 b z)).map (λq=>(z,q.1,q.2))=none,⟨none,none,none,none,rfl,λz u=>nomatch u⟩,?_,?_⟩⟩
 ·rintro i e l B ⟨o,d,c,a,rfl,j⟩;obtain⟨x,p,rfl⟩:=get_map B;obtain⟨g,v,rfl⟩:=List.mem_map.mp (oT p);refine⟨rfl,?_⟩;walk_at "n";refine Ej r C v (λw hw d c a=>?_) λhw d c a=>⟨_,_,_,_,rfl,Y9 p j (by rw[hw];rfl)⟩
  have e:=oA  p j  (by rw[hw];rfl);unfold aF at q;rwa[e] at q
 ·rintro l ⟨o,d,c,a,rfl,j⟩;rw[dL,wh] at j;unfold aF at q;rwa[List.findSome?_eq_none_iff.mpr j] at q
theorem J6{a b:Type}{f:a->List b}:∀{l:List a},(∀x∈l,(f x).length<=k)->(l.flatMap f).length<=k*l.length
 | [],_=>xL _
 | x::l,h=>by
  have e:=J6  λy c=>h y (hH _ c);have d:=h x hQ;rw[Yc,vv,wP,Nat.mul_succ];omega
theorem pS(b:Bd)(x:Str)(o:Option (Int×Int))(i:Nat):(C1 b x o i).length<=1:=by
 unfold C1;split
 ·exact sK _
 ·exact xL _
theorem jb(h:(C7 b x).length<=8):(u7 b m x).length<=8:=by
 have:=J6 (f:=λk=>C1 b x (Q2 (C7 b x) (1+k) m) (1+k))  (l:=List.range ((C7 b x).length-1)) λz _=>pS _ _ _ _;rw[vr] at this;unfold u7;omega
theorem BG(ds:List D)(Q:D->Prop)(h:U2 ds Q):rR (EP Q) (i4 7 ds):=by
 obtain⟨b,m,rfl,y,h8,X,q⟩:=h;refine⟨rfl,⟨b,rfl,y,.of ⟨λj g=>∃C B d c:Option D,g=[some (bD b),some (.int m),some (.lst (((j7 b).take j).flatMap (u7 b m))),C,B,d,c],⟨none,none,none,none,rfl⟩,?_,?_⟩⟩⟩
 ·rintro j e g H ⟨C,B,d,c,rfl⟩;obtain⟨x,M,rfl⟩:=get_map H;have E:=oT M;have p:x∈j7 b++L9 b:=v5 _ E;obtain⟨po,pl⟩:=bH y p
  have et:((j7 b).take (j+1)).flatMap (u7 b m)=((j7 b).take j).flatMap (u7 b m)++u7 b m x:=by
   rw[v9,M];rw[show(j7 b).take j++(some x).toList=(j7 b).take j++[x] from rfl,Xl,Xc]
  refine⟨rfl,?_⟩;walk_at "n";rw[et]
  have u:(((j7 b).take j).flatMap (u7 b m)).length<=64:=by
   have:=J6 (f:=u7 b m)  (l:=(j7 b).take j) λz U=>jb (bH y (v5 _ (YX U))).2;have e:(j7 b).length=b.gs.length:=dL _;rw[wE] at this;omega
  generalize ((j7 b).take j).flatMap (u7 b m)=v at u;refine⟨b,x,rfl,y,p,X,rfl,?_⟩;walk_at "n";refine⟨1,((C7 b x).length:Int),by show[D.int 1,D.int ((((C7 b x).map λr:Gd×Int=>D.tup [gD r.1,.int r.2]).length:Nat):Int)]=_;rw[dL],⟨by decide,by decide,by omega,by omega⟩,?_⟩;rw[show(((C7 b x).length:Int)-1).toNat=(C7 b x).length-1 by omega,show cV 1 ((C7 b x).length-1)=(List.range ((C7 b x).length-1)).map (λk:Nat=>D.int (1+(k:Int))) from rfl];refine .of ⟨λk g=>∃d c:Option D,g=[some (bD b),some (.int m),some (.lst (v++(List.range k).flatMap λk=>C1 b x (Q2 (C7 b x) (1+k) m) (1+k))),some (.str x),some (aT (C7 b x)),d,c],⟨d,c,by rw[List.range_zero,Zs,vy]⟩,?_,?_⟩
  ·rintro k e g H ⟨d,c,rfl⟩;obtain⟨a,hk,rfl⟩:=get_map H
   obtain⟨Y,rfl⟩:k<(C7 b x).length-1/\a=k:=by
    obtain⟨S,R⟩:=List.getElem?_eq_some_iff.mp hk;rw[vr] at S;rw[Xs] at R;exact⟨S,R.symm⟩
   have G:=J6 (f:=λk=>C1 b x (Q2 (C7 b x) (1+k) m) (1+k)) (k:=1) (l:=List.range a) λz _=>pS _ _ _ _;rw[vr] at G;refine⟨rfl,?_⟩;walk_at "n";rw[YQ,Xl,Xc,<-wT];generalize hA:v++(List.range a).flatMap (λk=>C1 b x (Q2 (C7 b x) (1+k) m) (1+k))=A;have a0:A.length<=100:=by rw[<-hA,vv];omega
   refine⟨C7 b x,1+a,m,by rw[show((1+a:Nat):Int)=1+(a:Int) by omega],po,pl,by omega,by omega,?_⟩;obtain⟨r,O,_,e2⟩:=po.at (i:=1+(a:Int)) (by omega) (by omega);rw[show(1+(a:Int)).toNat=1+a by omega] at O;generalize Q2 (C7 b x) (1+a) m=o;refine⟨rfl,?_⟩;walk_at "n"
   cases o with
   | none=>
    refine Br.no rfl ?_;rw[show C1 b x none (1+a)=[] from rfl,vy];exact⟨_,_,rfl⟩
   | some T=>
    obtain⟨J,I⟩:=T;refine Br.yes rfl ?_;rw[show C1 b x (some (J,I)) (1+a)=[.tup [.str x,.str r.1.nm,.int J,.int I]] by unfold C1;rw[O]];refine⟨rfl,?_⟩;walk_at "n";exact⟨rfl,_,e2,_,rfl,_,rfl,rfl,_,rfl,rfl,_,rfl,rfl,g6 (by omega),_,_,rfl⟩
  ·rintro g ⟨d,c,rfl⟩;rw[dL,vr];exact⟨_,_,_,_,rfl⟩
 ·rintro g ⟨C,B,d,c,rfl⟩;rw[dL,wh];exact q
theorem ET(c:M1 cv)(v:Int):(lo cv<=v->∃t,W7 cv v=some t)/\(¬lo cv<=v->W7 cv v=none):=by
 obtain⟨e,_,_,d⟩:=c
 cases cv with
 | nil=>exact absurd e (by decide)
 | cons p a=>
  have el:lo (p::a)=p.1:=rfl;rw[el];unfold W7;refine⟨λh=>?_,λh=>?_⟩
  ·rw[Re,ux (v1 h)];exact⟨_,rfl⟩
  ·rw[List.filter_eq_nil_iff.mpr λq b=>?_]
   ·rfl
   ·rw[Op];rcases List.mem_cons.mp b with z | z
    ·rwa[z]
    ·have:=(List.rel_of_pairwise_cons d z).1;omega
theorem uR(b:lL ps m ls)(j:1<=m)(d:r∈ps)(g:M1 r.1.cv):(∀n∈ls,n<=m)/\(wk r<=m->wk r∈ls):=by
 refine⟨λn e=>?_,λh=>?_⟩
 ·rcases(b.mem n).mp e with z | ⟨_,_,_,_,_,z⟩
  ·omega
  ·exact z
 ·obtain⟨c,_⟩:=g;rw[b.mem]
  cases a:r.1.cv with
  | nil=>rw[a] at c;exact absurd c (by decide)
  | cons p i=>exact .inr ⟨r,d,p,by rw[a];exact hQ,by unfold wk;rw[a];rfl,h⟩
def hit(p r:Gd×Int)(n:Int):Prop:=wk r<=n/\¬wk p<=n
theorem Bx(l:lL ps m ls)(o:1<=m)(v:r∈ps)(C:M1 r.1.cv)(e:ls[j]?=some n)(h:∀z∈ls.take j,¬hit p r z)(b:hit p r n):n=wk r/\qB m p r=true:=by
 obtain⟨I,H⟩:=uR l o v C;have y:=I n (oT e);have hw:=H (by have:=b.1;omega);have d:wk r<wk p:=by have:=b.1;have:=b.2;omega
 have x:qB m p r=true:=by
  unfold qB;rw[v1 (show wk r<=m by have:=b.1;omega),v1 d];rfl
 refine⟨?_,x⟩;obtain⟨c,a⟩:=Da hw;obtain⟨u,G⟩:=List.getElem?_eq_some_iff.mp e;obtain⟨q,E⟩:=List.getElem?_eq_some_iff.mp a
 by_cases g:c<j
 ·exact absurd ⟨Rl _,by omega⟩ (h (wk r) (oT  (by rwa[NE g])))
 ·by_cases B:j=c
  ·subst B;rw[e] at a;exact x2 a
  ·have:=List.pairwise_iff_getElem.mp l.up j c u q (by omega);have:=b.1;omega
theorem Ec(c:lL ps m ls)(a:1<=m)(b:r∈ps)(d:M1 r.1.cv)(h:∀z∈ls,¬hit p r z):qB m p r=false:=by
 unfold qB
 by_cases z:wk r<=m
 ·by_cases w:wk r<wk p
  ·exact absurd ⟨Rl _,by omega⟩ (h (wk r) ((uR c a b d).2 z))
  ·rw[wl w,ZN]
 ·rw[wl z,YY]
theorem Dp{i:Nat}(po:jB a)(u:a[0]?=some p)(l:a[i]?=some r)(C:M1 p.1.cv)(B:M1 r.1.cv)
  (v:hit p r n->T.rt (.tup [.str g.nm,.str r.1.nm,.int n]) [some (bD b),some (.int m),some (gD g),some (aT a),some (.int (i:Int)),some (.int n)])
  (q:¬hit p r n->T.nx [some (bD b),some (.int m),some (gD g),some (aT a),some (.int (i:Int)),some (.int n)]) :
  eu T [some (bD b),some (.int m),some (gD g),some (aT a),some (.int (i:Int)),some (.int n)]:=by
 have J:=(List.getElem?_eq_some_iff.mp l).1;obtain⟨I,H⟩:=ET B (r.2+n);obtain⟨G,E⟩:=ET C (p.2+n)
 have y:O7 (a.map aO) i=some (aO r):=by
  rw[Eu (by omega) (by rw[dL];omega),ue];show Option.map _ a[i]?=_;rw[l];rfl
 refine⟨a,i,n,rfl,po,by omega,by omega,λh c=>?_⟩
 have o:=by
  have c:a[i]?=some h:=c;rw[l] at c;exact(x2 c).symm
 subst o
 by_cases z:lo h.1.cv<=h.2+n
 ·obtain⟨t,e⟩:=I z;rw[e];refine Br.yes rfl ⟨a,0,n,rfl,po,by omega,by omega,λj d=>?_⟩
  have o:=by
   have d:a[0]?=some j:=d;rw[u] at d;exact(x2 d).symm
  subst o
  by_cases w:lo j.1.cv<=j.2+n
  ·obtain⟨t,e⟩:=G w;rw[e];exact Br.no rfl (q λx=>x.2 (by unfold wk;omega))
  ·rw[E w];exact Br.yes rfl ⟨_,rfl,rfl,aO h,y,⟨_,rfl,_,rfl,rfl,rfl,v ⟨by unfold wk;omega,by unfold wk;omega⟩⟩⟩
 ·rw[H z];exact Br.no rfl (Br.no rfl (q λx=>by have:=x.1;unfold wk at this;omega))
theorem AM(H:j5 b)(J:1<=m)(O:g∈b.gs)
  (R:∀q,aI m (C7 b g.nm)=some q->∀u d c,T.rt (UP (some (g.nm,q.1,q.2))) [some (bD b),some (.int m),some (gD g),u,d,c])
  (Q:aI m (C7 b g.nm)=none->∀u d c,T.nx [some (bD b),some (.int m),some (gD g),u,d,c]) :
  eL T [some (bD b),some (.int m),some (gD g),u,d,c]:=by
 have U:g.nm∈j7 b:=List.mem_map.mpr ⟨g,O,rfl⟩;have v:g.nm∈j7 b++L9 b:=v5 _ U;obtain⟨po,pl⟩:=bH H v;obtain⟨a,ep⟩:=oh H O;refine⟨_,rfl,⟨b,g.nm,rfl,H,v,rfl,?_⟩⟩;walk_at "n";rw[ep] at R Q po pl ⊢;generalize hp:(g,j8 b g.nm)=p at *;have cp:=po.cv p hQ;have S:a.length+1<=8:=pl;have z1:((((p::a).map aO).length):Int)=a.length+1:=by rw[dL];rfl
 refine⟨1,_,rfl,⟨by decide,by decide,?_,?_⟩,?_⟩
 ·omega
 ·show((((p::a).map aO).length):Int)<2^62;omega
 show Le _ _ (cV 1 (((((p::a).map aO).length):Int)-1).toNat) _ _;rw[z1,show((a.length:Int)+1-1).toNat=a.length from by omega];refine .of ⟨λi h=>∃d c:Option D,h=[some (bD b),some (.int m),some (gD g),some (aT (p::a)),d,c]/\∀z∈a.take i,qB m p z=false,⟨d,c,rfl,λz E=>nomatch E⟩,?_,?_⟩
 ·rintro i e h C ⟨d,c,rfl,o⟩;obtain⟨j,Y,rfl⟩:=get_map C
  have G:i<a.length/\j=i:=by
   obtain⟨z1,z2⟩:=List.getElem?_eq_some_iff.mp Y;rw[vr] at z1;rw[Xs] at z2;exact⟨by omega,by omega⟩
  obtain⟨G,rfl⟩:=G;have x:=nA G;generalize a[j]=r at x;have l:r∈p::a:=hH _ (oT x);have I:=po.cv r l;have er:(p::a)[j+1]?=some r:=x;have ei:(1:Int)+(j:Int)=((j+1:Nat):Int):=by omega
  refine⟨rfl,?_⟩;walk_at "n";refine⟨p::a,m,rfl,po,pl,λls M=>?_⟩;rw[ei];refine .of ⟨λk h=>∃c:Option D,h=[some (bD b),some (.int m),some (gD g),some (aT (p::a)),some (.int ((j+1:Nat):Int)),c]/\∀z∈ls.take k,¬hit p r z,⟨c,rfl,λz E=>nomatch E⟩,?_,?_⟩
  ·rintro k e h C ⟨c,rfl,B⟩;obtain⟨n,y,rfl⟩:=get_map C;refine⟨rfl,?_⟩;walk_at "n";refine Dp po rfl er cp I (λz=>?_) λz=>⟨_,rfl,Y9 y B z⟩
   obtain⟨e1,X⟩:=Bx M J l I y B z;subst e1;refine R (r.1.nm,wk r) ?_ _ _ _;show(a.find? (qB m p)).map _=_;rw[oB x o X];rfl
  ·rintro h ⟨c,rfl,B⟩;rw[dL,wh] at B;exact⟨_,_,rfl,Y9 x o (Ec M J l I B)⟩
 ·rintro h ⟨d,c,rfl,o⟩;unfold cV at o;rw[dL,vr,wh] at o;refine Q ?_ _ _ _;show(a.find? (qB m p)).map _=_;rw[jN o];rfl
theorem HZ(ds:List D)(Q:D->Prop)(h:af ds Q):zr (EP Q) (i4 6 ds):=by
 obtain⟨b,m,rfl,C,v,q⟩:=h;refine⟨_,J5 _ _,.of ⟨λi l=>∃o d c a:Option D,l=[some (bD b),some (.int m),o,d,c,a]/\∀z∈(j7 b).take i,(aI m (C7 b z)).map (λq=>(z,q.1,q.2))=none,⟨none,none,none,none,rfl,λz x=>nomatch x⟩,?_,?_⟩⟩
 ·rintro i e l B ⟨o,d,c,a,rfl,j⟩;obtain⟨g,u,rfl⟩:=get_map B;have p:=oT u;have r:(j7 b)[i]?=some g.nm:=by unfold j7;rw[ue,u];rfl
  refine⟨rfl,?_⟩;walk_at "n";refine AM C v p (λw hw d c a=>?_) λhw d c a=>⟨_,_,_,_,rfl,Y9 r j (by rw[hw];rfl)⟩
  have e:=oA  r j  (by rw[hw];rfl);unfold aF at q;rwa[e] at q
 ·rintro l ⟨o,d,c,a,rfl,j⟩;have el:(b.gs.map gD).length=(j7 b).length:=by unfold j7;rw[dL,dL]
  rw[el,wh] at j;unfold aF at q;rwa[List.findSome?_eq_none_iff.mpr j] at q
theorem PR(ds:List D)(Q:D->Prop)(h:iY ds Q):Oh (EP Q) (i4 5 ds):=by
 obtain⟨d,ns,rfl,J,q⟩:=h;refine⟨d,ns,rfl,J,λb u t O E p=>⟨rfl,rfl,?_⟩⟩;walk_at "n";refine⟨d,ns,19,rfl,J,by decide,by decide,λc=>⟨rfl,?_⟩⟩;walk_at "n";refine⟨c,c,_,4,rfl,by decide,by decide,by decide,by decide,λw d1 w0 w1=>?_⟩;walk_at "n";have R:=p.1;have u2:=p.2.1
 have o:∀g,j5 g->g.gs.length<=8->∀C,Av (EP Q) [some d,some (bD g),some (.int u),some (feed c d1 (100*19+1)),C]:=by
  intro g a g8 C;have a0:=a.l24;have h1:=a.g1;have e:((j7 g++L9 g).length:Int)=g.gs.length+g.ls.length:=by unfold j7 L9;rw[vv,dL,dL];omega
  refine⟨g,rfl,a,rfl,?_⟩;walk_at "n";refine⟨Hl g,Hl g,⟨c,d1,_,_,rfl,by decide,by decide,by rw[dL];omega,by rw[dL];omega,λr d2 H G=>?_⟩⟩;rw[dL] at G;obtain⟨x,I,_,v⟩:=G9    H G;obtain⟨po,pl⟩:=bH a I;refine⟨_,v,⟨g,x,rfl,a,I,⟨c,d2,_,u,C7 g x,rfl,by decide,by decide,R,u2,po,λm d3 Y T S X U=>⟨rfl,q g m c d3 Y a g8 T ?_ (by omega) (by omega)⟩⟩⟩⟩;rcases S with z | ⟨r,j,s,B,z⟩
  ·omega
  ·have c1:=(po.cv r j).2.2.1 s B
   have H:0<=r.2:=by
    unfold C7 at j
    cases M:cu g x with
    | true=>rw[M] at j;cases j
    | false=>
     rw[M] at j;obtain⟨y,_,rfl⟩:=List.mem_map.mp j;exact(ax a (c:=10^60) (by decide) (λl hl=>Int.le_of_lt (a.la l hl).2) y).1
   omega
 exact⟨λe=>(⟨b,u,t,rfl,O,E,p,λg a g8=>⟨rfl,o g a g8 _⟩⟩),λe=>o b O E.g8 _⟩
theorem rS(u:Option Str):mK (uD u)=some (u.map Sum.inr):=by cases u<;>rfl
theorem BS(kvs:List (M3×Int))(k:M3)(n:Int):(cF kvs k n).length<=kvs.length+1:=by
 unfold cF;split
 ·rw[dL];omega
 ·rw[vv];exact sK _
theorem BP(kvs:List (M3×Int))(k j:M3)(n:Int)(h:J4 (cF kvs k n) j=some v):v=n\/J4 kvs j=some v:=by
 unfold cF J4 at h;obtain⟨q,b,rfl⟩:=Option.map_eq_some_iff.mp h;split at b
 ·rw[List.find?_map] at b;obtain⟨z,c,rfl⟩:=Option.map_eq_some_iff.mp b
  by_cases e:z.1=k
  ·left;simp[ux e]
  ·right
   simp[uk e];unfold J4
   have:(λa=>decide (a.1=j))∘(λa=>if a.1=k then(a.1,n) else a)=λa=>decide (a.1=j):=by
    funext a
    show decide ((if a.1=k then(a.1,n) else a).1=j)=_;split<;>rfl
   rw[this] at c;rw[c];rfl
 ·rw[List.find?_append] at b
  cases e:kvs.find? λa=>decide (a.1=j) with
  | some z=>
   rw[e] at b
   right
   unfold J4;rw[e];cases b;rfl
  | none=>
   rw[e] at b
   left
   have:=Yw b;rw[List.mem_singleton.mp this]
theorem Bj(ds:List D)(Q:D->Prop)(h:T4 ds Q):rH (EP Q) (i4 7 ds):=by
 obtain⟨b,u,t,rfl,l,C,ut,q⟩:=h;have u1:=ut.1;have u2:=ut.2.1;have g8:=C.g8;have H:=ax l  (by omega) C.ls.la;have l24:b.ls.length*(3*u)<=8*(3*u):=wS (by have:=C.l8;omega) (by omega);have ef:(b.gs.map gD).reverse=b.gs.reverse.map gD:=(XJ ..).symm;refine⟨bD b,b,rfl,⟨_,_,rfl,.inl rfl,.inl rfl⟩,l,rfl,⟨rfl,rfl,?_⟩⟩;walk_at "n";refine⟨_,J5 _ _,rfl,eP b.gs,?_⟩;rw[ef];have T:(b.gs.reverse.map (·.nm)).Nodup:=by rw[XJ];exact List.pairwise_reverse.mpr (l.dG.nd.imp λh=>h.symm)
 refine .of ⟨λi M=>∃(a:List (M3×Int)) (f:Str->Int) (S R O:Option D),M=[some (bD b),some (.dic (i6 b (j8 b))),some (.dn a),some (.lst (((b.gs.reverse.take i).map λg=>T1 g (f g.nm)).map gD)),S,R,O]/\(∀x,0<=f x/\f x<=94*u)/\a.length<=i/\(∀j v,J4 a j=some v->v<=70*u),⟨[],λ_=>0,none,none,none,rfl,λ_=>⟨Rl _,by show(0:Int)<=94*u;omega⟩,sK _,λj v h=>(by cases h)⟩,?_,?_⟩
 ·rintro i e M he ⟨a,f,S,R,O,rfl,I,hk,U⟩;obtain⟨g,B,rfl⟩:=get_map he;have hi:=(List.getElem?_eq_some_iff.mp B).1;rw[On] at hi;have r:g∈b.gs:=List.mem_reverse.mp (oT B);have J:=l.cv g r
  obtain⟨p,G,Y⟩:∃p G,g.cv=p::G:=by
   cases e:g.cv with
   | nil=>rw[e] at J;exact absurd J.1 (by decide)
   | cons p G=>exact⟨p,G,rfl⟩
  have pb:=C.c1 g r p (by rw[Y];exact hQ);have p1:=(J.2.2.1 p (by rw[Y];exact hQ)).1;have lr:=H g.nm;refine⟨rfl,?_⟩;walk_at "n";refine⟨_,rfl,?_⟩;refine⟨pr p,?_,?_⟩
  ·show O7 (g.cv.map pr) 0=_;rw[Y];exact J5 _ _
  refine⟨_,rfl,_,rfl,.inr g.nm,_,rfl,x4 l (List.mem_map.mpr ⟨g,r,rfl⟩),rfl,?_⟩;walk_at "n";refine⟨a,rfl,_,rfl,some (.inr g.nm),rfl,0,rfl,rfl,?_⟩;walk_at "n";generalize X:p.1-j8 b g.nm=d
  have gb:∀j,(J4 a j).getD 0<=70*u:=λj=>by
   cases e:J4 a j with
   | none=>show 0<=70*u;omega
   | some v=>exact U j v e
  have E:∃low,(if d>(J4 a (some (.inr g.nm))).getD 0 then d else(J4 a (some (.inr g.nm))).getD 0)=low/\d<=low/\low<=70*u:=by
   have:=gb (some (.inr g.nm));exact⟨_,rfl,by split<;>omega,by split<;>omega⟩
  obtain⟨low,el,l1,l2⟩:=E;rw[el];refine⟨rfl,g,low-d,rfl,J.2.1,?_⟩;refine⟨by rw[dL,dL,wE];exact g6 (by omega),?_⟩;walk_at "n";refine⟨a,rfl,_,rfl,g.un.map Sum.inr,rS g.un,0,rfl,?_⟩;refine⟨_,rfl,_,rfl,g.un.map Sum.inr,rS g.un,g6 (by omega),?_⟩
  have o:(if low>(J4 a (g.un.map Sum.inr)).getD 0 then low else(J4 a (g.un.map Sum.inr)).getD 0)<=70*u:=by
   have:=gb (g.un.map Sum.inr);split<;>omega
  have pl:=BS a (g.un.map Sum.inr) (if low>(J4 a (g.un.map Sum.inr)).getD 0 then low else(J4 a (g.un.map Sum.inr)).getD 0);refine⟨cF a (g.un.map Sum.inr) (if low>(J4 a (g.un.map Sum.inr)).getD 0 then low else(J4 a (g.un.map Sum.inr)).getD 0),λx=>if x=g.nm then low-d else f x,some (gD g),some (.int d),some (.int low),?_,λx=>?_,by omega,λj v h=>?_⟩
  ·have hn:(b.gs.reverse.map (·.nm))[i]?=some g.nm:=by rw[ue,B];rfl
   have e2:(b.gs.reverse.take (i+1)).map (λz=>T1 z (if z.nm=g.nm then low-d else f z.nm))=(b.gs.reverse.take i).map (λz=>T1 z (f z.nm))++[T1 g (low-d)]:=by
    rw[take_snoc B,v7];congr 1
    ·refine Xa λz hz=>?_;have:z.nm≠g.nm:=λe=>ka T hn (by rw[<-List.map_take,<-e];exact List.mem_map.mpr ⟨z,hz,rfl⟩);rw[uk this]
    ·show[T1 g (if g.nm=g.nm then _ else _)]=_;rw[ux rfl]
   rw[e2,v7];rfl
  ·show 0<=(if x=g.nm then low-d else f x)/\(if x=g.nm then low-d else f x)<=94*u;split
   ·omega
   ·exact I x
  ·rcases BP _ _ _ _ h with z | z
   ·rw[z];exact o
   ·exact U j v z
 ·rintro M ⟨a,f,S,R,O,rfl,I,hk,U⟩;have el:(b.gs.reverse.map gD).length=b.gs.reverse.length:=dL _;rw[el,wh]
  have er:(((b.gs.reverse.map λg=>T1 g (f g.nm)).map gD).reverse)=(b.gs.map λg=>T1 g (f g.nm)).map gD:=by
   rw[<-XJ,<-XJ,List.reverse_reverse]
  walk_at "n";have im:=eP (b.gs.map λg=>T1 g (f g.nm));refine⟨rfl,eP _,_,_,rfl,rfl,?_,?_⟩
  ·rw[er];exact im
  rw[er];refine⟨_,aP _ _ _,pe b.ls,?_⟩;refine q ⟨b.gs.map λg=>T1 g (f g.nm),b.ls⟩ (l.guards (λg=>T1 g (f g.nm)) (λg=>rfl) (λg=>rfl) (λg B=>(l.cv g B).lift (I g.nm).1 (C.c1 g B) (by have:=(I g.nm).2;omega)) l.de l.wa) ?_;show(b.gs.map _).length<=8;rw[dL];exact g8
theorem qM(x:Int):∀l:ZW,l.Pairwise (·<·)->∃k:ZW,k.Pairwise (·<·)/\∀y,y∈k ↔ y=x\/y∈l
 | [],_=>⟨[x],Os _ _,λy=>by simp⟩
 | z::l,h=>by
  cases h with
  | cons a b=>
   by_cases g:x<z
   ·refine⟨x::z::l,.cons (λy c=>?_) (.cons a b),λy=>by simp⟩;rcases List.mem_cons.mp c with w | w
    ·rwa[w]
    ·exact Int.lt_trans g (a y w)
   ·by_cases j:x=z
    ·refine⟨z::l,.cons a b,λy=>?_⟩;rw[j];simp
    ·obtain⟨k,i,d⟩:=qM x l b;refine⟨z::k,.cons (λy c=>?_) i,λy=>?_⟩
     ·rcases(d y).mp c with w | w
      ·omega
      ·exact a y w
     ·rw[Xh,d,Xh];constructor
      ·rintro(e | e | e)
       ·exact .inr (.inl e)
       ·exact .inl e
       ·exact .inr (.inr e)
      ·rintro(e | e | e)
       ·exact .inr (.inl e)
       ·exact .inl e
       ·exact .inr (.inr e)
theorem zb:∀l:ZW,∃k:ZW,k.Pairwise (·<·)/\∀y,y∈k ↔ y∈l
 | []=>⟨[],.nil,λy=>Za⟩
 | x::l=>by
  obtain⟨k,c,b⟩:=zb l;obtain⟨a,d,m2⟩:=qM x k c;exact⟨a,d,λy=>by rw[m2,b,Xh]⟩
theorem zg(ps:List (Gd×Int))(m:Int):lL ps m (mz ps m):=by
 obtain⟨k,g,d⟩:=zb (1::(M7 ps).filter λz=>decide (z<=m))
 have h:lL ps m k:=⟨g,λx=>by
  rw[d,Xh,List.mem_filter,Op];unfold M7;rw[List.mem_flatMap];refine Zk Za ⟨λ⟨⟨r,b,i⟩,c⟩=>?_,λ⟨r,b,z,a,e,c⟩=>⟨⟨r,b,List.mem_map.mpr ⟨z,a,e.symm⟩⟩,c⟩⟩;obtain⟨z,a,e⟩:=List.mem_map.mp i;exact⟨r,b,z,a,e.symm,c⟩⟩
 rwa[<-iO h]
def fE(f:Int->Option Int)(done:ZW):Option (Int×Int)->Prop
 | none=>∀n∈done,f n=none
 | some (k,l)=>l∈done/\f l=some k/\∀n∈done,∀j,f n=some j->j<k\/j=k/\l<=n
theorem Bq(h:fE (N4 ps i) done o)(up:∀n∈done,n<x):fE (N4 ps i) (done++[x]) (l6 ps i o x):=by
 unfold l6
 cases e:N4 ps i x with
 | none=>
  cases o with
  | none=>
   intro n b;rcases List.mem_append.mp b with z | z
   ·exact h n z
   ·rwa[List.mem_singleton.mp z]
  | some g=>
   obtain⟨k,l⟩:=g;obtain⟨d,p,c⟩:=h;refine⟨v5 _ d,p,λn b j a=>?_⟩;rcases List.mem_append.mp b with z | z
   ·exact c n z j a
   ·rw[List.mem_singleton.mp z,e] at a;cases a
 | some k=>
  cases o with
  | none=>
   refine⟨tz _ (List.mem_singleton.mpr rfl),e,λn b j a=>?_⟩;rcases List.mem_append.mp b with z | z
   ·rw[h n z] at a;cases a
   ·rw[List.mem_singleton.mp z] at a ⊢;rw[e] at a;cases a;exact .inr ⟨rfl,Rl _⟩
  | some g=>
   obtain⟨r,q⟩:=g;obtain⟨d,p,c⟩:=h;show fE _ _ (if r<k then some (k,x) else some (r,q));split
   ·refine⟨tz _ (List.mem_singleton.mpr rfl),e,λn b j a=>?_⟩;rcases List.mem_append.mp b with z | z
    ·have:=c n z j a;omega
    ·rw[List.mem_singleton.mp z] at a ⊢;rw[e] at a;cases a;exact .inr ⟨rfl,Rl _⟩
   ·refine⟨v5 _ d,p,λn b j a=>?_⟩;rcases List.mem_append.mp b with z | z
    ·exact c n z j a
    ·have:=up q d;rw[List.mem_singleton.mp z] at a ⊢;rw[e] at a;cases a;omega
theorem nL:∀{rest done:ZW} {o:Option (Int×Int)},fE (N4 ps i) done o->(done++rest).Pairwise (·<·)->fE (N4 ps i) (done++rest) (rest.foldl (l6 ps i) o)
 | [],done,o,h,_=>by rwa[vy]
 | x::rest,done,o,h,up=>by
  have b:=Bq  h λn a=>(List.pairwise_append.mp up).2.2 n a x hQ;have:=nL  b (by rwa[wT]);rwa[wT] at this
theorem MQ(ps:List (Gd×Int))(i:Nat)(m:Int):fE (N4 ps i) (mz ps m) (Q2 ps i m):=by
 have:=nL (ps:=ps) (i:=i)  (done:=[]) (o:=none) (λn a=>by cases a) (zg ps m).up;exact this
theorem pA(d:j5 b)(j:x∈j7 b++L9 b)(a:r∈C7 b x):r.1∈b.gs/\0<=r.2/\r.2<=24*10^60:=by
 unfold C7 at a
 cases e:cu b x with
 | true=>rw[e] at a;cases a
 | false=>
  rw[e] at a;obtain⟨y,i,rfl⟩:=List.mem_map.mp a;obtain⟨g,h,rfl⟩:=List.mem_map.mp (eT d j y i);have z:=ax d  (by decide) (λl o=>Int.le_of_lt (d.la l o).2) g.nm;have l24:=d.l24;refine⟨?_,z.1,by omega⟩;rwa[iJ d h]
theorem Jk(h:nm n x):R4 (.str x)=true:=by
 show(x.cps.toList.all λc=>decide (c<16^8))=true;rw[XO];intro c a;have:=h.2.2 c a;exact v1 (by omega)
theorem De(l:j5 b)(i:Nat):∀g:Gd,b.gs[i]?=some g->∃t,l4 b g.nm=g.nm::t/\∀y∈t,∃j:Nat,j<i/\(j7 b)[j]?=some y:=by
 induction i using Nat.strongRecOn with
 | ind i r=>
  intro g h;have e:=dq l (oT h);obtain⟨dp,hd⟩:=l.un;obtain⟨_,_,_,x⟩:=hd i g h
  cases c:g.un with
  | none=>rw[c] at e;exact⟨_,e,λy u=>by cases u⟩
  | some y=>
   rw[c] at e;obtain⟨j,C,d,p,o,_⟩:=x y c;obtain⟨t,q,B⟩:=r j d C p;rw[o] at q;refine⟨l4 b y,e,λz a=>?_⟩;rw[q] at a;rcases List.mem_cons.mp a with rfl | a
   ·exact⟨j,d,by unfold j7;rw[ue,p,<-o];rfl⟩
   ·obtain⟨k,E,v⟩:=B z a;exact⟨k,by omega,v⟩
theorem xT(p:j5 b):∀r∈mm b m,bA (j7 b) r/\∃i,Q2 (C7 b r.1) i m=some r.2.2:=by
 intro r c;obtain⟨x,v,c⟩:=List.mem_flatMap.mp c;obtain⟨k,J,c⟩:=List.mem_flatMap.mp c;obtain⟨g,E,rfl⟩:=List.mem_map.mp v;unfold Gk at c;split at c
 ·rename_i I l H B a
  rw[List.mem_singleton.mp c];refine⟨?_,1+k,B⟩;obtain⟨i,o⟩:=Da E;obtain⟨t,G,z⟩:=De p i g o;unfold C7 at a
  cases d:cu b g.nm with
  | true=>rw[d] at a;cases a
  | false=>
   rw[d] at a;rw[cond_false,G,vc,Nat.add_comm,AT,ue] at a;obtain⟨y,u,rfl⟩:=Option.map_eq_some_iff.mp a;obtain⟨j,C,q⟩:=z y (oT u);obtain⟨M,h,e⟩:=List.mem_map.mp (oT q);refine⟨j,i,C,?_,?_⟩
   ·rwa[<-e,iJ p h,e]
   ·unfold j7;rw[ue,o];rfl
 ·cases c
theorem qi(b:Bd)(m:Int):(mm b m).map AB=(j7 b).flatMap (u7 b m):=by
 unfold mm;rw[List.map_flatMap];congr 1;funext x;rw[List.map_flatMap];congr 1;funext k;unfold Gk C1;generalize Q2 (C7 b x) (1+k) m=o;generalize (C7 b x)[1+k]?=p;cases o<;>cases p<;>rfl
theorem eW(nd:xs.Nodup)(h:bA xs r){l1 l2:ZT}(e:xs=l1++r.2.1::l2):r.1∈l2:=by
 obtain⟨i,j,c,b,a⟩:=h
 have g:=by
  have d:xs[l1.length]?=some r.2.1:=by rw[e,Ix (sK _),Yp];rfl
  exact(XB (List.getElem?_eq_some_iff.mp b).1 nd).mp (b.trans d.symm)
 rw[e,Ix (by omega),show j-l1.length=(j-l1.length-1)+1 by omega] at a;exact oT a
theorem S7(h:bA xs r):r.1∈xs/\r.2.1∈xs:=by
 obtain⟨i,j,_,b,a⟩:=h;exact⟨oT a,oT b⟩
theorem Rf(nd:xs.Nodup)(h:bA xs r)(e:xs=l1++l2)(b:r.2.1∈l2):r.1∈l2:=by
 obtain⟨a,c,rfl⟩:=List.append_of_mem b;have:=eW nd h   (by rw[e,wT]);exact tz _ (hH _ this)
theorem Us(nd:xs.Nodup)(h:bA xs r):r.1≠r.2.1:=by
 obtain⟨i,j,c,b,a⟩:=h;intro e;rw[e] at a;have:=(XB (List.getElem?_eq_some_iff.mp b).1 nd).mp (b.trans a.symm);omega
noncomputable def Lc(i j:Int):Int:=if j>i then j else i
theorem zK:i<=Lc i j/\j<=Lc i j:=by unfold Lc;split<;>omega
theorem NW:Lc i j=i\/Lc i j=j:=by unfold Lc;split<;>simp
noncomputable def bE(f:Str->Int)(x:Str)(v:Int):Str->Int:=λy=>if y=x then v else f y
theorem cg:bE f x v x=v:=ux rfl
theorem aH(h:y≠x):bE f x v y=f y:=uk h
noncomputable def L0(x:Str)(f:Str->Int)(a:Int)(r:Pa):Int:=if r.2.1=x then Lc a (f r.1+r.2.2.1) else a
noncomputable def settle(rs:List Pa)(f:Str->Int)(x:Str):Str->Int:=bE f x (rs.foldl (L0 x f) (f x))
theorem ni:∀(rs:List Pa) (a:Int),a<=rs.foldl (L0 x f) a/\(∀r∈rs,r.2.1=x->f r.1+r.2.2.1<=rs.foldl (L0 x f) a)/\(rs.foldl (L0 x f) a=a\/∃r∈rs,r.2.1=x/\f r.1+r.2.2.1=rs.foldl (L0 x f) a)
 | [],a=>⟨Rl _,λr h=>(by cases h),.inl rfl⟩
 | r::rs,a=>by
  rw[WY];obtain⟨d,l,c⟩:=ni   rs (L0 x f a r)
  have g:a<=L0 x f a r:=by
   unfold L0;split
   ·exact zK.1
   ·exact Rl _
  refine⟨YJ g d,λq b e=>?_,?_⟩
  ·rcases List.mem_cons.mp b with rfl | b
   ·refine YJ ?_ d;unfold L0;rw[ux e];exact zK.2
   ·exact l q b e
  ·rcases c with c | ⟨q,b,e,c⟩
   ·rw[c];unfold L0;split
    ·rename_i e
     rcases NW   with z | z
     ·exact .inl z
     ·exact .inr ⟨r,hQ,e,z.symm⟩
    ·exact .inl rfl
   ·exact .inr ⟨q,hH _ b,e,c⟩
structure Qr(rs:List Pa)(f:Str->Int)(l:ZT):Prop where
 nn:∀x,0<=f x
 zero:∀x,x∉l->f x=0
 ge:∀r∈rs,r.2.1∈l->f r.1+r.2.2.1<=f r.2.1
 at_:∀x∈l,0<f x->∃r∈rs,r.2.1=x/\f r.1+r.2.2.1=f x
theorem yt(nd:xs.Nodup)(ok:∀r∈rs,bA xs r){l1 l2:ZT}(e:xs=l1++x::l2)(h:Qr rs f l2):Qr rs (settle rs f x) (x::l2):=by
 have j:=by
  rw[e] at nd;exact(List.nodup_cons.mp (List.nodup_append.mp nd).2.1).1
 have v:xs=(l1++[x])++l2:=by rw[e,wT];rfl
 obtain⟨p,o,d⟩:=ni   rs (f x);rw[h.zero x j] at p o d;have u:settle rs f x=bE f x (rs.foldl (L0 x f) 0):=by unfold settle;rw[h.zero x j]
 rw[u];have ne:∀r∈rs,r.2.1∈x::l2->r.1≠x:=λr b c z=>j (by
  rcases List.mem_cons.mp c with w | w
  ·rw[<-z];exact eW nd (ok r b) (by rwa[w])
  ·rw[<-z];exact Rf nd (ok r b) v w)
 refine⟨λy=>?_,λy g=>?_,λr b c=>?_,λy g l=>?_⟩
 ·unfold bE;split
  ·exact p
  ·exact h.nn y
 ·rw[aH λz=>g (by rw[z];exact hQ)];exact h.zero y λz=>g (hH _ z)
 ·rw[aH (ne r b c)]
  by_cases w:r.2.1=x
  ·rw[w,cg];exact o r b w
  ·rw[aH w];exact h.ge r b ((List.mem_cons.mp c).resolve_left w)
 ·by_cases w:y=x
  ·subst w;rw[cg] at l ⊢;rcases d with d | ⟨r,b,c,d⟩
   ·omega
   ·exact⟨r,b,c,by rwa[aH (ne r b (by rwa[c]))]⟩
  ·rw[aH w] at l ⊢;have i:=(List.mem_cons.mp g).resolve_left w;obtain⟨r,b,c,q⟩:=h.at_ y i l;exact⟨r,b,c,by rwa[aH (ne r b (by rwa[c]))]⟩
noncomputable def jd:Str->Int:=λ_=>0
noncomputable def vW(rs:List Pa)(xs:ZT):Str->Int:=xs.reverse.foldl (settle rs) jd
theorem oy(nd:xs.Nodup)(ok:∀r∈rs,bA xs r):∀(l2 l1:ZT),xs=l1++l2->Qr rs (vW rs l2) l2
 | [],l1,e=>⟨λ_=>Rl _,λ_ _=>rfl,λ_ _ h=>(by cases h),λ_ h=>(by cases h)⟩
 | x::l2,l1,e=>by
  have h:=oy nd ok l2 (l1++[x]) (by rw[e,wT];rfl);unfold vW;rw[Yb,WF];exact yt nd ok e h
theorem sS(nd:xs.Nodup)(ok:∀r∈rs,bA xs r):IsL xs rs (vW rs xs):=by
 have h:=oy nd ok xs [] rfl;exact⟨λx _=>h.nn x,λr a=>h.ge r a (S7 (ok r a)).2,h.at_⟩
theorem mX(nd:xs.Nodup){rs:List Pa}(ok:∀r∈rs,bA xs r){f g:Str->Int}(d:IsL xs rs f)(b:IsL xs rs g):∀(l2 l1:ZT),xs=l1++l2->∀x∈l2,f x=g x
 | [],_,_,_,h=>(by cases h)
 | x::l2,l1,e,y,i=>by
  have c:=mX nd ok d b l2 (l1++[x]) (by rw[e,wT];rfl);rcases List.mem_cons.mp i with rfl | i
  ·have o:y∈xs:=by rw[e];exact tz _ hQ
   have a:∀{f g:Str->Int},IsL xs rs f->IsL xs rs g->(∀z∈l2,f z=g z)->f y<=g y:=λ{f g} d b c=>by
    by_cases q:0<f y
    ·obtain⟨r,l,j,B⟩:=d.at_ y o q;have u:=b.ge r l;have v:=c r.1 (eW nd (ok r l)  (by rwa[j]));rw[j] at u;omega
    ·have:=b.nn y o;omega
   exact Int.le_antisymm (a d b c) (a b d λz p=>(c z p).symm)
  ·exact c y i
noncomputable def R7(f:Str->Int)(r:Pa):Str->Int:=bE f r.2.1 (Lc (f r.2.1) (f r.1+r.2.2.1))
theorem ug(f:Str->Int)(r:Pa)(x:Str):f x<=R7 f r x:=by
 unfold R7 bE;split
 ·rename_i e;rw[e];exact zK.1
 ·exact Rl _
theorem bQ:∀(rs:List Pa) (f:Str->Int) (x:Str),f x<=rs.foldl R7 f x
 | [],_,_=>Rl _
 | r::rs,f,x=>YJ (ug f r x) (bQ rs (R7 f r) x)
theorem nE:∀(rs:List Pa) (f:Str->Int),∀r∈rs,f r.1+r.2.2.1<=rs.foldl R7 f r.2.1
 | [],_,_,h=>(by cases h)
 | q::rs,f,r,h=>by
  rw[WY];rcases List.mem_cons.mp h with rfl | h
  ·refine YJ ?_ (bQ rs _ _);unfold R7;rw[cg];exact zK.2
  ·have:=nE rs (R7 f q) r h;have:=ug f q r.1;omega
theorem nr{L:Str->Int}:∀(rs:List Pa) (f:Str->Int),(∀r∈rs,bA xs r)->(∀r∈rs,L r.1+r.2.2.1<=L r.2.1)->(∀x∈xs,f x<=L x)->∀x∈xs,rs.foldl R7 f x<=L x
 | [],_,_,_,h=>h
 | r::rs,f,ok,c,h=>by
  refine nr rs (R7 f r) (λq a=>ok q (hH _ a)) (λq a=>c q (hH _ a)) λx b=>?_;unfold R7 bE;split
  ·rename_i e
   have l:=c r hQ;have g:=h r.1 (S7 (ok r hQ)).1;have d:=h r.2.1 (by rwa[<-e]);rw[e];rcases NW (i:=f r.2.1) (j:=f r.1+r.2.2.1) with z | z<;>omega
  ·exact h x b
noncomputable def BL(rs:List Pa):Nat->Str->Int
 | 0=>jd
 | t+1=>rs.foldl R7 (BL rs t)
theorem Iv(rs:List Pa)(x:Str):∀t,0<=BL rs t x
 | 0=>Rl _
 | t+1=>YJ (Iv rs x t) (bQ rs _ x)
theorem IJ(ok:∀r∈rs,bA xs r)(h:IsL xs rs L):∀t,∀x∈xs,BL rs t x<=L x
 | 0=>h.nn
 | t+1=>nr rs _ ok h.ge (IJ ok h t)
theorem Jh(nd:xs.Nodup){rs:List Pa}{L:Str->Int}(ok:∀r∈rs,bA xs r)(h:IsL xs rs L):∀(l2 l1:ZT),xs=l1++l2->∀x∈l2,BL rs l2.length x=L x
 | [],_,_,_,a=>(by cases a)
 | y::l2,l1,e,x,a=>by
  have b:=Jh nd ok h l2 (l1++[y]) (by rw[e,wT];rfl);have g:x∈xs:=by rw[e];exact tz _ a
  refine Int.le_antisymm (IJ ok h _ x g) ?_;rcases List.mem_cons.mp a with rfl | a
  ·by_cases j:0<L x
   ·obtain⟨r,d,c,l⟩:=h.at_ x g j;have i:=nE rs (BL rs l2.length) r d;rw[b r.1 (eW nd (ok r d)  (by rwa[c])),c] at i;rwa[<-l]
   ·have:=Iv rs x (x::l2).length;omega
  ·rw[<-b x a];exact bQ rs _ x
theorem QB(nd:xs.Nodup)(ok:∀r∈rs,bA xs r):IsL xs rs (BL rs xs.length):=by
 have h:=sS nd ok;have e:=Jh nd ok h xs [] rfl;refine⟨λx b=>by rw[e x b];exact h.nn x b,λr a=>?_,λx b c=>?_⟩
 ·rw[e _ (S7 (ok r a)).1,e _ (S7 (ok r a)).2];exact h.ge r a
 ·rw[e x b] at c ⊢;obtain⟨r,a,d,g⟩:=h.at_ x b c;exact⟨r,a,d,by rwa[e _ (S7 (ok r a)).1]⟩
theorem jy:∀{rs:List Pa},(∀r∈rs,p r=q r)->rs.find? p=rs.find? q
 | [],_=>rfl
 | r::rs,h=>by
  rw[z0,z0,h r hQ,jy λz a=>h z (hH _ a)]
theorem jx{f g:Str->List D}:∀{l:ZT},(∀x∈l,f x=g x)->l.flatMap f=l.flatMap g
 | [],_=>rfl
 | x::l,h=>by rw[Yc,Yc,h x hQ,jx λz a=>h z (hH _ a)]
theorem CA(ok:∀r∈rs,bA xs r)(h:∀x∈xs,f x=g x):xs.flatMap (D5 rs f)=xs.flatMap (D5 rs g):=by
 refine jx λx a=>?_;unfold D5;rw[h x a,jy  λr b=>?_];unfold aG;rw[h x a,h r.1 (S7 (ok r b)).1]
theorem pI(rs:List Pa)(f:Str->Int)(x:Str):(D5 rs f x).length<=1:=by
 unfold D5;cases decide (f x>0)
 ·exact xL _
 ·cases rs.find? (aG f x)
  ·exact xL _
  ·exact sK _
theorem JE(c:j5 b)(d:b.gs.length<=8)(m:Int):(mm b m).length<=64:=by
 have h:=J6 (f:=u7 b m)   λz a=>jb (bH c (v5 _ a)).2;have e:(j7 b).length=b.gs.length:=dL _;rw[<-qi,dL] at h;omega
theorem kY(ds:List D)(Q:D->Prop)(h:D0 ds Q):dQ (EP Q) (i4 3 ds):=by
 obtain⟨b,m,rfl,a,e,c,d,q⟩:=h;refine⟨b,m,rfl,a,c,?_⟩;rw[d];refine⟨rfl,Br.no rfl ⟨b,m,rfl,a,e,c,?_⟩⟩;rwa[<-qi]
theorem Bu(ds:List D)(Q:D->Prop)(h:S8 ds Q):rW (EP Q) (i4 8 ds):=by
 obtain⟨b,c,rfl,u,ok,q⟩:=h;have nd:=u.dG.nd;have X:=u.g16;have hl:(j7 b).length=b.gs.length:=dL _;refine⟨b,rfl,u,by rw[dL];exact g6 (by omega),iV (k:=λx=>.inr x) (v:=λ_=>.int 0) (j7 b) [] (λx H K R U=>?_) ⟨rfl,?_⟩⟩
 ·walk_at "r";exact U
 have T:=O2  (v:=λ_=>.int 0) (as:=j7 b) (bs:=[]) (by rwa[Zm]);rw[wf] at T;rw[show(j7 b).foldl (λO a=>putD O (Sum.inr a) (.int 0)) []=i6 b jd from T.trans (by unfold j7 i6;rw[Bi];rfl)];refine⟨b,rfl,u,.of ⟨λj p=>∃G o l g d:Option D,p=[some (bD b),some (.lst (c.map AB)),some (.dic (i6 b (((j7 b).reverse.take j).foldl (settle c) jd))),G,o,l,g,d],⟨none,none,none,none,none,rfl⟩,?_,?_⟩⟩
 ·rintro j e p E ⟨G,o,l,g,d,rfl⟩;rw[<-XJ] at E;obtain⟨x,H,rfl⟩:=get_map E;have B:=List.mem_reverse.mp (oT H)
  have M:((j7 b).reverse.take (j+1)).foldl (settle c) jd=settle c (((j7 b).reverse.take j).foldl (settle c) jd) x:=by
   rw[v9,H];rw[show(j7 b).reverse.take j++(some x).toList=(j7 b).reverse.take j++[x] from rfl,WF];rfl
  refine⟨rfl,?_⟩;walk_at "n";rw[M];generalize ((j7 b).reverse.take j).foldl (settle c) jd=f;refine .of ⟨λi p=>∃o l g d:Option D,p=[some (bD b),some (.lst (c.map AB)),some (.dic (i6 b (bE f x ((c.take i).foldl (L0 x f) (f x))))),some (.str x),o,l,g,d],⟨o,l,g,d,?_⟩,?_,?_⟩
  ·have:i6 b (bE f x (f x))=i6 b f:=y7 λy _=>by
    unfold bE;split
    ·rename_i e;rw[e]
    ·rfl
   show _=[_,_,some (D.dic (i6 b (bE f x (f x)))),_,_,_,_,_];rw[this]
  ·rintro i e p E ⟨o,l,g,d,rfl⟩;obtain⟨r,S,rfl⟩:=get_map E;have C:=oT S
   have M:(c.take (i+1)).foldl (L0 x f) (f x)=L0 x f ((c.take i).foldl (L0 x f) (f x)) r:=by
    rw[v9,S];rw[show c.take i++(some r).toList=c.take i++[r] from rfl,WF];rfl
   refine⟨rfl,rfl,rfl,rfl,?_⟩;walk_at "n";rw[M];generalize (c.take i).foldl (L0 x f) (f x)=a;walk_at "n";refine⟨λz=>?_,λz=>?_⟩
   ·have z:r.2.1=x:=Ch z;subst z;have I:=Us nd (ok r C);have Y:u4 (i6 b (bE f r.2.1 a)) (.inr r.2.1)=some (.int a):=by rw[x4 u B,cg]
    have J:u4 (i6 b (bE f r.2.1 a)) (.inr r.1)=some (.int (f r.1)):=by rw[x4 u (S7 (ok r C)).1,aH I]
    refine⟨_,_,rfl,Y,_,_,rfl,J,?_⟩;refine⟨rfl,_,rfl,by rw[X8];exact g6 (by omega),some (.str r.1),some (.str r.2.1),some (.int r.2.2.1),some (.int r.2.2.2),?_⟩;rw[Y1 B]
    have e:(λy=>if y=r.2.1 then Lc a (f r.1+r.2.2.1) else bE f r.2.1 a y)=bE f r.2.1 (L0 r.2.1 f a r):=by
     funext y
     unfold L0 bE;rw[ux rfl]
     by_cases h:y=r.2.1
     ·rw[ux h,ux h]
     ·rw[uk h,uk h,uk h]
    rw[<-e];rfl
   ·have z:r.2.1≠x:=T0 z;unfold L0;rw[uk z];exact⟨_,_,_,_,rfl⟩
  ·rintro p ⟨o,l,g,d,rfl⟩;rw[dL,wh];exact⟨_,_,_,_,_,rfl⟩
 ·rintro p ⟨G,o,l,g,d,rfl⟩;rw[<-XJ,dL,wh];exact q _ (sS nd ok)
theorem CQ{g:Pa->D}(rs:List Pa):((rs.filter p).map g).head?=(rs.find? p).map g:=by
 induction rs with
 | nil=>rfl
 | cons r rs a=>
  rw[Re,z0];cases p r
  ·exact a
  ·rfl
theorem Lb(ds:List D)(Q:D->Prop)(h:br ds Q):IH (EP Q) (i4 7 ds):=by
 obtain⟨b,m,rfl,c,M,Y,U,q⟩:=h;have hl:(j7 b).length=b.gs.length:=dL _;have ok:=λr u=>(xT c (m:=m) r u).1;refine⟨b,m,rfl,c,M,Y,U,rfl,⟨b,mm b m,rfl,c,ok,λf G=>⟨rfl,?_⟩⟩⟩;have q:=q f G;have O:=JE c M m;generalize mm b m=a at ok q G O;refine⟨rfl,⟨b,rfl,c,.of ⟨λj B=>∃E C:Option D,B=[some (bD b),some (.int m),some (.lst (a.map AB)),some (.dic (i6 b f)),some (.lst (((j7 b).take j).flatMap (D5 a f))),E,C],⟨none,none,rfl⟩,?_,?_⟩⟩⟩
 ·rintro j e B X ⟨E,C,rfl⟩;obtain⟨x,J,rfl⟩:=get_map X;have i:=oT J
  have et:((j7 b).take (j+1)).flatMap (D5 a f)=((j7 b).take j).flatMap (D5 a f)++D5 a f x:=by
   rw[v9,J];rw[show(j7 b).take j++(some x).toList=(j7 b).take j++[x] from rfl,Xl,Xc]
  refine⟨rfl,?_⟩;walk_at "n";rw[et]
  have v:=by
   have:=J6 (f:=D5 a f) (k:=1) (l:=(j7 b).take j) λz hz=>pI a f z;rw[wE] at this;omega
  refine⟨by rw[dL];exact g6 (by omega),L7 (f:=λr:Pa=>.tup [.str x,.str r.1,.int r.2.2.2]) (aG f x) a [] (λr u K R S I=>?_) ?_⟩
  ·have ev:u4 (i6 b f) (.inr r.1)=some (.int (f r.1)):=x4 c (S7 (ok r u)).1;have o:u4 (i6 b f) (.inr x)=some (.int (f x)):=x4 c i;walk_at "r";refine⟨λz=>?_,λz=>?_⟩
   ·have z:decide (r.2.1=x)=true:=z;refine⟨_,_,rfl,ev,_,_,rfl,o,λw=>⟨rfl,rfl,rfl,S ?_⟩,λw=>I ?_⟩
    ·unfold aG;rw[z];exact w
    ·unfold aG;rw[z];exact w
   ·have z:decide (r.2.1=x)=false:=z;refine⟨λw=>(by cases w),λ_=>I ?_⟩;unfold aG;rw[z];rfl
  ·rw[wf];have y:=CQ (p:=aG f x) (g:=λr:Pa=>.tup [.str x,.str r.1,.int r.2.2.2]) a;generalize (a.filter (aG f x)).map (λr:Pa=>D.tup [.str x,.str r.1,.int r.2.2.2])=F at y;have o:u4 (i6 b f) (.inr x)=some (.int (f x)):=x4 c i;refine⟨rfl,_,_,rfl,o,λz=>?_,λz=>?_⟩
   ·have z:decide (f x>0)=true:=z;have H:D5 a f x=F.head?.toList:=by unfold D5;rw[z,y];rfl
    cases F with
    | nil=>
     exfalso
     obtain⟨r,u,T,h1⟩:=G.at_ x i (Ch z);have h2:=Option.map_eq_none_iff.mp y.symm;have:=List.find?_eq_none.mp h2 r u;unfold aG at this;rw[v1 T,v1 h1] at this;exact this rfl
    | cons d F=>
     rw[H];obtain⟨r0,_,rfl⟩:=Option.map_eq_some_iff.mp y.symm;exact⟨rfl,_,J5 _ _,rfl,g6 (by omega),_,_,rfl⟩
   ·have z:decide (f x>0)=false:=z;have H:D5 a f x=[]:=by unfold D5;rw[z];rfl
    rw[H,vy];exact⟨_,_,rfl⟩
 ·rintro B ⟨E,C,rfl⟩;rw[dL,wh];exact q
theorem DE(ds:List D)(Q:D->Prop)(h:aB ds Q):zh (EP Q) (i4 8 ds):=by
 obtain⟨b,a,rfl,p,ok,q⟩:=h;have nd:=p.dG.nd;have G:=p.g16;have E:(j7 b).length=b.gs.length:=dL _;refine⟨_,J5 _ _,by rw[dL];exact g6 (by omega),M9 (f:=λg=>.tup [.str g.nm,.int 0]) b.gs [] (λg J K R C=>?_) ?_⟩
 ·walk_at "r";exact C
 refine .inl ⟨_,_,_,rfl,rfl,M5  (λg=>rfl) b.gs,bP (λg:Gd=>g.nm) (λ_=>.int 0) b.gs,by rw[dL];exact g6 (by omega),?_⟩;rw[nW p];refine⟨rfl,?_⟩;refine⟨_,J5 _ _,?_⟩;walk_at "r";refine⟨by rw[dL];omega,?_⟩;rw[show(((b.gs.map gD).length):Int).toNat=b.gs.length by rw[dL];omega,show cV 0 b.gs.length=(List.range b.gs.length).map (λk:Nat=>D.int (0+k)) from rfl];refine .of ⟨λt o=>∃u l j d c:Option D,o=[some (bD b),some (.lst (a.map AB)),some (.dic (i6 b (BL a t))),u,l,j,d,c],⟨none,none,none,none,none,rfl⟩,?_,?_⟩
 ·rintro t e o B ⟨u,l,j,d,c,rfl⟩;refine⟨rfl,?_⟩;refine .of ⟨λi o=>∃l j d c:Option D,o=[some (bD b),some (.lst (a.map AB)),some (.dic (i6 b ((a.take i).foldl R7 (BL a t)))),some e,l,j,d,c],⟨l,j,d,c,rfl⟩,?_,?_⟩
  ·rintro i e o B ⟨l,j,d,c,rfl⟩;obtain⟨r,z,rfl⟩:=get_map B;have v:=oT z
   have I:(a.take (i+1)).foldl R7 (BL a t)=R7 ((a.take i).foldl R7 (BL a t)) r:=by
    rw[v9,z];rw[show a.take i++(some r).toList=a.take i++[r] from rfl,WF];rfl
   refine⟨rfl,rfl,rfl,rfl,?_⟩;walk_at "n";rw[I];generalize (a.take i).foldl R7 (BL a t)=f;have x:=S7 (ok r v);have H:u4 (i6 b f) (.inr r.2.1)=some (.int (f r.2.1)):=x4 p x.2;have y:u4 (i6 b f) (.inr r.1)=some (.int (f r.1)):=x4 p x.1;refine⟨_,_,rfl,H,_,_,rfl,y,?_⟩;refine⟨rfl,_,rfl,by rw[X8];exact g6 (by omega),some (.str r.1),some (.str r.2.1),some (.int r.2.2.1),some (.int r.2.2.2),?_⟩;rw[Y1 x.2];rfl
  ·rintro o ⟨l,j,d,c,rfl⟩;rw[dL,wh];exact⟨_,_,_,_,_,rfl⟩
 ·rintro o ⟨u,l,j,d,c,rfl⟩;rw[dL,vr];refine q _ ?_;rw[<-E];exact QB nd ok
theorem zV{r:Pa}:∀{rs:List Pa} {i:Nat},rs[i]?=some r->p r=true->(∀q∈rs.take i,p q=false)->rs.find? p=some r
 | [],_,h,_,_=>by simp at h
 | q::rs,0,h,a,_=>by cases h;rw[z0,a]
 | q::rs,i+1,h,a,b=>by
  rw[z0,b q (by exact hQ)];exact zV   h a λz c=>b z (by exact hH _ c)
theorem Ku(ds:List D)(Q:D->Prop)(h:cU ds Q):FX (EP Q) (i4 10 ds):=by
 obtain⟨b,a,rfl,H,ok,q⟩:=h;have a0:=H.g16;have hl:(j7 b).length=b.gs.length:=dL _;refine⟨b,a,rfl,H,ok,λf hf=>⟨rfl,?_⟩⟩;have q:=q f hf;refine⟨rfl,?_⟩;walk_at "n";refine⟨_,J5 _ _,.of ⟨λj B=>∃J I v p o d:Option D,B=[some (bD b),some (.lst (a.map AB)),some (.dic (i6 b f)),some (.lst (((j7 b).take j).flatMap (D5 a f))),J,I,v,p,o,d],⟨none,none,none,none,none,none,rfl⟩,?_,?_⟩⟩
 ·rintro j e B R ⟨J,I,v,p,o,d,rfl⟩;obtain⟨g,hg,rfl⟩:=get_map R;have U:(j7 b)[j]?=some g.nm:=by unfold j7;rw[ue,hg];rfl
  have M:=oT U
  have et:((j7 b).take (j+1)).flatMap (D5 a f)=((j7 b).take j).flatMap (D5 a f)++D5 a f g.nm:=by
   rw[v9,U];rw[show(j7 b).take j++(some g.nm).toList=(j7 b).take j++[g.nm] from rfl,Xl,Xc]
  refine⟨rfl,?_⟩;walk_at "n";rw[et]
  have E:=by
   have:=J6   (l:=(j7 b).take j) λz hz=>pI a f z;rw[wE] at this;omega
  generalize ((j7 b).take j).flatMap (D5 a f)=T at E;refine⟨_,J5 _ _,rfl,?_⟩;walk_at "n";have G:u4 (i6 b f) (.inr g.nm)=some (.int (f g.nm)):=x4 H M;refine .of ⟨λi B=>∃v p o d:Option D,B=[some (bD b),some (.lst (a.map AB)),some (.dic (i6 b f)),some (.lst T),some (gD g),some (.str g.nm),v,p,o,d]/\(decide (f g.nm>0)=true->∀r∈a.take i,aG f g.nm r=false),⟨v,p,o,d,rfl,λ_ r C=>(by cases C)⟩,?_,?_⟩
  ·rintro i e B R ⟨v,p,o,d,rfl,c⟩;obtain⟨r,C,rfl⟩:=get_map R;have O:=oT C;have ev:u4 (i6 b f) (.inr r.1)=some (.int (f r.1)):=x4 H (S7 (ok r O)).1;refine⟨rfl,rfl,rfl,rfl,?_⟩;walk_at "n"
   have no:(decide (f g.nm>0)=true->aG f g.nm r=false)->decide (f g.nm>0)=true->∀q∈a.take (i+1),aG f g.nm q=false:=λh1 X q x=>by
    rw[v9,C] at x;rcases List.mem_append.mp x with x | x
    ·exact c X q x
    ·cases List.mem_singleton.mp x;exact h1 X
   refine⟨λz=>?_,λz=>?_⟩
   ·have z:decide (r.2.1=g.nm)=true:=z;refine⟨_,_,rfl,ev,_,_,rfl,G,λw=>?_,λw=>?_⟩
    ·have w:decide (f r.1+r.2.2.1=f g.nm)=true:=w;refine⟨_,_,rfl,G,λy=>?_,λy=>?_⟩
     ·have y:decide (f g.nm>0)=true:=y;have Y:aG f g.nm r=true:=by unfold aG;rw[z,w];rfl
      have S:D5 a f g.nm=[.tup [.str g.nm,.str r.1,.int r.2.2.2]]:=by unfold D5;rw[y,zV C Y (c y)];rfl
      rw[S];exact⟨rfl,rfl,rfl,rfl,g6 (by omega),_,_,_,_,_,_,rfl⟩
     ·have y:decide (f g.nm>0)=false:=y;exact⟨_,_,_,_,rfl,no λh=>by rw[y] at h;cases h⟩
    ·have w:decide (f r.1+r.2.2.1=f g.nm)=false:=w;exact⟨λu=>(by cases u),λ_=>⟨_,_,_,_,rfl,no λ_=>by unfold aG;rw[z,w];rfl⟩⟩
   ·have z:decide (r.2.1=g.nm)=false:=z;exact⟨λu=>(by cases u),λ_=>⟨_,_,_,_,rfl,no λ_=>by unfold aG;rw[z];rfl⟩⟩
  ·rintro B ⟨v,p,o,d,rfl,c⟩;rw[dL,wh] at c
   have S:D5 a f g.nm=[]:=by
    unfold D5
    cases y:decide (f g.nm>0) with
    | false=>rfl
    | true=>rw[List.find?_eq_none.mpr λq x=>by rw[c y q x];exact ud];rfl
   rw[S,vy];exact⟨_,_,_,_,_,_,rfl⟩
 ·rintro B ⟨J,I,v,p,o,d,rfl⟩;rw[dL];rw[show(j7 b).take b.gs.length=j7 b from SZ (by omega)];exact q
theorem GX(ds:List D)(Q:D->Prop)(h:aq ds Q):zL { nx:=λ_=>Q .o6,rt:=λd _=>Q d } (i4 2 ds):=by
 obtain⟨d,ns,k,rfl,b,c,q⟩:=h;rcases b with rfl | rfl
 all_goals
  walk_at "r";refine⟨λe=>?_,λe=>q 0⟩;have g:=Ch e;obtain⟨x,_,_,a⟩:=G9  c (by simpa using g);exact⟨_,a,rfl,q x⟩
theorem OT(ds:List D)(Q:D->Prop)(h:aM ds Q):Nr { nx:=λ_=>Q .o6,rt:=λd _=>Q d } (i4 3 ds):=by
 obtain⟨d,ns,k,rfl,a,b,e,q⟩:=h;refine⟨d,ns,k,rfl,a,b,λc=>?_⟩;walk_at "r";exact q c
theorem Oq(ds:List D)(Q:D->D->Prop)(h:u5 ds Q):Nv { nx:=λg=>a6 0 g λl=>Q .o6 l,rt:=λd g=>a6 0 g λl=>Q d l } (i4 4 ds):=by
 obtain⟨c,d,k,n,rfl,v,u,e,i,q⟩:=h;walk_at "r";refine⟨λo=>?a,λo=>Br.no rfl ?c⟩
 case' a=>
  walk_at "r";refine⟨λj=>?t,λj=>?b⟩
 case t=>
  walk_at "r";refine⟨e,?_⟩;walk_at "r";refine⟨⟨e,Sl i e⟩,?_⟩;walk_at "r";exact q _ _ (KM _ (by omega)) (Fa _ e)
 all_goals
  walk_at "r";refine⟨.inl ⟨by omega,by omega⟩,?_⟩;walk_at "r";refine⟨.inr ⟨by omega,by omega⟩,?_⟩;walk_at "r";refine⟨e,?_⟩;walk_at "r";exact q _ _ (KM _ (by omega)) (Fa _ e)
theorem Te:∀{xs:List D},(∀x∈xs,(pyd x).weight<=B)->PyData.weightAll (N7 xs)<=xs.length*(B+1)
 | [],_=>by simp[N7,PyData.weightAll]
 | x::xs,h=>by
  have c:=h x hQ;have b:=Te λy a=>h y (hH x a);simp[N7,PyData.weightAll];rw[Nat.add_mul];omega
theorem QJ:∀{xs:List D},(∀x∈xs,(pyd x).depth<=B)->PyData.depthAll (N7 xs)<=B
 | [],_=>by simp[N7,PyData.depthAll]
 | x::xs,h=>by
  have c:=h x hQ;have b:=QJ λy a=>h y (hH x a);simp[N7,PyData.depthAll];omega
theorem Ub:∀{xs:List D},(∀x∈xs,R4 x=true)->gS xs=true
 | [],_=>rfl
 | x::xs,h=>by
  simp[gS];exact⟨h x hQ,Ub λy a=>h y (hH x a)⟩
structure R5(d:D)(w n:Nat):Prop where
 s:R4 d=true
 w:(pyd d).weight<=w
 n:(pyd d).depth<=n
theorem R5.ok{w n:Nat}(h:R5 d w n)(hw:w<=100000)(a:n<=50):wu d:=⟨h.s,GM h.w hw,GM h.n a⟩
theorem R5.mono{w n a b:Nat}(h:R5 d w n)(hw:w<=a)(c:n<=b):R5 d a b:=⟨h.s,GM h.w hw,GM h.n c⟩
theorem R5.tup{w n m:Nat}(h:∀x∈xs,R5 x w n)(b:xs.length<=m):R5 (.tup xs) (m*(w+1)) (n+1):=
 ⟨Ub λx a=>(h x a).s,GM (Te λx a=>(h x a).w) (Nat.mul_le_mul_right _ b),Nat.succ_le_succ (QJ λx a=>(h x a).n)⟩
theorem R5.int{n:Int}(h:num n):R5 (.int n) 201 0:=by
 refine⟨?_,?_,sK _⟩
 ·refine v1 (ww (m:=10^60) ?_ (by decide +kernel));have:=h.1;have:=h.2;omega
 ·show(if n == 0 then 0 else n.natAbs.log2+1)<=201;split
  ·omega
  ·rename_i e
   have e:n.natAbs≠0:=by simpa using e
   have:n.natAbs.log2<200:=(Zw e).mpr (ww (m:=10^60) (by have:=h.1;have:=h.2;omega) (by decide +kernel));omega
theorem R5.str(h:x.length<=k)(b:∀c∈cs x,c<1000):R5 (.str x) k 0:=by
 refine⟨?_,h,sK _⟩;show(x.cps.toList.all λc=>decide (c<16^8))=true;rw[XO];exactλc a=>v1 (ww (b c a) (by decide +kernel))
theorem R5.nm(h:nm 8 x):R5 (.str x) 8 0:=R5.str (Pp h) λc a=>by have:=h.2.2 c a;omega
theorem R5.o6:R5 .o6 8 0:=⟨rfl,xL _,sK _⟩
theorem R5.bl:R5 (.bl b) 8 0:=⟨rfl,xL _,sK _⟩
theorem R5.mh(h:FJ ps):R5 (mh ps) 2025 2:=by
 refine R5.mono (R5.tup (w:=404) (n:=1)  (λx a=>?_) (by rw[dL];exact h.1)) (by decide) (by decide);obtain⟨p,b,rfl⟩:=List.mem_map.mp a;refine R5.mono (R5.tup (w:=201) (n:=0) (m:=2) (λx a=>?_) (sK _)) (by decide) (by decide);rcases List.mem_cons.mp a with rfl | a
 ·exact R5.int (h.2 p b).1
 ·cases List.mem_singleton.mp a;exact R5.int (h.2 p b).2
theorem Wn(l:R5 a 8 0)(j:R5 b 8 0)(i:R5 c w n)(h:R5 d 201 0)(g:R5 e k 0):R5 (.tup [a,b,c,d,e]) (w+k+222) (n+1):=by
 refine⟨?_,?_,?_⟩
 ·show(R4 a&&(R4 b&&(R4 c&&(R4 d&&(R4 e&&true)))))=true;rw[l.s,j.s,i.s,h.s,g.s];rfl
 ·show(pyd a).weight+1+((pyd b).weight+1+((pyd c).weight+1+((pyd d).weight+1+((pyd e).weight+1+0))))<=_;have:=l.w;have:=j.w;have:=i.w;have:=h.w;have:=g.w;omega
 ·show max (pyd a).depth (max (pyd b).depth (max (pyd c).depth (max (pyd d).depth (max (pyd e).depth 0))))+1<=_;have:=l.n;have:=j.n;have:=i.n;have:=h.n;have:=g.n;omega
theorem GT.R4(h:GT g):R5 (gD g) 2448 3:=by
 refine Wn (R5.nm h.nm) ?_ (R5.mh h.cv) (R5.int h.de) (R5.int h.wa)
 cases e:g.un with
 | none=>exact R5.o6
 | some y=>exact R5.nm (h.un y e)
theorem LT.R4(h:LT l):R5 (lD l) 2255 3:=Wn (R5.nm h.nm) (R5.nm h.at_) (R5.mh h.cs) (R5.int h.la) R5.bl
noncomputable def Ob(x y:Str):Option (Int×Int)->D
 | none=>.o6
 | some (k,l)=>.tup [.str x,.str y,.int k,.int l]
theorem Hb(ds:List D)(Q:D->Prop)(h:ak ds Q):Ah (EP Q) (i4 9 ds):=by
 obtain⟨b,m,rfl,T,h8,q⟩:=h;refine⟨rfl,?_⟩;walk_at "n";refine⟨_,J5 _ _,.of ⟨λj p=>∃J I v u d c:Option D,p=[some (bD b),some (.int m),some (.lst (((j7 b).take j).flatMap (u7 b m))),J,I,v,u,d,c],⟨none,none,none,none,none,none,rfl⟩,?_,?_⟩⟩
 ·rintro j e p E ⟨J,I,v,u,d,c,rfl⟩;obtain⟨g,hg,rfl⟩:=get_map E;have S:=oT hg;have hx:(j7 b)[j]?=some g.nm:=by unfold j7;rw[ue,hg];rfl
  have C:g.nm∈j7 b++L9 b:=v5 _ (List.mem_map.mpr ⟨g,S,rfl⟩);obtain⟨po,pl⟩:=bH T C
  have U:((j7 b).take (j+1)).flatMap (u7 b m)=((j7 b).take j).flatMap (u7 b m)++u7 b m g.nm:=by
   rw[v9,hx];rw[show(j7 b).take j++(some g.nm).toList=(j7 b).take j++[g.nm] from rfl,Xl,Xc]
  refine⟨rfl,?_⟩;walk_at "n";rw[U]
  have G:(((j7 b).take j).flatMap (u7 b m)).length<=64:=by
   have:=J6 (f:=u7 b m) (k:=8) (l:=(j7 b).take j) λz hz=>jb (bH T (v5 _ (YX hz))).2;have e:(j7 b).length=b.gs.length:=dL _;rw[wE] at this;omega
  generalize ((j7 b).take j).flatMap (u7 b m)=H at G;refine⟨_,rfl,⟨b,g.nm,rfl,T,C,rfl,?_⟩⟩;walk_at "n";refine⟨1,((C7 b g.nm).length:Int),by show[D.int 1,D.int ((((C7 b g.nm).map λr:Gd×Int=>D.tup [gD r.1,.int r.2]).length:Nat):Int)]=_;rw[dL],⟨by decide,by decide,by omega,by omega⟩,?_⟩;rw[show(((C7 b g.nm).length:Int)-1).toNat=(C7 b g.nm).length-1 by omega,show cV 1 ((C7 b g.nm).length-1)=(List.range ((C7 b g.nm).length-1)).map (λk:Nat=>D.int (1+(k:Int))) from rfl];refine .of ⟨λk p=>∃v u d c:Option D,p=[some (bD b),some (.int m),some (.lst (H++(List.range k).flatMap λk=>C1 b g.nm (Q2 (C7 b g.nm) (1+k) m) (1+k))),some (gD g),some (aT (C7 b g.nm)),v,u,d,c],⟨v,u,d,c,by rw[List.range_zero,Zs,vy]⟩,?_,?_⟩
  ·rintro k e p E ⟨v,u,d,c,rfl⟩;obtain⟨a,hk,rfl⟩:=get_map E
   obtain⟨a0,rfl⟩:k<(C7 b g.nm).length-1/\a=k:=by
    obtain⟨h1,h2⟩:=List.getElem?_eq_some_iff.mp hk;rw[vr] at h1;rw[Xs] at h2;exact⟨h1,h2.symm⟩
   have R:=J6 (f:=λk=>C1 b g.nm (Q2 (C7 b g.nm) (1+k) m) (1+k)) (k:=1) (l:=List.range a) λz _=>pS _ _ _ _;rw[vr] at R;refine⟨rfl,rfl,?_⟩;walk_at "n";rw[YQ,Xl,Xc,<-wT];generalize hA:H++(List.range a).flatMap (λk=>C1 b g.nm (Q2 (C7 b g.nm) (1+k) m) (1+k))=A;have a1:A.length<=100:=by rw[<-hA,vv];omega
   obtain⟨r,Y,_,e2⟩:=po.at (i:=1+(a:Int)) (by omega) (by omega);rw[show(1+(a:Int)).toNat=1+a by omega] at Y;refine⟨C7 b g.nm,m,rfl,po,pl,λls O=>?_⟩;have el:=iO O;refine .of ⟨λj p=>∃d c:Option D,p=[some (bD b),some (.int m),some (.lst A),some (gD g),some (aT (C7 b g.nm)),some (.int (1+(a:Int))),some (Ob g.nm r.1.nm ((ls.take j).foldl (l6 (C7 b g.nm) (1+a)) none)),d,c],⟨d,c,rfl⟩,?_,?_⟩
   ·rintro j e p E ⟨d,c,rfl⟩;obtain⟨low,hl,rfl⟩:=get_map E
    have U:(ls.take (j+1)).foldl (l6 (C7 b g.nm) (1+a)) none=l6 (C7 b g.nm) (1+a) ((ls.take j).foldl (l6 (C7 b g.nm) (1+a)) none) low:=by
     rw[v9,hl];rw[show ls.take j++(some low).toList=ls.take j++[low] from rfl,WF];rfl
    refine⟨rfl,?_⟩;walk_at "n";rw[U];generalize (ls.take j).foldl (l6 (C7 b g.nm) (1+a)) none=o;refine⟨C7 b g.nm,1+a,low,by rw[show((1+a:Nat):Int)=1+(a:Int) by omega],po,by omega,by omega,?_⟩;refine⟨rfl,?_⟩;walk_at "n"
    cases X:N4 (C7 b g.nm) (1+a) low with
    | none=>
     have e:l6 (C7 b g.nm) (1+a) o low=o:=by unfold l6;rw[X]
     rw[e];exact⟨λz=>(by cases z),λ_=>Br.no rfl ⟨_,_,rfl⟩⟩
    | some x=>
     refine⟨λ_=>?_,λz=>(by cases z)⟩
     cases o with
     | none=>
      have e:l6 (C7 b g.nm) (1+a) none low=some (x,low):=by unfold l6;rw[X]
      rw[e];refine⟨λ_=>Br.yes rfl ?_,λz=>(by cases z)⟩;exact⟨_,rfl,rfl,_,e2,_,rfl,_,rfl,rfl,rfl,rfl,rfl,_,_,rfl⟩
     | some M=>
      obtain⟨y,B⟩:=M;have e:l6 (C7 b g.nm) (1+a) (some (y,B)) low=if y<x then some (x,low) else some (y,B):=by unfold l6;rw[X]
      rw[e];refine⟨λz=>(by cases z),λ_=>⟨_,rfl,λz=>?_,λz=>?_⟩⟩
      ·have z:y<x:=Ch z;rw[ux z];exact⟨_,rfl,rfl,_,e2,_,rfl,_,rfl,rfl,rfl,rfl,rfl,_,_,rfl⟩
      ·have z:¬y<x:=T0 z;rw[uk z];exact⟨_,_,rfl⟩
   ·rintro p ⟨d,c,rfl⟩;rw[dL,wh,el];show eJ _ [some (bD b),some (.int m),some (.lst A),some (gD g),some (aT (C7 b g.nm)),some (.int (1+(a:Int))),some (Ob g.nm r.1.nm (Q2 (C7 b g.nm) (1+a) m)),d,c];generalize Q2 (C7 b g.nm) (1+a) m=o
    cases o with
    | none=>
     refine Br.no rfl ?_;rw[show C1 b g.nm none (1+a)=[] from rfl,vy];exact⟨_,_,_,_,rfl⟩
    | some M=>
     obtain⟨y,B⟩:=M;refine Br.yes rfl ?_;rw[show C1 b g.nm (some (y,B)) (1+a)=[.tup [.str g.nm,.str r.1.nm,.int y,.int B]] by unfold C1;rw[Y]];exact⟨rfl,rfl,g6 (by omega),_,_,_,_,rfl⟩
  ·rintro p ⟨v,u,d,c,rfl⟩;rw[dL,vr];exact⟨_,_,_,_,_,_,rfl⟩
 ·rintro p ⟨J,I,v,u,d,c,rfl⟩;rw[dL] ;rw[show(j7 b).take b.gs.length=j7 b from SZ (by unfold j7;rw[dL];exact sK _)];exact q
theorem LZ(h:W7 cv n=some t):∃p∈cv,t=p.2:=by
 obtain⟨p,a,rfl⟩:=Option.map_eq_some_iff.mp h;exact⟨p,(List.mem_filter.mp (List.mem_of_getLast? a)).1,rfl⟩
theorem uV(a:j5 b)(c:x∈j7 b++L9 b)(h:J1 (C7 b x) n j=some t):1<=t/\t<10^60:=by
 unfold J1 at h
 cases e:(C7 b x)[j]? with
 | none=>rw[e] at h;cases h
 | some r=>
  rw[e] at h;obtain⟨p,d,rfl⟩:=LZ (h);have:=(a.cv r.1 (pA a c (oT e)).1).2.2.1 p d;exact⟨this.2.2.1,this.2.2.2⟩
theorem xk(g:j5 b)(p:x∈j7 b++L9 b)(h:Q2 (C7 b x) i m=some (k,l)):k.natAbs<2^210/\l.natAbs<2^210:=by
 have B:=MQ (C7 b x) i m;rw[h] at B;obtain⟨C,d,_⟩:=B;refine⟨?_,?_⟩
 ·unfold N4 at d
  cases o:J1 (C7 b x) l 0 with
  | none=>rw[o] at d;cases d
  | some a=>
   cases q:J1 (C7 b x) l i with
   | none=>rw[o,q] at d;cases d
   | some c=>
    cases u:(C7 b x)[i]? with
    | none=>rw[o,q,u] at d;cases d
    | some r=>
     rw[o,q,u] at d;have j:=x2 d;have H:=uV g p o;have G:=uV g p q;have E:=g.wa r.1 (pA g p (oT u)).1;generalize (J1 (C7 b x) l (i-1)).isSome=z at j;cases z
     ·have j:a-c+1=k:=j;omega
     ·have j:a-(c+r.1.wa)+1=k:=j;omega
 ·rcases((zg _ m).mem l).mp C with e | ⟨r,y,s,v,e,_⟩
  ·omega
  ·obtain⟨g1,J,I⟩:=pA g p y;have:=(g.cv r.1 g1).2.2.1 s v;omega
theorem wW(h:i.natAbs<2^210):(PyData.int i).weight<=210:=by
 simp[PyData.weight];split
 ·omega
 ·have:i.natAbs.log2<210:=by
   by_cases e:i.natAbs=0
   ·rw[e];decide
   ·exact(Zw e).mpr h
  omega
theorem OH(q:j5 b)(U:b.gs.length<=8)(m:Int)(f:Str->Int):wu (.lst ((j7 b).flatMap (D5 (mm b m) f))):=by
 have j:∀{i:Int},i.natAbs<2^210->R4 (.int i)=true:=λ{i} h=>v1 (ww h (by decide))
 have H:∀d∈(j7 b).flatMap (D5 (mm b m) f),∃(x y:Str) (l:Int),d=.tup [.str x,.str y,.int l]/\nm 8 x/\nm 8 y/\l.natAbs<2^210:=by
  intro d hd;obtain⟨x,o,hd⟩:=List.mem_flatMap.mp hd;unfold D5 at hd
  cases z:decide (f x>0) with
  | false=>rw[z] at hd;cases hd
  | true=>
   rw[z] at hd;obtain⟨r,I,rfl⟩:=Option.map_eq_some_iff.mp (Option.mem_toList.mp hd);obtain⟨O,i,M⟩:=xT q r (Yw I);have C:=(S7 O).1;have S:=xk q (v5 _ C) M;obtain⟨g,J,e⟩:=List.mem_map.mp o;obtain⟨Q,v,R⟩:=List.mem_map.mp C;exact⟨_,_,_,rfl,e▸q.nmg g J,R▸q.nmg Q v,S.2⟩
 have c:((j7 b).flatMap (D5 (mm b m) f)).length<=64:=by
  have:=J6 (f:=D5 (mm b m) f)  (l:=j7 b) λz _=>pI _ f z;have e:(j7 b).length=b.gs.length:=dL _;omega
 generalize (j7 b).flatMap (D5 (mm b m) f)=a at H c;refine⟨?_,?_,?_⟩
 ·show gS a=true;clear c
  induction a with
  | nil=>rfl
  | cons d a p=>
   obtain⟨x,y,l,rfl,o,u,c⟩:=H d hQ;show(R4 (.tup [.str x,.str y,.int l])&&gS a)=true;rw[p λd hd=>H d (hH _ hd)];show((R4 (.str x)&&(R4 (.str y)&&(R4 (.int l)&&true)))&&true)=true;rw[Jk o,Jk u,j c];rfl
 ·have:PyData.weightAll (N7 a)<=500*a.length:=by
   clear c
   induction a with
   | nil=>simp[N7,PyData.weightAll]
   | cons d a p=>
    have p:=p λd hd=>H d (hH _ hd);obtain⟨x,y,l,rfl,o,u,c⟩:=H d hQ;have G:=o.2.1;have E:=u.2.1;rw[v3] at G E;have T:=wW c
    have e:(pyd (.tup [.str x,.str y,.int l])).weight=x.cps.size+1+(y.cps.size+1+((PyData.int l).weight+1+0)):=by
     simp[pyd,N7,PyData.weight,PyData.weightAll]
    show PyData.weightAll (pyd (.tup [.str x,.str y,.int l])::N7 a)<=_;simp only[PyData.weightAll];rw[wP];omega
  have e:(pyd (.lst a)).weight=PyData.weightAll (N7 a):=by simp only[pyd,PyData.weight]
  omega
 ·refine GM (Nat.succ_le_succ (QJ (B:=1) λd hd=>?_)) (by decide);obtain⟨x,y,l,rfl,_⟩:=H d hd;simp[pyd,N7,PyData.depth,PyData.depthAll]
theorem JC(ds:List D)(Q:D->Prop)(h:dC ds Q):Il (EP Q) (i4 6 ds):=by
 obtain⟨d,ns,rfl,p,G,q⟩:=h;refine⟨d,ns,rfl,p,λb m c I E a g8 o m2 C B=>⟨rfl,rfl,rfl,?_⟩⟩;walk_at "n";refine⟨b,rfl,a,?_⟩;have nd:=a.dG.nd;have ok:=λr u=>(xT a (m:=m) r u).1
 cases l:D7 b (j8 b) with
 | cons x z=>exact Br.yes rfl (Br.yes rfl q)
 | nil=>
  refine Br.no rfl ⟨b,m,rfl,a,o,?_⟩
  cases j:aF b m (j7 b) with
  | some t=>
   obtain⟨x,y,n⟩:=t;exact Br.yes rfl q
  | none=>
   refine Br.no rfl ⟨b,m,rfl,a,g8,?_⟩;rw[<-qi];refine⟨b,mm b m,rfl,a,ok,λf v=>?_⟩;have one:∀g,IsL (j7 b) (mm b m) g->(j7 b).flatMap (D5 (mm b m) g)=(j7 b).flatMap (D5 (mm b m) f):=λg e=>CA ok (mX nd ok e v (j7 b) [] rfl);have i:=OH a g8 m f;generalize H:(j7 b).flatMap (D5 (mm b m) f)=R at i one;refine⟨i,rfl,?_⟩;walk_at "n";refine⟨b,m,rfl,a,g8,l,j,λg e=>?_⟩;rw[one g e];refine⟨rfl,i,?_⟩;have no:∀s:Str,ng true (decide (s=s))=false:=λs=>by rw[v1 rfl];rfl
   have yes:∀s:Str,D.bl (ng false (decide (s=s)))=.bl true:=λs=>by rw[v1 rfl];rfl
   refine Br.no (no _) ⟨b,m,rfl,a,g8,l,j,λg e=>?_⟩;rw[one g e];refine⟨i,?_⟩;show Q (.bl (ng false (decide ((pyd (D.lst R)).shown=(pyd (D.lst R)).shown))));rwa[yes]
local macro_rules | `(tactic| walk_at "l")=>`(tactic| (intro _ _ h;repeat (first | exact Sc List.length h.1 | obtain⟨_,h⟩:=h)))
local macro_rules | `(tactic| walk_at "b")=>`(tactic| (intro _ _ _ _ _ _ us hl;rcases us with _ | ⟨_,_ | ⟨_,_ | ⟨_,_ | ⟨_,_ | ⟨_,_ | ⟨_,us⟩⟩⟩⟩⟩⟩<;>first | rfl | simp at hl))
def Al(K:AAD):Sp:=λvs H Q _=>∃(a:Addr) (ns:ZW),vs=[.ref a]/\G4 K H a (ns.map V.int)/\ns.length<=63/\∀b,Q (.bl true) b
theorem L5:∀ns:ZW,i8 K H (ns.map V.int) (ns.map D.int) []
 | []=>.nil
 | n::ns=>i8.cons   .int (L5 ns)
theorem QZ(vs:List V)(H:Hp)(Q:VK)(E:XK)(h:Al K vs H Q E):N5 K dC vs H Q E:=by
 obtain⟨a,ns,rfl,g,c,k⟩:=h
 have b:∀(d:D) (A:ZS),MZ d ns->Rep K H (.ref a) d A->N5 K dC [.ref a] H Q E:=λd A hd r=>
  ⟨[d],A++[],λr=>r=.bl true,.cons r .nil,⟨d,ns,rfl,hd,c,rfl⟩,λr v i B e _ rv _ _=>by
   subst e;cases aa rv;exact k i⟩
 rcases g with(h | ⟨o,h⟩) | h
 ·exact b _ _ (.inr rfl) (.lst h (L5 ns))
 ·exact b _ _ (.inl rfl) (.frz (.inl ⟨o,h⟩) (L5 ns))
 ·exact b _ _ (.inl rfl) (.frz (.inr h) (L5 ns))
theorem wz:A3 Q0 1:=by walk_at "l"
theorem PJ:A3 wR 2:=by walk_at "l"
theorem yD:A3 U5 2:=by walk_at "l"
theorem yw:A3 P8 1:=by walk_at "l"
theorem tF:A3 B6 1:=by walk_at "l"
theorem xv:A3 U3 1:=by walk_at "l"
theorem uf:A3 O9 2:=by walk_at "l"
theorem we:A3 T3 2:=by walk_at "l"
theorem tM:A3 O3 2:=by walk_at "l"
theorem IB:A3 cH 2:=by walk_at "l"
theorem Gg:A3 di 2:=by walk_at "l"
theorem qg:A3 K9 2:=by walk_at "l"
theorem qP:A3 O4 3:=by walk_at "l"
theorem Ir:A3 cW 3:=by walk_at "l"
theorem Ms:A3 gv 1:=by walk_at "l"
theorem Ft:A3 cJ 2:=by walk_at "l"
theorem DA:A3 dm 1:=by walk_at "l"
theorem pR:A3 K7 1:=by walk_at "l"
theorem FZ:A3 bO 2:=by walk_at "l"
theorem Bc:A3 aE 2:=by walk_at "l"
theorem wV:A3 V2 2:=by walk_at "l"
theorem hX:A3 C4 3:=by walk_at "l"
theorem xg:A3 U2 2:=by walk_at "l"
theorem wY:A3 J8 1:=by walk_at "l"
theorem Ez:A3 dg 2:=by walk_at "l"
theorem ky:A3 D0 2:=by walk_at "l"
theorem yr:A3 S8 2:=by walk_at "l"
theorem DY:A3 br 2:=by walk_at "l"
theorem Dg:A3 aq 2:=by walk_at "l"
theorem LW:A3 aM 2:=by walk_at "l"
theorem LU:NQ u5 2:=by walk_at "l"
theorem Gr:NQ cP 2:=by walk_at "l"
theorem Hg:A3 bj 1:=by walk_at "l"
theorem vZ:NQ U1 3:=by walk_at "l"
theorem Cf:A3 V6 2:=by walk_at "l"
theorem Ia:A3 W6 1:=by walk_at "l"
theorem rK:A3 P2 4:=by walk_at "l"
theorem vT:A3 U4 5:=by walk_at "l"
theorem yP:A3 S9 3:=by walk_at "l"
theorem Me:A3 dM 2:=by walk_at "l"
theorem Jj:A3 bF 2:=by walk_at "l"
theorem IT:A3 dF 1:=by walk_at "l"
theorem Bt:A3 au 1:=by walk_at "l"
theorem Iz:A3 cQ 1:=by walk_at "l"
theorem KQ:NQ jH 3:=by walk_at "l"
theorem wN:A3 T4 1:=by walk_at "l"
theorem Lj:A3 iY 1:=by walk_at "l"
theorem HL:A3 U8 3:=by walk_at "l"
theorem Lr:A3 iK 3:=by walk_at "l"
theorem Cq:A3 ak 2:=by walk_at "l"
theorem CL:A3 af 2:=by walk_at "l"
theorem CC:A3 aB 2:=by walk_at "l"
theorem Ja:A3 cU 2:=by walk_at "l"
theorem HY:A3 dC 1:=by walk_at "l"
theorem all_mk {l:PySem.W.OpenLaw} {w:World} {K:AAD} {h:Heap} {mg:ZZ} {fa f1 f2 f3 f4 f5 f6 f7 f8 f9 fj fi fc fb f0 ez ey ew ev et es er eq ep eo en em ek ej ei eg ef ee ed ec eb ea e8 e4 e3 e2 e1 e0 dz dy dx dv ds dr dl dk dd dc db ci:Addr} (X:K.In h) (G:h.Ns mainGlobals mg) (np:mg "law"=some (.ref fa))
  {d0 ce:Option Addr} {cp:Array (AAE)} {da ca cc c5 a4 cd:Value}
  (d1:O1 K f1 "least_of" kG)
  (d2:O1 K f2 "met" Kg)
  (d3:O1 K f3 "turns_at" kh)
  (d4:O1 K f4 "names_of" eN)
  (d5:O1 K f5 "guards_of" fD)
  (d6:O1 K f6 "loads_of" jc)
  (d7:O1 K f7 "has_guard" fA)
  (d8:O1 K f8 "has_load" jM)
  (d9:O1 K f9 "has_place" fG)
  (d10:O1 K fj "climb" pE)
  (d11:O1 K fi "over" oR)
  (d12:O1 K fc "fed_guards" dw)
  (d13:O1 K fb "draws_fed" bU)
  (d14:O1 K f0 "draws" wX)
  (d15:O1 K ez "rest" AG)
  (d16:O1 K ey "awake" qm)
  (d17:O1 K ew "loud" wb)
  (d18:O1 K ev "quiet_rest" cZ)
  (d19:O1 K et "way_of" gg)
  (d20:O1 K es "lows_of" fe)
  (d21:O1 K er "spans_of" jA)
  (d22:O1 K eq "greatest_lack" X2)
  (d23:O1 K ep "pairs_of" ki)
  (d24:O1 K eo "wakes_at" kz)
  (d25:O1 K en "blind" xN)
  (d26:O1 K em "seeing_pairs" aC)
  (d27:O1 K ek "least_by" dX)
  (d28:O1 K ej "needs" oZ)
  (d29:O1 K ei "_law_cell_at" pY)
  (d30:O1 K eg "_law_feed" Gy)
  (d31:O1 K ef "_law_take" IZ)
  (d32:O1 K ee "_law_names" gh)
  (d33:O1 K ed "_law_overs" yB)
  (d34:O1 K ec "_law_small_curve" eX)
  (d35:O1 K eb "_law_lifted" iE)
  (d36:O1 K ea "_law_rest" qh)
  (d37:O1 K e8 "_law_small_guards" gq)
  (d38:O1 K e4 "_law_small_loads" iX)
  (d39:O1 K e3 "_law_small_board" eY)
  (d40:O1 K e2 "_law_path" sR)
  (d41:O1 K e1 "_law_lows" yR)
  (d42:O1 K e0 "_law_loud" yC)
  (d43:O1 K dz "_law_places" dR)
  (d44:O1 K dy "_law_sized" vJ)
  (d45:O1 K dx "_law_most" EL)
  (d46:O1 K dv "_law_sighted" jj)
  (d47:O1 K ds "_law_case" FC)
  (d48:O1 K dr "_law_turns" pC)
  (d49:O1 K dl "_law_lack" HB)
  (d50:O1 K dk "_law_pairs" oX)
  (d51:O1 K dd "_law_blind" qe)
  (d52:O1 K dc "_law_least" iA)
  (d53:O1 K db "_law_due" wO)
  (a54:PySem.W.nsIn K mainGlobals "law"=some (some (.ref ci)))
  (l54:K.lookup ci=some ⟨da,d0,.func (PySem.W.fnOf "law" "law" (ag ai) (P7 ai) (c6 ai) .none ca cc c5 ce a4 cd),cp⟩) (c54:PySem.W.codeIn K a4 "law"=true) (k54:PySem.W.keepIn K (.ref ci)=true)
  (z1:PySem.W.nsIn K mainGlobals "len"=some none)
  (z2:PySem.W.nsIn K mainGlobals "isinstance"=some none)
  (z3:PySem.W.nsIn K mainGlobals "str"=some none)
  (z4:PySem.W.nsIn K mainGlobals "set"=some none)
  (z5:PySem.W.nsIn K mainGlobals "reversed"=some none)
  (z6:PySem.W.nsIn K mainGlobals "sorted"=some none)
  (z7:PySem.W.nsIn K mainGlobals "enumerate"=some none)
  (z8:PySem.W.nsIn K mainGlobals "range"=some none)
  (z9:PySem.W.nsIn K mainGlobals "max"=some none)
  (z10:PySem.W.nsIn K mainGlobals "int"=some none)
  (z11:PySem.W.nsIn K mainGlobals "list"=some none)
  (z12:PySem.W.nsIn K mainGlobals "tuple"=some none)
  (z13:PySem.W.nsIn K mainGlobals "dict"=some none)
  (z14:PySem.W.nsIn K mainGlobals "repr"=some none) :
  ∃fd:FuncData,(∀(s:Shared) (v:Value),BindsTo s fd ⟨[v],[]⟩ [("_law_script",v)])/\∀base:Heap,K.In base->base.Ns mainGlobals mg->p7 l.prog w K mg base J7 10 fa fd ["_law_script"] (Al K):=by
 have e:=np.symm.trans (PySem.W.mg_of X G a54);cases e;obtain⟨to,F1,m1,k1⟩:=d1.mk X G;have b1:=F1.binds (ps:=["curve"]) (by walk_at "b");obtain⟨tn,F2,m2,k2⟩:=d2.mk X G;have b2:=F2.binds (ps:=["curve","draw"]) (by walk_at "b");obtain⟨tl,F3,m3,k3⟩:=d3.mk X G;have b3:=F3.binds (ps:=["curve","draw"]) (by walk_at "b");obtain⟨ti,F4,m4,k4⟩:=d4.mk X G;have b4:=F4.binds (ps:=["rows"]) (by walk_at "b");obtain⟨th,F5,m5,k5⟩:=d5.mk X G;have b5:=F5.binds (ps:=["board"]) (by walk_at "b");obtain⟨tg,F6,m6,k6⟩:=d6.mk X G;have b6:=F6.binds (ps:=["board"]) (by walk_at "b");obtain⟨td,F7,m7,k7⟩:=d7.mk X G;have b7:=F7.binds (ps:=["board","thing"]) (by walk_at "b");obtain⟨tc,F8,m8,k8⟩:=d8.mk X G;have b8:=F8.binds (ps:=["board","thing"]) (by walk_at "b");obtain⟨tb,F9,m9,k9⟩:=d9.mk X G;have b9:=F9.binds (ps:=["board","thing"]) (by walk_at "b");obtain⟨ta,hk,l0,nl⟩:=d10.mk X G;have rd:=hk.binds (ps:=["guards","name"]) (by walk_at "b");obtain⟨t8,hj,kx,nk⟩:=d11.mk X G;have rc:=hj.binds (ps:=["board","place"]) (by walk_at "b");obtain⟨t7,hi,kw,nf⟩:=d12.mk X G;have r9:=hi.binds (ps:=["board","opened"]) (by walk_at "b");obtain⟨t6,hh,kv,nb⟩:=d13.mk X G;have r7:=hh.binds (ps:=["board","lit","pulls"]) (by walk_at "b");obtain⟨t5,hg,kt,na⟩:=d14.mk X G;have r6:=hg.binds (ps:=["board","opened","pulls"]) (by walk_at "b");obtain⟨t4,hf,ks,n8⟩:=d15.mk X G;have r5:=hf.binds (ps:=["board"]) (by walk_at "b");obtain⟨t3,he,kr,n7⟩:=d16.mk X G;have r4:=he.binds (ps:=["board","found"]) (by walk_at "b");obtain⟨t2,hc,kl,n6⟩:=d17.mk X G;have r3:=hc.binds (ps:=["board"]) (by walk_at "b");obtain⟨t1,hb,kk,n5⟩:=d18.mk X G;have r2:=hb.binds (ps:=["board"]) (by walk_at "b");obtain⟨t0,ha,k0,n4⟩:=d19.mk X G;have r1:=ha.binds (ps:=["board","place"]) (by walk_at "b");obtain⟨sw,h9,js,n3⟩:=d20.mk X G;have r0:=h9.binds (ps:=["way","most"]) (by walk_at "b");obtain⟨so,h8,jp,n0⟩:=d21.mk X G;have qz:=h8.binds (ps:=["way","greatness"]) (by walk_at "b");obtain⟨sn,h7,j3,my⟩:=d22.mk X G;have qy:=h7.binds (ps:=["way","at","most"]) (by walk_at "b");obtain⟨sl,h6,j2,mx⟩:=d23.mk X G;have qs:=h6.binds (ps:=["board","most"]) (by walk_at "b");obtain⟨sj,h5,j1,mv⟩:=d24.mk X G;have qq:=h5.binds (ps:=["row"]) (by walk_at "b");obtain⟨sh,h4,j0,mu⟩:=d25.mk X G;have qn:=h4.binds (ps:=["board","most"]) (by walk_at "b");obtain⟨sg,h3,ix,mt⟩:=d26.mk X G;have qd:=h3.binds (ps:=["board","most"]) (by walk_at "b");obtain⟨sd,h2,iv,ms⟩:=d27.mk X G;have q0:=h2.binds (ps:=["board","pairs"]) (by walk_at "b");obtain⟨sc,h1,iu,mo⟩:=d28.mk X G;have py:=h1.binds (ps:=["board","most"]) (by walk_at "b");obtain⟨sb,h0,it,ml⟩:=d29.mk X G;have px:=h0.binds (ps:=["_law_script","_law_k"]) (by walk_at "b");obtain⟨s9,gy,io,me⟩:=d30.mk X G;have pu:=gy.binds (ps:=["_law_script","_law_k"]) (by walk_at "b");obtain⟨s8,gx,im,md⟩:=d31.mk X G;have pp:=gx.binds (ps:=["_law_feed_here","_law_many"]) (by walk_at "b");obtain⟨s7,gw,il,mc⟩:=d32.mk X G;have pm:=gw.binds (ps:=["_law_feed_here","_law_many"]) (by walk_at "b");obtain⟨s6,gu,ik,mb⟩:=d33.mk X G;have pk:=gu.binds (ps:=["_law_board"]) (by walk_at "b");obtain⟨s5,gm,ii,ma⟩:=d34.mk X G;have pi:=gm.binds (ps:=["_law_feed_here","_law_unit","_law_time"]) (by walk_at "b");obtain⟨s4,gl,ih,m0⟩:=d35.mk X G;have ph:=gl.binds (ps:=["_law_guard","_law_more"]) (by walk_at "b");obtain⟨s3,gk,ig,ly⟩:=d36.mk X G;have pb:=gk.binds (ps:=["_law_board"]) (by walk_at "b");obtain⟨s2,gj,id,lx⟩:=d37.mk X G;have pa:=gj.binds (ps:=["_law_script","_law_names_here","_law_unit","_law_time"]) (by walk_at "b");obtain⟨s1,gi,i2,lw⟩:=d38.mk X G;have p2:=gi.binds (ps:=["_law_script","_law_names_here","_law_guards","_law_unit","_law_time"]) (by walk_at "b");obtain⟨s0,gc,i1,lv⟩:=d39.mk X G;have p1:=gc.binds (ps:=["_law_script","_law_unit","_law_time"]) (by walk_at "b");obtain⟨rz,gb,i0,lr⟩:=d40.mk X G;have p0:=gb.binds (ps:=["_law_board","_law_place"]) (by walk_at "b");obtain⟨ry,g5,hz,ln⟩:=d41.mk X G;have ox:=g5.binds (ps:=["_law_path_here","_law_most_here"]) (by walk_at "b");obtain⟨rx,g3,hy,lm⟩:=d42.mk X G;have ov:=g3.binds (ps:=["_law_board"]) (by walk_at "b");obtain⟨rw,g2,hx,ll⟩:=d43.mk X G;have op:=g2.binds (ps:=["_law_board"]) (by walk_at "b");obtain⟨ru,g0,hw,lj⟩:=d44.mk X G;have ol:=g0.binds (ps:=["_law_script"]) (by walk_at "b");obtain⟨rs,fy,hv,li⟩:=d45.mk X G;have oe:=fy.binds (ps:=["_law_feed_here","_law_path_here","_law_unit"]) (by walk_at "b");obtain⟨rr,fx,hu,lg⟩:=d46.mk X G;have od:=fx.binds (ps:=["_law_board"]) (by walk_at "b");obtain⟨rp,fv,ht,lf⟩:=d47.mk X G;have oc:=fv.binds (ps:=["_law_script"]) (by walk_at "b");obtain⟨ro,ft,hs,ld⟩:=d48.mk X G;have o2:=ft.binds (ps:=["_law_path_here","_law_at","_law_greatness"]) (by walk_at "b");obtain⟨rn,fr,hr,lc⟩:=d49.mk X G;have o1:=fr.binds (ps:=["_law_path_here","_law_at","_law_greatness"]) (by walk_at "b");obtain⟨rm,fp,hq,lb⟩:=d50.mk X G;have o0:=fp.binds (ps:=["_law_board","_law_most_here"]) (by walk_at "b");obtain⟨rk,fo,hp,l5⟩:=d51.mk X G;have ny:=fo.binds (ps:=["_law_board","_law_most_here"]) (by walk_at "b");obtain⟨rj,fl,ho,l2⟩:=d52.mk X G;have nw:=fl.binds (ps:=["_law_board","_law_rows"]) (by walk_at "b");obtain⟨ri,fk,hn,l1⟩:=d53.mk X G;have nv:=fk.binds (ps:=["_law_board","_law_rows"]) (by walk_at "b");have re:=Fy (st:=ai) l54 c54 k54;have q1:=Db X G z1;have q2:=Db X G z2;have q3:=Db X G z3;have q4:=Db X G z4;have q5:=Db X G z5;have q6:=Db X G z6;have q7:=Db X G z7;have q8:=Db X G z8;have q9:=Db X G z9;have ch:=Db X G z10;have cr:=Db X G z11;have a3:=Db X G z12;have cf:=Db X G z13;have hm:=Db X G z14;refine⟨PySem.W.fnOf "law" "law" (ag ai) (P7 ai) (c6 ai) .none ca cc c5 ce a4 cd,λs v=>.of_eq rfl,λbase KB GB=>?_⟩;have p:iG l.prog w K mg base f1 _:=⟨Cz F1 wz AL,m1,k1,b1⟩
 have hl:TR l.prog w K mg base f2 _:=⟨Uc F2 q1 PJ Um,m2,k2,b2⟩
 have O:vG l.prog w K mg base f3 _:=⟨Cb F3 hl yD Be,m3,k3,b3⟩
 have o:kc l.prog w K mg base f4 _:=⟨Bb F4 yw CK,m4,k4,b4⟩
 have a:S4 l.prog w K mg base f5 _:=⟨vQ F5 o tF vI,m5,k5,b5⟩
 have a0:qF l.prog w K mg base f6 _:=⟨Cy F6 o xv CS,m6,k6,b6⟩
 have B:mQ l.prog w K mg base f7 _:=⟨wj F7 a q2 q3 uf yH,m7,k7,b7⟩
 have a2:sA l.prog w K mg base f8 _:=⟨AK F8 a0 q2 q3 we Bo,m8,k8,b8⟩
 have z:ot l.prog w K mg base f9 _:=⟨yb F9 B a2 tM xC,m9,k9,b9⟩
 have bv:DC l.prog w K mg base fj _:=⟨Kz hk IB Kj,l0,nl,rd⟩
 have ap:Gw l.prog w K mg base fi _:=⟨LK hj z bv Gg Kf,kx,nk,rc⟩
 have u:kb l.prog w K mg base fc _:=⟨um hi q4 qg rX,kw,nf,r9⟩
 have C:mY l.prog w K mg base fb _:=⟨xr hh q5 qP xB,kv,nb,r7⟩
 have bn:FH l.prog w K mg base f0 _:=⟨JK hg u C Ir LP,kt,na,r6⟩
 have a5:Ds l.prog w K mg base ez _:=⟨QA hf bn Ms Pu,ks,n8,r5⟩
 have c3:DJ l.prog w K mg base ey _:=⟨Lw he p Ft JX,kr,n7,r4⟩
 have bi:Je l.prog w K mg base ew _:=⟨Mn hc a5 c3 DA Ln,kl,n6,r3⟩
 have q:jO l.prog w K mg base ev _:=⟨sM hb a5 bi pR uA,kk,n5,r2⟩
 have E:yp l.prog w K mg base et _:=⟨MC ha ap q FZ JI,k0,n4,r1⟩
 have ad:zF l.prog w K mg base es _:=⟨DZ h9 q4 q6 Bc Iw,js,n3,r0⟩
 have Q:vt l.prog w K mg base er _:=⟨CF h8 O q7 wV CG,jp,n0,qz⟩
 have g:cz l.prog w K mg base eq _:=⟨jG h7 ad Q hX jW,j3,my,qy⟩
 have Y:qY l.prog w K mg base ep _:=⟨Cw h6 a E g q1 q8 xg BG,j2,mx,qs⟩
 have M:vb l.prog w K mg base eo _:=⟨BW h5 p wY Ce,j1,mv,qq⟩
 have c0:Gh l.prog w K mg base en _:=⟨Li h4 a E M Ez LM,j0,mu,qn⟩
 have j:eS l.prog w K mg base em _:=⟨lV h3 Y c0 ky kY,ix,mt,qd⟩
 have a1:vA l.prog w K mg base ek _:=⟨CO h2 a q9 q5 yr Bu,iv,ms,q0⟩
 have b0:HQ l.prog w K mg base ej _:=⟨LI h1 a j a1 DY Lb,iu,mo,py⟩
 have am:AA l.prog w K mg base ei _:=⟨GS h0 q1 Dg GX,it,ml,px⟩
 have i:nV l.prog w K mg base eg _:=⟨QP gy am LW OT,io,me,pu⟩
 have c:eO l.prog w K mg base ef _:=⟨PQ gx LU Oq,im,md,pp⟩
 have bb:Ha l.prog w K mg base ee _:=⟨JJ gw c ch cr q8 Gr Mb,il,mc,pm⟩
 have I:xx l.prog w K mg base ed _:=⟨Lx gu Hg Ks,ik,mb,pk⟩
 have S:ve l.prog w K mg base ec _:=⟨BI gm c q8 a3 vZ Ct,ii,ma,pi⟩
 have r:qa l.prog w K mg base eb _:=⟨Ep gl a3 Cf Ga,ih,m0,ph⟩
 have d:ku l.prog w K mg base ea _:=⟨LX gk I cf ch Ia Lo,ig,ly,pb⟩
 have x:mG l.prog w K mg base e8 _:=⟨wC gj i c S ch q1 q8 rK yI,id,lx,pa⟩
 have R:uQ l.prog w K mg base e4 _:=⟨BM gi i c q1 q8 a3 vT BK,i2,lw,p2⟩
 have T:vi l.prog w K mg base e3 _:=⟨Cs gc i c bb r d x R a3 yP Cd,i1,lv,p1⟩
 have y:Aw l.prog w K mg base e2 _:=⟨Qv gb I d cf Me Qi,i0,lr,p0⟩
 have J:yo l.prog w K mg base e1 _:=⟨Mf g5 cr q6 Jj MR,hz,ln,ox⟩
 have bg:FE l.prog w K mg base e0 _:=⟨ML g3 d IT JZ,hy,lm,ov⟩
 have ab:zE l.prog w K mg base dz _:=⟨EK g2 Bt Fc,hx,ll,op⟩
 have ao:HU l.prog w K mg base dy _:=⟨Lz g0 i c T Iz JH,hw,lj,ol⟩
 have cj:NJ l.prog w K mg base dx _:=⟨OY fy c q1 q9 KQ PV,hv,li,oe⟩
 have U:uP l.prog w K mg base dv _:=⟨BE fx r d q9 a3 wN Bj,hu,lg,od⟩
 have cn:Nu l.prog w K mg base ds _:=⟨Pl fv i c y ab ao cj U q1 Lj PR,ht,lf,oc⟩
 have H:vM l.prog w K mg base dr _:=⟨LJ ft q1 HL KL,hs,ld,o2⟩
 have ck:NP l.prog w K mg base dl _:=⟨RE fr H Lr Qz,hr,lc,o1⟩
 have ac:zu l.prog w K mg base dk _:=⟨EN fp y J ck q1 q8 Cq Hb,hq,lb,o0⟩
 have an:zl l.prog w K mg base dd _:=⟨Fp fo y J H q1 q8 CL HZ,hp,l5,ny⟩
 have al:zJ l.prog w K mg base dc _:=⟨DF fl cf q1 q9 q8 CC DE,ho,l2,nw⟩
 have bm:Jc l.prog w K mg base db _:=⟨Mm fk al Ja Ku,hn,l1,nv⟩
 exact(JD re b0 bg cn ac an bm hm HY JC).imp QZ
theorem walk{l:PySem.W.OpenLaw}{loose:ZT}{XP:(ZZ)->Heap->Prop}{K:Params->AAD}(hn:l.most=some 63)(hdf:d.params.defaults=[])
  (hY:∀(w:World) (h:Heap),YP w h->(K w.params).In h)
  (F:∀(w:World) (mg:ZZ) (fa:Addr) (h:Heap),(K w.params).In h->h.Ns mainGlobals mg->mg d.name=some (.ref fa) ->
   ∃fd:FuncData,(∀(s:Shared) (u:Value),BindsTo s fd ⟨[u],[]⟩ [("_law_script",u)])/\∀base:Heap,(K w.params).In base->base.Ns mainGlobals mg->p7 l.prog w (K w.params) mg base J7 10 fa fd ["_law_script"] (Al (K w.params))) :
  PySem.W.WalkO q loose XP YP l.row.toRowW d [] (λf vs=>PySem.call f vs):=
 L2.LA      hn (by decide) hdf ⟨rfl,by decide,by decide,rfl⟩ hY F (λ_ _ a ns hl _ hS=>⟨a,ns,rfl,hS,hl,λ_=>rfl⟩) λ_ _ _ _ _ z=>z
end My
end
open PySem PySem.W PyProof.Rows
local macro_rules | `(tactic| walk_at "d")=>`(tactic| exact⟨by k_is,_,_,_,_,_,_,_,_,_,by k_is,by k_is,by k_is⟩)
set_option maxRecDepth 100000 in
set_option maxHeartbeats 0 in
theorem PySem.Challenge.cw_fuseboard_k54_needs_told_holds : PySem.Challenge.rw_fuseboard_k54_needs_told.Holds := by
 w_on;o_law;k_head;(case hw=>w_witness2)
 k_fill
 refine My.walk (l:=PySem.Challenge.rw_fuseboard_k54_needs_told) rfl rfl (λw h Y=>PySem.W.kIn_of Y) ?F
 case F=>
  intro w mg fa h KX G hmg
  refine' My.all_mk KX G hmg ?d1 ?d2 ?d3 ?d4 ?d5 ?d6 ?d7 ?d8 ?d9 ?d10 ?d11 ?d12 ?d13 ?d14 ?d15 ?d16 ?d17 ?d18 ?d19 ?d20 ?d21 ?d22 ?d23 ?d24 ?d25 ?d26 ?d27 ?d28 ?d29 ?d30 ?d31 ?d32 ?d33 ?d34 ?d35 ?d36 ?d37 ?d38 ?d39 ?d40 ?d41 ?d42 ?d43 ?d44 ?d45 ?d46 ?d47 ?d48 ?d49 ?d50 ?d51 ?d52 ?d53 ?a54 ?l54 ?c54 ?k54 ?z1 ?z2 ?z3 ?z4 ?z5 ?z6 ?z7 ?z8 ?z9 ?z10 ?z11 ?z12 ?z13 ?z14
  (case d1=>walk_at "d")
  (case d2=>walk_at "d")
  (case d3=>walk_at "d")
  (case d4=>walk_at "d")
  (case d5=>walk_at "d")
  (case d6=>walk_at "d")
  (case d7=>walk_at "d")
  (case d8=>walk_at "d")
  (case d9=>walk_at "d")
  (case d10=>walk_at "d")
  (case d11=>walk_at "d")
  (case d12=>walk_at "d")
  (case d13=>walk_at "d")
  (case d14=>walk_at "d")
  (case d15=>walk_at "d")
  (case d16=>walk_at "d")
  (case d17=>walk_at "d")
  (case d18=>walk_at "d")
  (case d19=>walk_at "d")
  (case d20=>walk_at "d")
  (case d21=>walk_at "d")
  (case d22=>walk_at "d")
  (case d23=>walk_at "d")
  (case d24=>walk_at "d")
  (case d25=>walk_at "d")
  (case d26=>walk_at "d")
  (case d27=>walk_at "d")
  (case d28=>walk_at "d")
  (case d29=>walk_at "d")
  (case d30=>walk_at "d")
  (case d31=>walk_at "d")
  (case d32=>walk_at "d")
  (case d33=>walk_at "d")
  (case d34=>walk_at "d")
  (case d35=>walk_at "d")
  (case d36=>walk_at "d")
  (case d37=>walk_at "d")
  (case d38=>walk_at "d")
  (case d39=>walk_at "d")
  (case d40=>walk_at "d")
  (case d41=>walk_at "d")
  (case d42=>walk_at "d")
  (case d43=>walk_at "d")
  (case d44=>walk_at "d")
  (case d45=>walk_at "d")
  (case d46=>walk_at "d")
  (case d47=>walk_at "d")
  (case d48=>walk_at "d")
  (case d49=>walk_at "d")
  (case d50=>walk_at "d")
  (case d51=>walk_at "d")
  (case d52=>walk_at "d")
  (case d53=>walk_at "d")
  (case a54|l54|c54|k54|z1|z2|z3|z4|z5|z6|z7|z8|z9|z10|z11|z12|z13|z14=>k_is)
#print axioms PySem.Challenge.cw_fuseboard_k54_needs_told_holds
